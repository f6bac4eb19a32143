/- Proved here: for all files and every config of the statement's own bound (together at most 1048576 values and letters), the statement Opened about the program's Open, Cell, Hold, Clock and Count returns true and leaves its arguments as they were. -/
import Derived.Test.YtidacihlalbohaaLawOpen
import Derived.ProofKit
import Derived.OpenShut
import Derived.ShutString
import Derived.ChangeOld
import Derived.Below
import Derived.JoinedCond
import Derived.Deep.SlicePairs
import Derived.Lib.SmallJoins
namespace Go.Proofs.Ytidacihlalbohaa
open Go.ChangeShapes Go.WideShapes Go.ChangeAt Go.RowKit
set_option linter.unusedVariables false

theorem ownO : ownKnob Try.prog.godebug = none := by kernel_rfl
theorem laidOutO : laidOutB Try.prog = true := by kernel_rfl

set_option maxRecDepth 100000 in
set_option maxHeartbeats 2000000 in
theorem Opened_walk (a : Option Addr) (cap : Nat) (l : List Md.Fl) (c : Md.Cf) (w : World) (hf : FilesAt w (.slice a l.length cap) l) (hz : ∀ x ∈ l, x.data.size ≤ 1099511627776) (hl : l.length ≤ 1099511627776) :
    Calls Try.prog 5 #[.slice a l.length cap, .agg (cfA c)] w fun e w' => e = .returned (.bool true) ∧ Below w.heap.size w w' := by
  have hop := fun W hf => opened_any (.slice a l.length cap) l c W hf hz hl
  have hform := hide (Md.opens_form l c)
  obtain ⟨n, hn⟩ : ∃ n, c.window.toNat = n := ⟨_, rfl⟩
  obtain ⟨OO, hOO⟩ : ∃ OO, Md.opens l c = OO := ⟨_, rfl⟩
  rw [hOO, hn] at hform
  simp only [hOO, hn] at hop
  obtain ⟨wi, gr, ro⟩ := c
  unfold cfA at hop ⊢
  dsimp only at hop ⊢
  have Hop := hide hop
  have hbx := (Below.refl w.heap.size w).alloc (Nat.le_refl _) (.cells #[.int .i64 wi, .int .i64 gr, .int .i64 ro] 32)
  have Hf := hide (hf.below hbx)
  clear hop hOO hn hf
  go_enter Try.func5, Try.ntmps5
  go_wp2_with fail
  refine (Hop.out _ Hf.out).mono ?_
  rintro e W ⟨hb, hpost⟩
  have hB := hbx.trans (hb.mono hbx.size)
  rcases hform.out with ⟨k, rfl, hk⟩ | ⟨B, rfl, hI⟩
  · have he : e = .returned (.tuple #[.pointer none, .bool true]) := hpost
    subst he
    clear hpost hb hbx
    go_wp2
    go_ret
    exact ⟨rfl, hB⟩
  · obtain ⟨b, q, r, p, v, he, hp⟩ := hpost
    subst he
    have Hp := hide hp
    clear hb hbx hp
    go_wp2_with fail
    refine (all_any b q r p B n v W Hp.out hI).mono ?_
    rintro e W2 ⟨rfl, hb2⟩
    go_wp2
    go_ret
    exact ⟨rfl, hB.trans (hb2.mono hB.size)⟩

theorem bulk_mem {H : Type} {d : DataW H} : ∀ {l : List (DataW H)}, d ∈ l → Rows.uptoBulk d ≤ Rows.uptoBulkAll l
  | [], h => by cases h
  | x :: l, h => by
    simp only [Rows.uptoBulkAll]
    rcases List.mem_cons.1 h with rfl | h
    · omega
    · have := bulk_mem h; omega
theorem bulk_pos {H : Type} (d : DataW H) : 1 ≤ Rows.uptoBulk d := by
  cases d with
  | lit x => cases x <;> simp [Rows.uptoBulk]
  | _ => simp [Rows.uptoBulk]
theorem bulk_len {H : Type} : ∀ (l : List (DataW H)), l.length ≤ Rows.uptoBulkAll l
  | [] => Nat.zero_le _
  | x :: l => by
    have := bulk_len l
    have := bulk_pos x
    simp only [Rows.uptoBulkAll, List.length_cons]; omega

theorem files_open {H : Type} {enc : TypeId × Value → H} {W : World} {base : Nat} {spare : Nat → Bool} {held : Bool} {a0 : Option Addr} {len0 cap0 : Nat} {d0 : DataW H} {p0 : List MemPlace}
    (h : DataW.Trod enc Try.prog W base spare held 30 (.slice a0 len0 cap0) d0 p0) :
    ∃ l : List Md.Fl, l.length = len0 ∧ FilesAt W (.slice a0 len0 cap0) l ∧ l.length ≤ Rows.uptoBulk d0 ∧ ∀ x ∈ l, x.data.size ≤ Rows.uptoBulk d0 := by
  obtain ⟨fuel, hf⟩ := h
  rcases Deep.open_slice_pairs Try.underlying30 Try.underlying55 (by kernel_rfl) rfl rfl (by kernel_rfl) (by kernel_rfl) hf with ⟨hcs, hx⟩ | ⟨a, len, cap, m, n, V0, V1, D0, D1, P0, P1, hcs, _, hl, hm, hmm, hx, hc⟩
  · simp [Value.cells] at hcs
    obtain ⟨rfl, rfl, rfl⟩ := hcs
    exact ⟨[], rfl, ⟨none, 0, rfl, Nat.zero_le _, fun h => absurd h (by simp)⟩, Nat.zero_le _, fun x h => by cases h⟩
  · simp [Value.cells] at hcs
    obtain ⟨rfl, rfl, rfl⟩ := hcs
    simp only [Prod.mk.injEq] at hx
    obtain ⟨rfl, rfl⟩ := hx
    have hlm : len0 ≤ m := by rw [hmm]; split <;> omega
    have hs : ∀ i, i < len0 → ∃ q : ByteArray × ByteArray, V0 i = .string q.1 ∧ V1 i = .string q.2 ∧ D1 i = .lit (.string q.2.data.toList) := by
      intro i hi
      obtain ⟨_, _, t0, t1⟩ := hc i (by omega)
      obtain ⟨s0, e0, _⟩ := DataW.trod_string Try.underlying9 t0
      obtain ⟨s1, e1, e2, _⟩ := DataW.trod_string Try.underlying9 t1
      simp only [Prod.mk.injEq] at e2
      exact ⟨(s0, s1), by simpa using e0, by simpa using e1, e2.1⟩
    obtain ⟨q, hq⟩ := Deep.choose_lt hs
    have hln : ((List.range len0).map fun i => (⟨(q i).1, (q i).2⟩ : Md.Fl)).length = len0 := by simp
    refine ⟨(List.range len0).map fun i => ⟨(q i).1, (q i).2⟩, hln, ⟨some a, cap0, by rw [hln], by rw [hln]; omega, fun h0 => ?_⟩, ?_, fun x hx => ?_⟩
    · rw [hln] at h0
      obtain ⟨b, off, spot⟩ := a
      have hc0 := (hc 0 (by omega)).1
      have hspot : spot = none := by simpa [Addr.add] using World.cell?_spot hc0
      subst hspot
      refine ⟨b, off, rfl, fun k x hx => ?_⟩
      have hk : k < len0 := by rw [← hln]; exact (List.getElem?_eq_some_iff.1 hx).1
      obtain ⟨c0, c1, _, _⟩ := hc k (by omega)
      obtain ⟨v0, v1, _⟩ := hq k hk
      rw [List.getElem?_map, List.getElem?_range hk] at hx
      cases hx
      rw [add_plain] at c0 c1
      exact ⟨by rw [c0, v0], by rw [Nat.add_assoc, c1, v1]⟩
    · have := bulk_len ((List.range len0).map fun i => DataW.agg [D0 i, D1 i])
      rw [List.length_map, List.length_range] at this
      rw [hln]
      simp only [Rows.uptoBulk]; omega
    · obtain ⟨i, hi, rfl⟩ := List.mem_map.1 hx
      have hi' := List.mem_range.1 hi
      have hb := bulk_mem (List.mem_map.2 ⟨i, hi, rfl⟩ : DataW.agg [D0 i, D1 i] ∈ (List.range len0).map fun i => DataW.agg [D0 i, D1 i])
      simp only [Rows.uptoBulk, Rows.uptoBulkAll] at hb ⊢
      rw [(hq i hi').2.2] at hb
      simp only [Rows.uptoBulk, Array.length_toList] at hb
      have e : (q i).2.size = (q i).2.data.size := rfl
      show (q i).2.size ≤ _
      omega

set_option maxRecDepth 100000 in
theorem Opened_contract (H : Type) (enc : TypeId × Value → H) (W : World) (base : Nat) (args : Array Value) (ds gs : List (DataW H)) (before : List MemPlace)
    (hval : ∀ (j : Nat) t v, Try.f5.params[j]? = some t → args[j]? = some v → Value.okWide Try.prog W .any base t v)
    (hW : DataW.Whole enc Try.prog Try.f5.params.toList Rows.openedSpec.vars false W args.toList ds gs before) (hk : Rows.uptoSmall H (ds ++ gs) = true) :
    Calls Try.prog 5 args W fun e W' => ∃ v, e = .returned v ∧ Rows.openedSpec.post enc Try.prog Try.f5 false true false false W args v W' := by
  have hW' := hW
  obtain ⟨p, q, hA0, hV, rfl, hfz, hnd⟩ := hW
  have hA : DataW.TrodAll enc Try.prog W 0 (fun _ => true) true Try.f5.params.toList args.toList ds p := hA0
  rw [Try.params5] at hA hval
  obtain ⟨v0, vs0, d0, ds0, p0, q0, hargs, rfl, rfl, h0, r0⟩ := trodAll_cons hA
  obtain ⟨v1, vs1, d1, ds1, p1, q1, rfl, rfl, rfl, h1, r1⟩ := trodAll_cons r0
  obtain ⟨rfl, rfl, rfl⟩ := trodAll_nil r1
  obtain rfl : args = #[v0, v1] := by cases args; simp_all
  obtain ⟨rfl, rfl⟩ := trodVars_none hV
  obtain ⟨a0, len0, cap0, rfl⟩ := okWide_slice Try.underlying30 (hval 0 30 v0 rfl rfl)
  have lt0 : ∀ x ∈ p0, x.block < W.heap.size := by obtain ⟨m, hm⟩ := h0; exact DataW.trod_lt m _ _ _ hm
  have lt1 : ∀ x ∈ p1, x.block < W.heap.size := by obtain ⟨m, hm⟩ := h1; exact DataW.trod_lt m _ _ _ hm
  obtain ⟨l, rfl, hF, hb1, hb2⟩ := files_open h0
  obtain ⟨u0, u1, u2, y0, y1, y2, n, rfl, rfl, rfl, t0, t1, t2⟩ := Go.Joins.open_agg3 Try.underlying32 (by kernel_rfl) (by kernel_rfl) (hval 1 32 v1 rfl rfl) h1
  obtain ⟨wi, e0, _, _⟩ := DataW.trod_int Try.underlying3 t0
  obtain ⟨gr, e1, _, _⟩ := DataW.trod_int Try.underlying3 t1
  obtain ⟨ro, e2, _, _⟩ := DataW.trod_int Try.underlying3 t2
  simp only [List.cons.injEq, and_true] at e0 e1 e2
  subst e0 e1 e2
  have hbk : Rows.uptoBulk d0 ≤ 1048576 := by
    exact Nat.le_trans (bulk_mem (by simp)) (of_decide_eq_true hk)
  clear hA0
  refine (Opened_walk a0 cap0 l ⟨wi, gr, ro⟩ W hF (fun x hx => by have := hb2 x hx; omega) (by omega)).mono fun e W' ⟨he, bel⟩ => ?_
  subst he
  exact ⟨_, rfl, _, _, _, [], _, [], hW', trodAll_mk1 (shut_bool Try.underlying4 _), (trodAll_cons_mk (Below.trod laidOutO (by kernel_rfl) (of_decide_eq_true (by kernel_rfl)) h0 bel lt0) (trodAll_cons_mk (Below.trod laidOutO (by kernel_rfl) (of_decide_eq_true (by kernel_rfl)) h1 bel lt1) trodAll_mk0)), rfl, bel.frame _, fun h => by cases h⟩

set_option maxRecDepth 100000 in
theorem Opened_lifted (os : Os) (started : os.Started) (H : Type) (enc : TypeId × Value → H) (F : Stop.Interp) :
    ReturnsInHanded {} Try.checked os 5 .any ((Rows.OpenSpec.upto Rows.openedSpec).pre6 enc Try.prog Try.f5 Rows.openedUptoRow.domain false) (((Rows.OpenSpec.upto Rows.openedSpec).at F).post enc Try.prog Try.f5 false true false false) := by
  refine returnsInHanded_of_cond (C := Try.checked) (s := Rows.OpenSpec.upto Rows.openedSpec) (k := Rows.uptoSmall) rfl ownO started (by kernel_rfl) Try.func5
    (OpenSpec.witness (enc := enc) (C := Try.checked) (s := Rows.OpenSpec.upto Rows.openedSpec) (k := Rows.uptoSmall) rfl false ⟨#[], #[.slice none 0 0, .agg #[.int .i64 0, .int .i64 0, .int .i64 0]], []⟩ 8 (by kernel_rfl) (by kernel_rfl) (by kernel_rfl)
      (x := ([.nil, .agg [.lit (.int .i64 0), .lit (.int .i64 0), .lit (.int .i64 0)]], [], [])) (by kernel_rfl) rfl (by kernel_rfl)) ?_
  intro W base args ds gs before hval hW _ hk _
  exact Opened_contract H enc W base args ds gs before hval hW hk

theorem Opened_upto : Rows.OpenedUptoSaid :=
  OpenClaim.holds_of_cond 5 Try.f5 rfl rfl rfl rfl rfl rfl rfl ⟨rfl, rfl, rfl, rfl, rfl⟩ rfl rfl rfl rfl rfl (by kernel_rfl) Try.func5 (by kernel_rfl)
    (of_decide_eq_true (by kernel_rfl)) (by unfold Func.isWrapper; first | (rw [if_pos (by decide +kernel)]; kernel_rfl) | (rw [if_neg (by decide +kernel)]; exact ⟨rfl, rfl⟩))
    (fun os started H enc _ F => Opened_lifted os started H enc F)
#print axioms Opened_upto
end Go.Proofs.Ytidacihlalbohaa
