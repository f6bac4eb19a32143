/- Proved here: for every text of at most 1048575 bytes (the statement's own bound), the statement Scanned about the program's Scan returns true and leaves its argument as it was. -/
import Derived.Test.YtidacihlalbohaaScanWalk
import Derived.Test.YtidacihlalbohaaRefScan
import Derived.Test.YtidacihlalbohaaSame
import Derived.ProofKit
import Derived.OpenShut
import Derived.ShutString
import Derived.ChangeOld
import Derived.Below
import Derived.JoinedCond
namespace Go.Proofs.Ytidacihlalbohaa
open Go.ChangeShapes Go.WideShapes Go.ChangeAt Go.RowKit
open Go.ChangeMaps (open_string shut_string)
set_option linter.unusedVariables false

theorem ownS : ownKnob Try.prog.godebug = none := by kernel_rfl

/-- Two rows of the same payloads, in one world. -/
theorem same_rows (B C : Nat) (va vb : Value) (xs : List (Fr.Pay × Nat)) (w : World) (ha : w.ownsRow B 9 1 va xs.length (xs.map pv)) (hb : w.ownsRow C 9 1 vb xs.length (xs.map pv)) :
    Calls Try.prog 18 #[va, vb] w fun e w' => e = .returned (.bool true) ∧ ∃ n, w' = w.drewN n := by
  by_cases h0 : xs.length = 0
  · obtain ⟨a, ca, rfl, _⟩ := row_form ha
    obtain ⟨b, cb, rfl, _⟩ := row_form hb
    rw [h0]
    exact same_none a b ca cb w
  · obtain ⟨ga, ca, rfl, hm⟩ := row_form_pos ha (by omega)
    obtain ⟨gb, cb, rfl, _⟩ := row_form_pos hb (by omega)
    have hl : (xs.map (fun x => (⟨x.1.1.toArray⟩ : ByteArray))).length = xs.length := by simp
    have hc : ∀ k, k < xs.length → (xs.map pv)[k]? = some (.string ((xs.map (fun x => (⟨x.1.1.toArray⟩ : ByteArray))).getD k ByteArray.empty)) := fun k hk => by
      simp [List.getElem?_map, List.getElem?_eq_getElem hk, pv]
    have h := same_some ga gb ca cb (xs.map (fun x => (⟨x.1.1.toArray⟩ : ByteArray))) w (by rw [hl]; omega) (by rw [hl]; exact hm)
      (fun k hk => by rw [hl] at hk; rw [ha.cellAt k (by omega)]; exact hc k hk) (fun k hk => by rw [hl] at hk; rw [hb.cellAt k (by omega)]; exact hc k hk)
    rw [hl] at h
    exact h

set_option maxHeartbeats 400000 in
theorem scan_any (t : ByteArray) (w : World) (hm : t.size ≤ 1099511627776) :
    Calls Try.prog 9 #[.string t] w fun e W' => ∃ v, e = .returned (.tuple #[v, .bool true]) ∧ Below w.heap.size w W' := by
  go_enter Try.func9, Try.ntmps9
  go_wp2_with fail
  have hal : (Fr.all t.data.toList).length ≤ t.size := by have := Fr.items_length t.data.toList.length t.data.toList 0; rw [Fr.size_list] at this; exact this
  refine (Scan_any t _ (by omega) (by omega)).mono ?_
  rintro e w1 ⟨va, rfl, hra, _, hb1⟩
  go_wp2_with fail
  refine (refScan_any t _ hm).mono ?_
  rintro e w2 ⟨vb, rfl, hrb, hb2⟩
  have hra2 := hra.kept (grown_of_below hb2) (by cases va.ownBlock <;> simp)
  go_wp2_with fail
  refine (same_rows _ _ va vb _ _ hra2 hrb).mono ?_
  rintro e w3 ⟨rfl, n, rfl⟩
  go_wp2
  go_ret2
  exact ⟨va, rfl, below_drewN' (hb1.trans (hb2.mono hb1.size)) n⟩

set_option maxHeartbeats 400000 in
theorem Scanned_walk (t : ByteArray) (w : World) (hm : t.size ≤ 1099511627776) :
    Calls Try.prog 4 #[.string t] w fun e w' => e = .returned (.bool true) ∧ Below w.heap.size w w' := by
  go_enter Try.func4, Try.ntmps4
  go_wp2_with fail
  refine (scan_any t _ hm).mono ?_
  rintro e w1 ⟨v, rfl, hb1⟩
  go_wp2
  go_ret
  exact ⟨rfl, hb1⟩

/-- What the bound gives: the text's length. -/
theorem short_text {H : Type} {s : ByteArray} (hk : Rows.uptoSmall H [.lit (.string s.data.toList)] = true) : s.size ≤ 1048576 := by
  have h : Rows.uptoBulkAll [DataW.lit (H := H) (.string s.data.toList)] ≤ 1048576 := of_decide_eq_true hk
  simp only [Rows.uptoBulkAll, Rows.uptoBulk] at h
  have e := Fr.size_list s
  omega

set_option maxRecDepth 100000 in
theorem Scanned_contract (H : Type) (enc : TypeId × Value → H) (W : World) (base : Nat) (args : Array Value) (ds gs : List (DataW H)) (before : List MemPlace)
    (hval : ∀ (j : Nat) t v, Try.f4.params[j]? = some t → args[j]? = some v → Value.okWide Try.prog W .any base t v)
    (hW : DataW.Whole enc Try.prog Try.f4.params.toList Rows.scannedSpec.vars false W args.toList ds gs before) (hk : Rows.uptoSmall H (ds ++ gs) = true) :
    Calls Try.prog 4 args W fun e W' => ∃ v, e = .returned v ∧ Rows.scannedSpec.post enc Try.prog Try.f4 false true false false W args v W' := by
  have hW' := hW
  obtain ⟨p, q, hA0, hV, rfl, hfz, hnd⟩ := hW
  have hA : DataW.TrodAll enc Try.prog W 0 (fun _ => true) true Try.f4.params.toList args.toList ds p := hA0
  rw [Try.params4] at hA hval
  obtain ⟨v0, vs0, d0, ds0, p0, q0, hargs, rfl, rfl, h0, r0⟩ := trodAll_cons hA
  obtain ⟨rfl, rfl, rfl⟩ := trodAll_nil r0
  obtain rfl : args = #[v0] := by cases args; simp_all
  obtain ⟨rfl, rfl⟩ := trodVars_none hV
  obtain ⟨s, rfl, rfl, rfl, hmax⟩ := open_string Try.underlying9 (hval 0 9 v0 rfl rfl) h0
  clear hA0
  simp only [List.append_nil] at hk
  refine (Scanned_walk s W (by have := short_text hk; omega)).mono fun e W' ⟨he, bel⟩ => ?_
  subst he
  exact ⟨_, rfl, _, _, _, [], _, [], hW', trodAll_mk1 (shut_bool Try.underlying4 _), (trodAll_cons_mk (shut_string Try.underlying9 hmax) trodAll_mk0), rfl, bel.frame _, fun h => by cases h⟩

set_option maxRecDepth 100000 in
theorem Scanned_lifted (os : Os) (started : os.Started) (H : Type) (enc : TypeId × Value → H) (F : Stop.Interp) :
    ReturnsInHanded {} Try.checked os 4 .any ((Rows.OpenSpec.upto Rows.scannedSpec).pre6 enc Try.prog Try.f4 Rows.scannedUptoRow.domain false) (((Rows.OpenSpec.upto Rows.scannedSpec).at F).post enc Try.prog Try.f4 false true false false) := by
  refine returnsInHanded_of_cond (C := Try.checked) (s := Rows.OpenSpec.upto Rows.scannedSpec) (k := Rows.uptoSmall) rfl ownS started (by kernel_rfl) Try.func4
    (OpenSpec.witness (enc := enc) (C := Try.checked) (s := Rows.OpenSpec.upto Rows.scannedSpec) (k := Rows.uptoSmall) rfl false ⟨#[], #[.string .empty], []⟩ 8 (by kernel_rfl) (by kernel_rfl) (by kernel_rfl)
      (x := ([.lit (.string [])], [], [])) (by kernel_rfl) rfl (by kernel_rfl)) ?_
  intro W base args ds gs before hval hW _ hk _
  exact Scanned_contract H enc W base args ds gs before hval hW hk

theorem Scanned_upto : Rows.ScannedUptoSaid :=
  OpenClaim.holds_of_cond 4 Try.f4 rfl rfl rfl rfl rfl rfl rfl ⟨rfl, rfl, rfl, rfl, rfl⟩ rfl rfl rfl rfl rfl (by kernel_rfl) Try.func4 (by kernel_rfl)
    (of_decide_eq_true (by kernel_rfl)) (by unfold Func.isWrapper; first | (rw [if_pos (by decide +kernel)]; kernel_rfl) | (rw [if_neg (by decide +kernel)]; exact ⟨rfl, rfl⟩))
    (fun os started H enc _ F => Scanned_lifted os started H enc F)
#print axioms Scanned_upto
end Go.Proofs.Ytidacihlalbohaa
