/- The law's own small functions on files. -/
import Derived.Test.YtidacihlalbohaaRefFiles
import Derived.Test.YtidacihlalbohaaRefBook
import Derived.Test.YtidacihlalbohaaPForget
import Derived.Laws.MakeOwn
namespace Go.Proofs.Ytidacihlalbohaa
open Go.RowKit

theorem fieldsFile : ((Try.prog.fieldsOf 55).toList.map fun f => (f.name, f.type, f.offset)) = [("Name", 9, 0), ("Data", 9, 1)] := by kernel_rfl
theorem underFile : Try.prog.underlying 55 = some (.struct (Try.prog.fieldsOf 55)) := by kernel_rfl
theorem stoodFile : Try.prog.stoodInHeld 55 = false := by kernel_rfl
theorem guardFile : Try.prog.eqGuardType Try.prog.depth 55 = false := by kernel_rfl
theorem two2s {α : Type} {β : Type} {g : α → β} {l : List α} {a b : β} (h : l.map g = [a, b]) : ∃ x0 x1, l = [x0, x1] ∧ g x0 = a ∧ g x1 = b := by
  match l, h with
  | [x0, x1], h => simp at h; exact ⟨x0, x1, rfl, h⟩

set_option maxRecDepth 100000 in
theorem equalFile (W : World) (a b : ByteArray) :
    (Op.equalIn 10000 55 (.agg #[.string a, .string b]) (.agg #[.string a, .string b])).run Try.prog W = .ok true W := by
  rw [run_equalIn_struct W 9999 55 _ _ underFile stoodFile]
  obtain ⟨x0, x1, hl, k0, k1⟩ := two2s fieldsFile
  rw [hl]
  simp only [Prod.mk.injEq] at k0 k1
  simp only [Op.eqFields, k0.1, k0.2.1, k0.2.2, k1.1, k1.2.1, k1.2.2]
  simp [go_sem]

def Md.sMark : ByteArray := ⟨#[109, 97, 114, 107]⟩
theorem markFile_any (w : World) : Calls Try.prog 23 #[] w fun e w' => e = .returned (.agg #[.string Md.sLog, .string Md.sMark]) ∧ Below w.heap.size w w' := by
  go_enter Try.func23, Try.ntmps23
  go_wp2
  exact bodyPost_ret (v := .agg #[.string Md.sLog, .string Md.sMark]) (by simp [results, Try.results23, go_sem, Md.sLog, Md.sMark]) rfl ⟨rfl, (Below.refl _ _).alloc (Nat.le_refl _) _⟩

set_option maxRecDepth 100000 in
set_option maxHeartbeats 2000000 in
theorem sameFiles_any (va vb : Value) (l : List Md.Fl) (w : World) (ha : FilesAt w va l) (hb : FilesAt w vb l) :
    Calls Try.prog 42 #[va, vb] w fun e w' => e = .returned (.bool true) ∧ Below w.heap.size w w' := by
  obtain ⟨a, ca, rfl, hm, hca⟩ := ha
  obtain ⟨b, cb, rfl, _, hcb⟩ := hb
  obtain ⟨len, hL⟩ : ∃ len, l.length = len := ⟨_, rfl⟩
  have Hca := hide hca
  have Hcb := hide hcb
  have HL := hide hL
  rw [hL] at hm ⊢
  have hm' : len ≤ 9223372036854775807 := by unfold maxLen at hm; omega
  clear hca hcb hL
  go_enter Try.func42, Try.ntmps42
  go_wp2
  go_loopw [5] (fun i wr => ∃ k d : Nat, k ≤ len ∧ i = .int .i64 k ∧ wr = w.drewN d) (fun i _ => len - (intOf i).toNat)
  case atStart => exact ⟨0, 0, Nat.zero_le _, rfl, rfl⟩
  case round =>
    obtain ⟨k, d, hk, rfl, rfl⟩ := hrel
    by_cases hkl : k < len
    · have hkb : k < l.length := by rw [HL.out]; exact hkl
      have hkl' : (k : Int) < (len : Int) := by omega
      obtain ⟨g, o, rfl, hc1⟩ := Hca.out (by omega)
      obtain ⟨g2, o2, rfl, hc2⟩ := Hcb.out (by omega)
      have hxx : l[k]? = some l[k] := List.getElem?_eq_getElem hkb
      generalize l[k] = x at hxx
      obtain ⟨c1, c2⟩ := hc1 k x hxx
      obtain ⟨e1, e2⟩ := hc2 k x hxx
      have heq := fun W => equalFile W x.name x.data
      have hgd := guardFile
      clear hxx hc1 hc2
      go_wp2_with fail
      go_quiet (fail)
      go_wp2
      go_roundw
      case rel => exact ⟨k + 1, _, by omega, by go_num, rfl⟩
      case measure => simp [intOf]; omega
    · obtain rfl : k = len := by omega
      go_wp2
      go_ret
      exact ⟨rfl, below_drewN' (Below.refl _ _) _⟩

/-- Files handed over: behind them lie eight marks, in one block. -/
structure HandAt (W : World) (v : Value) (l : List Md.Fl) : Prop where
  fl : ∃ g, v = .slice (some ⟨g, 0, none⟩) l.length (l.length + 8) ∧ l.length + 8 ≤ maxLen ∧ (∀ k x, l[k]? = some x → W.cell? ⟨g, k * 2, none⟩ = some (.string x.name) ∧ W.cell? ⟨g, k * 2 + 1, none⟩ = some (.string x.data)) ∧
    (∀ j, j < 8 → W.cell? ⟨g, (l.length + j) * 2, none⟩ = some (.string Md.sLog) ∧ W.cell? ⟨g, (l.length + j) * 2 + 1, none⟩ = some (.string Md.sMark)) ∧ (∀ o, W.frozen? ⟨g, o, none⟩ = false)
theorem HandAt.files {W : World} {v : Value} {l : List Md.Fl} (h : HandAt W v l) : FilesAt W v l := by
  obtain ⟨g, rfl, hm, hc, _⟩ := h.fl
  exact ⟨some ⟨g, 0, none⟩, _, rfl, by omega, fun _ => ⟨g, 0, rfl, fun k x hx => by rw [Nat.zero_add]; exact hc k x hx⟩⟩

set_option maxRecDepth 100000 in
set_option maxHeartbeats 2000000 in
theorem stillFiles_any (va vb : Value) (l : List Md.Fl) (w : World) (ha : HandAt w va l) (hb : FilesAt w vb l) :
    Calls Try.prog 22 #[va, vb] w fun e w' => e = .returned (.bool true) ∧ Below w.heap.size w w' := by
  have hsame := sameFiles_any va vb l w ha.files hb
  obtain ⟨g, rfl, hm, _, hmk, _⟩ := ha.fl
  obtain ⟨b, cb, rfl, _, _⟩ := hb
  obtain ⟨len, hL⟩ : ∃ len, l.length = len := ⟨_, rfl⟩
  rw [hL] at hm hmk hsame ⊢
  have hm' : len + 8 ≤ 9223372036854775807 := by unfold maxLen at hm; omega
  have hgl : g < w.heap.size := World.block_lt_of_cell? w ⟨g, (len + 0) * 2, none⟩ (hmk 0 (by omega)).1
  have Hmk := hide hmk
  clear hmk hL ha
  go_enter Try.func22, Try.ntmps22
  go_wp2_with fail
  refine hsame.mono ?_
  rintro e W ⟨rfl, hB⟩
  clear hsame
  have w8 : IntKind.i64.wrap ((len : Int) + 8) = (len : Int) + 8 := by rw [IntKind.wrap_i64]; omega
  go_wp2
  go_loopw [8] (fun i wr => ∃ j : Nat, j ≤ 8 ∧ i = .int .i64 j ∧ Below w.heap.size w wr) (fun i _ => 8 - (intOf i).toNat)
  case atStart => exact ⟨0, by omega, rfl, hB⟩
  case round =>
    clear hB
    obtain ⟨j, hj, rfl, hB⟩ := hrel
    by_cases hj8 : j < 8
    · have hj8' : (j : Int) < 8 := by omega
      obtain ⟨c1, c2⟩ := Hmk.out j hj8
      have d1 := (hB.cell (p := ⟨g, (len + j) * 2, none⟩) hgl).trans c1
      have d2 := (hB.cell (p := ⟨g, (len + j) * 2 + 1, none⟩) hgl).trans c2
      have heq := fun W => equalFile W Md.sLog Md.sMark
      have hgd := guardFile
      have wj : IntKind.i64.wrap ((len : Int) + (j : Int)) = ((len + j : Nat) : Int) := by rw [IntKind.wrap_i64]; omega
      have hlj : ((len + j : Nat) : Int) < ((len + 8 : Nat) : Int) := by omega
      clear c1 c2
      go_wp2_with fail
      have hin := Wd.there wr
      have e1 := Wd.cell d1
      have e2 := Wd.cell d2
      clear d1 d2
      refine region_growsW wr (by kernel_rfl) (by kernel_rfl) (Below.refl _ _) ?_
      repeat (go_big_quiet_step ((go_at_call 23; exact Calls.growsW (markFile_any _))))
      refine wpQuiet_nil ?_
      rintro w1 ⟨d, hd⟩
      have hw1 : Below wr.heap.size wr w1 := hd ▸ d.h
      clear hd d e1 e2 hin heq hgd
      go_wp2
      go_roundw
      case rel => exact ⟨j + 1, by omega, by go_num, hB.trans (hw1.mono hB.size)⟩
      case measure => simp [intOf]; omega
    · obtain rfl : j = 8 := by omega
      go_wp2
      go_ret
      exact ⟨rfl, hB⟩
end Go.Proofs.Ytidacihlalbohaa

/- The law's filesOf: files to hand over, with eight marks behind them. -/
namespace Go.Proofs.Ytidacihlalbohaa
open Go.RowKit

theorem infoFile : (Try.prog.info? 55).map (fun i => (i.zero, i.size, i.bytes)) = some (some (.agg #[.string ⟨#[]⟩, .string ⟨#[]⟩]), 2, 32) := by kernel_rfl
theorem sizeFile : (Try.prog.info? 55).map (·.size) = some 2 := by kernel_rfl
def fileC (x : Md.Fl) : List Value := [.string x.name, .string x.data]
def filesC (l : List Md.Fl) : List Value := l.flatMap fileC
theorem filesC_len (l : List Md.Fl) : (filesC l).length = l.length * 2 := by unfold filesC; rw [rows_len (m := 2) (fun _ => rfl)]; omega
theorem filesC_at (l : List Md.Fl) (k o : Nat) (x : Md.Fl) (h : l[k]? = some x) (ho : o < 2) : (filesC l)[k * 2 + o]? = (fileC x)[o]? := by
  rw [Nat.mul_comm]; exact rows_at (m := 2) (fun _ => rfl) l k o x h ho
theorem filesC_one (l : List Md.Fl) : ∀ v ∈ filesC l, v.oneCell' = true := by
  intro v hv
  unfold filesC at hv
  rw [List.mem_flatMap] at hv
  obtain ⟨x, _, h⟩ := hv
  simp only [fileC, List.mem_cons, List.not_mem_nil, or_false] at h
  rcases h with rfl | rfl <;> rfl
theorem made2 (n : Nat) (i : Nat) (h : i < n) : (madeCells (Value.agg #[.string ⟨#[]⟩, .string ⟨#[]⟩]).cells n)[i]? = some (.string ⟨#[]⟩) := by
  unfold madeCells
  rw [Array.getElem?_map, Array.getElem?_range, if_pos h]
  show some ((#[(.string ⟨#[]⟩ : Value), .string ⟨#[]⟩])[i % 2]!) = _
  have : i % 2 = 0 ∨ i % 2 = 1 := by omega
  rcases this with h | h <;> rw [h] <;> rfl

set_option maxRecDepth 100000 in
set_option maxHeartbeats 2000000 in
theorem filesOf_any (vb : Value) (l : List Md.Fl) (w : World) (hb : FilesAt w vb l) (hz : l.length ≤ 1099511627776) :
    Calls Try.prog 19 #[vb] w fun e w' => ∃ v, e = .returned v ∧ HandAt w' v l ∧ (∀ g k c, v = .slice (some ⟨g, 0, none⟩) k c → w.heap.size ≤ g) ∧ Below w.heap.size w w' := by
  obtain ⟨b, cb, rfl, _, hcb⟩ := hb
  obtain ⟨len, hL⟩ : ∃ len, l.length = len := ⟨_, rfl⟩
  obtain ⟨i0, hi, hz0, hz1, hz2⟩ := info_parts infoFile
  rw [hL] at hz hcb ⊢
  obtain ⟨V, hV⟩ : ∃ V, w.alloc (.cells (madeCells (Value.agg #[.string ⟨#[]⟩, .string ⟨#[]⟩]).cells ((len + 8) * 2)) 55) = V := ⟨_, rfl⟩
  have hmk : (Instr.makeSlice 30 (.int .i64 ((len : Int) + 8)) (.int .i64 ((len : Int) + 8))).run Try.prog w = .ok (.slice (some ⟨w.heap.size, 0, none⟩) (len + 8) (len + 8)) V := by
    have := run_make (P := Try.prog) w 30 55 i0 _ Try.underlying30 hi hz0 .i64 .i64 ((len : Int) + 8) ((len : Int) + 8) (by omega) (by omega) (by rw [hz2]; omega) (by omega)
    rw [show ((len : Int) + 8).toNat = len + 8 by omega, hz1, hV] at this
    exact this
  have hB : Below w.heap.size w V := hV ▸ (Below.refl _ _).alloc (Nat.le_refl _) _
  have hcell : ∀ i, i < (len + 8) * 2 → V.cell? ⟨w.heap.size, i, none⟩ = some (.string ⟨#[]⟩) := fun i h => by
    rw [← hV]; exact (World.cell?_alloc_mark w _ 55 (0, 0) i).trans (made2 _ i h)
  have hfz : ∀ o, V.frozen? ⟨w.heap.size, o, none⟩ = false := fun o => by rw [← hV]; simp [go_sem]
  have hzl : w.heap.size < V.heap.size := by rw [← hV]; simp
  have hcl : (filesC l).length = len * 2 := by rw [filesC_len, hL]
  have hcp : (Builtin.copy_ #[30, 30] 3 #[.slice (some ⟨w.heap.size, 0, none⟩) (len + 8) (len + 8), .slice b len cb]).run Try.prog V = .ok (goInt len) (V.setCells w.heap.size 0 (filesC l)) := by
    by_cases h0 : len = 0
    · have hl0 : l = [] := List.eq_nil_of_length_eq_zero (by omega)
      subst hl0
      subst h0
      have hl : ∀ (x : Addr), (loadCells x 0).run Try.prog V = .ok #[] V := fun x => by simpa using run_loadCells_list (P := Try.prog) V x [] (by simp)
      cases b <;> simp [Builtin.copy_, run_underlying Try.underlying30, Builtin.lenOf, Builtin.firstCells, sizeOf, typeInfo, hi, storeCells, hl, filesC, World.setCells]
    · obtain ⟨g, o, rfl, hc⟩ := hcb (by omega)
      refine run_copyN (P := Try.prog) V 30 30 3 55 w.heap.size 0 (len + 8) (len + 8) ⟨g, o, none⟩ len cb 2 len (filesC l) Try.underlying30 sizeFile (Nat.min_eq_left (by omega)) hcl ?_ (fun j hj => by rw [Nat.zero_add, hcell j (by omega)]; rfl) (fun j _ => hfz _) (filesC_one l)
      intro j v hv
      have hj : j < len * 2 := by rw [← hcl]; exact (List.getElem?_eq_some_iff.1 hv).1
      have hx : l[j / 2]? = some (l[j / 2]'(by omega)) := List.getElem?_eq_getElem (by omega)
      have e := filesC_at l (j / 2) (j % 2) _ hx (Nat.mod_lt _ (by omega))
      rw [show j / 2 * 2 + j % 2 = j by omega, hv] at e
      obtain ⟨c1, c2⟩ := hc (j / 2) _ hx
      have hg : g < w.heap.size := World.block_lt_of_cell? w ⟨g, o + j / 2 * 2, none⟩ c1
      rw [add_plain]
      have h2 : j % 2 = 0 ∨ j % 2 = 1 := by omega
      rcases h2 with h2 | h2
      · rw [h2] at e
        cases e
        rw [show o + j = o + j / 2 * 2 by omega]
        exact (hB.cell (p := ⟨g, o + j / 2 * 2, none⟩) hg).trans c1
      · rw [h2] at e
        cases e
        rw [show o + j = o + j / 2 * 2 + 1 by omega]
        exact (hB.cell (p := ⟨g, o + j / 2 * 2 + 1, none⟩) hg).trans c2
  have hX1 : ∀ k x, l[k]? = some x → (V.setCells w.heap.size 0 (filesC l)).cell? ⟨w.heap.size, k * 2, none⟩ = some (.string x.name) ∧ (V.setCells w.heap.size 0 (filesC l)).cell? ⟨w.heap.size, k * 2 + 1, none⟩ = some (.string x.data) := by
    intro k x hx
    have hk : k < len := by rw [← hL]; exact (List.getElem?_eq_some_iff.1 hx).1
    have hin : ∀ j v, (filesC l)[j]? = some v → (V.setCells w.heap.size 0 (filesC l)).cell? ⟨w.heap.size, j, none⟩ = some v := fun j v hv => by
      obtain ⟨h1, h2⟩ := List.getElem?_eq_some_iff.1 hv
      have := World.cell?_setCells_in w.heap.size (filesC l) 0 V (fun i hi => by rw [Nat.zero_add, hcell i (by omega)]; rfl) j h1
      rw [Nat.zero_add] at this
      rw [this, h2]
    exact ⟨hin (k * 2) _ (filesC_at l k 0 x hx (by omega)), hin (k * 2 + 1) _ (filesC_at l k 1 x hx (by omega))⟩
  have hX2 : ∀ i, len * 2 ≤ i → i < (len + 8) * 2 → (V.setCells w.heap.size 0 (filesC l)).cell? ⟨w.heap.size, i, none⟩ = some (.string ⟨#[]⟩) := fun i h1 h2 => (World.cell?_setCells_out w.heap.size (filesC l) 0 V ⟨w.heap.size, i, none⟩ (fun _ _ => .inr (by show 0 + (filesC l).length ≤ i; omega))).trans (hcell i h2)
  have hX3 : ∀ o, (V.setCells w.heap.size 0 (filesC l)).frozen? ⟨w.heap.size, o, none⟩ = false := fun o => (World.frozen?_setCells w.heap.size _ 0 V _).trans (hfz o)
  have hgr := grown_setCells w.heap.size (filesC l) 0 V
  have hXB : Below w.heap.size w (V.setCells w.heap.size 0 (filesC l)) := ⟨hgr.os.trans hB.os, hgr.tape.trans hB.tape, hgr.output.trans hB.output, Nat.le_trans hB.size hgr.size, fun k hk => (hgr.block k (Nat.lt_of_lt_of_le hk hB.size) (fun e => by cases e; omega)).trans (hB.block k hk)⟩
  have hXl : w.heap.size < (V.setCells w.heap.size 0 (filesC l)).heap.size := by rw [size_setCells]; exact hzl
  generalize V.setCells w.heap.size 0 (filesC l) = X at hcp hX1 hX2 hX3 hXB hXl
  have HX1 := hide hX1
  have HX2 := hide hX2
  have HL := hide hL
  clear hX1 hX2 hgr hcell hfz hzl hB hcb hL hV
  go_enter Try.func19, Try.ntmps19
  go_wp2
  go_loopw [5] (fun i wr => ∃ j : Nat, j ≤ 8 ∧ i = .int .i64 j ∧ Below w.heap.size w wr ∧ w.heap.size < wr.heap.size ∧ (∀ o, wr.frozen? ⟨w.heap.size, o, none⟩ = false) ∧ Hid (∀ k x, l[k]? = some x → wr.cell? ⟨w.heap.size, k * 2, none⟩ = some (.string x.name) ∧ wr.cell? ⟨w.heap.size, k * 2 + 1, none⟩ = some (.string x.data)) ∧
    Hid (∀ i, i < j → wr.cell? ⟨w.heap.size, (len + i) * 2, none⟩ = some (.string Md.sLog) ∧ wr.cell? ⟨w.heap.size, (len + i) * 2 + 1, none⟩ = some (.string Md.sMark)) ∧ Hid (∀ i, (len + j) * 2 ≤ i → i < (len + 8) * 2 → wr.cell? ⟨w.heap.size, i, none⟩ = some (.string ⟨#[]⟩))) (fun i _ => 8 - (intOf i).toNat)
  case atStart => exact ⟨0, by omega, rfl, hXB, hXl, hX3, HX1, hide (fun i h => by omega), hide (fun i h1 h2 => HX2.out i (by omega) h2)⟩
  case round =>
    clear HX1 HX2 hXB hXl hX3 hcp hmk
    obtain ⟨j, hj, rfl, hBr, hlr, hfr, h1, h2, h3⟩ := hrel
    by_cases hj8 : j < 8
    · have hj8' : (j : Int) < 8 := by omega
      have wj : IntKind.i64.wrap ((len : Int) + (j : Int)) = ((len + j : Nat) : Int) := by rw [IntKind.wrap_i64]; omega
      have hlj : ((len + j : Nat) : Int) < ((len + 8 : Nat) : Int) := by omega
      have e1 := h3.out ((len + j) * 2) (by omega) (by omega)
      have e2 := h3.out ((len + j) * 2 + 1) (by omega) (by omega)
      go_wp2_with fail
      refine (markFile_any wr).mono ?_
      rintro e W ⟨rfl, hb1⟩
      have d1 := (hb1.cell (p := ⟨w.heap.size, (len + j) * 2, none⟩) hlr).trans e1
      have d2 := (hb1.cell (p := ⟨w.heap.size, (len + j) * 2 + 1, none⟩) hlr).trans e2
      have df := fun o => (hb1.frozen (p := ⟨w.heap.size, o, none⟩) hlr).trans (hfr o)
      have dl : w.heap.size < W.heap.size := Nat.lt_of_lt_of_le hlr hb1.size
      have dc := fun o => hb1.cell (p := ⟨w.heap.size, o, none⟩) hlr
      have Hdc := hide dc
      clear e1 e2 dc
      go_wp2
      have g : ∀ o, o ≠ (len + j) * 2 → o ≠ (len + j) * 2 + 1 → ((W.setCell ⟨w.heap.size, (len + j) * 2, none⟩ (.string Md.sLog)).setCell ⟨w.heap.size, (len + j) * 2 + 1, none⟩ (.string Md.sMark)).cell? ⟨w.heap.size, o, none⟩ = wr.cell? ⟨w.heap.size, o, none⟩ := fun o n1 n2 =>
        (World.cell?_setCell_other _ _ _ _ (fun e => by cases e; exact n2 rfl)).trans ((World.cell?_setCell_other _ _ _ _ (fun e => by cases e; exact n1 rfl)).trans (Hdc.out o))
      have g1 : ((W.setCell ⟨w.heap.size, (len + j) * 2, none⟩ (.string Md.sLog)).setCell ⟨w.heap.size, (len + j) * 2 + 1, none⟩ (.string Md.sMark)).cell? ⟨w.heap.size, (len + j) * 2, none⟩ = some (.string Md.sLog) := put_other (put_same d1) (by omega)
      have g2 : ((W.setCell ⟨w.heap.size, (len + j) * 2, none⟩ (.string Md.sLog)).setCell ⟨w.heap.size, (len + j) * 2 + 1, none⟩ (.string Md.sMark)).cell? ⟨w.heap.size, (len + j) * 2 + 1, none⟩ = some (.string Md.sMark) := put_same (put_other d2 (by omega))
      go_roundw
      case rel =>
        refine ⟨j + 1, by omega, by go_num, ((hBr.trans (hb1.mono hBr.size)).setCell (p := ⟨w.heap.size, (len + j) * 2, none⟩) (Nat.le_refl _) _).setCell (p := ⟨w.heap.size, (len + j) * 2 + 1, none⟩) (Nat.le_refl _) _, by rw [size_put, size_put]; exact dl, fun o => (World.frozen?_setCell _ _ _ _).trans ((World.frozen?_setCell _ _ _ _).trans (df o)), hide (fun k x hx => ?_), hide (fun i hi => ?_), hide (fun i n1 n2 => ?_)⟩
        · have hk : k < len := by rw [← HL.out]; exact (List.getElem?_eq_some_iff.1 hx).1
          rw [g _ (by omega) (by omega), g _ (by omega) (by omega)]; exact h1.out k x hx
        · by_cases e : i = j
          · subst e; exact ⟨g1, g2⟩
          · rw [g _ (by omega) (by omega), g _ (by omega) (by omega)]; exact h2.out i (by omega)
        · rw [g _ (by omega) (by omega)]; exact h3.out i (by omega) n2
      case measure => simp [intOf]; omega
    · obtain rfl : j = 8 := by omega
      go_wp2
      go_ret
      refine ⟨_, rfl, ⟨w.heap.size, ?_, ?_, h1.out, ?_, hfr⟩, (fun g k c e => by cases e; exact Nat.le_refl _), hBr⟩
      · rw [HL.out]; rfl
      · rw [HL.out]; unfold maxLen; omega
      · rw [HL.out]; exact h2.out
end Go.Proofs.Ytidacihlalbohaa
