/- What the document's own Open returns. -/
import Derived.Test.YtidacihlalbohaaRefReplay
import Derived.Test.YtidacihlalbohaaRefFiles
import Derived.Test.YtidacihlalbohaaRefAsk
import Derived.Test.YtidacihlalbohaaPRead
namespace Go.Proofs.Ytidacihlalbohaa
open Go.RowKit

namespace Md
/-- The book of the snapshot among the files; none: the snapshot is none. -/
def snapBook (l : List Fl) : Option Bk :=
  match dataOf l sSnap with
  | none => some bk0
  | some d => match Fr.all d.data.toList with
    | [x] => if x.2 = d.size then ofSnap x.1.1 else none
    | _ => none
def lastN (B : Bk) (n : Nat) : Bk := { B with past := B.past.drop (B.past.length - n) }
def logOf (l : List Fl) : ByteArray := (dataOf l sLog).getD ⟨#[]⟩
/-- What opening comes to: an error, or a book. -/
def opens (l : List Fl) (c : Cf) : Int × Option Bk :=
  if c.fine then (if named l then (match snapBook l with | none => (4, none) | some B => (0, some (replayL c.window.toNat B.count (payL (logOf l)) true 0 (lastN B c.window.toNat) []).1)) else (3, none)) else (2, none)
end Md

theorem newBook0 (W : World) : BookAt (W.alloc (.cells Try.zeroCells97 97)) W.heap.size Md.bk0 (.slice none 0 0) := by
  have g : ∀ o, (W.alloc (.cells Try.zeroCells97 97)).cell? ⟨W.heap.size, o, none⟩ = Try.zeroCells97[o]? := fun o => World.cell?_alloc_mark W _ 97 (0, 0) o
  have e3 : ∀ j, j < 3 → Try.zeroCells97[220 + j]? = [.int .i64 0, .int .i64 0, .slice none 0 0][j]? := by
    intro j hj
    rw [← Array.getElem?_toList, zeroBook, List.getElem?_append_right (by rw [List.length_append, List.length_replicate, List.length_replicate]; omega), List.length_append, List.length_replicate, List.length_replicate, Nat.add_sub_cancel_left]
  refine ⟨fun i hi => ?_, fun i hi => ?_, fun i hi => ?_, fun i hi => ?_, fun i hi => ?_, fun i hi => ?_, ?_, ?_, ?_, fun o => by simp [go_sem], by simp⟩
  · rw [g]; exact zeroBook_int i (by omega)
  · rw [g]; exact zeroBook_int _ (by omega)
  · rw [g]; exact zeroBook_int _ (by omega)
  · rw [g]; exact zeroBook_int _ (by omega)
  · rw [g]; exact zeroBook_int _ (by omega)
  · rw [g]; exact zeroBook_bool i hi
  · rw [g]; exact e3 0 (by omega)
  · rw [g]; exact e3 1 (by omega)
  · rw [g]; exact e3 2 (by omega)

theorem dataOf_mem {l : List Md.Fl} {n d : ByteArray} (h : Md.dataOf l n = some d) : ∃ x ∈ l, x.data = d := by
  induction l with
  | nil => cases h
  | cons x l ih =>
    unfold Md.dataOf at h
    split at h
    · cases h; exact ⟨x, by simp, rfl⟩
    · obtain ⟨y, h1, h2⟩ := ih h; exact ⟨y, by simp [h1], h2⟩

theorem lastN0 (n : Nat) : Md.lastN Md.bk0 n = Md.bk0 := by unfold Md.lastN; rw [show Md.bk0.past = [] from rfl, List.drop_nil]; rfl

/-- The document's shop in block q while it is opened. -/
structure ShAt (W : World) (q p : Nat) (snap : ByteArray) (has : Bool) : Prop where
  bk : W.cell? ⟨q, 3, none⟩ = some (.pointer (some ⟨p, 0, none⟩))
  lo : W.cell? ⟨q, 4, none⟩ = some (.string ⟨#[]⟩)
  sn : W.cell? ⟨q, 6, none⟩ = some (.string snap)
  hs : W.cell? ⟨q, 7, none⟩ = some (.bool has)
  dn : W.cell? ⟨q, 12, none⟩ = some (.bool false)
  fz : ∀ o, W.frozen? ⟨q, o, none⟩ = false
  lt : q < W.heap.size
theorem ShAt.of_block {W W' : World} {q p : Nat} {snap : ByteArray} {has : Bool} (h : ShAt W q p snap has) (hb : W'.heap[q]? = W.heap[q]?) (hl : q < W'.heap.size) : ShAt W' q p snap has :=
  have hc : ∀ o, W'.cell? ⟨q, o, none⟩ = W.cell? ⟨q, o, none⟩ := fun _ => World.cell?_of_block hb
  ⟨(hc _).trans h.bk, (hc _).trans h.lo, (hc _).trans h.sn, (hc _).trans h.hs, (hc _).trans h.dn, fun o => (World.frozen?_of_block hb).trans (h.fz o), hl⟩
theorem ShAt.below {W W' : World} {q p : Nat} {snap : ByteArray} {has : Bool} (h : ShAt W q p snap has) (hb : Below W.heap.size W W') : ShAt W' q p snap has := h.of_block (hb.block q h.lt) (Nat.lt_of_lt_of_le h.lt hb.size)
theorem ShAt.setSnap {W : World} {q p : Nat} {snap : ByteArray} {has : Bool} (h : ShAt W q p snap has) (d : ByteArray) (b : Bool) : ShAt ((W.setCell ⟨q, 6, none⟩ (.string d)).setCell ⟨q, 7, none⟩ (.bool b)) q p d b :=
  have h7 := put_other (x := .string d) (o := 6) h.hs (by omega)
  ⟨put_other (put_other h.bk (by omega)) (by omega), put_other (put_other h.lo (by omega)) (by omega), put_other (put_same h.sn) (by omega), put_same h7, put_other (put_other h.dn (by omega)) (by omega), fun o => (World.frozen?_setCell _ _ _ _).trans ((World.frozen?_setCell _ _ _ _).trans (h.fz o)), by rw [size_put, size_put]; exact h.lt⟩
theorem ShAt.setBook {W : World} {q p : Nat} {snap : ByteArray} {has : Bool} (h : ShAt W q p snap has) (p' : Nat) : ShAt (W.setCell ⟨q, 3, none⟩ (.pointer (some ⟨p', 0, none⟩))) q p' snap has :=
  ⟨put_same h.bk, put_other h.lo (by omega), put_other h.sn (by omega), put_other h.hs (by omega), put_other h.dn (by omega), fun o => (World.frozen?_setCell _ _ _ _).trans (h.fz o), by rw [size_put]; exact h.lt⟩

theorem FilesAt.below {W W' : World} {v : Value} {l : List Md.Fl} (h : FilesAt W v l) (hb : Below W.heap.size W W') : FilesAt W' v l := by
  obtain ⟨a, cap, h1, h2, h3⟩ := h
  refine ⟨a, cap, h1, h2, fun hl => ?_⟩
  obtain ⟨g, o, ha, hc⟩ := h3 hl
  refine ⟨g, o, ha, fun k x hx => ?_⟩
  obtain ⟨c1, c2⟩ := hc k x hx
  have hlt : g < W.heap.size := World.block_lt_of_cell? W ⟨g, o + k * 2, none⟩ c1
  exact ⟨(hb.cell (p := ⟨g, o + k * 2, none⟩) hlt).trans c1, (hb.cell (p := ⟨g, o + k * 2 + 1, none⟩) hlt).trans c2⟩

def OpenPost (w w' : World) (e : Ending) : Int × Option Md.Bk → Prop
  | (c, none) => e = .returned (.tuple #[.pointer none, .int .i64 c])
  | (c, some B) => ∃ q p v, e = .returned (.tuple #[.pointer (some ⟨q, 0, none⟩), .int .i64 c]) ∧ w.heap.size ≤ q ∧ w.heap.size ≤ p ∧ AskAt w' q p false ∧ BookAt w' p B v

set_option maxRecDepth 100000 in
set_option maxHeartbeats 4000000 in
theorem refOpen_any (v : Value) (l : List Md.Fl) (c : Md.Cf) (w : World) (hf : FilesAt w v l) (hz : ∀ x ∈ l, x.data.size ≤ 1099511627776) :
    Calls Try.prog 21 #[v, .agg (cfA c)] w fun e w' => Below w.heap.size w w' ∧ OpenPost w w' e (Md.opens l c) := by
  obtain ⟨OO, hOO⟩ : ∃ OO, Md.opens l c = OO := ⟨_, rfl⟩
  rw [hOO]
  have HOO := hide hOO
  clear hOO
  obtain ⟨wi, gr, ro⟩ := c
  have hcf := fun W => config_any ⟨wi, gr, ro⟩ W
  unfold cfA at hcf ⊢
  dsimp only at hcf ⊢
  have Hcf := hide hcf
  have Hf := hide hf
  clear hcf
  go_enter Try.func21, Try.ntmps21
  go_wp2_with fail
  refine (Hcf.out _).mono ?_
  rintro e W1 ⟨rfl, hb1⟩
  have hbx := (Below.refl w.heap.size w).alloc (Nat.le_refl _) (.cells #[.int .i64 wi, .int .i64 gr, .int .i64 ro] 32)
  have x0 : (w.alloc (.cells #[.int .i64 wi, .int .i64 gr, .int .i64 ro] 32)).cell? ⟨w.heap.size, 0, none⟩ = some (.int .i64 wi) := by simp [go_sem]
  have x1 : (w.alloc (.cells #[.int .i64 wi, .int .i64 gr, .int .i64 ro] 32)).cell? ⟨w.heap.size, 1, none⟩ = some (.int .i64 gr) := by simp [go_sem]
  have x2 : (w.alloc (.cells #[.int .i64 wi, .int .i64 gr, .int .i64 ro] 32)).cell? ⟨w.heap.size, 2, none⟩ = some (.int .i64 ro) := by simp [go_sem]
  have hxl : w.heap.size < (w.alloc (.cells #[.int .i64 wi, .int .i64 gr, .int .i64 ro] 32)).heap.size := by simp
  generalize w.alloc (.cells #[.int .i64 wi, .int .i64 gr, .int .i64 ro] 32) = W0 at hb1 hbx x0 x1 x2 hxl
  replace x0 := (hb1.cell (p := ⟨w.heap.size, 0, none⟩) hxl).trans x0
  replace x1 := (hb1.cell (p := ⟨w.heap.size, 1, none⟩) hxl).trans x1
  replace x2 := (hb1.cell (p := ⟨w.heap.size, 2, none⟩) hxl).trans x2
  have hxl1 : w.heap.size < W1.heap.size := Nat.lt_of_lt_of_le hxl hb1.size
  have hB1 : Below w.heap.size w W1 := hbx.trans (hb1.mono hbx.size)
  clear hb1 hbx hxl hf
  cases hfi : (⟨wi, gr, ro⟩ : Md.Cf).fine with
  | false =>
    have ho : OO = (2, none) := by rw [← HOO.out]; unfold Md.opens; rw [hfi]; rfl
    have Ho := hide ho
    clear ho
    go_wp2
    go_ret2
    exact ⟨hB1, by rw [Ho.out]; rfl⟩
  | true =>
    have hwi : 1 ≤ wi ∧ wi ≤ 20 := by
      unfold Md.Cf.fine at hfi
      simp only [Bool.and_eq_true, Md.inR_true] at hfi
      exact hfi.1.1
    obtain ⟨wi1, wi2⟩ := hwi
    obtain ⟨n, rfl⟩ : ∃ n : Nat, wi = n := ⟨wi.toNat, by omega⟩
    go_wp2_with fail
    refine (files_any v l W1 (Hf.out.below hB1)).mono ?_
    rintro e W2 ⟨rfl, hb2⟩
    have hB2 : Below w.heap.size w W2 := hB1.trans (hb2.mono hB1.size)
    replace x0 := (hb2.cell (p := ⟨w.heap.size, 0, none⟩) hxl1).trans x0
    replace x1 := (hb2.cell (p := ⟨w.heap.size, 1, none⟩) hxl1).trans x1
    replace x2 := (hb2.cell (p := ⟨w.heap.size, 2, none⟩) hxl1).trans x2
    have hxl2 : w.heap.size < W2.heap.size := Nat.lt_of_lt_of_le hxl1 hb2.size
    clear hb2 hB1 hxl1
    cases hnm : Md.named l with
    | false =>
      have ho : OO = (3, none) := by rw [← HOO.out]; unfold Md.opens; rw [hfi, hnm]; rfl
      have Ho := hide ho
      clear ho
      go_wp2
      go_ret2
      exact ⟨hB2, by rw [Ho.out]; rfl⟩
    | true =>
      have ho : OO = (match Md.snapBook l with | none => (4, none) | some B => (0, some (Md.replayL n B.count (payL (Md.logOf l)) true 0 (Md.lastN B n) []).1)) := by rw [← HOO.out]; unfold Md.opens; rw [hfi, hnm]; rfl
      have Ho := hide ho
      obtain ⟨lg, bl, hlg⟩ : ∃ lg bl, dataV (Md.dataOf l Md.sLog) = .tuple #[.string lg, .bool bl] ∧ Md.logOf l = lg := by
        unfold Md.logOf
        cases Md.dataOf l Md.sLog with
        | none => exact ⟨_, _, rfl, rfl⟩
        | some d => exact ⟨_, _, rfl, rfl⟩
      obtain ⟨hlg, hlg2⟩ := hlg
      have hlgz : lg.size ≤ 1099511627776 := by
        rw [← hlg2]; unfold Md.logOf
        cases hd : Md.dataOf l Md.sLog with
        | none => decide
        | some d => obtain ⟨x, h1, h2⟩ := dataOf_mem hd; rw [← h2]; exact hz x h1
      have Hlg := hide hlg
      have Hlg2 := hide hlg2
      clear ho hlg hlg2
      have hb3a := (Below.refl W2.heap.size W2).alloc (Nat.le_refl _) (.cells Try.zeroCells97 97)
      have hb3 := hb3a.alloc hb3a.size (.cells #[.int .i64 (n : Int), .int .i64 gr, .int .i64 ro, .pointer (some ⟨W2.heap.size, 0, none⟩), .string ⟨#[]⟩, .string ⟨#[]⟩, .string ⟨#[]⟩, .bool false, .bool false, .string ⟨#[]⟩, .string ⟨#[]⟩, .int .i64 0, .bool false] 99)
      have hbk3 := (newBook0 W2).below ((Below.refl _ _).alloc (Nat.le_refl _) (.cells #[.int .i64 (n : Int), .int .i64 gr, .int .i64 ro, .pointer (some ⟨W2.heap.size, 0, none⟩), .string ⟨#[]⟩, .string ⟨#[]⟩, .string ⟨#[]⟩, .bool false, .bool false, .string ⟨#[]⟩, .string ⟨#[]⟩, .int .i64 0, .bool false] 99))
      have hsh3 : ShAt ((W2.alloc (.cells Try.zeroCells97 97)).alloc (.cells #[.int .i64 (n : Int), .int .i64 gr, .int .i64 ro, .pointer (some ⟨W2.heap.size, 0, none⟩), .string ⟨#[]⟩, .string ⟨#[]⟩, .string ⟨#[]⟩, .bool false, .bool false, .string ⟨#[]⟩, .string ⟨#[]⟩, .int .i64 0, .bool false] 99)) (W2.heap.size + 1) W2.heap.size ⟨#[]⟩ false := by
        refine ⟨?_, ?_, ?_, ?_, ?_, fun o => ?_, by simp⟩ <;> simp [go_sem]
      go_wp2_with fail
      generalize (W2.alloc (.cells Try.zeroCells97 97)).alloc (.cells #[.int .i64 (n : Int), .int .i64 gr, .int .i64 ro, .pointer (some ⟨W2.heap.size, 0, none⟩), .string ⟨#[]⟩, .string ⟨#[]⟩, .string ⟨#[]⟩, .bool false, .bool false, .string ⟨#[]⟩, .string ⟨#[]⟩, .int .i64 0, .bool false] 99) = W3 at hb3 hbk3 hsh3 ⊢
      have hB3 : Below w.heap.size w W3 := hB2.trans (hb3.mono hB2.size)
      replace x0 := (hb3.cell (p := ⟨w.heap.size, 0, none⟩) hxl2).trans x0
      have hw2 : w.heap.size ≤ W2.heap.size := hB2.size
      have Hsh3 := hide hsh3
      have Hbk3 := hide hbk3
      have y6 := hsh3.sn
      have y7 := hsh3.hs
      have yf := hsh3.fz
      have yl := hsh3.lt
      clear hb3 hb3a hbk3 hsh3 x1 x2
      refine (data_any v l Md.sSnap W3 (Hf.out.below hB3)).mono ?_
      rintro e W ⟨rfl, hW⟩
      rw [hW]
      clear hW
      cases hd : Md.dataOf l Md.sSnap with
      | none =>
        have hoo : OO = (0, some (Md.replayL n Md.bk0.count (payL lg) true 0 Md.bk0 []).1) := by
          rw [Ho.out]; unfold Md.snapBook; rw [hd, Hlg2.out]; dsimp only; rw [lastN0]
        have Hoo := hide hoo
        unfold dataV
        obtain ⟨X, hX⟩ : ∃ X, (W3.setCell ⟨W2.heap.size + 1, 6, none⟩ (.string ⟨#[]⟩)).setCell ⟨W2.heap.size + 1, 7, none⟩ (.bool false) = X := ⟨_, rfl⟩
        have HshX : Hid (ShAt X (W2.heap.size + 1) W2.heap.size ⟨#[]⟩ false) := hide (hX ▸ Hsh3.out.setSnap ⟨#[]⟩ false)
        have HbkX : Hid (BookAt X W2.heap.size Md.bk0 (.slice none 0 0)) := hide (hX ▸ (Hbk3.out.of_block ((put_block 7 _ (by omega)).trans (put_block 6 _ (by omega))) (by rw [size_put, size_put]; exact Hbk3.out.lt)))
        have hBX : Below w.heap.size w X := hX ▸ (hB3.setCell (p := ⟨W2.heap.size + 1, 6, none⟩) (by show w.heap.size ≤ W2.heap.size + 1; omega) _).setCell (p := ⟨W2.heap.size + 1, 7, none⟩) (by show w.heap.size ≤ W2.heap.size + 1; omega) _
        have x0X : X.cell? ⟨w.heap.size, 0, none⟩ = some (.int .i64 n) := by
          rw [← hX]
          exact (World.cell?_of_block (put_block 7 _ (show w.heap.size ≠ W2.heap.size + 1 by omega))).trans ((World.cell?_of_block (put_block 6 _ (show w.heap.size ≠ W2.heap.size + 1 by omega))).trans x0)
        have HrowX : Hid (X.ownsRow X.heap.size 143 8 (.slice none 0 0) Md.bk0.past.length (pastsC Md.bk0.past)) := hide ⟨rfl, .inl ⟨rfl, rfl⟩⟩
        have HinvX := hide (Md.inv0 n)
        clear hoo
        have hpv : (Value.slice none 0 0).ownBlock ≠ some W2.heap.size := by simp [Value.ownBlock]
        have hvw : ∀ k, (Value.slice none 0 0).ownBlock = some k → w.heap.size ≤ k := fun k e => by simp [Value.ownBlock] at e
        have hqv : some (W2.heap.size + 1) ≠ (Value.slice none 0 0).ownBlock := by simp [Value.ownBlock]
        have hqp : W2.heap.size + 1 ≠ W2.heap.size := by omega
        have hcnt : 0 ≤ Md.bk0.count ∧ Md.bk0.count ≤ 1000000000 := by show (0 : Int) ≤ 0 ∧ (0 : Int) ≤ 1000000000; omega
        have hwp : w.heap.size ≤ W2.heap.size := hw2
        have z7 := HshX.out.hs
        clear Hsh3 Hbk3
        go_wp2_with fail
        clear hX z7
        refine (data_any v l Md.sLog X (Hf.out.below hBX)).mono ?_
        rintro e W ⟨rfl, hW⟩
        rw [hW, Hlg.out]
        clear hW
        go_wp2_with fail
        have t3 := HshX.out.bk
        have t4 := HshX.out.lo
        have tf := HshX.out.fz
        have tl := HshX.out.lt
        go_region_with (go_at_call 41; refine (refReplay_any W2.heap.size X.heap.size Md.bk0 (.slice none 0 0) lg n X.drew HbkX.out.drew HrowX.out hpv (Nat.le_refl _) HinvX.out (by omega) hcnt hlgz).mono ?_; rintro e W5 ⟨u, out, rfl, hout, hst⟩; have h5 := hst.kept.block (W2.heap.size + 1) tl hqp hqv; have t4' := (World.cell?_of_block (a := ⟨(W2.heap.size + 1), 4, none⟩) h5).trans t4; have tf' := fun o => (World.frozen?_of_block (a := ⟨(W2.heap.size + 1), o, none⟩) h5).trans (tf o); have tl' : (W2.heap.size + 1) < W5.heap.size := Nat.lt_of_lt_of_le tl hst.kept.size)
        all_goals
          have Hst := hide hst
          clear hst
          go_wp2
          go_ret2
          refine ⟨?_, ?_⟩
          · refine Below.setCell (p := ⟨(W2.heap.size + 1), 4, none⟩) ?_ (by show w.heap.size ≤ (W2.heap.size + 1); omega) _
            exact ⟨Hst.out.kept.os.trans hBX.os, Hst.out.kept.tape.trans hBX.tape, Hst.out.kept.output.trans hBX.output, Nat.le_trans hBX.size Hst.out.kept.size, fun k hk => (Hst.out.kept.block k (Nat.lt_of_lt_of_le hk hBX.size) (by omega) (fun e => by have := hvw k e.symm; omega)).trans (hBX.block k hk)⟩
          · rw [Hoo.out]
            have sh5 := HshX.out.of_block (W' := W5) (Hst.out.kept.block (W2.heap.size + 1) tl hqp hqv) (Nat.lt_of_lt_of_le tl Hst.out.kept.size)
            exact ⟨(W2.heap.size + 1), W2.heap.size, u, rfl, by omega, by omega, ⟨put_other sh5.dn (by omega), put_other sh5.bk (by omega), by rw [size_put]; exact sh5.lt⟩, Hst.out.bk.of_block (put_block 4 _ (by omega)) (by rw [size_put]; exact Hst.out.bk.lt)⟩
      | some d =>
        have hdz : d.size ≤ 1099511627776 := by obtain ⟨x, h1, h2⟩ := dataOf_mem hd; rw [← h2]; exact hz x h1
        unfold dataV
        obtain ⟨X1, hX⟩ : ∃ X1, (W3.setCell ⟨W2.heap.size + 1, 6, none⟩ (.string d)).setCell ⟨W2.heap.size + 1, 7, none⟩ (.bool true) = X1 := ⟨_, rfl⟩
        have hsh1 : ShAt X1 (W2.heap.size + 1) W2.heap.size d true := hX ▸ Hsh3.out.setSnap d true
        have hB1 : Below w.heap.size w X1 := hX ▸ (hB3.setCell (p := ⟨W2.heap.size + 1, 6, none⟩) (by show w.heap.size ≤ W2.heap.size + 1; omega) _).setCell (p := ⟨W2.heap.size + 1, 7, none⟩) (by show w.heap.size ≤ W2.heap.size + 1; omega) _
        have x0X : X1.cell? ⟨w.heap.size, 0, none⟩ = some (.int .i64 n) := by
          rw [← hX]
          exact (World.cell?_of_block (put_block 7 _ (show w.heap.size ≠ W2.heap.size + 1 by omega))).trans ((World.cell?_of_block (put_block 6 _ (show w.heap.size ≠ W2.heap.size + 1 by omega))).trans x0)
        have z6 := hsh1.sn
        have z7 := hsh1.hs
        have Hsh1 := hide hsh1
        clear hsh1 Hsh3 Hbk3
        have hx1l : w.heap.size < X1.heap.size := World.block_lt_of_cell? X1 ⟨w.heap.size, 0, none⟩ x0X
        go_wp2_with fail
        clear hX y6 y7 yf yl x0 hB3
        refine (refScan_any d X1 hdz).mono ?_
        rintro e W4 ⟨v0, rfl, hown, hb4⟩
        have hB4 : Below w.heap.size w W4 := hB1.trans (hb4.mono hB1.size)
        replace x0X := (hb4.cell (p := ⟨w.heap.size, 0, none⟩) hx1l).trans x0X
        have Hsh4 := hide (Hsh1.out.below hb4)
        replace z6 := Hsh4.out.sn
        replace z7 := Hsh4.out.hs
        have hx4l : w.heap.size < W4.heap.size := World.block_lt_of_cell? W4 ⟨w.heap.size, 0, none⟩ x0X
        obtain ⟨A, hA⟩ : ∃ A, Fr.all d.data.toList = A := ⟨_, rfl⟩
        rw [hA] at hown ⊢
        have HA := hide hA
        clear hA Hsh1 hb4 hB1 hx1l
        cases A with
        | nil =>
          obtain ⟨a0, cap0, rfl, _⟩ := row_form hown
          have hoo : OO = (4, none) := by
            rw [Ho.out]; unfold Md.snapBook; rw [hd]; dsimp only; rw [HA.out]
          have Hoo := hide hoo
          clear hoo
          go_wp2
          go_ret2
          exact ⟨hB4, by rw [Hoo.out]; rfl⟩
        | cons x A' =>
          cases A' with
          | cons y A'' =>
            obtain ⟨a0, cap0, rfl, hml⟩ := row_form hown
            have hne : ¬ (((x :: y :: A'').length : Nat) : Int) = 1 := by simp only [List.length_cons]; omega
            generalize (x :: y :: A'').length = L at hne hml ⊢
            generalize Fr.behind (x :: y :: A'') = E
            clear hown
            have hoo : OO = (4, none) := by
              rw [Ho.out]; unfold Md.snapBook; rw [hd]; dsimp only; rw [HA.out]
            have Hoo := hide hoo
            clear hoo
            go_wp2
            go_ret2
            exact ⟨hB4, by rw [Hoo.out]; rfl⟩
          | nil =>
            obtain ⟨g, cap0, rfl, _⟩ := row_form_pos hown (by simp)
            have hcell : W4.cell? ⟨g, 0, none⟩ = some (.string ⟨x.1.1.toArray⟩) := by
              rw [hown.cellAt 0 (by simp)]; simp [pv]
            have hbe : Fr.behind [x] = x.2 := rfl
            rw [hbe]
            obtain ⟨T, hT⟩ : ∃ T : ByteArray, (⟨x.1.1.toArray⟩ : ByteArray) = T := ⟨_, rfl⟩
            rw [hT] at hcell
            have hTd : T.data.toList = x.1.1 := by rw [← hT]
            have hgl := (hown.lt g rfl).2
            have Hx := hide hTd
            simp only [List.length_singleton]
            clear hown hbe hT hTd
            by_cases he : x.2 = d.size
            · have hsb : Md.snapBook l = Md.ofSnap T.data.toList := by
                unfold Md.snapBook; rw [hd]; dsimp only; rw [HA.out]; dsimp only; rw [if_pos he, Hx.out]
              have Hsb := hide hsb
              rw [he]
              clear hsb
              go_wp2_with fail
              refine (ofSnapshot_any T W4).mono ?_
              rintro e W5 ⟨hb5, hpost⟩
              have hB5 : Below w.heap.size w W5 := hB4.trans (hb5.mono hB4.size)
              replace x0X := (hb5.cell (p := ⟨w.heap.size, 0, none⟩) hx4l).trans x0X
              have Hsh5 := hide (Hsh4.out.below hb5)
              have hq5 : W2.heap.size + 1 < W4.heap.size := Hsh4.out.lt
              clear Hsh4 hcell z6 z7 hgl
              cases hof : Md.ofSnap T.data.toList with
              | none =>
                rw [hof] at hpost
                obtain ⟨u0, rfl⟩ := hpost
                have hoo : OO = (4, none) := by rw [Ho.out, Hsb.out, hof]
                have Hoo := hide hoo
                clear hoo
                go_wp2
                go_ret2
                exact ⟨hB5, by rw [Hoo.out]; rfl⟩
              | some Bs =>
                rw [hof] at hpost
                obtain ⟨pp, vv, rfl, hpge, hbk5, hrow5, hpvv⟩ := hpost
                have hoo : OO = (0, some (Md.replayL n (Md.lastN Bs n).count (payL lg) true 0 (Md.lastN Bs n) []).1) := by
                  rw [Ho.out, Hsb.out, hof, Hlg2.out]; rfl
                have Hoo := hide hoo
                obtain ⟨n', m', hokay, hBs⟩ := Md.ofSnap_some hof
                have hinv : Md.Inv (Md.lastN Bs n) n := by subst hBs; exact hokay.inv n
                have hcnt : 0 ≤ (Md.lastN Bs n).count ∧ (Md.lastN Bs n).count ≤ 1000000000 := by
                  have e : (Md.lastN Bs n).count = Md.numAt T.data.toList 0 := by subst hBs; exact (Md.rHolds_keep _ n').2.2.2
                  rw [e]
                  exact ⟨(Md.numAt_bd _ _).1, hokay.head.1⟩
                have hlen : Bs.past.length ≤ 20 := by
                  subst hBs
                  show (Md.pastsRd _ _ m').length ≤ 20
                  rw [Md.pastsRd_len]; exact hokay.np.2.1
                have HinvX := hide hinv
                have pa := hbk5.pa
                have fp := hbk5.fz
                have hpl := hbk5.lt
                have Hbk5 := hide hbk5
                have Hrow5 := hide hrow5
                have hpa5 := pastAt_of_row hrow5
                have Hpa5 := hide hpa5
                have hW45 : W4.heap.size ≤ W5.heap.size := hb5.size
                clear hoo hinv hokay hBs hbk5 hrow5 hof hpa5 hb5
                go_wp2_with fail
                go_region_with (go_at_call 40; refine (last_any vv Bs.past n W5.drew Hpa5.out (by omega) (by omega)).mono ?_; rintro e W6 ⟨v6, rfl, hrow6, hb6⟩; obtain ⟨L6, hL6⟩ : ∃ L6, (Bs.past.drop (Bs.past.length - n)).length = L6 := ⟨_, rfl⟩; rw [hL6] at hrow6; obtain ⟨a6, cap6, rfl, _⟩ := row_form hrow6; have pa6 := (hb6.cell (p := ⟨pp, 222, none⟩) hpl).trans pa; have fp6 := fun o => (hb6.frozen (p := ⟨pp, o, none⟩) hpl).trans (fp o))
                all_goals
                  have hz6 : W5.heap.size ≤ W6.heap.size := hb6.size
                  have sh6 := Hsh5.out.of_block (W' := W6) (hb6.block (W2.heap.size + 1) Hsh5.out.lt) (Nat.lt_of_lt_of_le Hsh5.out.lt hz6)
                  have sh7 := sh6.of_block (W' := W6.setCell ⟨pp, 222, none⟩ (.slice a6 L6 cap6)) (put_block 222 _ (show W2.heap.size + 1 ≠ pp by omega)) (by rw [size_put]; exact sh6.lt)
                  have s3 := sh7.bk
                  have sf := sh7.fz
                  obtain ⟨X, hX⟩ : ∃ X, (W6.setCell ⟨pp, 222, none⟩ (.slice a6 L6 cap6)).setCell ⟨W2.heap.size + 1, 3, none⟩ (.pointer (some ⟨pp, 0, none⟩)) = X := ⟨_, rfl⟩
                  have HshX : Hid (ShAt X (W2.heap.size + 1) pp d true) := hide (hX ▸ sh7.setBook pp)
                  have bk6 : BookAt W6 pp Bs vv := Hbk5.out.of_block (hb6.block pp hpl) (Nat.lt_of_lt_of_le hpl hz6)
                  have bk7 : BookAt (W6.setCell ⟨pp, 222, none⟩ (.slice a6 L6 cap6)) pp (Md.lastN Bs n) (.slice a6 L6 cap6) := (bk6.setPast _).past _
                  have HbkX : Hid (BookAt X pp (Md.lastN Bs n) (.slice a6 L6 cap6)) := hide (hX ▸ bk7.of_block (put_block 3 _ (show pp ≠ W2.heap.size + 1 by omega)) (by rw [size_put]; exact bk7.lt))
                  have hB6 : Below w.heap.size w W6 := hB5.trans (Below.mono (show Below W5.heap.size W5 W6 from ⟨hb6.os, hb6.tape, hb6.output, hb6.size, hb6.block⟩) hB5.size)
                  have hBX : Below w.heap.size w X := hX ▸ (hB6.setCell (p := ⟨pp, 222, none⟩) (by show w.heap.size ≤ pp; omega) _).setCell (p := ⟨W2.heap.size + 1, 3, none⟩) (by show w.heap.size ≤ W2.heap.size + 1; omega) _
                  have x6 : W6.cell? ⟨w.heap.size, 0, none⟩ = some (.int .i64 n) := (hb6.cell (p := ⟨w.heap.size, 0, none⟩) (show w.heap.size < W5.heap.size by omega)).trans x0X
                  have x0Y : X.cell? ⟨w.heap.size, 0, none⟩ = some (.int .i64 n) := by
                    rw [← hX]
                    exact (World.cell?_of_block (put_block 3 _ (show w.heap.size ≠ W2.heap.size + 1 by omega))).trans ((World.cell?_of_block (put_block 222 _ (show w.heap.size ≠ pp by omega))).trans x6)
                  have hv6 : ∀ k, (Value.slice a6 L6 cap6).ownBlock = some k → W5.heap.size ≤ k := fun k e => (hrow6.lt k e).1
                  have hrowX : X.ownsRow W5.heap.size 143 8 (.slice a6 L6 cap6) L6 (pastsC (Bs.past.drop (Bs.past.length - n))) := hX ▸ (World.ownsRow.kept (World.ownsRow.kept hrow6 (grown_put W6 pp 222 _) (.inr (fun e => by have := hv6 _ e; omega))) (grown_put _ (W2.heap.size + 1) 3 _) (.inr (fun e => by have := hv6 _ e; omega)))
                  have HrowX : Hid (X.ownsRow W5.heap.size 143 8 (.slice a6 L6 cap6) (Md.lastN Bs n).past.length (pastsC (Md.lastN Bs n).past)) := hide (by
                    show X.ownsRow W5.heap.size 143 8 (.slice a6 L6 cap6) (Bs.past.drop (Bs.past.length - n)).length (pastsC (Bs.past.drop (Bs.past.length - n)))
                    rw [hL6]; exact hrowX)
                  have hbase : W5.heap.size ≤ X.heap.size := by rw [← hX, size_put, size_put]; exact hz6
                  have hpv : (Value.slice a6 L6 cap6).ownBlock ≠ some pp := fun e => by have := hv6 _ e; omega
                  have hvw : ∀ k, (Value.slice a6 L6 cap6).ownBlock = some k → w.heap.size ≤ k := fun k e => by have := hv6 k e; omega
                  have hqv : some (W2.heap.size + 1) ≠ (Value.slice a6 L6 cap6).ownBlock := fun e => by have := hv6 _ e.symm; omega
                  have hqp : W2.heap.size + 1 ≠ pp := by omega
                  clear bk6 bk7 sh6 hrowX x6 hrow6 sh7 hB6 hb6 Hsh5 Hbk5 Hrow5 Hpa5 pa fp pa6 hL6
                  go_wp2_with fail
                  clear hX s3 sf fp6
                  refine (data_any v l Md.sLog X (Hf.out.below hBX)).mono ?_
                  rintro e W ⟨rfl, hW⟩
                  rw [hW, Hlg.out]
                  clear hW
                  go_wp2_with fail
                  have t3 := HshX.out.bk
                  have t4 := HshX.out.lo
                  have tf := HshX.out.fz
                  have tl := HshX.out.lt
                  go_region_with (go_at_call 41; refine (refReplay_any pp W5.heap.size (Md.lastN Bs n) (.slice a6 L6 cap6) lg n X.drew HbkX.out.drew HrowX.out hpv hbase HinvX.out (by omega) hcnt hlgz).mono ?_; rintro e W5 ⟨u, out, rfl, hout, hst⟩; have h5 := hst.kept.block (W2.heap.size + 1) tl hqp hqv; have t4' := (World.cell?_of_block (a := ⟨(W2.heap.size + 1), 4, none⟩) h5).trans t4; have tf' := fun o => (World.frozen?_of_block (a := ⟨(W2.heap.size + 1), o, none⟩) h5).trans (tf o); have tl' : (W2.heap.size + 1) < W5.heap.size := Nat.lt_of_lt_of_le tl hst.kept.size)
                  all_goals
                    have Hst := hide hst
                    clear hst
                    go_wp2
                    go_ret2
                    refine ⟨?_, ?_⟩
                    · refine Below.setCell (p := ⟨(W2.heap.size + 1), 4, none⟩) ?_ (by show w.heap.size ≤ (W2.heap.size + 1); omega) _
                      exact ⟨Hst.out.kept.os.trans hBX.os, Hst.out.kept.tape.trans hBX.tape, Hst.out.kept.output.trans hBX.output, Nat.le_trans hBX.size Hst.out.kept.size, fun k hk => (Hst.out.kept.block k (Nat.lt_of_lt_of_le hk hBX.size) (by omega) (fun e => by have := hvw k e.symm; omega)).trans (hBX.block k hk)⟩
                    · rw [Hoo.out]
                      have sh5 := HshX.out.of_block (W' := W5) (Hst.out.kept.block (W2.heap.size + 1) tl hqp hqv) (Nat.lt_of_lt_of_le tl Hst.out.kept.size)
                      exact ⟨(W2.heap.size + 1), pp, u, rfl, by omega, by omega, ⟨put_other sh5.dn (by omega), put_other sh5.bk (by omega), by rw [size_put]; exact sh5.lt⟩, Hst.out.bk.of_block (put_block 4 _ (by omega)) (by rw [size_put]; exact Hst.out.bk.lt)⟩
            · have hsb : Md.snapBook l = none := by
                unfold Md.snapBook; rw [hd]; dsimp only; rw [HA.out]; dsimp only; rw [if_neg he]
              have hoo : OO = (4, none) := by rw [Ho.out, hsb]
              have Hoo := hide hoo
              have he' : ((x.2 : Int) != (d.size : Int)) = true := by simp; omega
              clear hoo hsb he
              go_wp2
              go_ret2
              exact ⟨hB4, by rw [Hoo.out]; rfl⟩
end Go.Proofs.Ytidacihlalbohaa
