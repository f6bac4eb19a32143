/- The program's book by value: its 333 cells. -/
import Derived.Test.YtidacihlalbohaaPNew
import Derived.Test.YtidacihlalbohaaPPasts
namespace Go.Proofs.Ytidacihlalbohaa
open Go.RowKit

/-- The o-th cell of a book. -/
def bookN (B : Md.Bk) (n : Nat) (o : Nat) : Int :=
  if o < 16 then (if o % 2 = 0 then B.onHand (o / 2) else B.committed (o / 2))
  else if o < 169 then (if (o - 16) % 3 = 0 then Md.pc B ((o - 16) / 3) else if (o - 16) % 3 = 1 then Md.pn B ((o - 16) / 3) else Md.pt B ((o - 16) / 3))
  else if o = 169 then B.clock else if o = 170 then B.count else if o = 171 then n
  else if o < 332 then intOf ((((B.past[(o - 172) / 8]?).map pastC).getD (List.replicate 8 (.int .i64 0))).getD ((o - 172) % 8) (.int .i64 0))
  else B.past.length
def bookL (B : Md.Bk) (n : Nat) : List Value := (List.range 333).map fun o => .int .i64 (bookN B n o)
theorem bookL_len (B : Md.Bk) (n : Nat) : (bookL B n).length = 333 := by simp [bookL]
theorem bookL_at (B : Md.Bk) (n o : Nat) (ho : o < 333) : (bookL B n)[o]? = some (.int .i64 (bookN B n o)) := by simp [bookL, ho]
theorem bookL_one (B : Md.Bk) (n : Nat) : ∀ v ∈ bookL B n, v.oneCell' = true := by
  intro v hv
  simp only [bookL, List.mem_map] at hv
  obtain ⟨o, _, rfl⟩ := hv
  rfl
theorem past_int (l : List Md.Past) (k o : Nat) (ho : o < 8) : ((((l[k]?).map pastC).getD (List.replicate 8 (.int .i64 0))).getD o (.int .i64 0)) = .int .i64 (intOf ((((l[k]?).map pastC).getD (List.replicate 8 (.int .i64 0))).getD o (.int .i64 0))) := by
  have h8 : o = 0 ∨ o = 1 ∨ o = 2 ∨ o = 3 ∨ o = 4 ∨ o = 5 ∨ o = 6 ∨ o = 7 := by omega
  cases l[k]? with
  | none => rcases h8 with rfl | rfl | rfl | rfl | rfl | rfl | rfl | rfl <;> rfl
  | some x => rcases h8 with rfl | rfl | rfl | rfl | rfl | rfl | rfl | rfl <;> rfl

theorem PBook.cellAt {W : World} {p : Nat} {B : Md.Bk} {n : Nat} (h : PBook W p B n) (o : Nat) (ho : o < 333) : W.cell? ⟨p, o, none⟩ = some (.int .i64 (bookN B n o)) := by
  unfold bookN
  by_cases h1 : o < 16
  · rw [if_pos h1]
    by_cases h2 : o % 2 = 0
    · rw [if_pos h2]
      have := h.on (o / 2) (by omega)
      rwa [show o / 2 * 2 = o by omega] at this
    · rw [if_neg h2]
      have := h.co (o / 2) (by omega)
      rwa [show o / 2 * 2 + 1 = o by omega] at this
  · rw [if_neg h1]
    by_cases h2 : o < 169
    · rw [if_pos h2]
      by_cases h3 : (o - 16) % 3 = 0
      · rw [if_pos h3]
        have := h.hc ((o - 16) / 3) (by omega)
        rwa [show 16 + (o - 16) / 3 * 3 = o by omega] at this
      · rw [if_neg h3]
        by_cases h4 : (o - 16) % 3 = 1
        · rw [if_pos h4]
          have := h.hn ((o - 16) / 3) (by omega)
          rwa [show 16 + (o - 16) / 3 * 3 + 1 = o by omega] at this
        · rw [if_neg h4]
          have := h.ht ((o - 16) / 3) (by omega)
          rwa [show 16 + (o - 16) / 3 * 3 + 2 = o by omega] at this
    · rw [if_neg h2]
      by_cases h3 : o = 169
      · rw [if_pos h3, h3]; exact h.cl
      · rw [if_neg h3]
        by_cases h4 : o = 170
        · rw [if_pos h4, h4]; exact h.cn
        · rw [if_neg h4]
          by_cases h5 : o = 171
          · rw [if_pos h5, h5]; exact h.wi
          · rw [if_neg h5]
            by_cases h6 : o < 332
            · rw [if_pos h6, ← past_int _ _ _ (Nat.mod_lt _ (by omega))]
              have := h.pa ((o - 172) / 8) (by omega) ((o - 172) % 8) (Nat.mod_lt _ (by omega))
              rwa [show 172 + (o - 172) / 8 * 8 + (o - 172) % 8 = o by omega] at this
            · rw [if_neg h6, show o = 332 by omega]; exact h.re
theorem PBook.range {W : World} {p : Nat} {B : Md.Bk} {n : Nat} (h : PBook W p B n) : W.rangeAt p 0 (bookL B n) := by
  intro j v hv
  have hj : j < 333 := by have := (List.getElem?_eq_some_iff.1 hv).1; rwa [bookL_len] at this
  rw [bookL_at B n j hj] at hv
  cases hv
  rw [Nat.zero_add]
  exact h.cellAt j hj
/-- Cells that lie so are that book. -/
theorem PBook.ofCells {W : World} {p : Nat} {B : Md.Bk} {n : Nat} (h : ∀ o, o < 333 → W.cell? ⟨p, o, none⟩ = some (.int .i64 (bookN B n o))) (hf : ∀ o, W.frozen? ⟨p, o, none⟩ = false) (hl : p < W.heap.size) : PBook W p B n := by
  refine ⟨fun i hi => ?_, fun i hi => ?_, fun k hk => ?_, fun k hk => ?_, fun k hk => ?_, ?_, ?_, ?_, fun k hk o ho => ?_, ?_, hf, hl⟩
  · rw [h _ (by omega)]; unfold bookN; rw [if_pos (by omega), if_pos (by omega), show i * 2 / 2 = i by omega]
  · rw [h _ (by omega)]; unfold bookN; rw [if_pos (by omega), if_neg (by omega), show (i * 2 + 1) / 2 = i by omega]
  · rw [h _ (by omega)]; unfold bookN; rw [if_neg (by omega), if_pos (by omega), if_pos (by omega), show (16 + k * 3 - 16) / 3 = k by omega]
  · rw [h _ (by omega)]; unfold bookN; rw [if_neg (by omega), if_pos (by omega), if_neg (by omega), if_pos (by omega), show (16 + k * 3 + 1 - 16) / 3 = k by omega]
  · rw [h _ (by omega)]; unfold bookN; rw [if_neg (by omega), if_pos (by omega), if_neg (by omega), if_neg (by omega), show (16 + k * 3 + 2 - 16) / 3 = k by omega]
  · rw [h _ (by omega)]; rfl
  · rw [h _ (by omega)]; rfl
  · rw [h _ (by omega)]; rfl
  · rw [h _ (by omega)]; unfold bookN; rw [if_neg (by omega), if_neg (by omega), if_neg (by omega), if_neg (by omega), if_neg (by omega), if_pos (by omega), show (172 + k * 8 + o - 172) / 8 = k by omega, show (172 + k * 8 + o - 172) % 8 = o by omega, ← past_int _ _ _ ho]
  · rw [h _ (by omega)]; rfl
/-- The same book, told otherwise. -/
theorem PBook.congr {W : World} {p : Nat} {B C : Md.Bk} {n : Nat} (h : PBook W p B n) (e1 : ∀ i, i < 8 → B.onHand i = C.onHand i) (e2 : ∀ i, i < 8 → B.committed i = C.committed i) (e3 : B.live = C.live) (e4 : B.hc = C.hc) (e5 : B.hn = C.hn) (e6 : B.ht = C.ht) (e7 : B.clock = C.clock) (e8 : B.count = C.count) (e9 : B.past = C.past) : PBook W p C n := by
  refine ⟨fun i hi => ?_, fun i hi => ?_, fun k hk => ?_, fun k hk => ?_, fun k hk => ?_, ?_, ?_, ?_, fun k hk o ho => ?_, ?_, h.fz, h.lt⟩
  · rw [← e1 i hi]; exact h.on i hi
  · rw [← e2 i hi]; exact h.co i hi
  · have := h.hc k hk; unfold Md.pc at this ⊢; rw [← e3, ← e4]; exact this
  · have := h.hn k hk; unfold Md.pn at this ⊢; rw [← e3, ← e5]; exact this
  · have := h.ht k hk; unfold Md.pt at this ⊢; rw [← e3, ← e6]; exact this
  · rw [← e7]; exact h.cl
  · rw [← e8]; exact h.cn
  · exact h.wi
  · rw [← e9]; exact h.pa k hk o ho
  · rw [← e9]; exact h.re

theorem infoBook' (B : Md.Bk) (n : Nat) : (Try.prog.info? 82).map (·.size) = some (bookL B n).length := by rw [bookL_len]; kernel_rfl
/-- A book stored by value. -/
theorem PBook.stored {W : World} {p : Nat} (B : Md.Bk) (n : Nat) (ht : W.there p 0 333) (hf : ∀ o, W.frozen? ⟨p, o, none⟩ = false) : PBook (W.setCells p 0 (bookL B n)) p B n := by
  have hs : ∀ j, j < (bookL B n).length → (W.cell? ⟨p, 0 + j, none⟩).isSome = true := fun j hj => (ht j (by rwa [bookL_len] at hj)).1
  refine PBook.ofCells (fun o ho => ?_) (fun o => (World.frozen?_setCells p (bookL B n) 0 W _).trans (hf o)) ?_
  · have h := World.cell?_setCells_in p (bookL B n) 0 W hs o (by rw [bookL_len]; exact ho)
    rw [Nat.zero_add] at h
    rw [h]
    have h2 := bookL_at B n o ho
    rwa [List.getElem?_eq_getElem (by rw [bookL_len]; exact ho)] at h2
  · rw [size_setCells]
    obtain ⟨v, hv⟩ := Option.isSome_iff_exists.1 (ht 0 (by omega)).1
    exact World.block_lt_of_cell? W ⟨p, 0 + 0, none⟩ hv
end Go.Proofs.Ytidacihlalbohaa

/- What Restore comes to, without the machine. -/
namespace Go.Proofs.Ytidacihlalbohaa
open Go.RowKit
namespace Md

/-- The reader's flag behind the head and j cells. -/
def badC (s : ByteArray) : Nat → Bool
  | 0 => false || lack s (0 + 1) || !inR (numAt s.data.toList 0) 0 1000000000 || lack s (1 + 1) || !inR (numAt s.data.toList 1) 0 1000000000
  | j + 1 => badC s j || lack s (2 + 2 * j + 1) || !inR (numAt s.data.toList (2 + 2 * j)) 0 1000000000 || lack s (3 + 2 * j + 1) || !inR (numAt s.data.toList (3 + 2 * j)) 0 1000000000
/-- The book behind the head and j cells. -/
def cFold (s : List UInt8) : Nat → Bk
  | 0 => { bk0 with count := bound (numAt s 0) 0 1000000000, clock := bound (numAt s 1) 0 1000000000 }
  | j + 1 => { cFold s j with onHand := upd (cFold s j).onHand j (bound (numAt s (2 + 2 * j)) 0 1000000000), committed := upd (cFold s j).committed j (bound (numAt s (3 + 2 * j)) 0 1000000000) }
theorem cFold_keep (s : List UInt8) : ∀ j, (cFold s j).live = (fun _ => false) ∧ (cFold s j).hc = (fun _ => 0) ∧ (cFold s j).hn = (fun _ => 0) ∧ (cFold s j).ht = (fun _ => 0) ∧ (cFold s j).past = [] ∧ (cFold s j).count = bound (numAt s 0) 0 1000000000 ∧ (cFold s j).clock = bound (numAt s 1) 0 1000000000 := by
  intro j
  induction j with
  | zero => exact ⟨rfl, rfl, rfl, rfl, rfl, rfl, rfl⟩
  | succ j ih => exact ih
theorem cFold_on (s : List UInt8) : ∀ j i, i < j → (cFold s j).onHand i = bound (numAt s (2 + 2 * i)) 0 1000000000 ∧ (cFold s j).committed i = bound (numAt s (3 + 2 * i)) 0 1000000000 := by
  intro j
  induction j with
  | zero => intro i hi; omega
  | succ j ih =>
    intro i hi
    unfold cFold
    dsimp only
    by_cases e : i = j
    · subst e; rw [upd_eq, upd_eq]; exact ⟨rfl, rfl⟩
    · rw [upd_ne _ _ _ _ e, upd_ne _ _ _ _ e]; exact ih i (by omega)
theorem inR_num {s : List UInt8} {i : Nat} {hi : Int} : inR (numAt s i) 0 hi = true ↔ numAt s i ≤ hi := by
  have := (numAt_bd s i).1
  rw [inR_true]; omega
theorem badC_false (s : ByteArray) : ∀ j, badC s j = false ↔ okHead s.data.toList ∧ okCells s.data.toList j ∧ lack s (2 + 2 * j) = false := by
  intro j
  induction j with
  | zero =>
    unfold badC okHead okCells
    simp only [Bool.or_eq_false_iff, Bool.not_eq_false', inR_num]
    constructor
    · rintro ⟨⟨⟨⟨_, _⟩, h1⟩, h2⟩, h3⟩; exact ⟨⟨h1, h3⟩, fun i hi => by omega, h2⟩
    · rintro ⟨⟨h1, h3⟩, _, h2⟩; exact ⟨⟨⟨⟨trivial, lack_mono h2 (by omega)⟩, h1⟩, h2⟩, h3⟩
  | succ j ih =>
    unfold badC
    simp only [Bool.or_eq_false_iff, Bool.not_eq_false', inR_num]
    rw [ih]
    constructor
    · rintro ⟨⟨⟨⟨⟨h1, h2, h3⟩, h4⟩, h5⟩, h6⟩, h7⟩
      refine ⟨h1, fun i hi => ?_, by rwa [show 2 + 2 * (j + 1) = 3 + 2 * j + 1 by omega]⟩
      by_cases e : i = j
      · subst e; exact ⟨h5, h7⟩
      · exact h2 i (by omega)
    · rintro ⟨h1, h2, h3⟩
      have h4 := h2 j (by omega)
      exact ⟨⟨⟨⟨⟨h1, fun i hi => h2 i (by omega), lack_mono h3 (by omega)⟩, lack_mono h3 (by omega)⟩, h4.1⟩, lack_mono h3 (by omega)⟩, h4.2⟩
theorem hOk_iff {s : List UInt8} {clock : Int} {j : Nat} (hc : clock = numAt s 1) : hOk s clock j ↔ okHold s j := by
  unfold hOk okHold
  have b1 : (0 : Int) ≤ hCell s j := (numAt_bd s (19 + 4 * j + 1)).1
  rw [inR_true, inR_true, inR_true, inR_true, hc]
  constructor
  · rintro ⟨⟨h1, h2⟩, ⟨_, h3⟩, ⟨h4, h5⟩, ⟨h6, h7⟩⟩; exact ⟨h1, h2, h3, h4, h5, h6, h7⟩
  · rintro ⟨h1, h2, h3, h4, h5, h6, h7⟩; exact ⟨⟨h1, h2⟩, ⟨b1, h3⟩, ⟨h4, h5⟩, ⟨h6, h7⟩⟩
theorem hFold_eq (s : List UInt8) (B : Bk) (h1 : B.live = (fun _ => false)) (h2 : B.hc = (fun _ => 0)) (h3 : B.hn = (fun _ => 0)) (h4 : B.ht = (fun _ => 0)) : ∀ k,
    (hFold s B k).live = (rHolds s k).live ∧ (hFold s B k).hc = (rHolds s k).hc ∧ (hFold s B k).hn = (rHolds s k).hn ∧ (hFold s B k).ht = (rHolds s k).ht ∧ (hFold s B k).onHand = B.onHand ∧ (hFold s B k).committed = B.committed ∧ (hFold s B k).clock = B.clock ∧ (hFold s B k).count = B.count := by
  intro k
  induction k with
  | zero => exact ⟨h1, h2, h3, h4, rfl, rfl, rfl, rfl⟩
  | succ k ih =>
    obtain ⟨i1, i2, i3, i4, i5, i6, i7, i8⟩ := ih
    unfold hFold rHolds putHold
    dsimp only
    rw [i1, i2, i3, i4, i5, i6, i7, i8]
    exact ⟨rfl, rfl, rfl, rfl, rfl, rfl, rfl, rfl⟩
theorem rHolds_l0 {s : List UInt8} : ∀ k, okHolds s k → (rHolds s k).live 0 = false := by
  intro k
  induction k with
  | zero => intro _; rfl
  | succ k ih =>
    intro h
    have hk := h k (by omega)
    have := prevNo_nonneg s k
    unfold rHolds putHold
    dsimp only
    rw [upd_ne _ _ _ _ (by have := hk.1; omega)]
    exact ih (fun j hj => h j (by omega))
end Md

/-- What holds when all is read: good, or what was bad. -/
theorem rest_good {W1 W2 : World} {p q : Nat} {s : ByteArray} {n m : Nat} {num : Int} {badH badP : Bool} {B' : Md.Bk} {l : List Md.Past}
    (hn : (Md.bound (Md.numAt s.data.toList 18) 0 50).toNat = n) (hH : HSt W1 p q s (Md.cFold s.data.toList 8) 20 (Md.badC s 8 || Md.lack s 19 || !Md.inR (Md.numAt s.data.toList 18) 0 50) n num badH B')
    (hm : (Md.bound (Md.numAt s.data.toList (19 + 4 * n)) 0 (min 20 B'.count)).toNat = m)
    (hP : PSt W2 p q s B' (19 + 4 * n + 1) (badH || Md.lack s (19 + 4 * n + 1) || !Md.inR (Md.numAt s.data.toList (19 + 4 * n)) 0 (min 20 B'.count)) m badP l) (hb : badP = false) :
    Md.okHead s.data.toList ∧ Md.okCells s.data.toList 8 ∧ (Md.numAt s.data.toList 18 = n ∧ n ≤ 50) ∧ Md.okHolds s.data.toList n ∧ (Md.numAt s.data.toList (19 + 4 * n) = m ∧ m ≤ 20 ∧ (m : Int) ≤ Md.numAt s.data.toList 0) ∧ Md.okPasts s.data.toList (20 + 4 * n) m ∧ Md.lack s (20 + 4 * n + 8 * m) = false ∧ PBook W2 p (Md.rBook s.data.toList n m) 20 := by
  obtain ⟨p1, p2, p3, p4⟩ := hP.good hb
  simp only [Bool.or_eq_false_iff, Bool.not_eq_false'] at p1
  obtain ⟨⟨q1, q2⟩, q3⟩ := p1
  obtain ⟨r1, r2, r3, r4, r5⟩ := hH.good q1
  simp only [Bool.or_eq_false_iff, Bool.not_eq_false'] at r1
  obtain ⟨⟨s1, s2⟩, s3⟩ := r1
  obtain ⟨t1, t2, t3⟩ := (Md.badC_false s 8).1 s1
  obtain ⟨k1, k2, k3, k4, k5, k6, k7⟩ := Md.cFold_keep s.data.toList 8
  have e0 : (Md.cFold s.data.toList 8).count = Md.numAt s.data.toList 0 := by rw [k6, Md.bound_in (Md.inR_num.2 t1.1)]
  have e1 : (Md.cFold s.data.toList 8).clock = Md.numAt s.data.toList 1 := by rw [k7, Md.bound_in (Md.inR_num.2 t1.2)]
  have hcn : B'.count = Md.numAt s.data.toList 0 := by rw [hH.cn, e0]
  rw [Md.bound_in s3] at hn
  rw [Md.bound_in q3] at hm
  have b18 := (Md.numAt_bd s.data.toList 18).1
  have b19 := (Md.numAt_bd s.data.toList (19 + 4 * n)).1
  rw [Md.inR_true] at s3 q3
  rw [hcn] at q3
  have hol : Md.okHolds s.data.toList n := fun j hj => (Md.hOk_iff e1).1 (r2 j hj)
  obtain ⟨f1, f2, f3, f4, f5, f6, f7, f8⟩ := Md.hFold_eq s.data.toList _ k1 k2 k3 k4 n
  obtain ⟨u1, u2, u3, u4⟩ := Md.rHolds_keep s.data.toList n
  refine ⟨t1, t2, ⟨by omega, by omega⟩, hol, ⟨by omega, by omega, by omega⟩, by rwa [show 19 + 4 * n + 1 = 20 + 4 * n by omega] at p2, by rwa [show 19 + 4 * n + 1 + 8 * m = 20 + 4 * n + 8 * m by omega] at p4, ?_⟩
  refine hP.bk.congr (fun i hi => ?_) (fun i hi => ?_) ?_ ?_ ?_ ?_ ?_ ?_ ?_
  · show B'.onHand i = (Md.rHolds s.data.toList n).onHand i
    rw [hH.on, (Md.cFold_on s.data.toList 8 i hi).1, u1, Md.bound_in (Md.inR_num.2 (t2 i hi).1)]; rfl
  · show B'.committed i = (Md.rHolds s.data.toList n).committed i
    rw [hH.co, (Md.cFold_on s.data.toList 8 i hi).2, u2, Md.bound_in (Md.inR_num.2 (t2 i hi).2)]; rfl
  · show B'.live = _; rw [r3, f1]; rfl
  · show B'.hc = _; rw [r3, f2]; rfl
  · show B'.hn = _; rw [r3, f3]; rfl
  · show B'.ht = _; rw [r3, f4]; rfl
  · show B'.clock = (Md.rHolds s.data.toList n).clock; rw [hH.cl, e1, u3]
  · show B'.count = (Md.rHolds s.data.toList n).count; rw [hcn, u4]
  · show l = Md.pastsRd s.data.toList (20 + 4 * n) m; rw [p3, show 19 + 4 * n + 1 = 20 + 4 * n by omega]

theorem rest_fine {W1 W2 : World} {p q : Nat} {s : ByteArray} {n m : Nat} {num : Int} {badH badP : Bool} {B' : Md.Bk} {l : List Md.Past}
    (hn : (Md.bound (Md.numAt s.data.toList 18) 0 50).toNat = n) (hH : HSt W1 p q s (Md.cFold s.data.toList 8) 20 (Md.badC s 8 || Md.lack s 19 || !Md.inR (Md.numAt s.data.toList 18) 0 50) n num badH B')
    (hm : (Md.bound (Md.numAt s.data.toList (19 + 4 * n)) 0 (min 20 B'.count)).toNat = m)
    (hP : PSt W2 p q s B' (19 + 4 * n + 1) (badH || Md.lack s (19 + 4 * n + 1) || !Md.inR (Md.numAt s.data.toList (19 + 4 * n)) 0 (min 20 B'.count)) m badP l)
    {n' m' : Nat} (ho : Md.Okay s.data.toList n' m') : n' = n ∧ m' = m ∧ badP = false := by
  have hz : s.size = 4 * (20 + 4 * n' + 8 * m') := by have := ho.len; rwa [Fr.size_list] at this
  have hlk : ∀ i, i ≤ 20 + 4 * n' + 8 * m' → Md.lack s i = false := fun i hi => decide_eq_false (by omega)
  have g18 := ho.nh
  have i18 : Md.inR (Md.numAt s.data.toList 18) 0 50 = true := Md.inR_num.2 (by omega)
  have en : n' = n := by rw [Md.bound_in i18] at hn; omega
  subst en
  obtain ⟨k1, k2, k3, k4, k5, k6, k7⟩ := Md.cFold_keep s.data.toList 8
  have e0 : (Md.cFold s.data.toList 8).count = Md.numAt s.data.toList 0 := by rw [k6, Md.bound_in (Md.inR_num.2 ho.head.1)]
  have e1 : (Md.cFold s.data.toList 8).clock = Md.numAt s.data.toList 1 := by rw [k7, Md.bound_in (Md.inR_num.2 ho.head.2)]
  have hcn : B'.count = Md.numAt s.data.toList 0 := by rw [hH.cn, e0]
  have bC : Md.badC s 8 = false := (Md.badC_false s 8).2 ⟨ho.head, ho.cells, hlk _ (by omega)⟩
  have bH : badH = false := hH.fine (by rw [bC, hlk 19 (by omega), i18]; rfl) (fun j hj => (Md.hOk_iff e1).2 (ho.holds j hj)) (hlk _ (by omega))
  have gp := ho.np
  have ip : Md.inR (Md.numAt s.data.toList (19 + 4 * n')) 0 (min 20 B'.count) = true := by rw [Md.inR_true, hcn]; omega
  have em : m' = m := by rw [Md.bound_in ip] at hm; omega
  subst em
  refine ⟨rfl, rfl, hP.fine (by rw [bH, hlk _ (by omega), ip]; rfl) ?_ (hlk _ (by omega))⟩
  rw [show 19 + 4 * n' + 1 = 20 + 4 * n' by omega]; exact ho.pasts
end Go.Proofs.Ytidacihlalbohaa
