/- The program's reader of numbers, and what it calls a request. -/
import Derived.Test.YtidacihlalbohaaPBook
import Derived.Test.YtidacihlalbohaaRefDo
import Derived.Test.YtidacihlalbohaaSnapMath
namespace Go.Proofs.Ytidacihlalbohaa
open Go.RowKit

theorem put_block {W : World} {b : Nat} (o : Nat) (x : Value) {k : Nat} (hk : k ≠ b) : (W.setCell ⟨b, o, none⟩ x).heap[k]? = W.heap[k]? := by
  by_cases h : k < W.heap.size
  · exact grown_other b o x h hk
  · rw [Array.getElem?_eq_none (by rw [size_put]; omega), Array.getElem?_eq_none (by omega)]

/-- A reader lies in block q: it has taken i numbers of s. -/
structure RdAt (W : World) (q : Nat) (s : ByteArray) (i : Nat) (bad : Bool) : Prop where
  le : W.cell? ⟨q, 0, none⟩ = some (.string (s.extract (4 * i) s.size))
  ba : W.cell? ⟨q, 1, none⟩ = some (.bool bad)
  fz : ∀ o, W.frozen? ⟨q, o, none⟩ = false
  lt : q < W.heap.size

theorem RdAt.of_block {W W' : World} {q : Nat} {s : ByteArray} {i : Nat} {bad : Bool} (h : RdAt W q s i bad) (hb : W'.heap[q]? = W.heap[q]?) (hl : q < W'.heap.size) : RdAt W' q s i bad :=
  ⟨(World.cell?_of_block hb).trans h.le, (World.cell?_of_block hb).trans h.ba, fun o => (World.frozen?_of_block hb).trans (h.fz o), hl⟩
theorem RdAt.below {W W' : World} {q : Nat} {s : ByteArray} {i : Nat} {bad : Bool} (h : RdAt W q s i bad) (hb : Below W.heap.size W W') : RdAt W' q s i bad := h.of_block (hb.block q h.lt) (Nat.lt_of_lt_of_le h.lt hb.size)
/-- Has the text fewer than i numbers? -/
def Md.lack (s : ByteArray) (i : Nat) : Bool := decide (s.size < 4 * i)
theorem lack_or (b : Bool) (s : ByteArray) {i j : Nat} (h : i ≤ j) : (b || Md.lack s i || Md.lack s j) = (b || Md.lack s j) := by
  unfold Md.lack
  cases b with
  | true => rfl
  | false =>
    by_cases h1 : s.size < 4 * i
    · rw [decide_eq_true h1, decide_eq_true (show s.size < 4 * j by omega)]; rfl
    · rw [decide_eq_false h1]; rfl

theorem or_nat (a b : Nat) (ha : a < 4294967296) (hb : b < 4294967296) : bits .or .i64 (a : Int) (b : Int) = ((a ||| b : Nat) : Int) := by
  have h := Nat.or_lt_two_pow (x := a) (y := b) (n := 32) ha hb
  show IntKind.i64.wrap ((BitVec.ofInt 64 (a : Int) ||| BitVec.ofInt 64 (b : Int)).toNat : Nat) = _
  rw [BitVec.toNat_or, BitVec.toNat_ofInt, BitVec.toNat_ofInt]
  have e1 : ((a : Int) % ((2 ^ 64 : Nat) : Int)).toNat = a := by omega
  have e2 : ((b : Int) % ((2 ^ 64 : Nat) : Int)).toNat = b := by omega
  rw [e1, e2, IntKind.wrap_i64]
  omega
theorem or_add (k a b : Nat) (h : a < 2 ^ k) : a ||| (2 ^ k * b) = a + 2 ^ k * b := by
  rw [Nat.or_comm, ← Nat.two_pow_add_eq_or_of_lt h, Nat.add_comm]
theorem num_or (a b c d : Nat) (ha : a < 256) (hb : b < 256) (hc : c < 256) (hd : d < 256) : bits .or .i64 (bits .or .i64 (bits .or .i64 (a : Int) ((b : Int) * 256)) ((c : Int) * 65536)) ((d : Int) * 16777216) = (a : Int) + 256 * (b : Int) + 65536 * (c : Int) + 16777216 * (d : Int) := by
  have e1 := or_add 8 a b ha
  have e2 := or_add 16 (a + 2 ^ 8 * b) c (by omega)
  have e3 := or_add 24 (a + 2 ^ 8 * b + 2 ^ 16 * c) d (by omega)
  rw [show (b : Int) * 256 = ((2 ^ 8 * b : Nat) : Int) by omega, or_nat _ _ (by omega) (by omega), e1, show (c : Int) * 65536 = ((2 ^ 16 * c : Nat) : Int) by omega, or_nat _ _ (by omega) (by omega), e2,
    show (d : Int) * 16777216 = ((2 ^ 24 * d : Nat) : Int) by omega, or_nat _ _ (by omega) (by omega), e3]
  omega

theorem RdAt.empty {s : ByteArray} {i : Nat} (h : s.size ≤ 4 * i) : s.extract (4 * i) s.size = ⟨#[]⟩ := by
  apply ByteArray.ext; simp; omega
theorem RdAt.next {W : World} {q : Nat} {s : ByteArray} {i : Nat} {bad : Bool} (hr : RdAt W q s i bad) : RdAt (W.setCell ⟨q, 0, none⟩ (.string (s.extract (4 * (i + 1)) s.size))) q s (i + 1) bad :=
  ⟨by rw [cell_put (by rw [hr.le]; rfl), if_pos rfl], by rw [cell_put (by rw [hr.le]; rfl), if_neg (by omega)]; exact hr.ba, fun o => (World.frozen?_setCell _ _ _ _).trans (hr.fz o), by rw [size_put]; exact hr.lt⟩
theorem RdAt.spoil {W : World} {q : Nat} {s : ByteArray} {i : Nat} {bad : Bool} (hr : RdAt W q s i bad) : RdAt (W.setCell ⟨q, 1, none⟩ (.bool true)) q s i true :=
  ⟨by rw [cell_put (by rw [hr.ba]; rfl), if_neg (by omega)]; exact hr.le, by rw [cell_put (by rw [hr.ba]; rfl), if_pos rfl], fun o => (World.frozen?_setCell _ _ _ _).trans (hr.fz o), by rw [size_put]; exact hr.lt⟩
theorem RdAt.drewN {W : World} {q : Nat} {s : ByteArray} {i : Nat} {bad : Bool} (hr : RdAt W q s i bad) (n : Nat) : RdAt (W.drewN n) q s i bad := ⟨hr.le, hr.ba, hr.fz, hr.lt⟩

set_option maxRecDepth 100000 in
set_option maxHeartbeats 1000000 in
theorem next_any (q : Nat) (s : ByteArray) (i : Nat) (bad : Bool) (w : World) (hr : RdAt w q s i bad) :
    Calls Try.prog 88 #[.pointer (some ⟨q, 0, none⟩)] w fun e w' => e = .returned (.int .i64 (Md.numAt s.data.toList i)) ∧ RdAt w' q s (i + 1) (bad || Md.lack s (i + 1)) ∧ w.grownBy w' (some q) := by
  have c0 := hr.le
  have c1 := hr.ba
  have fz := hr.fz
  have hlt := hr.lt
  have Hr := hide hr
  clear hr
  by_cases hs : s.size < 4 * i + 4
  · have e : Md.numAt s.data.toList i = 0 := by unfold Md.numAt; rw [if_pos (by rw [Fr.size_list]; omega)]
    have e2 : Md.lack s (i + 1) = true := decide_eq_true (by omega)
    have h4 : ((s.size - 4 * i : Nat) : Int) < 4 := by omega
    have hE := RdAt.empty (s := s) (i := i + 1) (by omega)
    have HE := hide hE
    rw [e, e2]
    clear hE e e2
    go_enter Try.func88, Try.ntmps88
    go_wp2
    go_ret
    have h1 := Hr.out.next
    rw [HE.out] at h1
    exact ⟨rfl, by rw [Bool.or_true]; exact h1.spoil, grown_trans (grown_put w q 0 _) (grown_put _ q 1 _)⟩
  · have hz : 4 * i + 4 ≤ s.size := by omega
    have e2 : Md.lack s (i + 1) = false := decide_eq_false (by omega)
    rw [numAt_of s i hz, e2]
    have b0 := s[4 * i].toNat_lt
    have b1 := s[4 * i + 1].toNat_lt
    have b2 := s[4 * i + 2].toNat_lt
    have b3 := s[4 * i + 3].toNat_lt
    obtain ⟨T, hT⟩ : ∃ T, (s.extract (4 * i) s.size).extract 0 4 = T := ⟨_, rfl⟩
    have hTz : T.size = 4 := by rw [← hT]; simp; omega
    have r0 := run_idx T 0 0 rfl (by omega)
    have r1 := run_idx T 1 1 rfl (by omega)
    have r2 := run_idx T 2 2 rfl (by omega)
    have r3 := run_idx T 3 3 rfl (by omega)
    have g : ∀ j (hj : j < 4), T[j]'(by omega) = s[4 * i + j]'(by omega) := by
      intro j hj
      subst hT
      simp [ByteArray.getElem_extract]
    rw [g 0 (by omega)] at r0
    rw [g 1 (by omega)] at r1
    rw [g 2 (by omega)] at r2
    rw [g 3 (by omega)] at r3
    simp only [Nat.add_zero] at r0
    have HE : Hid ((s.extract (4 * i) s.size).extract 4 (s.size - 4 * i) = s.extract (4 * (i + 1)) s.size) := by
      apply hide
      rw [ByteArray.extract_extract]
      congr 1 <;> omega
    have hb := num_or s[4 * i].toNat s[4 * i + 1].toNat s[4 * i + 2].toNat s[4 * i + 3].toNat b0 b1 b2 b3
    generalize s[4 * i].toNat = d0 at *
    generalize s[4 * i + 1].toNat = d1 at *
    generalize s[4 * i + 2].toNat = d2 at *
    generalize s[4 * i + 3].toNat = d3 at *
    have h4 : 4 ≤ ((s.size - 4 * i : Nat) : Int) := by omega
    clear g hTz
    go_enter Try.func88, Try.ntmps88
    go_wp2_with fail
    clear hT
    go_quiet (fail)
    go_wp2
    go_ret
    exact ⟨rfl, by rw [Bool.or_false, HE.out]; exact (Hr.out.next).drewN _, grown_drewN (grown_put w q 0 _) _⟩

/-- A number that must lie from lo to hi. -/
def Md.bound (n lo hi : Int) : Int := if Md.inR n lo hi then n else 0

set_option maxHeartbeats 400000 in
theorem within_any (q : Nat) (s : ByteArray) (i : Nat) (bad : Bool) (lo hi : Int) (w : World) (hr : RdAt w q s i bad) :
    Calls Try.prog 83 #[.pointer (some ⟨q, 0, none⟩), .int .i64 lo, .int .i64 hi] w fun e w' => e = .returned (.int .i64 (Md.bound (Md.numAt s.data.toList i) lo hi)) ∧ RdAt w' q s (i + 1) (bad || Md.lack s (i + 1) || !Md.inR (Md.numAt s.data.toList i) lo hi) ∧ w.grownBy w' (some q) := by
  generalize hN : Md.numAt s.data.toList i = N
  have hnx := next_any q s i bad w hr
  rw [hN] at hnx
  clear hN
  by_cases h1 : N < lo
  · have eI : Md.inR N lo hi = false := by unfold Md.inR; rw [decide_eq_false (by omega)]; rfl
    have eB : Md.bound N lo hi = 0 := by unfold Md.bound; rw [eI]; rfl
    rw [eB, eI, Bool.not_false, Bool.or_true]
    clear eB eI
    go_enter Try.func83, Try.ntmps83
    go_wp2_with fail
    refine hnx.mono ?_
    rintro e W ⟨rfl, h2, hg⟩
    have c1 := h2.ba
    have fz := h2.fz
    have Hh := hide h2
    clear hnx h2
    go_wp2
    go_ret
    exact ⟨rfl, Hh.out.spoil, grown_trans hg (grown_put _ q 1 _)⟩
  · by_cases h3 : hi < N
    · have eI : Md.inR N lo hi = false := by unfold Md.inR; rw [decide_eq_false (show ¬ N ≤ hi by omega)]; simp
      have eB : Md.bound N lo hi = 0 := by unfold Md.bound; rw [eI]; rfl
      rw [eB, eI, Bool.not_false, Bool.or_true]
      clear eB eI
      go_enter Try.func83, Try.ntmps83
      go_wp2_with fail
      refine hnx.mono ?_
      rintro e W ⟨rfl, h2, hg⟩
      have c1 := h2.ba
      have fz := h2.fz
      have Hh := hide h2
      clear hnx h2
      go_wp2
      go_ret
      exact ⟨rfl, Hh.out.spoil, grown_trans hg (grown_put _ q 1 _)⟩
    · have eI : Md.inR N lo hi = true := by unfold Md.inR; rw [decide_eq_true (show lo ≤ N by omega), decide_eq_true (show N ≤ hi by omega)]; rfl
      have eB : Md.bound N lo hi = N := by unfold Md.bound; rw [eI]; rfl
      rw [eB, eI, Bool.not_true, Bool.or_false]
      clear eB eI
      go_enter Try.func83, Try.ntmps83
      go_wp2_with fail
      refine hnx.mono ?_
      rintro e W ⟨rfl, h2, hg⟩
      have Hh := hide h2
      clear hnx h2
      go_wp2
      go_ret
      exact ⟨rfl, Hh.out, hg⟩

theorem ended_any (q : Nat) (s : ByteArray) (i : Nat) (bad : Bool) (w : World) (hr : RdAt w q s i bad) :
    Calls Try.prog 86 #[.pointer (some ⟨q, 0, none⟩)] w fun e w' => e = .returned (.bool (!bad && decide (s.size ≤ 4 * i))) ∧ w' = w := by
  have c0 := hr.le
  have c1 := hr.ba
  clear hr
  have hq : ((s.extract (4 * i) s.size).toList == []) = decide (s.size ≤ 4 * i) := by
    rw [ByteArray.toList_eq]
    by_cases h : s.size ≤ 4 * i
    · rw [decide_eq_true h, RdAt.empty h]; rfl
    · rw [decide_eq_false h]
      have : (s.extract (4 * i) s.size).data.toList.length ≠ 0 := by rw [Fr.size_list]; simp; omega
      cases hl : (s.extract (4 * i) s.size).data.toList with
      | nil => rw [hl] at this; exact absurd rfl this
      | cons a l => rfl
  generalize hE : (!bad && decide (s.size ≤ 4 * i)) = E
  have HE := hide hE
  clear hE
  cases bad
  all_goals
    go_enter Try.func86, Try.ntmps86
    go_wp2
    go_ret
    exact ⟨by rw [← HE.out, ← hq]; rfl, rfl⟩

set_option maxRecDepth 100000 in
set_option maxHeartbeats 1000000 in
theorem request_any (q : Nat) (s : ByteArray) (i : Nat) (bad : Bool) (w : World) (hr : RdAt w q s i bad) :
    Calls Try.prog 89 #[.pointer (some ⟨q, 0, none⟩)] w fun e w' => e = .returned (.agg (reqA (Md.reqAt s.data.toList i))) ∧ RdAt w' q s (i + 6) (bad || Md.lack s (i + 6)) ∧ w.grownBy w' (some q) := by
  unfold reqA Md.reqAt
  have hlt := hr.lt
  have Hr := hide hr
  clear hr
  have hB0 : Below w.heap.size w (w.alloc (.cells #[.int .i64 0, .int .i64 0, .int .i64 0, .int .i64 0, .int .i64 0, .int .i64 0] 75)) := (Below.refl _ _).alloc (Nat.le_refl _) _
  have hr0 := Hr.out.below hB0
  have r0 : (w.alloc (.cells #[.int .i64 0, .int .i64 0, .int .i64 0, .int .i64 0, .int .i64 0, .int .i64 0] 75)).cell? ⟨w.heap.size, 0, none⟩ = some (.int .i64 0) := by simp [go_sem]
  have r1 : (w.alloc (.cells #[.int .i64 0, .int .i64 0, .int .i64 0, .int .i64 0, .int .i64 0, .int .i64 0] 75)).cell? ⟨w.heap.size, 1, none⟩ = some (.int .i64 0) := by simp [go_sem]
  have r2 : (w.alloc (.cells #[.int .i64 0, .int .i64 0, .int .i64 0, .int .i64 0, .int .i64 0, .int .i64 0] 75)).cell? ⟨w.heap.size, 2, none⟩ = some (.int .i64 0) := by simp [go_sem]
  have r3 : (w.alloc (.cells #[.int .i64 0, .int .i64 0, .int .i64 0, .int .i64 0, .int .i64 0, .int .i64 0] 75)).cell? ⟨w.heap.size, 3, none⟩ = some (.int .i64 0) := by simp [go_sem]
  have r4 : (w.alloc (.cells #[.int .i64 0, .int .i64 0, .int .i64 0, .int .i64 0, .int .i64 0, .int .i64 0] 75)).cell? ⟨w.heap.size, 4, none⟩ = some (.int .i64 0) := by simp [go_sem]
  have r5 : (w.alloc (.cells #[.int .i64 0, .int .i64 0, .int .i64 0, .int .i64 0, .int .i64 0, .int .i64 0] 75)).cell? ⟨w.heap.size, 5, none⟩ = some (.int .i64 0) := by simp [go_sem]
  have rf : ∀ o, (w.alloc (.cells #[.int .i64 0, .int .i64 0, .int .i64 0, .int .i64 0, .int .i64 0, .int .i64 0] 75)).frozen? ⟨w.heap.size, o, none⟩ = false := by intro o; simp [go_sem]
  have hsz : w.heap.size < (w.alloc (.cells #[.int .i64 0, .int .i64 0, .int .i64 0, .int .i64 0, .int .i64 0, .int .i64 0] 75)).heap.size := by simp
  go_enter Try.func89, Try.ntmps89
  go_wp2_with fail
  generalize w.alloc (.cells #[.int .i64 0, .int .i64 0, .int .i64 0, .int .i64 0, .int .i64 0, .int .i64 0] 75) = W0 at hB0 hr0 r0 r1 r2 r3 r4 r5 rf hsz ⊢
  refine (next_any q s i _ W0 hr0).mono ?_
  rintro e W1 ⟨rfl, j1, g1⟩
  go_wp2_with fail
  refine (next_any q s (i + 1) _ W1 j1).mono ?_
  rintro e W2 ⟨rfl, j2, g2⟩
  go_wp2_with fail
  refine (next_any q s (i + 2) _ W2 j2).mono ?_
  rintro e W3 ⟨rfl, j3, g3⟩
  go_wp2_with fail
  refine (next_any q s (i + 3) _ W3 j3).mono ?_
  rintro e W4 ⟨rfl, j4, g4⟩
  go_wp2_with fail
  refine (next_any q s (i + 4) _ W4 j4).mono ?_
  rintro e W5 ⟨rfl, j5, g5⟩
  go_wp2_with fail
  refine (next_any q s (i + 5) _ W5 j5).mono ?_
  rintro e W6 ⟨rfl, j6, g6⟩
  rw [lack_or _ s (show i + 1 ≤ i + 1 + 1 by omega), lack_or _ s (show i + 1 + 1 ≤ i + 2 + 1 by omega), lack_or _ s (show i + 2 + 1 ≤ i + 3 + 1 by omega), lack_or _ s (show i + 3 + 1 ≤ i + 4 + 1 by omega), lack_or _ s (show i + 4 + 1 ≤ i + 5 + 1 by omega)] at j6
  have g : W0.grownBy W6 (some q) := grown_trans g1 (grown_trans g2 (grown_trans g3 (grown_trans g4 (grown_trans g5 g6))))
  have hblk := g.block w.heap.size hsz (fun e => by cases e; omega)
  have hz6 : w.heap.size < W6.heap.size := Nat.lt_of_lt_of_le hsz g.size
  replace r0 := (World.cell?_of_block hblk).trans r0
  replace r1 := (World.cell?_of_block hblk).trans r1
  replace r2 := (World.cell?_of_block hblk).trans r2
  replace r3 := (World.cell?_of_block hblk).trans r3
  replace r4 := (World.cell?_of_block hblk).trans r4
  replace r5 := (World.cell?_of_block hblk).trans r5
  replace rf := fun o => (World.frozen?_of_block (a := ⟨w.heap.size, o, none⟩) hblk).trans (rf o)
  have hgw : w.grownBy W6 (some q) := grown_trans (grown_below hB0) g
  clear g1 g2 g3 g4 g5 g6 j1 j2 j3 j4 j5 hr0 g hblk hB0
  go_wp2
  obtain ⟨p0, p1, p2, p3, p4, p5⟩ := put6 r0 r1 r2 r3 r4 r5 (.int .i64 (Md.numAt s.data.toList i)) (.int .i64 (Md.numAt s.data.toList (i + 1))) (.int .i64 (Md.numAt s.data.toList (i + 2))) (.int .i64 (Md.numAt s.data.toList (i + 3))) (.int .i64 (Md.numAt s.data.toList (i + 4))) (.int .i64 (Md.numAt s.data.toList (i + 5)))
  have hF : w.grownBy ((((((W6.setCell ⟨w.heap.size, 0, none⟩ (.int .i64 (Md.numAt s.data.toList i))).setCell ⟨w.heap.size, 1, none⟩ (.int .i64 (Md.numAt s.data.toList (i + 1)))).setCell ⟨w.heap.size, 2, none⟩ (.int .i64 (Md.numAt s.data.toList (i + 2)))).setCell ⟨w.heap.size, 3, none⟩ (.int .i64 (Md.numAt s.data.toList (i + 3)))).setCell ⟨w.heap.size, 4, none⟩ (.int .i64 (Md.numAt s.data.toList (i + 4)))).setCell ⟨w.heap.size, 5, none⟩ (.int .i64 (Md.numAt s.data.toList (i + 5)))) (some q) := (grown_new (grown_new (grown_new (grown_new (grown_new (grown_new hgw w.heap.size 0 _ (Nat.le_refl _)) w.heap.size 1 _ (Nat.le_refl _)) w.heap.size 2 _ (Nat.le_refl _)) w.heap.size 3 _ (Nat.le_refl _)) w.heap.size 4 _ (Nat.le_refl _)) w.heap.size 5 _ (Nat.le_refl _))
  have hq : ((((((W6.setCell ⟨w.heap.size, 0, none⟩ (.int .i64 (Md.numAt s.data.toList i))).setCell ⟨w.heap.size, 1, none⟩ (.int .i64 (Md.numAt s.data.toList (i + 1)))).setCell ⟨w.heap.size, 2, none⟩ (.int .i64 (Md.numAt s.data.toList (i + 2)))).setCell ⟨w.heap.size, 3, none⟩ (.int .i64 (Md.numAt s.data.toList (i + 3)))).setCell ⟨w.heap.size, 4, none⟩ (.int .i64 (Md.numAt s.data.toList (i + 4)))).setCell ⟨w.heap.size, 5, none⟩ (.int .i64 (Md.numAt s.data.toList (i + 5)))).heap[q]? = W6.heap[q]? := by simp only [put_block _ _ (show q ≠ w.heap.size by omega)]
  generalize (((((W6.setCell ⟨w.heap.size, 0, none⟩ (.int .i64 (Md.numAt s.data.toList i))).setCell ⟨w.heap.size, 1, none⟩ (.int .i64 (Md.numAt s.data.toList (i + 1)))).setCell ⟨w.heap.size, 2, none⟩ (.int .i64 (Md.numAt s.data.toList (i + 2)))).setCell ⟨w.heap.size, 3, none⟩ (.int .i64 (Md.numAt s.data.toList (i + 3)))).setCell ⟨w.heap.size, 4, none⟩ (.int .i64 (Md.numAt s.data.toList (i + 4)))).setCell ⟨w.heap.size, 5, none⟩ (.int .i64 (Md.numAt s.data.toList (i + 5))) = F at p0 p1 p2 p3 p4 p5 hF hq ⊢
  have hq2 : q < F.heap.size := Nat.lt_of_lt_of_le hlt hF.size
  exact bodyPost_ret (v := .agg #[.int .i64 (Md.numAt s.data.toList i), .int .i64 (Md.numAt s.data.toList (i + 1)), .int .i64 (Md.numAt s.data.toList (i + 2)), .int .i64 (Md.numAt s.data.toList (i + 3)), .int .i64 (Md.numAt s.data.toList (i + 4)), .int .i64 (Md.numAt s.data.toList (i + 5))]) (by simp [results, Try.results89, go_sem, p0, p1, p2, p3, p4, p5]) rfl ⟨rfl, j6.of_block hq hq2, hF⟩
end Go.Proofs.Ytidacihlalbohaa
