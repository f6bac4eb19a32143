/- What the program does for any request that is one. -/
import Derived.Test.YtidacihlalbohaaPTick
namespace Go.Proofs.Ytidacihlalbohaa
open Go.RowKit

namespace Md
/-- What becomes of a request that is not remembered: the book behind it, and the reply. -/
def act (B : Bk) (r : Req) : Bk × Rep := if can B r then ((change B r).1, ⟨0, (change B r).2⟩) else (B, ⟨1, 0⟩)
end Md

set_option maxRecDepth 100000 in
set_option maxHeartbeats 2000000 in
theorem pDo_receive (p : Nat) (B B' : Md.Bk) (n : Nat) (id cell hold count time a c : Int) (w : World) (hb : PBook w p B n)
    (hsub : ∀ W, PBook W p B n → Calls Try.prog 100 #[.pointer (some ⟨p, 0, none⟩), .agg #[.int .i64 id, .int .i64 0, .int .i64 cell, .int .i64 hold, .int .i64 count, .int .i64 time]] W fun e w' => e = .returned (.agg #[.int .i64 a, .int .i64 c]) ∧ PBook w' p B' n ∧ W.grownBy w' (some p)) :
    Calls Try.prog 91 #[.pointer (some ⟨p, 0, none⟩), .agg #[.int .i64 id, .int .i64 0, .int .i64 cell, .int .i64 hold, .int .i64 count, .int .i64 time]] w fun e w' => e = .returned (.agg #[.int .i64 a, .int .i64 c]) ∧ PBook w' p B' n ∧ w.grownBy w' (some p) := by
  obtain ⟨hq, hr, hB⟩ := box_both w ⟨id, 0, cell, hold, count, time⟩
  dsimp only at hq hr hB
  have hbV := hb.below hB
  have hpw := hb.lt
  clear hb
  go_enter Try.func91, Try.ntmps91
  go_wp2_with fail
  generalize (w.alloc (.cells #[.int .i64 id, .int .i64 0, .int .i64 cell, .int .i64 hold, .int .i64 count, .int .i64 time] 75)).alloc (.cells #[.int .i64 0, .int .i64 0] 77) = V at hq hr hB hbV ⊢
  refine (hsub V hbV).mono ?_
  rintro e W1 ⟨rfl, hb1, hg1⟩
  have hR1 := hr.of_block (W' := W1) (hg1.block (w.heap.size + 1) hr.lt (fun e => by cases e; omega)) (Nat.lt_of_lt_of_le hr.lt hg1.size)
  obtain ⟨r0, r1, rf, rl⟩ := hR1
  have Hb1 := hide hb1
  have hg2 := grown_trans (grown_below hB) hg1
  clear hb1 hg1 hbV hq hr hsub
  go_wp2
  have hE := rep_close hg2 Hb1.out ⟨r0, r1, rf, rl⟩ hpw (.int .i64 a) (.int .i64 c)
  generalize (W1.setCell ⟨w.heap.size + 1, 0, none⟩ (.int .i64 a)).setCell ⟨w.heap.size + 1, 1, none⟩ (.int .i64 c) = F at hE ⊢
  obtain ⟨e1, e2, e3, e4, e5⟩ := hE
  exact bodyPost_ret (v := .agg #[.int .i64 a, .int .i64 c]) (by simp [results, Try.results91, go_sem, e3, e4]) rfl ⟨rfl, e1, e2⟩

set_option maxRecDepth 100000 in
set_option maxHeartbeats 2000000 in
theorem pDo_reserve (p : Nat) (B B' : Md.Bk) (n : Nat) (id cell hold count time a c : Int) (w : World) (hb : PBook w p B n)
    (hsub : ∀ W, PBook W p B n → Calls Try.prog 101 #[.pointer (some ⟨p, 0, none⟩), .agg #[.int .i64 id, .int .i64 1, .int .i64 cell, .int .i64 hold, .int .i64 count, .int .i64 time]] W fun e w' => e = .returned (.agg #[.int .i64 a, .int .i64 c]) ∧ PBook w' p B' n ∧ W.grownBy w' (some p)) :
    Calls Try.prog 91 #[.pointer (some ⟨p, 0, none⟩), .agg #[.int .i64 id, .int .i64 1, .int .i64 cell, .int .i64 hold, .int .i64 count, .int .i64 time]] w fun e w' => e = .returned (.agg #[.int .i64 a, .int .i64 c]) ∧ PBook w' p B' n ∧ w.grownBy w' (some p) := by
  obtain ⟨hq, hr, hB⟩ := box_both w ⟨id, 1, cell, hold, count, time⟩
  dsimp only at hq hr hB
  have hbV := hb.below hB
  have hpw := hb.lt
  clear hb
  go_enter Try.func91, Try.ntmps91
  go_wp2_with fail
  generalize (w.alloc (.cells #[.int .i64 id, .int .i64 1, .int .i64 cell, .int .i64 hold, .int .i64 count, .int .i64 time] 75)).alloc (.cells #[.int .i64 0, .int .i64 0] 77) = V at hq hr hB hbV ⊢
  refine (hsub V hbV).mono ?_
  rintro e W1 ⟨rfl, hb1, hg1⟩
  have hR1 := hr.of_block (W' := W1) (hg1.block (w.heap.size + 1) hr.lt (fun e => by cases e; omega)) (Nat.lt_of_lt_of_le hr.lt hg1.size)
  obtain ⟨r0, r1, rf, rl⟩ := hR1
  have Hb1 := hide hb1
  have hg2 := grown_trans (grown_below hB) hg1
  clear hb1 hg1 hbV hq hr hsub
  go_wp2
  have hE := rep_close hg2 Hb1.out ⟨r0, r1, rf, rl⟩ hpw (.int .i64 a) (.int .i64 c)
  generalize (W1.setCell ⟨w.heap.size + 1, 0, none⟩ (.int .i64 a)).setCell ⟨w.heap.size + 1, 1, none⟩ (.int .i64 c) = F at hE ⊢
  obtain ⟨e1, e2, e3, e4, e5⟩ := hE
  exact bodyPost_ret (v := .agg #[.int .i64 a, .int .i64 c]) (by simp [results, Try.results91, go_sem, e3, e4]) rfl ⟨rfl, e1, e2⟩

set_option maxRecDepth 100000 in
set_option maxHeartbeats 2000000 in
theorem pDo_commit (p : Nat) (B B' : Md.Bk) (n : Nat) (id cell hold count time a c : Int) (w : World) (hb : PBook w p B n)
    (hsub : ∀ W, PBook W p B n → Calls Try.prog 102 #[.pointer (some ⟨p, 0, none⟩), .int .i64 hold] W fun e w' => e = .returned (.agg #[.int .i64 a, .int .i64 c]) ∧ PBook w' p B' n ∧ W.grownBy w' (some p)) :
    Calls Try.prog 91 #[.pointer (some ⟨p, 0, none⟩), .agg #[.int .i64 id, .int .i64 2, .int .i64 cell, .int .i64 hold, .int .i64 count, .int .i64 time]] w fun e w' => e = .returned (.agg #[.int .i64 a, .int .i64 c]) ∧ PBook w' p B' n ∧ w.grownBy w' (some p) := by
  obtain ⟨hq, hr, hB⟩ := box_both w ⟨id, 2, cell, hold, count, time⟩
  dsimp only at hq hr hB
  have hbV := hb.below hB
  have hpw := hb.lt
  clear hb
  go_enter Try.func91, Try.ntmps91
  go_wp2_with fail
  generalize (w.alloc (.cells #[.int .i64 id, .int .i64 2, .int .i64 cell, .int .i64 hold, .int .i64 count, .int .i64 time] 75)).alloc (.cells #[.int .i64 0, .int .i64 0] 77) = V at hq hr hB hbV ⊢
  refine (hsub V hbV).mono ?_
  rintro e W1 ⟨rfl, hb1, hg1⟩
  have hR1 := hr.of_block (W' := W1) (hg1.block (w.heap.size + 1) hr.lt (fun e => by cases e; omega)) (Nat.lt_of_lt_of_le hr.lt hg1.size)
  obtain ⟨r0, r1, rf, rl⟩ := hR1
  have Hb1 := hide hb1
  have hg2 := grown_trans (grown_below hB) hg1
  clear hb1 hg1 hbV hq hr hsub
  go_wp2
  have hE := rep_close hg2 Hb1.out ⟨r0, r1, rf, rl⟩ hpw (.int .i64 a) (.int .i64 c)
  generalize (W1.setCell ⟨w.heap.size + 1, 0, none⟩ (.int .i64 a)).setCell ⟨w.heap.size + 1, 1, none⟩ (.int .i64 c) = F at hE ⊢
  obtain ⟨e1, e2, e3, e4, e5⟩ := hE
  exact bodyPost_ret (v := .agg #[.int .i64 a, .int .i64 c]) (by simp [results, Try.results91, go_sem, e3, e4]) rfl ⟨rfl, e1, e2⟩

set_option maxRecDepth 100000 in
set_option maxHeartbeats 2000000 in
theorem pDo_release (p : Nat) (B B' : Md.Bk) (n : Nat) (id cell hold count time a c : Int) (w : World) (hb : PBook w p B n)
    (hsub : ∀ W, PBook W p B n → Calls Try.prog 103 #[.pointer (some ⟨p, 0, none⟩), .int .i64 hold] W fun e w' => e = .returned (.agg #[.int .i64 a, .int .i64 c]) ∧ PBook w' p B' n ∧ W.grownBy w' (some p)) :
    Calls Try.prog 91 #[.pointer (some ⟨p, 0, none⟩), .agg #[.int .i64 id, .int .i64 3, .int .i64 cell, .int .i64 hold, .int .i64 count, .int .i64 time]] w fun e w' => e = .returned (.agg #[.int .i64 a, .int .i64 c]) ∧ PBook w' p B' n ∧ w.grownBy w' (some p) := by
  obtain ⟨hq, hr, hB⟩ := box_both w ⟨id, 3, cell, hold, count, time⟩
  dsimp only at hq hr hB
  have hbV := hb.below hB
  have hpw := hb.lt
  clear hb
  go_enter Try.func91, Try.ntmps91
  go_wp2_with fail
  generalize (w.alloc (.cells #[.int .i64 id, .int .i64 3, .int .i64 cell, .int .i64 hold, .int .i64 count, .int .i64 time] 75)).alloc (.cells #[.int .i64 0, .int .i64 0] 77) = V at hq hr hB hbV ⊢
  refine (hsub V hbV).mono ?_
  rintro e W1 ⟨rfl, hb1, hg1⟩
  have hR1 := hr.of_block (W' := W1) (hg1.block (w.heap.size + 1) hr.lt (fun e => by cases e; omega)) (Nat.lt_of_lt_of_le hr.lt hg1.size)
  obtain ⟨r0, r1, rf, rl⟩ := hR1
  have Hb1 := hide hb1
  have hg2 := grown_trans (grown_below hB) hg1
  clear hb1 hg1 hbV hq hr hsub
  go_wp2
  have hE := rep_close hg2 Hb1.out ⟨r0, r1, rf, rl⟩ hpw (.int .i64 a) (.int .i64 c)
  generalize (W1.setCell ⟨w.heap.size + 1, 0, none⟩ (.int .i64 a)).setCell ⟨w.heap.size + 1, 1, none⟩ (.int .i64 c) = F at hE ⊢
  obtain ⟨e1, e2, e3, e4, e5⟩ := hE
  exact bodyPost_ret (v := .agg #[.int .i64 a, .int .i64 c]) (by simp [results, Try.results91, go_sem, e3, e4]) rfl ⟨rfl, e1, e2⟩

set_option maxRecDepth 100000 in
set_option maxHeartbeats 2000000 in
theorem pDo_tick (p : Nat) (B B' : Md.Bk) (n : Nat) (id cell hold count time a c : Int) (w : World) (hb : PBook w p B n)
    (hsub : ∀ W, PBook W p B n → Calls Try.prog 104 #[.pointer (some ⟨p, 0, none⟩), .int .i64 time] W fun e w' => e = .returned (.agg #[.int .i64 a, .int .i64 c]) ∧ PBook w' p B' n ∧ W.grownBy w' (some p)) :
    Calls Try.prog 91 #[.pointer (some ⟨p, 0, none⟩), .agg #[.int .i64 id, .int .i64 4, .int .i64 cell, .int .i64 hold, .int .i64 count, .int .i64 time]] w fun e w' => e = .returned (.agg #[.int .i64 a, .int .i64 c]) ∧ PBook w' p B' n ∧ w.grownBy w' (some p) := by
  obtain ⟨hq, hr, hB⟩ := box_both w ⟨id, 4, cell, hold, count, time⟩
  dsimp only at hq hr hB
  have hbV := hb.below hB
  have hpw := hb.lt
  clear hb
  go_enter Try.func91, Try.ntmps91
  go_wp2_with fail
  generalize (w.alloc (.cells #[.int .i64 id, .int .i64 4, .int .i64 cell, .int .i64 hold, .int .i64 count, .int .i64 time] 75)).alloc (.cells #[.int .i64 0, .int .i64 0] 77) = V at hq hr hB hbV ⊢
  refine (hsub V hbV).mono ?_
  rintro e W1 ⟨rfl, hb1, hg1⟩
  have hR1 := hr.of_block (W' := W1) (hg1.block (w.heap.size + 1) hr.lt (fun e => by cases e; omega)) (Nat.lt_of_lt_of_le hr.lt hg1.size)
  obtain ⟨r0, r1, rf, rl⟩ := hR1
  have Hb1 := hide hb1
  have hg2 := grown_trans (grown_below hB) hg1
  clear hb1 hg1 hbV hq hr hsub
  go_wp2
  have hE := rep_close hg2 Hb1.out ⟨r0, r1, rf, rl⟩ hpw (.int .i64 a) (.int .i64 c)
  generalize (W1.setCell ⟨w.heap.size + 1, 0, none⟩ (.int .i64 a)).setCell ⟨w.heap.size + 1, 1, none⟩ (.int .i64 c) = F at hE ⊢
  obtain ⟨e1, e2, e3, e4, e5⟩ := hE
  exact bodyPost_ret (v := .agg #[.int .i64 a, .int .i64 c]) (by simp [results, Try.results91, go_sem, e3, e4]) rfl ⟨rfl, e1, e2⟩

theorem of_below {P : Program} {f : FuncId} {args : Array Value} {W : World} {p : Nat} {B : Md.Bk} {n : Nat} {v : Value} (hb : PBook W p B n) (h : Calls P f args W fun e w' => e = .returned v ∧ Below W.heap.size W w') :
    Calls P f args W fun e w' => e = .returned v ∧ PBook w' p B n ∧ W.grownBy w' (some p) :=
  h.mono fun _ _ hh => ⟨hh.1, hb.below hh.2, grown_below hh.2⟩

theorem pDo_any (p : Nat) (B : Md.Bk) (n : Nat) (r : Md.Req) (w : World) (hg : Md.good r = true) (hb : PBook w p B n) (hv : Md.Inv B n) (hw : 1 ≤ n ∧ n ≤ 20) :
    Calls Try.prog 91 #[.pointer (some ⟨p, 0, none⟩), .agg (reqA r)] w fun e w' => e = .returned (.agg (repA (Md.act B r).2)) ∧ PBook w' p (Md.act B r).1 n ∧ w.grownBy w' (some p) := by
  obtain ⟨id, kind, cell, hold, count, time⟩ := r
  have hok := hv.okb hw
  simp only [Md.good, Md.cellOk, Md.holdOk, Md.countOk, Md.timeOk, Bool.and_eq_true, decide_eq_true_eq] at hg
  obtain ⟨⟨⟨⟨⟨⟨_, h2⟩, h3⟩, h4⟩, h5⟩, h6⟩, h7⟩ := hg
  unfold reqA repA Md.act Md.change Md.can
  dsimp only
  have hk : kind = 0 ∨ kind = 1 ∨ kind = 2 ∨ kind = 3 ∨ kind = 4 := by omega
  rcases hk with rfl | rfl | rfl | rfl | rfl
  · simp [Md.inR] at h2 h3 h4 h5
    obtain ⟨c, rfl⟩ := Int.eq_ofNat_of_zero_le h2.1
    subst h3 h5
    by_cases hc : B.onHand c + count ≤ 1000000000
    · have hd : decide (B.onHand c ≤ 1000000000 - count) = true := decide_eq_true (by omega)
      simp only [if_true, Int.toNat_natCast, hd]
      exact pDo_receive p B _ n id c 0 count 0 0 _ w hb (fun W hW => pReceive p B n id count c W (by omega) hW hv h4.1 h4.2 hc)
    · have hd : decide (B.onHand c ≤ 1000000000 - count) = false := decide_eq_false (by omega)
      simp only [if_true, Int.toNat_natCast, hd]
      exact pDo_receive p B B n id c 0 count 0 1 0 w hb (fun W hW => of_below hW (pReceive_no p B n id count c W (by omega) hW hv h4.1 h4.2 (by omega)))
  · simp [Md.inR] at h2 h3 h4 h5
    obtain ⟨c, rfl⟩ := Int.eq_ofNat_of_zero_le h2.1
    obtain ⟨h, rfl⟩ := Int.eq_ofNat_of_zero_le (show 0 ≤ hold by omega)
    cases hcan : ((!B.live h && decide (B.clock < time)) && decide (count ≤ Md.free B c)) with
    | true =>
      have hc3 := hcan
      simp only [Bool.and_eq_true, Bool.not_eq_true', decide_eq_true_eq] at hc3
      simpa [hcan] using pDo_reserve p B _ n id c h count time 0 _ w hb (fun W hW => pReserve p B n id count time c h W (by omega) (by omega) (by omega) hW hv hc3.1.1 hc3.1.2 h4.1 h4.2 hc3.2)
    | false =>
      simpa [hcan] using pDo_reserve p B B n id c h count time 1 0 w hb (fun W hW => of_below hW (pReserve_no p B n id count time c h W (by omega) (by omega) hW hv hcan))
  · simp [Md.inR] at h2 h3 h4 h5
    obtain ⟨h, rfl⟩ := Int.eq_ofNat_of_zero_le (show 0 ≤ hold by omega)
    subst h2 h4 h5
    cases hl : B.live h with
    | true => simpa [hl] using pDo_commit p B _ n id 0 h 0 0 0 _ w hb (fun W hW => pCommit_yes p B n h W (by omega) hW hok hl)
    | false => simpa [hl] using pDo_commit p B B n id 0 h 0 0 1 0 w hb (fun W hW => of_below hW (pCommit_no p B n h W (by omega) hW hok hl))
  · simp [Md.inR] at h2 h3 h4 h5
    obtain ⟨h, rfl⟩ := Int.eq_ofNat_of_zero_le (show 0 ≤ hold by omega)
    subst h2 h4 h5
    cases hl : B.live h with
    | true => simpa [hl] using pDo_release p B _ n id 0 h 0 0 0 _ w hb (fun W hW => pRelease_yes p B n h W (by omega) hW (fun e => hok.hn h (by omega) e) hl)
    | false => simpa [hl] using pDo_release p B B n id 0 h 0 0 1 0 w hb (fun W hW => of_below hW (pRelease_no p B n h W (by omega) hW (fun e => hok.hn h (by omega) e) hl))
  · simp [Md.inR] at h2 h3 h4 h5
    subst h2 h3 h4
    by_cases hc : B.clock ≤ time
    · simpa [hc] using pDo_tick p B _ n id 0 0 0 time 0 _ w hb (fun W hW => pTick p B n time W hW hv hc)
    · simpa [hc] using pDo_tick p B B n id 0 0 0 time 1 0 w hb (fun W hW => of_below hW (pTick_no p B n time W hW (by omega)))
end Go.Proofs.Ytidacihlalbohaa
