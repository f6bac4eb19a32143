/- What the program calls a request. -/
import Derived.Test.YtidacihlalbohaaRefNum
namespace Go.Proofs.Ytidacihlalbohaa
open Go.RowKit

set_option maxHeartbeats 400000 in
theorem isCell_any (n : Int) (w : World) : Calls Try.prog 105 #[.int .i64 n] w fun e w' => e = .returned (.bool (Md.inR n 0 7)) ∧ w' = w := by
  unfold Md.inR
  by_cases h : 0 ≤ n
  · by_cases h2 : n ≤ 7
    all_goals
      go_enter Try.func105, Try.ntmps105
      go_wp2
      go_ret
      exact ⟨by simp [h, h2]; omega, rfl⟩
  · go_enter Try.func105, Try.ntmps105
    go_wp2
    go_ret
    exact ⟨by simp; omega, rfl⟩
set_option maxHeartbeats 400000 in
theorem isHold_any (n : Int) (w : World) : Calls Try.prog 107 #[.int .i64 n] w fun e w' => e = .returned (.bool (Md.inR n 1 50)) ∧ w' = w := by
  unfold Md.inR
  by_cases h : 1 ≤ n
  · by_cases h2 : n ≤ 50
    all_goals
      go_enter Try.func107, Try.ntmps107
      go_wp2
      go_ret
      exact ⟨by simp [h, h2], rfl⟩
  · go_enter Try.func107, Try.ntmps107
    go_wp2
    go_ret
    exact ⟨by simp; omega, rfl⟩
set_option maxHeartbeats 400000 in
theorem isCount_any (n : Int) (w : World) : Calls Try.prog 106 #[.int .i64 n] w fun e w' => e = .returned (.bool (Md.inR n 1 1000000)) ∧ w' = w := by
  unfold Md.inR
  by_cases h : 1 ≤ n
  · by_cases h2 : n ≤ 1000000
    all_goals
      go_enter Try.func106, Try.ntmps106
      go_wp2
      go_ret
      exact ⟨by simp [h, h2], rfl⟩
  · go_enter Try.func106, Try.ntmps106
    go_wp2
    go_ret
    exact ⟨by simp; omega, rfl⟩
set_option maxHeartbeats 400000 in
theorem isTime_any (n : Int) (w : World) : Calls Try.prog 108 #[.int .i64 n] w fun e w' => e = .returned (.bool (Md.inR n 0 1000000000)) ∧ w' = w := by
  unfold Md.inR
  by_cases h : 0 ≤ n
  · by_cases h2 : n ≤ 1000000000
    all_goals
      go_enter Try.func108, Try.ntmps108
      go_wp2
      go_ret
      exact ⟨by simp [h, h2], rfl⟩
  · go_enter Try.func108, Try.ntmps108
    go_wp2
    go_ret
    exact ⟨by simp; omega, rfl⟩

set_option maxRecDepth 100000 in
set_option maxHeartbeats 4000000 in
theorem isRequest_any (r : Md.Req) (w : World) : Calls Try.prog 93 #[.agg (reqA r)] w fun e w' => e = .returned (.bool (Md.good r)) ∧ Below w.heap.size w w' := by
  obtain ⟨id, kind, cell, hold, count, time⟩ := r
  unfold reqA
  dsimp only
  by_cases i1 : id < 1
  · have hid : Md.inR id 1 1000000000 = false := by unfold Md.inR; rw [decide_eq_false (by omega)]; rfl
    have hg : Md.good ⟨id, kind, cell, hold, count, time⟩ = false := by simp [Md.good, hid]
    rw [hg]
    clear hg hid
    go_enter Try.func93, Try.ntmps93
    go_wp2
    go_ret
    exact ⟨rfl, (Below.refl _ _).alloc (Nat.le_refl _) _⟩
  by_cases i2 : 1000000000 < id
  · have hid : Md.inR id 1 1000000000 = false := by unfold Md.inR; rw [decide_eq_false (show ¬ id ≤ 1000000000 by omega)]; simp
    have hg : Md.good ⟨id, kind, cell, hold, count, time⟩ = false := by simp [Md.good, hid]
    rw [hg]
    have i3 : 1 ≤ id := by omega
    clear hg hid
    go_enter Try.func93, Try.ntmps93
    go_wp2
    go_ret
    exact ⟨rfl, (Below.refl _ _).alloc (Nat.le_refl _) _⟩
  have hid : Md.inR id 1 1000000000 = true := by unfold Md.inR; rw [decide_eq_true (show 1 ≤ id by omega), decide_eq_true (show id ≤ 1000000000 by omega)]; rfl
  have i3 : 1 ≤ id := by omega
  have i4 : id ≤ 1000000000 := by omega
  clear i1 i2
  have hcase : kind = 0 ∨ kind = 1 ∨ kind = 2 ∨ kind = 3 ∨ kind = 4 ∨ (kind < 0 ∨ 4 < kind) := by omega
  rcases hcase with rfl | rfl | rfl | rfl | rfl | hk
  · have hg : Md.good ⟨id, 0, cell, hold, count, time⟩ = (Md.inR cell 0 7 && hold == 0 && Md.inR count 1 1000000 && time == 0) := by simp [Md.good, Md.cellOk, Md.holdOk, Md.countOk, Md.timeOk, hid]
    generalize Md.good ⟨id, 0, cell, hold, count, time⟩ = G at hg ⊢
    have HG := hide hg
    clear hg hid
    go_enter Try.func93, Try.ntmps93
    go_wp2_with (first | (refine (isCell_any _ _).mono ?_; rintro e W ⟨rfl, rfl⟩) | (refine (isHold_any _ _).mono ?_; rintro e W ⟨rfl, rfl⟩) | (refine (isCount_any _ _).mono ?_; rintro e W ⟨rfl, rfl⟩) | (refine (isTime_any _ _).mono ?_; rintro e W ⟨rfl, rfl⟩))
    all_goals
      go_ret
      exact ⟨by rw [HG.out]; simp [*], (Below.refl _ _).alloc (Nat.le_refl _) _⟩
  · have hg : Md.good ⟨id, 1, cell, hold, count, time⟩ = (Md.inR cell 0 7 && Md.inR hold 1 50 && Md.inR count 1 1000000 && Md.inR time 0 1000000000) := by simp [Md.good, Md.cellOk, Md.holdOk, Md.countOk, Md.timeOk, hid]
    generalize Md.good ⟨id, 1, cell, hold, count, time⟩ = G at hg ⊢
    have HG := hide hg
    clear hg hid
    go_enter Try.func93, Try.ntmps93
    go_wp2_with (first | (refine (isCell_any _ _).mono ?_; rintro e W ⟨rfl, rfl⟩) | (refine (isHold_any _ _).mono ?_; rintro e W ⟨rfl, rfl⟩) | (refine (isCount_any _ _).mono ?_; rintro e W ⟨rfl, rfl⟩) | (refine (isTime_any _ _).mono ?_; rintro e W ⟨rfl, rfl⟩))
    all_goals
      go_ret
      exact ⟨by rw [HG.out]; simp [*], (Below.refl _ _).alloc (Nat.le_refl _) _⟩
  · have hg : Md.good ⟨id, 2, cell, hold, count, time⟩ = (cell == 0 && Md.inR hold 1 50 && count == 0 && time == 0) := by simp [Md.good, Md.cellOk, Md.holdOk, Md.countOk, Md.timeOk, hid]
    generalize Md.good ⟨id, 2, cell, hold, count, time⟩ = G at hg ⊢
    have HG := hide hg
    clear hg hid
    go_enter Try.func93, Try.ntmps93
    go_wp2_with (first | (refine (isCell_any _ _).mono ?_; rintro e W ⟨rfl, rfl⟩) | (refine (isHold_any _ _).mono ?_; rintro e W ⟨rfl, rfl⟩) | (refine (isCount_any _ _).mono ?_; rintro e W ⟨rfl, rfl⟩) | (refine (isTime_any _ _).mono ?_; rintro e W ⟨rfl, rfl⟩))
    all_goals
      go_ret
      exact ⟨by rw [HG.out]; simp [*], (Below.refl _ _).alloc (Nat.le_refl _) _⟩
  · have hg : Md.good ⟨id, 3, cell, hold, count, time⟩ = (cell == 0 && Md.inR hold 1 50 && count == 0 && time == 0) := by simp [Md.good, Md.cellOk, Md.holdOk, Md.countOk, Md.timeOk, hid]
    generalize Md.good ⟨id, 3, cell, hold, count, time⟩ = G at hg ⊢
    have HG := hide hg
    clear hg hid
    go_enter Try.func93, Try.ntmps93
    go_wp2_with (first | (refine (isCell_any _ _).mono ?_; rintro e W ⟨rfl, rfl⟩) | (refine (isHold_any _ _).mono ?_; rintro e W ⟨rfl, rfl⟩) | (refine (isCount_any _ _).mono ?_; rintro e W ⟨rfl, rfl⟩) | (refine (isTime_any _ _).mono ?_; rintro e W ⟨rfl, rfl⟩))
    all_goals
      go_ret
      exact ⟨by rw [HG.out]; simp [*], (Below.refl _ _).alloc (Nat.le_refl _) _⟩
  · have hg : Md.good ⟨id, 4, cell, hold, count, time⟩ = (cell == 0 && hold == 0 && count == 0 && Md.inR time 0 1000000000) := by simp [Md.good, Md.cellOk, Md.holdOk, Md.countOk, Md.timeOk, hid]
    generalize Md.good ⟨id, 4, cell, hold, count, time⟩ = G at hg ⊢
    have HG := hide hg
    clear hg hid
    go_enter Try.func93, Try.ntmps93
    go_wp2_with (first | (refine (isCell_any _ _).mono ?_; rintro e W ⟨rfl, rfl⟩) | (refine (isHold_any _ _).mono ?_; rintro e W ⟨rfl, rfl⟩) | (refine (isCount_any _ _).mono ?_; rintro e W ⟨rfl, rfl⟩) | (refine (isTime_any _ _).mono ?_; rintro e W ⟨rfl, rfl⟩))
    all_goals
      go_ret
      exact ⟨by rw [HG.out]; simp [*], (Below.refl _ _).alloc (Nat.le_refl _) _⟩
  · have hg : Md.good ⟨id, kind, cell, hold, count, time⟩ = false := by
      unfold Md.good
      rcases hk with h | h
      · rw [decide_eq_false (show ¬ 0 ≤ kind by omega)]; simp
      · rw [decide_eq_false (show ¬ kind ≤ 4 by omega)]; simp
    rw [hg]
    have n0 : ¬ kind = 0 := by omega
    have n1 : ¬ kind = 1 := by omega
    have n2 : ¬ kind = 2 := by omega
    have n3 : ¬ kind = 3 := by omega
    have n4 : ¬ kind = 4 := by omega
    clear hg hk hid
    go_enter Try.func93, Try.ntmps93
    go_wp2
    go_ret
    exact ⟨rfl, (Below.refl _ _).alloc (Nat.le_refl _) _⟩
end Go.Proofs.Ytidacihlalbohaa
