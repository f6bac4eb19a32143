/- What the document's own Good returns, by the kind of the request. -/
import Derived.Test.YtidacihlalbohaaRefNum
namespace Go.Proofs.Ytidacihlalbohaa
open Go.RowKit


set_option maxRecDepth 100000 in
set_option maxHeartbeats 2000000 in
theorem good_k0 (id cell hold count time : Int) (w : World) :
    Calls Try.prog 69 #[.agg #[.int .i64 id, .int .i64 0, .int .i64 cell, .int .i64 hold, .int .i64 count, .int .i64 time]] w fun e w' => e = .returned (.bool (Md.good ⟨id, 0, cell, hold, count, time⟩)) ∧ Below w.heap.size w w' := by
  have Hg : Hid (Md.good ⟨id, 0, cell, hold, count, time⟩ = (Md.inR id 1 1000000000 && Md.inR cell 0 7 && (hold == 0) && Md.inR count 1 1000000 && (time == 0))) := by
    unfold Hid
    simp [Md.good, Md.cellOk, Md.holdOk, Md.countOk, Md.timeOk]
  go_enter Try.func69, Try.ntmps69
  go_wp2_with fail
  refine (in_any _ _ _ _).mono ?_
  rintro e w1 ⟨rfl, rfl⟩
  go_wp2_with fail
  refine (in_any _ _ _ _).mono ?_
  rintro e w1 ⟨rfl, rfl⟩
  go_wp2_with fail
  refine (in_any _ _ _ _).mono ?_
  rintro e w1 ⟨rfl, rfl⟩
  go_wp2_with fail
  refine (in_any _ _ _ _).mono ?_
  rintro e w1 ⟨rfl, rfl⟩
  go_wp2_with fail
  refine (in_any _ _ _ _).mono ?_
  rintro e w1 ⟨rfl, rfl⟩
  generalize Md.inR id 1 1000000000 = b0 at Hg ⊢
  generalize Md.inR cell 0 7 = b1 at Hg ⊢
  generalize (hold == 0) = b2 at Hg ⊢
  generalize Md.inR count 1 1000000 = b3 at Hg ⊢
  generalize (time == 0) = b4 at Hg ⊢
  by_cases h0 : b0 = false
  · subst h0
    go_wp2
    go_ret
    exact ⟨by rw [Hg.out]; rfl, (Below.refl _ _).alloc (Nat.le_refl _) _⟩
  obtain rfl : b0 = true := by cases b0 <;> simp_all
  by_cases h1 : b1 = false
  · subst h1
    go_wp2
    go_ret
    exact ⟨by rw [Hg.out]; rfl, (Below.refl _ _).alloc (Nat.le_refl _) _⟩
  obtain rfl : b1 = true := by cases b1 <;> simp_all
  by_cases h2 : b2 = false
  · subst h2
    go_wp2
    go_ret
    exact ⟨by rw [Hg.out]; rfl, (Below.refl _ _).alloc (Nat.le_refl _) _⟩
  obtain rfl : b2 = true := by cases b2 <;> simp_all
  by_cases h3 : b3 = false
  · subst h3
    go_wp2
    go_ret
    exact ⟨by rw [Hg.out]; rfl, (Below.refl _ _).alloc (Nat.le_refl _) _⟩
  obtain rfl : b3 = true := by cases b3 <;> simp_all
  by_cases h4 : b4 = false
  · subst h4
    go_wp2
    go_ret
    exact ⟨by rw [Hg.out]; rfl, (Below.refl _ _).alloc (Nat.le_refl _) _⟩
  obtain rfl : b4 = true := by cases b4 <;> simp_all
  go_wp2
  go_ret
  exact ⟨by rw [Hg.out]; rfl, (Below.refl _ _).alloc (Nat.le_refl _) _⟩

set_option maxRecDepth 100000 in
set_option maxHeartbeats 2000000 in
theorem good_k1 (id cell hold count time : Int) (w : World) :
    Calls Try.prog 69 #[.agg #[.int .i64 id, .int .i64 1, .int .i64 cell, .int .i64 hold, .int .i64 count, .int .i64 time]] w fun e w' => e = .returned (.bool (Md.good ⟨id, 1, cell, hold, count, time⟩)) ∧ Below w.heap.size w w' := by
  have Hg : Hid (Md.good ⟨id, 1, cell, hold, count, time⟩ = (Md.inR id 1 1000000000 && Md.inR cell 0 7 && Md.inR hold 1 50 && Md.inR count 1 1000000 && Md.inR time 0 1000000000)) := by
    unfold Hid
    simp [Md.good, Md.cellOk, Md.holdOk, Md.countOk, Md.timeOk]
  go_enter Try.func69, Try.ntmps69
  go_wp2_with fail
  refine (in_any _ _ _ _).mono ?_
  rintro e w1 ⟨rfl, rfl⟩
  go_wp2_with fail
  refine (in_any _ _ _ _).mono ?_
  rintro e w1 ⟨rfl, rfl⟩
  go_wp2_with fail
  refine (in_any _ _ _ _).mono ?_
  rintro e w1 ⟨rfl, rfl⟩
  go_wp2_with fail
  refine (in_any _ _ _ _).mono ?_
  rintro e w1 ⟨rfl, rfl⟩
  go_wp2_with fail
  refine (in_any _ _ _ _).mono ?_
  rintro e w1 ⟨rfl, rfl⟩
  generalize Md.inR id 1 1000000000 = b0 at Hg ⊢
  generalize Md.inR cell 0 7 = b1 at Hg ⊢
  generalize Md.inR hold 1 50 = b2 at Hg ⊢
  generalize Md.inR count 1 1000000 = b3 at Hg ⊢
  generalize Md.inR time 0 1000000000 = b4 at Hg ⊢
  by_cases h0 : b0 = false
  · subst h0
    go_wp2
    go_ret
    exact ⟨by rw [Hg.out]; rfl, (Below.refl _ _).alloc (Nat.le_refl _) _⟩
  obtain rfl : b0 = true := by cases b0 <;> simp_all
  by_cases h1 : b1 = false
  · subst h1
    go_wp2
    go_ret
    exact ⟨by rw [Hg.out]; rfl, (Below.refl _ _).alloc (Nat.le_refl _) _⟩
  obtain rfl : b1 = true := by cases b1 <;> simp_all
  by_cases h2 : b2 = false
  · subst h2
    go_wp2
    go_ret
    exact ⟨by rw [Hg.out]; rfl, (Below.refl _ _).alloc (Nat.le_refl _) _⟩
  obtain rfl : b2 = true := by cases b2 <;> simp_all
  by_cases h3 : b3 = false
  · subst h3
    go_wp2
    go_ret
    exact ⟨by rw [Hg.out]; rfl, (Below.refl _ _).alloc (Nat.le_refl _) _⟩
  obtain rfl : b3 = true := by cases b3 <;> simp_all
  by_cases h4 : b4 = false
  · subst h4
    go_wp2
    go_ret
    exact ⟨by rw [Hg.out]; rfl, (Below.refl _ _).alloc (Nat.le_refl _) _⟩
  obtain rfl : b4 = true := by cases b4 <;> simp_all
  go_wp2
  go_ret
  exact ⟨by rw [Hg.out]; rfl, (Below.refl _ _).alloc (Nat.le_refl _) _⟩

set_option maxRecDepth 100000 in
set_option maxHeartbeats 2000000 in
theorem good_k2 (id cell hold count time : Int) (w : World) :
    Calls Try.prog 69 #[.agg #[.int .i64 id, .int .i64 2, .int .i64 cell, .int .i64 hold, .int .i64 count, .int .i64 time]] w fun e w' => e = .returned (.bool (Md.good ⟨id, 2, cell, hold, count, time⟩)) ∧ Below w.heap.size w w' := by
  have Hg : Hid (Md.good ⟨id, 2, cell, hold, count, time⟩ = (Md.inR id 1 1000000000 && (cell == 0) && Md.inR hold 1 50 && (count == 0) && (time == 0))) := by
    unfold Hid
    simp [Md.good, Md.cellOk, Md.holdOk, Md.countOk, Md.timeOk]
  go_enter Try.func69, Try.ntmps69
  go_wp2_with fail
  refine (in_any _ _ _ _).mono ?_
  rintro e w1 ⟨rfl, rfl⟩
  go_wp2_with fail
  refine (in_any _ _ _ _).mono ?_
  rintro e w1 ⟨rfl, rfl⟩
  go_wp2_with fail
  refine (in_any _ _ _ _).mono ?_
  rintro e w1 ⟨rfl, rfl⟩
  go_wp2_with fail
  refine (in_any _ _ _ _).mono ?_
  rintro e w1 ⟨rfl, rfl⟩
  go_wp2_with fail
  refine (in_any _ _ _ _).mono ?_
  rintro e w1 ⟨rfl, rfl⟩
  generalize Md.inR id 1 1000000000 = b0 at Hg ⊢
  generalize (cell == 0) = b1 at Hg ⊢
  generalize Md.inR hold 1 50 = b2 at Hg ⊢
  generalize (count == 0) = b3 at Hg ⊢
  generalize (time == 0) = b4 at Hg ⊢
  by_cases h0 : b0 = false
  · subst h0
    go_wp2
    go_ret
    exact ⟨by rw [Hg.out]; rfl, (Below.refl _ _).alloc (Nat.le_refl _) _⟩
  obtain rfl : b0 = true := by cases b0 <;> simp_all
  by_cases h1 : b1 = false
  · subst h1
    go_wp2
    go_ret
    exact ⟨by rw [Hg.out]; rfl, (Below.refl _ _).alloc (Nat.le_refl _) _⟩
  obtain rfl : b1 = true := by cases b1 <;> simp_all
  by_cases h2 : b2 = false
  · subst h2
    go_wp2
    go_ret
    exact ⟨by rw [Hg.out]; rfl, (Below.refl _ _).alloc (Nat.le_refl _) _⟩
  obtain rfl : b2 = true := by cases b2 <;> simp_all
  by_cases h3 : b3 = false
  · subst h3
    go_wp2
    go_ret
    exact ⟨by rw [Hg.out]; rfl, (Below.refl _ _).alloc (Nat.le_refl _) _⟩
  obtain rfl : b3 = true := by cases b3 <;> simp_all
  by_cases h4 : b4 = false
  · subst h4
    go_wp2
    go_ret
    exact ⟨by rw [Hg.out]; rfl, (Below.refl _ _).alloc (Nat.le_refl _) _⟩
  obtain rfl : b4 = true := by cases b4 <;> simp_all
  go_wp2
  go_ret
  exact ⟨by rw [Hg.out]; rfl, (Below.refl _ _).alloc (Nat.le_refl _) _⟩

set_option maxRecDepth 100000 in
set_option maxHeartbeats 2000000 in
theorem good_k3 (id cell hold count time : Int) (w : World) :
    Calls Try.prog 69 #[.agg #[.int .i64 id, .int .i64 3, .int .i64 cell, .int .i64 hold, .int .i64 count, .int .i64 time]] w fun e w' => e = .returned (.bool (Md.good ⟨id, 3, cell, hold, count, time⟩)) ∧ Below w.heap.size w w' := by
  have Hg : Hid (Md.good ⟨id, 3, cell, hold, count, time⟩ = (Md.inR id 1 1000000000 && (cell == 0) && Md.inR hold 1 50 && (count == 0) && (time == 0))) := by
    unfold Hid
    simp [Md.good, Md.cellOk, Md.holdOk, Md.countOk, Md.timeOk]
  go_enter Try.func69, Try.ntmps69
  go_wp2_with fail
  refine (in_any _ _ _ _).mono ?_
  rintro e w1 ⟨rfl, rfl⟩
  go_wp2_with fail
  refine (in_any _ _ _ _).mono ?_
  rintro e w1 ⟨rfl, rfl⟩
  go_wp2_with fail
  refine (in_any _ _ _ _).mono ?_
  rintro e w1 ⟨rfl, rfl⟩
  go_wp2_with fail
  refine (in_any _ _ _ _).mono ?_
  rintro e w1 ⟨rfl, rfl⟩
  go_wp2_with fail
  refine (in_any _ _ _ _).mono ?_
  rintro e w1 ⟨rfl, rfl⟩
  generalize Md.inR id 1 1000000000 = b0 at Hg ⊢
  generalize (cell == 0) = b1 at Hg ⊢
  generalize Md.inR hold 1 50 = b2 at Hg ⊢
  generalize (count == 0) = b3 at Hg ⊢
  generalize (time == 0) = b4 at Hg ⊢
  by_cases h0 : b0 = false
  · subst h0
    go_wp2
    go_ret
    exact ⟨by rw [Hg.out]; rfl, (Below.refl _ _).alloc (Nat.le_refl _) _⟩
  obtain rfl : b0 = true := by cases b0 <;> simp_all
  by_cases h1 : b1 = false
  · subst h1
    go_wp2
    go_ret
    exact ⟨by rw [Hg.out]; rfl, (Below.refl _ _).alloc (Nat.le_refl _) _⟩
  obtain rfl : b1 = true := by cases b1 <;> simp_all
  by_cases h2 : b2 = false
  · subst h2
    go_wp2
    go_ret
    exact ⟨by rw [Hg.out]; rfl, (Below.refl _ _).alloc (Nat.le_refl _) _⟩
  obtain rfl : b2 = true := by cases b2 <;> simp_all
  by_cases h3 : b3 = false
  · subst h3
    go_wp2
    go_ret
    exact ⟨by rw [Hg.out]; rfl, (Below.refl _ _).alloc (Nat.le_refl _) _⟩
  obtain rfl : b3 = true := by cases b3 <;> simp_all
  by_cases h4 : b4 = false
  · subst h4
    go_wp2
    go_ret
    exact ⟨by rw [Hg.out]; rfl, (Below.refl _ _).alloc (Nat.le_refl _) _⟩
  obtain rfl : b4 = true := by cases b4 <;> simp_all
  go_wp2
  go_ret
  exact ⟨by rw [Hg.out]; rfl, (Below.refl _ _).alloc (Nat.le_refl _) _⟩

set_option maxRecDepth 100000 in
set_option maxHeartbeats 2000000 in
theorem good_k4 (id cell hold count time : Int) (w : World) :
    Calls Try.prog 69 #[.agg #[.int .i64 id, .int .i64 4, .int .i64 cell, .int .i64 hold, .int .i64 count, .int .i64 time]] w fun e w' => e = .returned (.bool (Md.good ⟨id, 4, cell, hold, count, time⟩)) ∧ Below w.heap.size w w' := by
  have Hg : Hid (Md.good ⟨id, 4, cell, hold, count, time⟩ = (Md.inR id 1 1000000000 && (cell == 0) && (hold == 0) && (count == 0) && Md.inR time 0 1000000000)) := by
    unfold Hid
    simp [Md.good, Md.cellOk, Md.holdOk, Md.countOk, Md.timeOk]
  go_enter Try.func69, Try.ntmps69
  go_wp2_with fail
  refine (in_any _ _ _ _).mono ?_
  rintro e w1 ⟨rfl, rfl⟩
  go_wp2_with fail
  refine (in_any _ _ _ _).mono ?_
  rintro e w1 ⟨rfl, rfl⟩
  go_wp2_with fail
  refine (in_any _ _ _ _).mono ?_
  rintro e w1 ⟨rfl, rfl⟩
  go_wp2_with fail
  refine (in_any _ _ _ _).mono ?_
  rintro e w1 ⟨rfl, rfl⟩
  go_wp2_with fail
  refine (in_any _ _ _ _).mono ?_
  rintro e w1 ⟨rfl, rfl⟩
  generalize Md.inR id 1 1000000000 = b0 at Hg ⊢
  generalize (cell == 0) = b1 at Hg ⊢
  generalize (hold == 0) = b2 at Hg ⊢
  generalize (count == 0) = b3 at Hg ⊢
  generalize Md.inR time 0 1000000000 = b4 at Hg ⊢
  by_cases h0 : b0 = false
  · subst h0
    go_wp2
    go_ret
    exact ⟨by rw [Hg.out]; rfl, (Below.refl _ _).alloc (Nat.le_refl _) _⟩
  obtain rfl : b0 = true := by cases b0 <;> simp_all
  by_cases h1 : b1 = false
  · subst h1
    go_wp2
    go_ret
    exact ⟨by rw [Hg.out]; rfl, (Below.refl _ _).alloc (Nat.le_refl _) _⟩
  obtain rfl : b1 = true := by cases b1 <;> simp_all
  by_cases h2 : b2 = false
  · subst h2
    go_wp2
    go_ret
    exact ⟨by rw [Hg.out]; rfl, (Below.refl _ _).alloc (Nat.le_refl _) _⟩
  obtain rfl : b2 = true := by cases b2 <;> simp_all
  by_cases h3 : b3 = false
  · subst h3
    go_wp2
    go_ret
    exact ⟨by rw [Hg.out]; rfl, (Below.refl _ _).alloc (Nat.le_refl _) _⟩
  obtain rfl : b3 = true := by cases b3 <;> simp_all
  by_cases h4 : b4 = false
  · subst h4
    go_wp2
    go_ret
    exact ⟨by rw [Hg.out]; rfl, (Below.refl _ _).alloc (Nat.le_refl _) _⟩
  obtain rfl : b4 = true := by cases b4 <;> simp_all
  go_wp2
  go_ret
  exact ⟨by rw [Hg.out]; rfl, (Below.refl _ _).alloc (Nat.le_refl _) _⟩

set_option maxRecDepth 100000 in
set_option maxHeartbeats 2000000 in
theorem good_low (id kind cell hold count time : Int) (w : World) (hk : kind < 0) :
    Calls Try.prog 69 #[.agg #[.int .i64 id, .int .i64 kind, .int .i64 cell, .int .i64 hold, .int .i64 count, .int .i64 time]] w fun e w' => e = .returned (.bool (Md.good ⟨id, kind, cell, hold, count, time⟩)) ∧ Below w.heap.size w w' := by
  have Hg : Hid (Md.good ⟨id, kind, cell, hold, count, time⟩ = (Md.inR id 1 1000000000 && Md.inR cell 0 7 && Md.inR hold 1 50 && Md.inR count 1 1000000 && Md.inR time 0 1000000000 && false)) := by
    unfold Hid
    simp [Md.good, Md.cellOk, Md.holdOk, Md.countOk, Md.timeOk, show ¬ 2 ≤ kind from by omega, show ¬ kind = 0 from by omega, show ¬ kind = 2 from by omega, show ¬ kind = 3 from by omega, show ¬ kind = 4 from by omega, show ¬ 0 ≤ kind from by omega]
  have k0 : (kind == 0) = false := by simp; omega
  have k2 : (kind == 2) = false := by simp; omega
  have k3 : (kind == 3) = false := by simp; omega
  have k4 : (kind == 4) = false := by simp; omega
  go_enter Try.func69, Try.ntmps69
  go_wp2_with fail
  refine (in_any _ _ _ _).mono ?_
  rintro e w1 ⟨rfl, rfl⟩
  go_wp2_with fail
  refine (in_any _ _ _ _).mono ?_
  rintro e w1 ⟨rfl, rfl⟩
  go_wp2_with fail
  refine (in_any _ _ _ _).mono ?_
  rintro e w1 ⟨rfl, rfl⟩
  go_wp2_with fail
  refine (in_any _ _ _ _).mono ?_
  rintro e w1 ⟨rfl, rfl⟩
  go_wp2_with fail
  refine (in_any _ _ _ _).mono ?_
  rintro e w1 ⟨rfl, rfl⟩
  generalize Md.inR id 1 1000000000 = b0 at Hg ⊢
  generalize Md.inR cell 0 7 = b1 at Hg ⊢
  generalize Md.inR hold 1 50 = b2 at Hg ⊢
  generalize Md.inR count 1 1000000 = b3 at Hg ⊢
  generalize Md.inR time 0 1000000000 = b4 at Hg ⊢
  by_cases h0 : b0 = false
  · subst h0
    go_wp2
    go_ret
    exact ⟨by rw [Hg.out]; rfl, (Below.refl _ _).alloc (Nat.le_refl _) _⟩
  obtain rfl : b0 = true := by cases b0 <;> simp_all
  by_cases h1 : b1 = false
  · subst h1
    go_wp2
    go_ret
    exact ⟨by rw [Hg.out]; rfl, (Below.refl _ _).alloc (Nat.le_refl _) _⟩
  obtain rfl : b1 = true := by cases b1 <;> simp_all
  by_cases h2 : b2 = false
  · subst h2
    go_wp2
    go_ret
    exact ⟨by rw [Hg.out]; rfl, (Below.refl _ _).alloc (Nat.le_refl _) _⟩
  obtain rfl : b2 = true := by cases b2 <;> simp_all
  by_cases h3 : b3 = false
  · subst h3
    go_wp2
    go_ret
    exact ⟨by rw [Hg.out]; rfl, (Below.refl _ _).alloc (Nat.le_refl _) _⟩
  obtain rfl : b3 = true := by cases b3 <;> simp_all
  by_cases h4 : b4 = false
  · subst h4
    go_wp2
    go_ret
    exact ⟨by rw [Hg.out]; rfl, (Below.refl _ _).alloc (Nat.le_refl _) _⟩
  obtain rfl : b4 = true := by cases b4 <;> simp_all
  go_wp2
  go_ret
  exact ⟨by rw [Hg.out]; rfl, (Below.refl _ _).alloc (Nat.le_refl _) _⟩

set_option maxRecDepth 100000 in
set_option maxHeartbeats 2000000 in
theorem good_high (id kind cell hold count time : Int) (w : World) (hk : 4 < kind) :
    Calls Try.prog 69 #[.agg #[.int .i64 id, .int .i64 kind, .int .i64 cell, .int .i64 hold, .int .i64 count, .int .i64 time]] w fun e w' => e = .returned (.bool (Md.good ⟨id, kind, cell, hold, count, time⟩)) ∧ Below w.heap.size w w' := by
  have Hg : Hid (Md.good ⟨id, kind, cell, hold, count, time⟩ = (Md.inR id 1 1000000000 && (cell == 0) && Md.inR hold 1 50 && (count == 0) && Md.inR time 0 1000000000 && decide (kind ≤ 4))) := by
    unfold Hid
    simp [Md.good, Md.cellOk, Md.holdOk, Md.countOk, Md.timeOk, show 2 ≤ kind from by omega, show 0 ≤ kind from by omega, show ¬ kind = 0 from by omega, show ¬ kind = 2 from by omega, show ¬ kind = 3 from by omega, show ¬ kind = 4 from by omega]
  have k0 : (kind == 0) = false := by simp; omega
  have k2 : (kind == 2) = false := by simp; omega
  have k3 : (kind == 3) = false := by simp; omega
  have k4 : (kind == 4) = false := by simp; omega
  go_enter Try.func69, Try.ntmps69
  go_wp2_with fail
  refine (in_any _ _ _ _).mono ?_
  rintro e w1 ⟨rfl, rfl⟩
  go_wp2_with fail
  refine (in_any _ _ _ _).mono ?_
  rintro e w1 ⟨rfl, rfl⟩
  go_wp2_with fail
  refine (in_any _ _ _ _).mono ?_
  rintro e w1 ⟨rfl, rfl⟩
  go_wp2_with fail
  refine (in_any _ _ _ _).mono ?_
  rintro e w1 ⟨rfl, rfl⟩
  go_wp2_with fail
  refine (in_any _ _ _ _).mono ?_
  rintro e w1 ⟨rfl, rfl⟩
  generalize Md.inR id 1 1000000000 = b0 at Hg ⊢
  generalize (cell == 0) = b1 at Hg ⊢
  generalize Md.inR hold 1 50 = b2 at Hg ⊢
  generalize (count == 0) = b3 at Hg ⊢
  generalize Md.inR time 0 1000000000 = b4 at Hg ⊢
  by_cases h0 : b0 = false
  · subst h0
    go_wp2
    go_ret
    exact ⟨by rw [Hg.out]; rfl, (Below.refl _ _).alloc (Nat.le_refl _) _⟩
  obtain rfl : b0 = true := by cases b0 <;> simp_all
  by_cases h1 : b1 = false
  · subst h1
    go_wp2
    go_ret
    exact ⟨by rw [Hg.out]; rfl, (Below.refl _ _).alloc (Nat.le_refl _) _⟩
  obtain rfl : b1 = true := by cases b1 <;> simp_all
  by_cases h2 : b2 = false
  · subst h2
    go_wp2
    go_ret
    exact ⟨by rw [Hg.out]; rfl, (Below.refl _ _).alloc (Nat.le_refl _) _⟩
  obtain rfl : b2 = true := by cases b2 <;> simp_all
  by_cases h3 : b3 = false
  · subst h3
    go_wp2
    go_ret
    exact ⟨by rw [Hg.out]; rfl, (Below.refl _ _).alloc (Nat.le_refl _) _⟩
  obtain rfl : b3 = true := by cases b3 <;> simp_all
  by_cases h4 : b4 = false
  · subst h4
    go_wp2
    go_ret
    exact ⟨by rw [Hg.out]; rfl, (Below.refl _ _).alloc (Nat.le_refl _) _⟩
  obtain rfl : b4 = true := by cases b4 <;> simp_all
  have hkd : decide (kind ≤ 4) = false := by simp; omega
  rw [hkd] at Hg
  go_wp2
  go_ret
  exact ⟨by rw [Hg.out]; simp, (Below.refl _ _).alloc (Nat.le_refl _) _⟩

theorem good_any (r : Md.Req) (w : World) :
    Calls Try.prog 69 #[.agg (reqA r)] w fun e w' => e = .returned (.bool (Md.good r)) ∧ Below w.heap.size w w' := by
  obtain ⟨id, kind, cell, hold, count, time⟩ := r
  unfold reqA
  by_cases h0 : kind = 0
  · subst h0; exact good_k0 id cell hold count time w
  by_cases h1 : kind = 1
  · subst h1; exact good_k1 id cell hold count time w
  by_cases h2 : kind = 2
  · subst h2; exact good_k2 id cell hold count time w
  by_cases h3 : kind = 3
  · subst h3; exact good_k3 id cell hold count time w
  by_cases h4 : kind = 4
  · subst h4; exact good_k4 id cell hold count time w
  by_cases h5 : kind < 0
  · exact good_low id kind cell hold count time w h5
  · exact good_high id kind cell hold count time w (by omega)

end Go.Proofs.Ytidacihlalbohaa
