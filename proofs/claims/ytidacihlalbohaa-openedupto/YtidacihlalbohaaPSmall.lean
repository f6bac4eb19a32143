/- The program's isConfig, follows and readRecord. -/
import Derived.Test.YtidacihlalbohaaPRead
import Derived.Test.YtidacihlalbohaaRefFiles
import Derived.Test.YtidacihlalbohaaRefReplay
namespace Go.Proofs.Ytidacihlalbohaa
open Go.RowKit

set_option maxRecDepth 100000 in
set_option maxHeartbeats 2000000 in
theorem isConfig_any (c : Md.Cf) (w : World) :
    Calls Try.prog 29 #[.agg (cfA c)] w fun e w' => e = .returned (.bool c.fine) ∧ Below w.heap.size w w' := by
  obtain ⟨a, b, d⟩ := c
  have hg : (⟨a, b, d⟩ : Md.Cf).fine = (decide (1 ≤ a) && decide (a ≤ 20) && decide (1 ≤ b) && decide (b ≤ 16) && decide (100 ≤ d) && decide (d ≤ 5000)) := by
    unfold Md.Cf.fine Md.inR; simp [Bool.and_assoc]
  generalize (⟨a, b, d⟩ : Md.Cf).fine = G at hg ⊢
  have HG := hide hg
  unfold cfA
  dsimp only
  clear hg
  go_enter Try.func29, Try.ntmps29
  go_wp2
  all_goals
    go_ret
    exact ⟨by rw [HG.out]; simp [*]; try omega, (Below.refl _ _).alloc (Nat.le_refl _) _⟩

/-- May a record's number stand behind the one ahead? -/
def Md.follows (m ahead old : Int) : Bool := decide (m ≤ 1000000000) && (if ahead = 0 then decide (1 ≤ m) && decide (m ≤ old + 1) else decide (m = ahead + 1))

set_option maxRecDepth 100000 in
set_option maxHeartbeats 2000000 in
theorem follows_any (m ahead old : Int) (w : World) (ho : 0 ≤ old ∧ old ≤ 1000000000) (ha : 0 ≤ ahead ∧ ahead ≤ 1000000000) :
    Calls Try.prog 62 #[.int .i64 m, .int .i64 ahead, .int .i64 old] w fun e w' => e = .returned (.bool (Md.follows m ahead old)) ∧ w' = w := by
  obtain ⟨o1, o2⟩ := ho
  obtain ⟨a1, a2⟩ := ha
  by_cases h1 : 1000000000 < m
  · have hg : Md.follows m ahead old = false := by unfold Md.follows; rw [decide_eq_false (by omega)]; rfl
    rw [hg]
    clear hg
    go_enter Try.func62, Try.ntmps62
    go_wp2
    go_ret
    exact ⟨rfl, rfl⟩
  · have h1' : m ≤ 1000000000 := by omega
    by_cases h2 : ahead = 0
    · subst h2
      have hg : Md.follows m 0 old = (decide (1 ≤ m) && decide (m ≤ old + 1)) := by unfold Md.follows; rw [decide_eq_true h1', if_pos rfl]; rfl
      generalize Md.follows m 0 old = G at hg ⊢
      have HG := hide hg
      clear hg
      go_enter Try.func62, Try.ntmps62
      go_wp2
      all_goals
        go_ret
        exact ⟨by rw [HG.out]; simp [*]; try omega, rfl⟩
    · have hg : Md.follows m ahead old = (m == ahead + 1) := by unfold Md.follows; rw [decide_eq_true h1', if_neg h2]; simp [Bool.beq_eq_decide_eq]
      generalize Md.follows m ahead old = G at hg ⊢
      have HG := hide hg
      clear hg
      go_enter Try.func62, Try.ntmps62
      go_wp2
      all_goals
        go_ret
        exact ⟨by rw [HG.out]; rfl, rfl⟩
end Go.Proofs.Ytidacihlalbohaa
