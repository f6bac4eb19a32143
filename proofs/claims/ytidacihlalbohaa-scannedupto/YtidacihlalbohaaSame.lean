/- Two rows that hold the same texts are found the same. -/
import Derived.Test.YtidacihlalbohaaScan
namespace Go.Proofs.Ytidacihlalbohaa
open Go.RowKit

set_option maxHeartbeats 400000 in
theorem same_none (a b : Option Addr) (ca cb : Nat) (w : World) :
    Calls Try.prog 18 #[.slice a 0 ca, .slice b 0 cb] w fun e w' => e = .returned (.bool true) ∧ ∃ n, w' = w.drewN n := by
  go_enter Try.func18, Try.ntmps18
  go_wp2
  go_loopw [5] (fun i wr => i = .int .i64 0 ∧ wr = w) (fun _ _ => 0)
  case atStart => exact ⟨rfl, rfl⟩
  case round =>
    obtain ⟨rfl, rfl⟩ := hrel
    go_wp2
    go_ret
    exact ⟨rfl, 0, rfl⟩

set_option maxHeartbeats 1000000 in
theorem same_some (ga gb ca cb : Nat) (ss : List ByteArray) (w : World) (hn : 0 < ss.length) (hm : ss.length ≤ maxLen)
    (hA : ∀ k, k < ss.length → w.cell? ⟨ga, k, none⟩ = some (.string (ss.getD k ByteArray.empty))) (hB : ∀ k, k < ss.length → w.cell? ⟨gb, k, none⟩ = some (.string (ss.getD k ByteArray.empty))) :
    Calls Try.prog 18 #[.slice (some ⟨ga, 0, none⟩) ss.length ca, .slice (some ⟨gb, 0, none⟩) ss.length cb] w fun e w' => e = .returned (.bool true) ∧ ∃ n, w' = w.drewN n := by
  unfold maxLen at hm
  generalize hL : ss.length = L at *
  clear hL
  go_enter Try.func18, Try.ntmps18
  go_wp2
  go_loopw [5] (fun i wr => ∃ k d : Nat, k ≤ L ∧ i = .int .i64 k ∧ wr = w.drewN d) (fun i _ => L - (intOf i).toNat)
  case atStart => exact ⟨0, 0, Nat.zero_le _, rfl, rfl⟩
  case round =>
    obtain ⟨k, d, hk, rfl, rfl⟩ := hrel
    by_cases hlt : k < L
    · have hlt' : (k : Int) < (L : Int) := by omega
      have a1 := hA k hlt
      have b1 := hB k hlt
      clear hA hB
      go_wp2_with fail
      go_quiet (fail)
      go_wp2
      go_roundw
      case rel => exact ⟨k + 1, _, by omega, by go_num, rfl⟩
      case measure => simp [intOf]; omega
    · clear hA hB
      go_wp2
      go_ret
      exact ⟨rfl, _, rfl⟩

end Go.Proofs.Ytidacihlalbohaa
