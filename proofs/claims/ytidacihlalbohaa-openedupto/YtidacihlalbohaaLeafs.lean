/- What the leaves of framing return: the sum over a text and a number in two bytes. -/
import Derived.Test.YtidacihlalbohaaRows
import Derived.Test.YtidacihlalbohaaRefLeafs
import Derived.WalkKit
import Derived.WalkSpells
import Derived.WalkLawsBesides
namespace Go.Proofs.Ytidacihlalbohaa
open Go.RowKit

set_option maxHeartbeats 400000 in
theorem addBytes_any (s0 : Int) (t : ByteArray) (w : World) (h0 : 0 ≤ s0) (h1 : s0 ≤ 65520) (hs : t.size ≤ maxLen) :
    Calls Try.prog 54 #[.int .i64 s0, .string t] w fun e w' => e = .returned (.int .i64 (Fr.sumF s0 t.data.toList)) ∧ w' = w := by
  unfold maxLen at hs
  go_enter Try.func54, Try.ntmps54
  go_wp2
  go_loop [0, 8] (fun n i => ∃ k : Nat, k ≤ t.size ∧ i = .int .i64 k ∧ n = .int .i64 (Fr.sumF s0 (t.data.toList.take k))) (fun _ i => t.size - (intOf i).toNat)
  case atStart => exact ⟨0, Nat.zero_le _, rfl, rfl⟩
  case round =>
    obtain ⟨k, hk, rfl, rfl⟩ := hrel
    obtain ⟨hd1, hd2⟩ := Fr.sumF_bd (t.data.toList.take k) s0 h0 h1
    by_cases hlt : k < t.size
    · have hb : (t[k].toNat : Int) < 256 := by have := t[k].toNat_lt; omega
      have HS : Hid (Fr.sumF s0 (t.data.toList.take (k + 1)) = (Fr.sumF s0 (t.data.toList.take k) * 263 + (t[k].toNat : Int) + 1) % 65521) := by
        rw [Fr.take_snoc t k hlt, Fr.sumF_snoc]; exact rfl
      go_wp2
      go_round
      case rel => exact ⟨k + 1, by omega, by go_num, by rw [HS.out]⟩
      case measure => simp [intOf]; omega
    · go_wp2
      go_ret
      exact ⟨Fr.ret_int (by rw [List.take_of_length_le (by simp; omega)]), rfl⟩

set_option maxHeartbeats 400000 in
theorem sum_any (a t : ByteArray) (w : World) (ha : a.size ≤ maxLen) (hs : t.size ≤ maxLen) :
    Calls Try.prog 28 #[.string a, .string t] w fun e w' => e = .returned (.int .i64 (Fr.sumF (Fr.sumF 1 a.data.toList) t.data.toList)) ∧ w' = w := by
  obtain ⟨hd1, hd2⟩ := Fr.sumF_bd a.data.toList 1 (by omega) (by omega)
  go_enter Try.func28, Try.ntmps28
  go_wp2_with fail
  refine (addBytes_any _ _ _ (by omega) (by omega) ha).mono ?_
  rintro e w' ⟨rfl, rfl⟩
  go_wp2_with fail
  refine (addBytes_any _ _ _ hd1 hd2 hs).mono ?_
  rintro e w' ⟨rfl, rfl⟩
  go_wp2
  go_ret
  exact ⟨rfl, rfl⟩

set_option maxHeartbeats 400000 in
theorem two_any (n : Int) (w : World) (h0 : 0 ≤ n) (h1 : n ≤ 65535) :
    Calls Try.prog 27 #[.int .i64 n] w fun e w' => e = .returned (.string ⟨(Fr.twoL n).toArray⟩) ∧ Below w.heap.size w w' := by
  have hcv := conv_two n w h0 h1
  go_enter Try.func27, Try.ntmps27
  go_wp2
  go_ret
  exact ⟨rfl, (Below.refl _ _).alloc (Nat.le_refl _) _⟩

set_option maxHeartbeats 400000 in
theorem of_any (p : ByteArray) (w : World) (hp : p.size ≤ 4000) :
    Calls Try.prog 14 #[.string p] w fun e w' => e = .returned (.string ⟨(Fr.frameL p.data.toList).toArray⟩) ∧ Below w.heap.size w w' := by
  have hm : p.size ≤ maxLen := by unfold maxLen; omega
  have htl := two_len
  go_enter Try.func14, Try.ntmps14
  go_wp2_with fail
  refine (two_any _ _ (by omega) (by omega)).mono ?_
  rintro e w1 ⟨rfl, hb1⟩
  go_wp2_with fail
  refine (sum_any _ _ _ (two_max _) hm).mono ?_
  rintro e w1' ⟨rfl, rfl⟩
  obtain ⟨hd1, hd2⟩ := Fr.sumF_bd (Fr.twoL p.size) 1 (by omega) (by omega)
  obtain ⟨hd3, hd4⟩ := Fr.sumF_bd p.data.toList _ hd1 hd2
  go_wp2_with fail
  refine (two_any _ _ hd3 (by omega)).mono ?_
  rintro e w2 ⟨rfl, hb2⟩
  go_wp2_with fail
  go_ret
  exact ⟨congrArg (fun s => Ending.returned (.string s)) (frame_of p), hb1.trans (hb2.mono hb1.size)⟩

set_option maxHeartbeats 400000 in
theorem Frame_short (p : ByteArray) (w : World) (hp : p.size ≤ 4000) :
    Calls Try.prog 7 #[.string p] w fun e w' => e = .returned (.tuple #[.string ⟨(Fr.frameL p.data.toList).toArray⟩, .int .i64 0]) ∧ Below w.heap.size w w' := by
  go_enter Try.func7, Try.ntmps7
  go_wp2_with fail
  refine (of_any _ _ hp).mono ?_
  rintro e w1 ⟨rfl, hb1⟩
  go_wp2_with fail
  go_ret2
  exact ⟨rfl, hb1⟩

set_option maxHeartbeats 400000 in
theorem Frame_long (p : ByteArray) (w : World) (hp : 4000 < p.size) :
    Calls Try.prog 7 #[.string p] w fun e w' => e = .returned (.tuple #[.string ⟨#[]⟩, .int .i64 1]) ∧ w' = w := by
  go_enter Try.func7, Try.ntmps7
  go_wp2_with fail
  go_ret2
  exact ⟨rfl, rfl⟩
end Go.Proofs.Ytidacihlalbohaa
