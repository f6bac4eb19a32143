/- What the document's own Sum, Two and Frame return. -/
import Derived.Test.YtidacihlalbohaaRows
import Derived.Test.YtidacihlalbohaaMath
import Derived.WalkKit
import Derived.WalkSpells
import Derived.WalkLawsBesides
namespace Go.Proofs.Ytidacihlalbohaa
open Go.RowKit

set_option maxHeartbeats 400000 in
theorem refSum_any (t : ByteArray) (w : World) (hs : t.size ≤ maxLen) :
    Calls Try.prog 16 #[.string t] w fun e w' => e = .returned (.int .i64 (Fr.sumF 1 t.data.toList)) ∧ w' = w := by
  unfold maxLen at hs
  go_enter Try.func16, Try.ntmps16
  go_wp2
  go_loop [3, 4] (fun n i => ∃ k : Nat, k ≤ t.size ∧ i = .int .i64 k ∧ n = .int .i64 (Fr.sumF 1 (t.data.toList.take k))) (fun _ i => t.size - (intOf i).toNat)
  case atStart => exact ⟨0, Nat.zero_le _, rfl, rfl⟩
  case round =>
    obtain ⟨k, hk, rfl, rfl⟩ := hrel
    obtain ⟨hd1, hd2⟩ := Fr.sumF_bd (t.data.toList.take k) 1 (by omega) (by omega)
    by_cases hlt : k < t.size
    · have hb : (t[k].toNat : Int) < 256 := by have := t[k].toNat_lt; omega
      have HS : Hid (Fr.sumF 1 (t.data.toList.take (k + 1)) = (263 * Fr.sumF 1 (t.data.toList.take k) + (t[k].toNat : Int) + 1) % 65521) := by
        rw [Fr.take_snoc t k hlt, Fr.sumF_snoc, Int.mul_comm]; exact rfl
      go_wp2
      go_round
      case rel => exact ⟨k + 1, by omega, by go_num, by rw [HS.out]⟩
      case measure => simp [intOf]; omega
    · go_wp2
      go_ret
      exact ⟨Fr.ret_int (by rw [List.take_of_length_le (by simp; omega)]), rfl⟩

theorem conv_two (n : Int) (w : World) (h0 : 0 ≤ n) (h1 : n ≤ 65535) :
    (convert 63 9 (.slice (some ⟨w.heap.size, 0, none⟩) 2 2)).run Try.prog (w.alloc (.cells #[.int .u8 (n % 256), .int .u8 (n / 256)] 5))
      = .ok (.string ⟨(Fr.twoL n).toArray⟩) (w.alloc (.cells #[.int .u8 (n % 256), .int .u8 (n / 256)] 5)) := by
  refine run_convert_bytes_back (l := Fr.twoL n) _ 63 9 5 ⟨w.heap.size, 0, none⟩ 2 Try.underlying63 Try.underlying5 Try.underlying9 ?_
  intro j hj
  have e0 : ((UInt8.ofNat n.toNat).toNat : Int) = n % 256 := by simp; omega
  have e1 : ((UInt8.ofNat (n.toNat / 256)).toNat : Int) = n / 256 := by simp; omega
  match j, hj with
  | 0, _ => simp only [Fr.twoL, List.getElem_cons_zero, e0]; exact (World.cell?_alloc_mark w _ 5 (0, 0) 0).trans rfl
  | 1, _ => simp only [Fr.twoL, List.getElem_cons_succ, List.getElem_cons_zero, e1]; exact (World.cell?_alloc_mark w _ 5 (0, 0) 1).trans rfl

set_option maxHeartbeats 400000 in
theorem refTwo_any (n : Int) (w : World) (h0 : 0 ≤ n) (h1 : n ≤ 65535) :
    Calls Try.prog 15 #[.int .i64 n] w fun e w' => e = .returned (.string ⟨(Fr.twoL n).toArray⟩) ∧ Below w.heap.size w w' := by
  have hcv := conv_two n w h0 h1
  have e1 := Fr.and255 n
  have e2 := Fr.and255 (n / 256)
  have e3 : n / 256 % 256 = n / 256 := by omega
  go_enter Try.func15, Try.ntmps15
  go_wp2
  go_ret
  exact ⟨rfl, (Below.refl _ _).alloc (Nat.le_refl _) _⟩

theorem frame_len (l : List UInt8) : (Fr.frameL l).length = l.length + 4 := by simp [Fr.frameL, Fr.twoL]

theorem two_len (n : Int) : (Fr.twoL n).length = 2 := rfl

theorem two_max (n : Int) : (⟨(Fr.twoL n).toArray⟩ : ByteArray).size ≤ maxLen := by rw [show (⟨(Fr.twoL n).toArray⟩ : ByteArray).size = 2 from rfl]; unfold maxLen; omega

/-- The three pieces, joined, are the frame. -/
theorem frame_of (p : ByteArray) : (⟨(Fr.twoL p.size).toArray⟩ : ByteArray) ++ ⟨(Fr.twoL (Fr.sumF (Fr.sumF 1 (Fr.twoL p.size)) p.data.toList)).toArray⟩ ++ p = ⟨(Fr.frameL p.data.toList).toArray⟩ := by
  apply ByteArray.ext
  have hp : p.data = p.data.toList.toArray := by simp
  have hz : p.data.toList.length = p.size := Array.length_toList
  simp only [ByteArray.data_append, Fr.frameL, hz]
  rw [hp]
  simp

theorem refFrame_join (p : ByteArray) : ((⟨(Fr.twoL p.size).toArray⟩ : ByteArray) ++ p).data.toList = Fr.twoL p.size ++ p.data.toList := by
  simp [ByteArray.data_append]

set_option maxHeartbeats 400000 in
theorem refFrame_any (p : ByteArray) (w : World) (hp : p.size ≤ 4000) :
    Calls Try.prog 8 #[.string p] w fun e w' => e = .returned (.string ⟨(Fr.frameL p.data.toList).toArray⟩) ∧ Below w.heap.size w w' := by
  have htl := two_len
  have hm : ((⟨(Fr.twoL p.size).toArray⟩ : ByteArray) ++ p).size ≤ maxLen := by
    rw [ByteArray.size_append, show (⟨(Fr.twoL p.size).toArray⟩ : ByteArray).size = 2 from rfl]; unfold maxLen; omega
  go_enter Try.func8, Try.ntmps8
  go_wp2_with fail
  refine (refTwo_any _ _ (by omega) (by omega)).mono ?_
  rintro e w1 ⟨rfl, hb1⟩
  go_wp2_with fail
  refine (refSum_any _ _ hm).mono ?_
  rintro e w1' ⟨rfl, rfl⟩
  rw [refFrame_join, Fr.sumF_append]
  obtain ⟨hd1, hd2⟩ := Fr.sumF_bd (Fr.twoL p.size) 1 (by omega) (by omega)
  obtain ⟨hd3, hd4⟩ := Fr.sumF_bd p.data.toList _ hd1 hd2
  go_wp2_with fail
  refine (refTwo_any _ _ hd3 (by omega)).mono ?_
  rintro e w2 ⟨rfl, hb2⟩
  go_wp2_with fail
  go_ret
  exact ⟨congrArg (fun s => Ending.returned (.string s)) (frame_of p), hb1.trans (hb2.mono hb1.size)⟩
end Go.Proofs.Ytidacihlalbohaa
