/- What reading one frame at a text's beginning returns. -/
import Derived.Test.YtidacihlalbohaaLeafs
import Derived.Test.YtidacihlalbohaaKit
import Derived.Deep.QuietTactic
import Derived.BigQuiet
namespace Go.Proofs.Ytidacihlalbohaa
open Go.RowKit

theorem numL_of (s : ByteArray) (hs : 2 ≤ s.size) : Fr.numL s.data.toList = (s[0].toNat : Int) + (s[1].toNat : Int) * 256 := by
  have h0 : s.data.toList.getD 0 0 = s[0] := by
    rw [List.getD_eq_getElem?_getD, List.getElem?_eq_getElem (by rw [Fr.size_list]; omega)]; rfl
  have h1 : s.data.toList.getD 1 0 = s[1] := by
    rw [List.getD_eq_getElem?_getD, List.getElem?_eq_getElem (by rw [Fr.size_list]; omega)]; rfl
  unfold Fr.numL
  rw [h0, h1]

set_option maxHeartbeats 400000 in
theorem number_any (s : ByteArray) (w : World) (hs : 2 ≤ s.size) (hm : s.size ≤ maxLen) :
    Calls Try.prog 82 #[.string s] w fun e w' => e = .returned (.int .i64 (Fr.numL s.data.toList)) ∧ ∃ n, w' = w.drewN n := by
  rw [numL_of s hs]
  unfold maxLen at hm
  have h0 : (s[0].toNat : Int) < 256 := by have := s[0].toNat_lt; omega
  have h1 : (s[1].toNat : Int) < 256 := by have := s[1].toNat_lt; omega
  have p0 : 0 < s.size := by omega
  have p1 : 1 < s.size := by omega
  have q0 : (0 : Int) < s.size := by omega
  have q1 : (1 : Int) < s.size := by omega
  go_enter Try.func82, Try.ntmps82
  go_wp2_with fail
  go_quiet (fail)
  go_wp2
  go_ret
  exact ⟨rfl, _, rfl⟩

theorem sz2 (t : ByteArray) (i j : Nat) (h : j ≤ t.size) : (t.extract i j).size = j - i := by
  rw [ByteArray.size_extract]; omega

set_option maxHeartbeats 400000 in
theorem first_tiny (t : ByteArray) (w : World) (hs : t.size < 4) :
    Calls Try.prog 52 #[.string t] w fun e w' => e = .returned (.tuple #[.string ⟨#[]⟩, .bool false]) ∧ ∃ n, w' = w.drewN n := by
  go_enter Try.func52, Try.ntmps52
  go_wp2
  go_ret2
  exact ⟨rfl, 0, rfl⟩

set_option maxHeartbeats 400000 in
theorem first_big (t : ByteArray) (w : World) (hs : 4 ≤ t.size) (hm : t.size ≤ maxLen) (hn : 4000 < Fr.lenL t.data.toList ∨ (t.size : Int) - 4 < Fr.lenL t.data.toList) :
    Calls Try.prog 52 #[.string t] w fun e w' => e = .returned (.tuple #[.string ⟨#[]⟩, .bool false]) ∧ ∃ n, w' = w.drewN n := by
  have hx : Fr.numL (t.extract 0 2).data.toList = Fr.lenL t.data.toList := by rw [Fr.extract_list]; rfl
  have hz := sz2 t 0 2 (by omega)
  have hb := Fr.numL_bd (t.data.toList.take 2)
  change 0 ≤ Fr.lenL t.data.toList ∧ Fr.lenL t.data.toList ≤ 65535 at hb
  have hc := number_any (t.extract 0 2) w (by omega) (by unfold maxLen at *; omega)
  rw [hx] at hc
  generalize Fr.lenL t.data.toList = n at hc hb hn
  have Hc : Hid _ := hide hc
  obtain ⟨hb1, hb2⟩ := hb
  clear hc hx hz
  unfold maxLen at hm
  rcases Int.lt_or_le 4000 n with h4 | h4
  · clear hn
    go_enter Try.func52, Try.ntmps52
    go_wp2_with fail
    refine Hc.out.mono ?_
    rintro e w1 ⟨rfl, k, rfl⟩
    go_wp2
    go_ret2
    exact ⟨rfl, k, rfl⟩
  · have h5 : (t.size : Int) - 4 < n := by omega
    clear hn
    go_enter Try.func52, Try.ntmps52
    go_wp2_with fail
    refine Hc.out.mono ?_
    rintro e w1 ⟨rfl, k, rfl⟩
    go_wp2
    go_ret2
    exact ⟨rfl, k, rfl⟩

/-- The walk of 'first' where the length is within its bounds, over plain numbers: n what the first two bytes say, s what the next two say, r the sum. -/
theorem first_core (t : ByteArray) (w : World) (n s r : Int) (hs : 4 ≤ t.size) (hm : t.size ≤ maxLen) (h0 : 0 ≤ n) (h4 : n ≤ 4000) (h5 : n ≤ (t.size : Int) - 4)
    (Hn : Hid (∀ w, Calls Try.prog 82 #[.string (t.extract 0 2)] w fun e w' => e = .returned (.int .i64 n) ∧ ∃ k, w' = w.drewN k))
    (Hs : Hid (∀ w, Calls Try.prog 82 #[.string (t.extract 2 4)] w fun e w' => e = .returned (.int .i64 s) ∧ ∃ k, w' = w.drewN k))
    (Hr : Hid (∀ w, Calls Try.prog 28 #[.string (t.extract 0 2), .string (t.extract 4 (4 + n).toNat)] w fun e w' => e = .returned (.int .i64 r) ∧ w' = w)) :
    Calls Try.prog 52 #[.string t] w fun e w' => e = .returned (if s = r then .tuple #[.string (t.extract 4 (4 + n).toNat), .bool true] else .tuple #[.string ⟨#[]⟩, .bool false]) ∧ ∃ k, w' = w.drewN k := by
  unfold maxLen at hm
  have h4' : ¬ 4000 < n := by omega
  have h5' : ¬ (t.size : Int) - 4 < n := by omega
  have h6 : 4 ≤ 4 + n := by omega
  have h7 : 4 + n ≤ (t.size : Int) := by omega
  go_enter Try.func52, Try.ntmps52
  go_wp2_with fail
  refine (Hn.out _).mono ?_
  rintro e w1 ⟨rfl, k, hw1⟩
  have Hw := hide hw1
  clear hw1
  go_wp2_with fail
  go_quiet (first | (go_at_call 82; exact Calls.quiet_of (Hs.out _)) | (go_at_call 28; exact Calls.quiet_of_same (Hr.out _)))
  by_cases hsr : s = r
  · subst hsr
    have hne : (s != s) = false := by simp
    go_wp2
    go_ret2
    exact ⟨rfl, _, by rw [Hw.out, World.drewN_drewN]⟩
  · have hne : (s != r) = true := by simp [hsr]
    go_wp2
    go_ret2
    exact ⟨rfl, _, by rw [Hw.out, World.drewN_drewN]⟩

/-- What 'first' hands back. -/
def firstV : Option (List UInt8) → Value
  | some p => .tuple #[.string ⟨p.toArray⟩, .bool true]
  | none => .tuple #[.string ⟨#[]⟩, .bool false]

theorem pay_extract (t : ByteArray) : t.extract 4 (4 + Fr.lenL t.data.toList).toNat = ⟨(Fr.payL t.data.toList).toArray⟩ := by
  have hb := Fr.numL_bd (t.data.toList.take 2)
  change 0 ≤ Fr.lenL t.data.toList ∧ _ at hb
  refine Fr.eq_of_list ?_
  rw [Fr.extract_list, show (4 + Fr.lenL t.data.toList).toNat - 4 = (Fr.lenL t.data.toList).toNat from by omega]
  rfl

theorem pay_len (l : List UInt8) (h4 : 4 ≤ l.length) (h : Fr.lenL l ≤ (l.length : Int) - 4) : ((Fr.payL l).length : Int) = Fr.lenL l := by
  have hb := Fr.numL_bd (l.take 2)
  change 0 ≤ Fr.lenL l ∧ _ at hb
  unfold Fr.payL
  rw [List.length_take, List.length_drop]
  omega

theorem first_any (t : ByteArray) (w : World) (hm : t.size ≤ maxLen) :
    Calls Try.prog 52 #[.string t] w fun e w' => e = .returned (firstV (Fr.firstL t.data.toList)) ∧ ∃ k, w' = w.drewN k := by
  have hl := Fr.size_list t
  by_cases h4 : t.size < 4
  · have he : Fr.firstL t.data.toList = none := by unfold Fr.firstL; rw [if_pos (by omega)]
    rw [he]
    exact first_tiny t w h4
  by_cases hbig : 4000 < Fr.lenL t.data.toList ∨ (t.size : Int) - 4 < Fr.lenL t.data.toList
  · have he : Fr.firstL t.data.toList = none := by
      unfold Fr.firstL
      rw [if_neg (by omega)]
      rcases hbig with hb | hb
      · rw [if_pos hb]
      · by_cases hc : 4000 < Fr.lenL t.data.toList
        · rw [if_pos hc]
        · rw [if_neg hc, if_pos (by omega)]
    rw [he]
    exact first_big t w (by omega) hm hbig
  · have hb := Fr.numL_bd (t.data.toList.take 2)
    change 0 ≤ Fr.lenL t.data.toList ∧ _ at hb
    have hpl := pay_len t.data.toList (by omega) (by omega)
    have hpe := pay_extract t
    have he : Fr.firstL t.data.toList = if Fr.numL ((t.data.toList.drop 2).take 2) = Fr.sumL t.data.toList then some (Fr.payL t.data.toList) else none := by
      unfold Fr.firstL
      rw [if_neg (by omega), if_neg (by omega), if_neg (by omega)]
    have hc := first_core t w (Fr.lenL t.data.toList) (Fr.numL ((t.data.toList.drop 2).take 2)) (Fr.sumL t.data.toList) (by omega) hm hb.1 (by omega) (by omega)
      (hide fun w => by
        have h := number_any (t.extract 0 2) w (by rw [sz2 t 0 2 (by omega)]; omega) (by rw [sz2 t 0 2 (by omega)]; unfold maxLen; omega)
        rw [Fr.extract_list] at h; exact h)
      (hide fun w => by
        have h := number_any (t.extract 2 4) w (by rw [sz2 t 2 4 (by omega)]; omega) (by rw [sz2 t 2 4 (by omega)]; unfold maxLen; omega)
        rw [Fr.extract_list] at h; exact h)
      (hide fun w => by
        have hps : (⟨(Fr.payL t.data.toList).toArray⟩ : ByteArray).size = (Fr.payL t.data.toList).length := by simp [ByteArray.size]
        have h := sum_any (t.extract 0 2) ⟨(Fr.payL t.data.toList).toArray⟩ w (by rw [sz2 t 0 2 (by omega)]; unfold maxLen; omega) (by rw [hps]; unfold maxLen at *; omega)
        rw [Fr.extract_list] at h; rw [hpe]; exact h)
    refine hc.mono ?_
    rintro e w1 ⟨rfl, hw⟩
    refine ⟨?_, hw⟩
    rw [he, hpe]
    by_cases hsr : Fr.numL ((t.data.toList.drop 2).take 2) = Fr.sumL t.data.toList
    · rw [if_pos hsr, if_pos hsr]; rfl
    · rw [if_neg hsr, if_neg hsr]; rfl
end Go.Proofs.Ytidacihlalbohaa
