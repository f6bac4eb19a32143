/- The plain mathematics of the document's own Scan: a text begins with the frame of what its length cuts off just where the two readings of a frame agree. -/
import Derived.Test.YtidacihlalbohaaMath
namespace Go.Proofs.Ytidacihlalbohaa
namespace Fr

theorem twoL_numL {a b : UInt8} : twoL (numL [a, b]) = [a, b] := by
  have ha := a.toNat_lt
  have hb := b.toNat_lt
  have e : (numL [a, b]).toNat = a.toNat + b.toNat * 256 := by simp [numL]; omega
  have e0 : UInt8.ofNat (a.toNat + b.toNat * 256) = a := by
    apply UInt8.toNat_inj.1; simp
  have e1 : UInt8.ofNat ((a.toNat + b.toNat * 256) / 256) = b := by
    apply UInt8.toNat_inj.1; simp; omega
  unfold twoL
  rw [e, e0, e1]
theorem numL_twoL {n : Int} (h0 : 0 ≤ n) (h1 : n ≤ 65535) : numL (twoL n) = n := by
  simp [numL, twoL]; omega

theorem two_of {l : List UInt8} (h : l.length = 2) : ∃ a b, l = [a, b] := by
  match l, h with
  | [a, b], _ => exact ⟨a, b, rfl⟩
theorem twoL_of {l : List UInt8} (h : l.length = 2) : twoL (numL l) = l := by
  obtain ⟨a, b, rfl⟩ := two_of h; exact twoL_numL

theorem payL_length {l : List UInt8} (h : lenL l ≤ (l.length : Int) - 4) : ((payL l).length : Int) = lenL l := by
  have hb := numL_bd (l.take 2)
  change 0 ≤ lenL l ∧ _ at hb
  unfold payL
  rw [List.length_take, List.length_drop]
  omega

theorem split_frame (l : List UInt8) :
    l.take (4 + (lenL l).toNat) = l.take 2 ++ (l.drop 2).take 2 ++ payL l := by
  have e : 4 + (lenL l).toNat = 2 + (2 + (lenL l).toNat) := by omega
  rw [e, List.take_add, List.take_add, List.drop_drop, ← List.append_assoc]
  rfl

theorem frame_iff {l : List UInt8} (h4 : 4 ≤ l.length) (h : lenL l ≤ (l.length : Int) - 4) :
    frameL (payL l) = l.take (4 + (lenL l).toNat) ↔ numL ((l.drop 2).take 2) = sumL l := by
  have hp := payL_length h
  have h2 : (l.take 2).length = 2 := by rw [List.length_take]; omega
  have h2' : ((l.drop 2).take 2).length = 2 := by rw [List.length_take, List.length_drop]; omega
  have ht : twoL (lenL l) = l.take 2 := twoL_of h2
  obtain ⟨b1, b2⟩ := sumF_bd (l.take 2) 1 (by omega) (by omega)
  obtain ⟨b3, b4⟩ := sumF_bd (payL l) _ b1 b2
  rw [split_frame l]
  unfold frameL
  rw [hp, ht]
  change _ ++ twoL (sumL l) ++ _ = _ ↔ _
  constructor
  · intro e
    have e1 := List.append_cancel_right e
    have e2 := List.append_cancel_left e1
    rw [← e2]
    exact numL_twoL b3 (by unfold sumL; omega)
  · intro e
    rw [← e, twoL_of h2']

theorem firstL_some {l : List UInt8} (h4 : 4 ≤ l.length) (hb : lenL l ≤ 4000) (h : lenL l ≤ (l.length : Int) - 4) (hf : frameL (payL l) = l.take (4 + (lenL l).toNat)) : firstL l = some (payL l) := by
  unfold firstL
  rw [if_neg (by omega), if_neg (by omega), if_neg (by omega), if_pos ((frame_iff h4 h).1 hf)]
theorem firstL_none {l : List UInt8} (h : 4 ≤ l.length → lenL l ≤ 4000 → lenL l ≤ (l.length : Int) - 4 → frameL (payL l) ≠ l.take (4 + (lenL l).toNat)) : firstL l = none := by
  unfold firstL
  by_cases h4 : l.length < 4
  · rw [if_pos h4]
  rw [if_neg h4]
  by_cases hb : 4000 < lenL l
  · rw [if_pos hb]
  rw [if_neg hb]
  by_cases hc : (l.length : Int) - 4 < lenL l
  · rw [if_pos hc]
  rw [if_neg hc, if_neg (fun e => h (by omega) (by omega) (by omega) ((frame_iff (by omega) (by omega)).2 e))]

end Fr
end Go.Proofs.Ytidacihlalbohaa
