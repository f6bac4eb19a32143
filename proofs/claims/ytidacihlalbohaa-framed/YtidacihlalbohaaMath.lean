/- The plain mathematics of frames: the sum of bytes, a number in two bytes, and a frame, on lists of bytes. -/
import Derived.WalkKit
namespace Go.Proofs.Ytidacihlalbohaa
namespace Fr

/-- One byte carried into the sum. -/
def step (s : Int) (b : UInt8) : Int := (s * 263 + (b.toNat : Int) + 1) % 65521
/-- The sum carried on over bytes. -/
def sumF (s : Int) (l : List UInt8) : Int := l.foldl step s

theorem step_bd (s : Int) (b : UInt8) : 0 ≤ step s b ∧ step s b ≤ 65520 := by unfold step; omega
theorem sumF_bd (l : List UInt8) : ∀ (s : Int), 0 ≤ s → s ≤ 65520 → 0 ≤ sumF s l ∧ sumF s l ≤ 65520 := by
  induction l with
  | nil => intro s h0 h1; exact ⟨h0, h1⟩
  | cons b l ih => intro s _ _; exact ih _ (step_bd s b).1 (step_bd s b).2
theorem sumF_append (s : Int) (a b : List UInt8) : sumF s (a ++ b) = sumF (sumF s a) b := by simp [sumF]
theorem sumF_snoc (s : Int) (l : List UInt8) (c : UInt8) : sumF s (l ++ [c]) = (sumF s l * 263 + (c.toNat : Int) + 1) % 65521 := by
  rw [sumF_append]; rfl

theorem take_snoc (s : ByteArray) (k : Nat) (h : k < s.size) : s.data.toList.take (k + 1) = s.data.toList.take k ++ [s[k]] := by
  rw [List.take_succ_eq_append_getElem (by simpa using h)]; rfl

/-- A number in two bytes, the low one first. -/
def twoL (n : Int) : List UInt8 := [UInt8.ofNat n.toNat, UInt8.ofNat (n.toNat / 256)]
/-- The frame of a payload. -/
def frameL (p : List UInt8) : List UInt8 := twoL p.length ++ twoL (sumF (sumF 1 (twoL p.length)) p) ++ p

/-- What two bytes say. -/
def numL (l : List UInt8) : Int := ((l.getD 0 0).toNat : Int) + ((l.getD 1 0).toNat : Int) * 256
theorem numL_bd (l : List UInt8) : 0 ≤ numL l ∧ numL l ≤ 65535 := by
  have h0 := (l.getD 0 0).toNat_lt
  have h1 := (l.getD 1 0).toNat_lt
  unfold numL; omega

/-- How long the payload is that a text's beginning tells of, and the payload itself. -/
def lenL (l : List UInt8) : Int := numL (l.take 2)
def payL (l : List UInt8) : List UInt8 := (l.drop 4).take (lenL l).toNat
def sumL (l : List UInt8) : Int := sumF (sumF 1 (l.take 2)) (payL l)
/-- The payload of the frame at a text's beginning. -/
def firstL (l : List UInt8) : Option (List UInt8) :=
  if l.length < 4 then none
  else if 4000 < lenL l then none
  else if (l.length : Int) - 4 < lenL l then none
  else if numL ((l.drop 2).take 2) = sumL l then some (payL l) else none

theorem extract_list (t : ByteArray) (i j : Nat) : (t.extract i j).data.toList = (t.data.toList.drop i).take (j - i) := by
  rw [ByteArray.data_extract, Array.toList_extract, List.extract_eq_take_drop]
theorem size_list (t : ByteArray) : t.data.toList.length = t.size := Array.length_toList
theorem of_list (t : ByteArray) : (⟨t.data.toList.toArray⟩ : ByteArray) = t := by simp
theorem eq_of_list {t : ByteArray} {l : List UInt8} (h : t.data.toList = l) : t = ⟨l.toArray⟩ := by rw [← h, of_list]

theorem firstL_len {l p : List UInt8} (h : firstL l = some p) : p.length ≤ 4000 ∧ 4 + p.length ≤ l.length := by
  unfold firstL at h
  by_cases h4 : l.length < 4
  · rw [if_pos h4] at h; cases h
  rw [if_neg h4] at h
  by_cases hb : 4000 < lenL l
  · rw [if_pos hb] at h; cases h
  rw [if_neg hb] at h
  by_cases hc : (l.length : Int) - 4 < lenL l
  · rw [if_pos hc] at h; cases h
  rw [if_neg hc] at h
  by_cases hd : numL ((l.drop 2).take 2) = sumL l
  · rw [if_pos hd] at h
    cases h
    have := numL_bd (l.take 2)
    change 0 ≤ lenL l ∧ _ at this
    unfold payL
    rw [List.length_take, List.length_drop]
    omega
  · rw [if_neg hd] at h; cases h

/-- A payload that a frame can have. -/
abbrev Pay := { p : List UInt8 // p.length ≤ 4000 }
def clip (p : List UInt8) : Pay := ⟨p.take 4000, by rw [List.length_take]; omega⟩
theorem clip_val {p : List UInt8} (h : p.length ≤ 4000) : (clip p).1 = p := List.take_of_length_le h

/-- The frames from a place on: of each its payload and the place behind it (f: how many at the most). -/
def items : Nat → List UInt8 → Nat → List (Pay × Nat)
  | 0, _, _ => []
  | f + 1, l, at0 => match firstL (l.drop at0) with
    | none => []
    | some p => (clip p, at0 + (4 + p.length)) :: items f l (at0 + (4 + p.length))

theorem items_none {f : Nat} {l : List UInt8} {a : Nat} (h : firstL (l.drop a) = none) : items f l a = [] := by
  cases f with
  | zero => rfl
  | succ f => unfold items; rw [h]
theorem items_some {f : Nat} {l p : List UInt8} {a : Nat} (hf : l.length ≤ a + f) (h : firstL (l.drop a) = some p) :
    ∃ g, f = g + 1 ∧ l.length ≤ (a + (4 + p.length)) + g ∧ a + (4 + p.length) ≤ l.length ∧ items f l a = (clip p, a + (4 + p.length)) :: items g l (a + (4 + p.length)) := by
  have hl := (firstL_len h).2
  rw [List.length_drop] at hl
  cases f with
  | zero => omega
  | succ g =>
    refine ⟨g, rfl, by omega, by omega, ?_⟩
    conv => lhs; unfold items
    rw [h]
theorem items_length (f : Nat) : ∀ (l : List UInt8) (a : Nat), (items f l a).length ≤ f := by
  induction f with
  | zero => intro l a; exact Nat.le_refl _
  | succ f ih =>
    intro l a
    unfold items
    cases firstL (l.drop a) with
    | none => simp
    | some p => have := ih l (a + (4 + p.length)); simp only [List.length_cons]; omega
/-- All frames of a text, and the place behind the last of them. -/
def all (l : List UInt8) : List (Pay × Nat) := items l.length l 0
def behind (pre : List (Pay × Nat)) : Nat := (pre.getLast?.map (·.2)).getD 0
theorem behind_snoc (pre : List (Pay × Nat)) (x : Pay × Nat) : behind (pre ++ [x]) = x.2 := by simp [behind]

/-- The low byte by a mask. -/
theorem and255 (n : Int) : bits .and .i64 n 255 = n % 256 := by
  have hm : (BitVec.ofInt 64 255).toNat = 2 ^ 8 - 1 := by decide
  have key : (BitVec.ofInt 64 n &&& BitVec.ofInt 64 255).toNat = (n % ((2 ^ 64 : Nat) : Int)).toNat % 2 ^ 8 := by
    rw [BitVec.toNat_and, BitVec.toNat_ofInt, hm, Nat.and_two_pow_sub_one_eq_mod]
  show IntKind.i64.wrap ((BitVec.ofInt 64 n &&& BitVec.ofInt 64 255).toNat : Nat) = n % 256
  rw [key, IntKind.wrap_i64]
  omega

theorem ret_int {k : IntKind} {a b : Int} (h : a = b) : Ending.returned (.int k a) = .returned (.int k b) := by rw [h]
theorem ret_str {a b : List UInt8} (h : a = b) : Ending.returned (.string ⟨a.toArray⟩) = .returned (.string ⟨b.toArray⟩) := by rw [h]

end Fr
end Go.Proofs.Ytidacihlalbohaa
