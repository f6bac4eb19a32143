/- The plain mathematics of frames: the sum of bytes, a number in two bytes, and a frame, on lists of bytes. -/
import Derived.WalkKit
namespace Go.Proofs.Ytaifcdlgmdeehaa
namespace Fr

/-- One byte carried into the sum. -/
def step (s : Int) (b : UInt8) : Int := (s * 263 + (b.toNat : Int) + 1) % 65521
/-- The sum carried on over bytes. -/
def sumF (s : Int) (l : List UInt8) : Int := l.foldl step s

theorem step_bd (s : Int) (b : UInt8) : 0 ≤ step s b ∧ step s b ≤ 65520 := by unfold step; omega
theorem sumF_bd (l : List UInt8) : ∀ (s : Int), 0 ≤ s → s ≤ 65520 → 0 ≤ sumF s l ∧ sumF s l ≤ 65520 := by
  induction l with
  | nil => intro s h0 h1; exact ⟨h0, h1⟩
  | cons b l ih => intro s _ _; exact ih _ (step_bd s b).1 (step_bd s b).2
theorem sumF_append (s : Int) (a b : List UInt8) : sumF s (a ++ b) = sumF (sumF s a) b := by simp [sumF]
theorem sumF_snoc (s : Int) (l : List UInt8) (c : UInt8) : sumF s (l ++ [c]) = (sumF s l * 263 + (c.toNat : Int) + 1) % 65521 := by
  rw [sumF_append]; rfl

theorem take_snoc (s : ByteArray) (k : Nat) (h : k < s.size) : s.data.toList.take (k + 1) = s.data.toList.take k ++ [s[k]] := by
  rw [List.take_succ_eq_append_getElem (by simpa using h)]; rfl

/-- A number in two bytes, the low one first. -/
def twoL (n : Int) : List UInt8 := [UInt8.ofNat n.toNat, UInt8.ofNat (n.toNat / 256)]
/-- The frame of a payload. -/
def frameL (p : List UInt8) : List UInt8 := twoL p.length ++ twoL (sumF (sumF 1 (twoL p.length)) p) ++ p

/-- The low byte by a mask. -/
theorem and255 (n : Int) : bits .and .i64 n 255 = n % 256 := by
  have hm : (BitVec.ofInt 64 255).toNat = 2 ^ 8 - 1 := by decide
  have key : (BitVec.ofInt 64 n &&& BitVec.ofInt 64 255).toNat = (n % ((2 ^ 64 : Nat) : Int)).toNat % 2 ^ 8 := by
    rw [BitVec.toNat_and, BitVec.toNat_ofInt, hm, Nat.and_two_pow_sub_one_eq_mod]
  show IntKind.i64.wrap ((BitVec.ofInt 64 n &&& BitVec.ofInt 64 255).toNat : Nat) = n % 256
  rw [key, IntKind.wrap_i64]
  omega

theorem ret_int {k : IntKind} {a b : Int} (h : a = b) : Ending.returned (.int k a) = .returned (.int k b) := by rw [h]
theorem ret_str {a b : List UInt8} (h : a = b) : Ending.returned (.string ⟨a.toArray⟩) = .returned (.string ⟨b.toArray⟩) := by rw [h]

end Fr
end Go.Proofs.Ytaifcdlgmdeehaa
