/- The plain mathematics of frames: the sum of bytes, a number in two bytes, and a frame, on lists of bytes. -/
import Derived.WalkKit
namespace Go.Proofs.Ytidacihlalbohaa
namespace Fr

/-- One byte carried into the sum. -/
def step (s : Int) (b : UInt8) : Int := (s * 263 + (b.toNat : Int) + 1) % 65521
/-- The sum carried on over bytes. -/
def sumF (s : Int) (l : List UInt8) : Int := l.foldl step s

theorem step_bd (s : Int) (b : UInt8) : 0 ≤ step s b ∧ step s b ≤ 65520 := by unfold step; omega
theorem sumF_bd (l : List UInt8) : ∀ (s : Int), 0 ≤ s → s ≤ 65520 → 0 ≤ sumF s l ∧ sumF s l ≤ 65520 := by
  induction l with
  | nil => intro s h0 h1; exact ⟨h0, h1⟩
  | cons b l ih => intro s _ _; exact ih _ (step_bd s b).1 (step_bd s b).2
theorem sumF_append (s : Int) (a b : List UInt8) : sumF s (a ++ b) = sumF (sumF s a) b := by simp [sumF]
theorem sumF_snoc (s : Int) (l : List UInt8) (c : UInt8) : sumF s (l ++ [c]) = (sumF s l * 263 + (c.toNat : Int) + 1) % 65521 := by
  rw [sumF_append]; rfl

theorem take_snoc (s : ByteArray) (k : Nat) (h : k < s.size) : s.data.toList.take (k + 1) = s.data.toList.take k ++ [s[k]] := by
  rw [List.take_succ_eq_append_getElem (by simpa using h)]; rfl

/-- A number in two bytes, the low one first. -/
def twoL (n : Int) : List UInt8 := [UInt8.ofNat n.toNat, UInt8.ofNat (n.toNat / 256)]
/-- The frame of a payload. -/
def frameL (p : List UInt8) : List UInt8 := twoL p.length ++ twoL (sumF (sumF 1 (twoL p.length)) p) ++ p

/-- What two bytes say. -/
def numL (l : List UInt8) : Int := ((l.getD 0 0).toNat : Int) + ((l.getD 1 0).toNat : Int) * 256
theorem numL_bd (l : List UInt8) : 0 ≤ numL l ∧ numL l ≤ 65535 := by
  have h0 := (l.getD 0 0).toNat_lt
  have h1 := (l.getD 1 0).toNat_lt
  unfold numL; omega

/-- How long the payload is that a text's beginning tells of, and the payload itself. -/
def lenL (l : List UInt8) : Int := numL (l.take 2)
def payL (l : List UInt8) : List UInt8 := (l.drop 4).take (lenL l).toNat
def sumL (l : List UInt8) : Int := sumF (sumF 1 (l.take 2)) (payL l)
/-- The payload of the frame at a text's beginning. -/
def firstL (l : List UInt8) : Option (List UInt8) :=
  if l.length < 4 then none
  else if 4000 < lenL l then none
  else if (l.length : Int) - 4 < lenL l then none
  else if numL ((l.drop 2).take 2) = sumL l then some (payL l) else none

theorem extract_list (t : ByteArray) (i j : Nat) : (t.extract i j).data.toList = (t.data.toList.drop i).take (j - i) := by
  rw [ByteArray.data_extract, Array.toList_extract, List.extract_eq_take_drop]
theorem size_list (t : ByteArray) : t.data.toList.length = t.size := Array.length_toList
theorem of_list (t : ByteArray) : (⟨t.data.toList.toArray⟩ : ByteArray) = t := by simp
theorem eq_of_list {t : ByteArray} {l : List UInt8} (h : t.data.toList = l) : t = ⟨l.toArray⟩ := by rw [← h, of_list]

theorem firstL_len {l p : List UInt8} (h : firstL l = some p) : p.length ≤ 4000 ∧ 4 + p.length ≤ l.length := by
  unfold firstL at h
  by_cases h4 : l.length < 4
  · rw [if_pos h4] at h; cases h
  rw [if_neg h4] at h
  by_cases hb : 4000 < lenL l
  · rw [if_pos hb] at h; cases h
  rw [if_neg hb] at h
  by_cases hc : (l.length : Int) - 4 < lenL l
  · rw [if_pos hc] at h; cases h
  rw [if_neg hc] at h
  by_cases hd : numL ((l.drop 2).take 2) = sumL l
  · rw [if_pos hd] at h
    cases h
    have := numL_bd (l.take 2)
    change 0 ≤ lenL l ∧ _ at this
    unfold payL
    rw [List.length_take, List.length_drop]
    omega
  · rw [if_neg hd] at h; cases h

/-- A payload that a frame can have. -/
abbrev Pay := { p : List UInt8 // p.length ≤ 4000 }
def clip (p : List UInt8) : Pay := ⟨p.take 4000, by rw [List.length_take]; omega⟩
theorem clip_val {p : List UInt8} (h : p.length ≤ 4000) : (clip p).1 = p := List.take_of_length_le h

/-- The frames from a place on: of each its payload and the place behind it (f: how many at the most). -/
def items : Nat → List UInt8 → Nat → List (Pay × Nat)
  | 0, _, _ => []
  | f + 1, l, at0 => match firstL (l.drop at0) with
    | none => []
    | some p => (clip p, at0 + (4 + p.length)) :: items f l (at0 + (4 + p.length))

theorem items_none {f : Nat} {l : List UInt8} {a : Nat} (h : firstL (l.drop a) = none) : items f l a = [] := by
  cases f with
  | zero => rfl
  | succ f => unfold items; rw [h]
theorem items_some {f : Nat} {l p : List UInt8} {a : Nat} (hf : l.length ≤ a + f) (h : firstL (l.drop a) = some p) :
    ∃ g, f = g + 1 ∧ l.length ≤ (a + (4 + p.length)) + g ∧ a + (4 + p.length) ≤ l.length ∧ items f l a = (clip p, a + (4 + p.length)) :: items g l (a + (4 + p.length)) := by
  have hl := (firstL_len h).2
  rw [List.length_drop] at hl
  cases f with
  | zero => omega
  | succ g =>
    refine ⟨g, rfl, by omega, by omega, ?_⟩
    conv => lhs; unfold items
    rw [h]
theorem items_length (f : Nat) : ∀ (l : List UInt8) (a : Nat), (items f l a).length ≤ f := by
  induction f with
  | zero => intro l a; exact Nat.le_refl _
  | succ f ih =>
    intro l a
    unfold items
    cases firstL (l.drop a) with
    | none => simp
    | some p => have := ih l (a + (4 + p.length)); simp only [List.length_cons]; omega
/-- All frames of a text, and the place behind the last of them. -/
def all (l : List UInt8) : List (Pay × Nat) := items l.length l 0
def behind (pre : List (Pay × Nat)) : Nat := (pre.getLast?.map (·.2)).getD 0
theorem behind_snoc (pre : List (Pay × Nat)) (x : Pay × Nat) : behind (pre ++ [x]) = x.2 := by simp [behind]

/-- The low byte by a mask. -/
theorem and255 (n : Int) : bits .and .i64 n 255 = n % 256 := by
  have hm : (BitVec.ofInt 64 255).toNat = 2 ^ 8 - 1 := by decide
  have key : (BitVec.ofInt 64 n &&& BitVec.ofInt 64 255).toNat = (n % ((2 ^ 64 : Nat) : Int)).toNat % 2 ^ 8 := by
    rw [BitVec.toNat_and, BitVec.toNat_ofInt, hm, Nat.and_two_pow_sub_one_eq_mod]
  show IntKind.i64.wrap ((BitVec.ofInt 64 n &&& BitVec.ofInt 64 255).toNat : Nat) = n % 256
  rw [key, IntKind.wrap_i64]
  omega

theorem ret_int {k : IntKind} {a b : Int} (h : a = b) : Ending.returned (.int k a) = .returned (.int k b) := by rw [h]
theorem ret_str {a b : List UInt8} (h : a = b) : Ending.returned (.string ⟨a.toArray⟩) = .returned (.string ⟨b.toArray⟩) := by rw [h]

end Fr
end Go.Proofs.Ytidacihlalbohaa

/- The plain mathematics of the document's own Scan: a text begins with the frame of what its length cuts off just where the two readings of a frame agree. -/
namespace Go.Proofs.Ytidacihlalbohaa
namespace Fr

theorem twoL_numL {a b : UInt8} : twoL (numL [a, b]) = [a, b] := by
  have ha := a.toNat_lt
  have hb := b.toNat_lt
  have e : (numL [a, b]).toNat = a.toNat + b.toNat * 256 := by simp [numL]; omega
  have e0 : UInt8.ofNat (a.toNat + b.toNat * 256) = a := by
    apply UInt8.toNat_inj.1; simp
  have e1 : UInt8.ofNat ((a.toNat + b.toNat * 256) / 256) = b := by
    apply UInt8.toNat_inj.1; simp; omega
  unfold twoL
  rw [e, e0, e1]
theorem numL_twoL {n : Int} (h0 : 0 ≤ n) (h1 : n ≤ 65535) : numL (twoL n) = n := by
  simp [numL, twoL]; omega

theorem two_of {l : List UInt8} (h : l.length = 2) : ∃ a b, l = [a, b] := by
  match l, h with
  | [a, b], _ => exact ⟨a, b, rfl⟩
theorem twoL_of {l : List UInt8} (h : l.length = 2) : twoL (numL l) = l := by
  obtain ⟨a, b, rfl⟩ := two_of h; exact twoL_numL

theorem payL_length {l : List UInt8} (h : lenL l ≤ (l.length : Int) - 4) : ((payL l).length : Int) = lenL l := by
  have hb := numL_bd (l.take 2)
  change 0 ≤ lenL l ∧ _ at hb
  unfold payL
  rw [List.length_take, List.length_drop]
  omega

theorem split_frame (l : List UInt8) :
    l.take (4 + (lenL l).toNat) = l.take 2 ++ (l.drop 2).take 2 ++ payL l := by
  have e : 4 + (lenL l).toNat = 2 + (2 + (lenL l).toNat) := by omega
  rw [e, List.take_add, List.take_add, List.drop_drop, ← List.append_assoc]
  rfl

theorem frame_iff {l : List UInt8} (h4 : 4 ≤ l.length) (h : lenL l ≤ (l.length : Int) - 4) :
    frameL (payL l) = l.take (4 + (lenL l).toNat) ↔ numL ((l.drop 2).take 2) = sumL l := by
  have hp := payL_length h
  have h2 : (l.take 2).length = 2 := by rw [List.length_take]; omega
  have h2' : ((l.drop 2).take 2).length = 2 := by rw [List.length_take, List.length_drop]; omega
  have ht : twoL (lenL l) = l.take 2 := twoL_of h2
  obtain ⟨b1, b2⟩ := sumF_bd (l.take 2) 1 (by omega) (by omega)
  obtain ⟨b3, b4⟩ := sumF_bd (payL l) _ b1 b2
  rw [split_frame l]
  unfold frameL
  rw [hp, ht]
  change _ ++ twoL (sumL l) ++ _ = _ ↔ _
  constructor
  · intro e
    have e1 := List.append_cancel_right e
    have e2 := List.append_cancel_left e1
    rw [← e2]
    exact numL_twoL b3 (by unfold sumL; omega)
  · intro e
    rw [← e, twoL_of h2']

theorem firstL_some {l : List UInt8} (h4 : 4 ≤ l.length) (hb : lenL l ≤ 4000) (h : lenL l ≤ (l.length : Int) - 4) (hf : frameL (payL l) = l.take (4 + (lenL l).toNat)) : firstL l = some (payL l) := by
  unfold firstL
  rw [if_neg (by omega), if_neg (by omega), if_neg (by omega), if_pos ((frame_iff h4 h).1 hf)]
theorem firstL_none {l : List UInt8} (h : 4 ≤ l.length → lenL l ≤ 4000 → lenL l ≤ (l.length : Int) - 4 → frameL (payL l) ≠ l.take (4 + (lenL l).toNat)) : firstL l = none := by
  unfold firstL
  by_cases h4 : l.length < 4
  · rw [if_pos h4]
  rw [if_neg h4]
  by_cases hb : 4000 < lenL l
  · rw [if_pos hb]
  rw [if_neg hb]
  by_cases hc : (l.length : Int) - 4 < lenL l
  · rw [if_pos hc]
  rw [if_neg hc, if_neg (fun e => h (by omega) (by omega) (by omega) ((frame_iff (by omega) (by omega)).2 e))]

end Fr
end Go.Proofs.Ytidacihlalbohaa

/- The plain mathematics of framed payloads, one behind the other, with something behind that begins no frame. -/
namespace Go.Proofs.Ytidacihlalbohaa
namespace Fr

theorem frameL_length (p : List UInt8) : (frameL p).length = 4 + p.length := by simp [frameL, twoL]; omega

theorem first_frame {p rest : List UInt8} (hp : p.length ≤ 4000) : firstL (frameL p ++ rest) = some p := by
  have hf := frameL_length p
  have e2 : (frameL p ++ rest).take 2 = twoL p.length := by
    unfold frameL; rw [List.append_assoc, List.append_assoc, List.take_append_of_le_length (by simp [twoL])]; rfl
  have hl : lenL (frameL p ++ rest) = p.length := by unfold lenL; rw [e2]; exact numL_twoL (by omega) (by omega)
  have ht : (frameL p ++ rest).take (4 + p.length) = frameL p := by rw [← hf, List.take_left']; rfl
  have hpay : payL (frameL p ++ rest) = p := by
    unfold payL
    rw [hl, Int.toNat_natCast]
    have e : (frameL p ++ rest).drop 4 = p ++ rest := by unfold frameL twoL; simp
    rw [e, List.take_left']; rfl
  have hlen : ((frameL p ++ rest).length : Int) = 4 + p.length + rest.length := by rw [List.length_append, hf]; omega
  have h := firstL_some (l := frameL p ++ rest) (by omega) (by rw [hl]; omega) (by rw [hl]; omega) (by rw [hpay, hl, Int.toNat_natCast, ht])
  rw [hpay] at h
  exact h

theorem first_dirt (l : List UInt8) : firstL (255 :: 255 :: l) = none := by
  refine firstL_none (fun _ h _ => ?_)
  have e : lenL (255 :: 255 :: l) = 65535 := by unfold lenL; simp [numL]
  rw [e] at h
  omega

/-- The payloads' frames, joined. -/
def cat : List (List UInt8) → List UInt8
  | [] => []
  | p :: ps => frameL p ++ cat ps
theorem cat_snoc (ps : List (List UInt8)) (p : List UInt8) : cat (ps ++ [p]) = cat ps ++ frameL p := by
  induction ps with
  | nil => simp [cat]
  | cons q ps ih => simp [cat, ih]
/-- The payloads, each with the place behind its frame. -/
def placed : Nat → List (List UInt8) → List (Pay × Nat)
  | _, [] => []
  | a, p :: ps => (clip p, a + (4 + p.length)) :: placed (a + (4 + p.length)) ps
theorem placed_length (ps : List (List UInt8)) : ∀ a, (placed a ps).length = ps.length := by
  induction ps with
  | nil => intro a; rfl
  | cons p ps ih => intro a; simp [placed, ih]

theorem items_cat {l J : List UInt8} (hJ : firstL J = none) (ps : List (List UInt8)) : ∀ (f a : Nat), (∀ p ∈ ps, p.length ≤ 4000) → l.length ≤ a + f → l.drop a = cat ps ++ J → items f l a = placed a ps := by
  induction ps with
  | nil =>
    intro f a _ _ h
    exact items_none (by rw [h]; exact hJ)
  | cons p ps ih =>
    intro f a hp hf h
    have hp0 := hp p (by simp)
    have hd : l.drop a = frameL p ++ (cat ps ++ J) := by rw [h]; simp [cat]
    obtain ⟨g, _, hg, _, hit⟩ := items_some hf (by rw [hd]; exact first_frame hp0)
    rw [hit]
    unfold placed
    rw [ih g (a + (4 + p.length)) (fun q hq => hp q (by simp [hq])) hg]
    rw [← List.drop_drop, hd, ← frameL_length p, List.drop_left']
    rfl
theorem all_cat {J : List UInt8} (hJ : firstL J = none) (ps : List (List UInt8)) (hp : ∀ p ∈ ps, p.length ≤ 4000) : all (cat ps ++ J) = placed 0 ps :=
  items_cat hJ ps _ 0 hp (by omega) rfl

theorem behind_placed (ps : List (List UInt8)) : ∀ a, ps ≠ [] → behind (placed a ps) = a + (cat ps).length := by
  induction ps with
  | nil => intro a h; exact absurd rfl h
  | cons p ps ih =>
    intro a _
    cases ps with
    | nil => simp [placed, behind, cat, frameL_length]
    | cons q qs =>
      have h := ih (a + (4 + p.length)) (by simp)
      have e : behind (placed a (p :: q :: qs)) = behind (placed (a + (4 + p.length)) (q :: qs)) := by
        simp [placed, behind]
      rw [e, h]
      simp only [cat, List.length_append, frameL_length]
      omega
theorem behind_cat (ps : List (List UInt8)) : behind (placed 0 ps) = (cat ps).length := by
  cases ps with
  | nil => rfl
  | cons p ps => rw [behind_placed _ 0 (by simp)]; omega

theorem placed_getD {ps : List (List UInt8)} : ∀ (a k : Nat), (∀ p ∈ ps, p.length ≤ 4000) → (hk : k < ps.length) → ∃ q, (placed a ps)[k]? = some q ∧ q.1.1 = ps[k] := by
  induction ps with
  | nil => intro a k _ hk; simp at hk
  | cons p ps ih =>
    intro a k hp hk
    cases k with
    | zero => exact ⟨_, rfl, clip_val (hp p (by simp))⟩
    | succ k =>
      obtain ⟨q, h1, h2⟩ := ih (a + (4 + p.length)) k (fun r hr => hp r (by simp [hr])) (by simpa using hk)
      exact ⟨q, by simpa [placed] using h1, by simpa using h2⟩

end Fr
end Go.Proofs.Ytidacihlalbohaa
