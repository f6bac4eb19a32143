/- The plain mathematics of framed payloads, one behind the other, with something behind that begins no frame. -/
import Derived.Test.YtidacihlalbohaaRefMath
namespace Go.Proofs.Ytidacihlalbohaa
namespace Fr

theorem frameL_length (p : List UInt8) : (frameL p).length = 4 + p.length := by simp [frameL, twoL]; omega

theorem first_frame {p rest : List UInt8} (hp : p.length ≤ 4000) : firstL (frameL p ++ rest) = some p := by
  have hf := frameL_length p
  have e2 : (frameL p ++ rest).take 2 = twoL p.length := by
    unfold frameL; rw [List.append_assoc, List.append_assoc, List.take_append_of_le_length (by simp [twoL])]; rfl
  have hl : lenL (frameL p ++ rest) = p.length := by unfold lenL; rw [e2]; exact numL_twoL (by omega) (by omega)
  have ht : (frameL p ++ rest).take (4 + p.length) = frameL p := by rw [← hf, List.take_left']; rfl
  have hpay : payL (frameL p ++ rest) = p := by
    unfold payL
    rw [hl, Int.toNat_natCast]
    have e : (frameL p ++ rest).drop 4 = p ++ rest := by unfold frameL twoL; simp
    rw [e, List.take_left']; rfl
  have hlen : ((frameL p ++ rest).length : Int) = 4 + p.length + rest.length := by rw [List.length_append, hf]; omega
  have h := firstL_some (l := frameL p ++ rest) (by omega) (by rw [hl]; omega) (by rw [hl]; omega) (by rw [hpay, hl, Int.toNat_natCast, ht])
  rw [hpay] at h
  exact h

theorem first_dirt (l : List UInt8) : firstL (255 :: 255 :: l) = none := by
  refine firstL_none (fun _ h _ => ?_)
  have e : lenL (255 :: 255 :: l) = 65535 := by unfold lenL; simp [numL]
  rw [e] at h
  omega

/-- The payloads' frames, joined. -/
def cat : List (List UInt8) → List UInt8
  | [] => []
  | p :: ps => frameL p ++ cat ps
theorem cat_snoc (ps : List (List UInt8)) (p : List UInt8) : cat (ps ++ [p]) = cat ps ++ frameL p := by
  induction ps with
  | nil => simp [cat]
  | cons q ps ih => simp [cat, ih]
/-- The payloads, each with the place behind its frame. -/
def placed : Nat → List (List UInt8) → List (Pay × Nat)
  | _, [] => []
  | a, p :: ps => (clip p, a + (4 + p.length)) :: placed (a + (4 + p.length)) ps
theorem placed_length (ps : List (List UInt8)) : ∀ a, (placed a ps).length = ps.length := by
  induction ps with
  | nil => intro a; rfl
  | cons p ps ih => intro a; simp [placed, ih]

theorem items_cat {l J : List UInt8} (hJ : firstL J = none) (ps : List (List UInt8)) : ∀ (f a : Nat), (∀ p ∈ ps, p.length ≤ 4000) → l.length ≤ a + f → l.drop a = cat ps ++ J → items f l a = placed a ps := by
  induction ps with
  | nil =>
    intro f a _ _ h
    exact items_none (by rw [h]; exact hJ)
  | cons p ps ih =>
    intro f a hp hf h
    have hp0 := hp p (by simp)
    have hd : l.drop a = frameL p ++ (cat ps ++ J) := by rw [h]; simp [cat]
    obtain ⟨g, _, hg, _, hit⟩ := items_some hf (by rw [hd]; exact first_frame hp0)
    rw [hit]
    unfold placed
    rw [ih g (a + (4 + p.length)) (fun q hq => hp q (by simp [hq])) hg]
    rw [← List.drop_drop, hd, ← frameL_length p, List.drop_left']
    rfl
theorem all_cat {J : List UInt8} (hJ : firstL J = none) (ps : List (List UInt8)) (hp : ∀ p ∈ ps, p.length ≤ 4000) : all (cat ps ++ J) = placed 0 ps :=
  items_cat hJ ps _ 0 hp (by omega) rfl

theorem behind_placed (ps : List (List UInt8)) : ∀ a, ps ≠ [] → behind (placed a ps) = a + (cat ps).length := by
  induction ps with
  | nil => intro a h; exact absurd rfl h
  | cons p ps ih =>
    intro a _
    cases ps with
    | nil => simp [placed, behind, cat, frameL_length]
    | cons q qs =>
      have h := ih (a + (4 + p.length)) (by simp)
      have e : behind (placed a (p :: q :: qs)) = behind (placed (a + (4 + p.length)) (q :: qs)) := by
        simp [placed, behind]
      rw [e, h]
      simp only [cat, List.length_append, frameL_length]
      omega
theorem behind_cat (ps : List (List UInt8)) : behind (placed 0 ps) = (cat ps).length := by
  cases ps with
  | nil => rfl
  | cons p ps => rw [behind_placed _ 0 (by simp)]; omega

theorem placed_getD {ps : List (List UInt8)} : ∀ (a k : Nat), (∀ p ∈ ps, p.length ≤ 4000) → (hk : k < ps.length) → ∃ q, (placed a ps)[k]? = some q ∧ q.1.1 = ps[k] := by
  induction ps with
  | nil => intro a k _ hk; simp at hk
  | cons p ps ih =>
    intro a k hp hk
    cases k with
    | zero => exact ⟨_, rfl, clip_val (hp p (by simp))⟩
    | succ k =>
      obtain ⟨q, h1, h2⟩ := ih (a + (4 + p.length)) k (fun r hr => hp r (by simp [hr])) (by simpa using hk)
      exact ⟨q, by simpa [placed] using h1, by simpa using h2⟩

end Fr
end Go.Proofs.Ytidacihlalbohaa
