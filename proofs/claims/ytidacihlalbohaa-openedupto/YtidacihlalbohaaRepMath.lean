/- The log gone through, frame by frame, with the place behind the last that counts: the mathematics. -/
import Derived.Test.YtidacihlalbohaaPSmall
import Derived.Test.YtidacihlalbohaaPLook
import Derived.Test.YtidacihlalbohaaRefReplay
import Derived.Test.YtidacihlalbohaaMath
namespace Go.Proofs.Ytidacihlalbohaa
namespace Md
/-- The number ahead, the book, the place behind the last frame that counts. -/
abbrev RSt := Int × Bk × Nat
def stepP (n : Nat) (had : Int) (s : RSt) (x : Fr.Pay × Nat) : Option RSt :=
  if (decide (x.1.1.length = 28) && follows (numAt x.1.1 0) s.1 had) = true then
    if numAt x.1.1 0 ≤ had then some (numAt x.1.1 0, s.2.1, x.2)
    else if isNew s.2.1 (reqAt x.1.1 1) = true then some (numAt x.1.1 0, (doReq s.2.1 (reqAt x.1.1 1) n).1, x.2) else none
  else none
def goP (n : Nat) (had : Int) : List (Fr.Pay × Nat) → RSt → Option RSt
  | [], s => some s
  | x :: l, s => (stepP n had s x).bind (goP n had l)
def finP (n : Nat) (had : Int) : List (Fr.Pay × Nat) → RSt → RSt
  | [], s => s
  | x :: l, s => match stepP n had s x with | none => s | some s' => finP n had l s'
theorem goP_snoc (n : Nat) (had : Int) (x : Fr.Pay × Nat) : ∀ (l : List (Fr.Pay × Nat)) (s : RSt), goP n had (l ++ [x]) s = (goP n had l s).bind fun s' => stepP n had s' x
  | [], s => by show (stepP n had s x).bind (fun s => some s) = stepP n had s x; cases stepP n had s x <;> rfl
  | y :: l, s => by
    show (stepP n had s y).bind (goP n had (l ++ [x])) = ((stepP n had s y).bind (goP n had l)).bind _
    cases stepP n had s y with
    | none => rfl
    | some s' => exact goP_snoc n had x l s'
theorem finP_go (n : Nat) (had : Int) (r : List (Fr.Pay × Nat)) : ∀ (l : List (Fr.Pay × Nat)) (s s' : RSt), goP n had l s = some s' → finP n had (l ++ r) s = finP n had r s'
  | [], s, s', h => by cases h; rfl
  | y :: l, s, s', h => by
    have h : (stepP n had s y).bind (goP n had l) = some s' := h
    show (match stepP n had s y with | none => s | some s1 => finP n had (l ++ r) s1) = _
    cases hy : stepP n had s y with
    | none => rw [hy] at h; cases h
    | some s1 => rw [hy] at h; exact finP_go n had r l s1 s' h
theorem finP_all (n : Nat) (had : Int) (l : List (Fr.Pay × Nat)) (s s' : RSt) (h : goP n had l s = some s') : finP n had l s = s' := by
  have := finP_go n had [] l s s' h
  rwa [List.append_nil] at this
theorem finP_stop (n : Nat) (had : Int) {l pre : List (Fr.Pay × Nat)} {x : Fr.Pay × Nat} {s s' : RSt} (h : goP n had pre s = some s') (hx : stepP n had s' x = none) (hp : (pre ++ [x]) <+: l) : finP n had l s = s' := by
  obtain ⟨r, hr⟩ := hp
  rw [← hr, List.append_assoc, finP_go n had _ pre s s' h]
  show (match stepP n had s' x with | none => s' | some s1 => finP n had r s1) = s'
  rw [hx]
/-- Each frame stands behind the one ahead. -/
def Strings : Nat → List (Fr.Pay × Nat) → Prop
  | _, [] => True
  | a, x :: l => x.2 = a + (4 + x.1.1.length) ∧ Strings x.2 l
theorem strings_items (t : List UInt8) : ∀ (f a : Nat), t.length ≤ a + f → Strings a (Fr.items f t a) := by
  intro f
  induction f with
  | zero => intro a _; exact trivial
  | succ f ih =>
    intro a ha
    unfold Fr.items
    cases h : Fr.firstL (t.drop a) with
    | none => exact trivial
    | some p =>
      obtain ⟨hp, hl⟩ := Fr.firstL_len h
      refine ⟨?_, ih _ (by omega)⟩
      show a + (4 + p.length) = a + (4 + (Fr.clip p).1.length)
      rw [Fr.clip_val hp]
theorem strings_all (t : List UInt8) : Strings 0 (Fr.all t) := strings_items t _ _ (by omega)
theorem recOk_follows (had a : Int) (s : List UInt8) (ha : 0 ≤ a) (_hn : 0 ≤ numAt s 0) : recOk had a (decide (a = 0)) s = (decide (s.length = 28) && follows (numAt s 0) a had) := by
  unfold recOk follows
  by_cases h0 : a = 0
  · subst h0
    simp only [decide_true, if_true]
    cases decide (s.length = 28) <;> cases decide (1 ≤ numAt s 0) <;> cases decide (numAt s 0 ≤ 1000000000) <;> cases decide (numAt s 0 ≤ had + 1) <;> rfl
  · simp only [h0, decide_false, if_false, Bool.false_eq_true]
    by_cases h1 : numAt s 0 = a + 1
    · rw [decide_eq_true h1, decide_eq_true (show 1 ≤ numAt s 0 by omega)]
      cases decide (s.length = 28) <;> cases decide (numAt s 0 ≤ 1000000000) <;> rfl
    · rw [decide_eq_false h1]; simp
theorem finP_replay (n : Nat) (had : Int) : ∀ (l : List (Fr.Pay × Nat)) (a : Int) (C : Bk) (e : Nat) (out : List UInt8), Strings e l → out.length = e → 0 ≤ a → (∀ x ∈ l, 0 ≤ numAt x.1.1 0) →
    (replayL n had (l.map fun x => x.1.1) (decide (a = 0)) a C out).1 = (finP n had l (a, C, e)).2.1 ∧ (replayL n had (l.map fun x => x.1.1) (decide (a = 0)) a C out).2.length = (finP n had l (a, C, e)).2.2
  | [], a, C, e, out, _, ho, _, _ => ⟨rfl, ho⟩
  | x :: l, a, C, e, out, hs, ho, ha, hn => by
    obtain ⟨h1, h2⟩ := hs
    have hx := hn x (List.mem_cons_self ..)
    have hl := fun y hy => hn y (List.mem_cons_of_mem _ hy)
    have hout : (out ++ Fr.frameL x.1.1).length = x.2 := by rw [List.length_append, Fr.frameL_length, ho, h1]
    rw [List.map_cons, replayL, recOk_follows had a x.1.1 ha hx]
    unfold finP stepP
    dsimp only
    by_cases hk : (decide (x.1.1.length = 28) && follows (numAt x.1.1 0) a had) = true
    · rw [if_pos hk, if_pos hk]
      have hpos : 1 ≤ numAt x.1.1 0 := by
        simp only [Bool.and_eq_true] at hk
        have hf := hk.2
        unfold follows at hf
        by_cases h0 : a = 0
        · simp only [h0, if_true, Bool.and_eq_true, decide_eq_true_eq] at hf; exact hf.2.1
        · simp only [h0, if_false, Bool.and_eq_true, decide_eq_true_eq] at hf; omega
      have hfd : false = decide (numAt x.1.1 0 = 0) := (decide_eq_false (by omega)).symm
      by_cases hh : had < numAt x.1.1 0
      · rw [if_pos hh, if_neg (show ¬ numAt x.1.1 0 ≤ had by omega)]
        by_cases hw : isNew C (reqAt x.1.1 1) = true
        · rw [if_pos hw, if_pos hw]
          have := finP_replay n had l (numAt x.1.1 0) (doReq C (reqAt x.1.1 1) n).1 x.2 _ h2 hout hx hl
          rw [hfd]
          exact this
        · rw [if_neg hw, if_neg hw]
          exact ⟨rfl, ho⟩
      · rw [if_neg hh, if_pos (show numAt x.1.1 0 ≤ had by omega)]
        have := finP_replay n had l (numAt x.1.1 0) C x.2 _ h2 hout hx hl
        rw [hfd]
        exact this
    · rw [if_neg hk, if_neg hk]
      exact ⟨rfl, ho⟩
theorem follows_bd {m a old : Int} (h : follows m a old = true) (ha : 0 ≤ a) : 1 ≤ m ∧ m ≤ 1000000000 := by
  unfold follows at h
  by_cases h0 : a = 0
  · simp only [h0, if_true, Bool.and_eq_true, decide_eq_true_eq] at h; omega
  · simp only [h0, if_false, Bool.and_eq_true, decide_eq_true_eq] at h; omega
/-- What becomes of a request, by whether it is new. -/
theorem ask_new (B : Bk) (r : Req) (n : Nat) : (isNew B r = true → ask B r n = ((doReq B r n).1, (doReq B r n).2, true)) ∧ (isNew B r = false → (ask B r n).1 = B ∧ (ask B r n).2.2 = false) := by
  unfold isNew ask
  cases good r with
  | false => simp
  | true =>
    cases known B.past r with
    | none => simp
    | some q => simp
end Md
end Go.Proofs.Ytidacihlalbohaa
