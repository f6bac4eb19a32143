/- Reading a snapshot in plain Lean: the document's way (read, then written down again it must be the same text) and the way of bounds (each number in its bounds as it is read) accept the same texts, and read the same book. -/
import Derived.Test.YtidacihlalbohaaModel
namespace Go.Proofs.Ytidacihlalbohaa
namespace Md

def bytes (l : List Int) : List UInt8 := l.flatMap four
theorem bytes_len (l : List Int) : (bytes l).length = 4 * l.length := by
  induction l with
  | nil => rfl
  | cons x l ih => rw [show bytes (x :: l) = four x ++ bytes l from rfl, List.length_append, ih, four_len, List.length_cons]; omega
theorem bytes_append (a b : List Int) : bytes (a ++ b) = bytes a ++ bytes b := by simp [bytes]
theorem bytes_one (n : Int) : bytes [n] = four n := by simp [bytes]

theorem four_num (a b c d : UInt8) : four ((a.toNat : Int) + 256 * (b.toNat : Int) + 65536 * (c.toNat : Int) + 16777216 * (d.toNat : Int)) = [a, b, c, d] := by
  have ha := a.toNat_lt
  have hb := b.toNat_lt
  have hc := c.toNat_lt
  have hd := d.toNat_lt
  have e1 : ((a.toNat : Int) + 256 * (b.toNat : Int) + 65536 * (c.toNat : Int) + 16777216 * (d.toNat : Int)) % 65536 = Fr.numL [a, b] := by simp [Fr.numL]; omega
  have e2 : ((a.toNat : Int) + 256 * (b.toNat : Int) + 65536 * (c.toNat : Int) + 16777216 * (d.toNat : Int)) / 65536 % 65536 = Fr.numL [c, d] := by simp [Fr.numL]; omega
  unfold four
  rw [e1, e2, Fr.twoL_numL, Fr.twoL_numL]; rfl
theorem num_four {n : Int} (h0 : 0 ≤ n) (h1 : n ≤ 4294967295) (l : List UInt8) : numAt (four n ++ l) 0 = n := by
  have e1 := Fr.numL_twoL (n := n % 65536) (by omega) (by omega)
  have e2 := Fr.numL_twoL (n := n / 65536 % 65536) (by omega) (by omega)
  obtain ⟨a, b, hab⟩ := Fr.two_of (show (Fr.twoL (n % 65536)).length = 2 from rfl)
  obtain ⟨c, d, hcd⟩ := Fr.two_of (show (Fr.twoL (n / 65536 % 65536)).length = 2 from rfl)
  rw [hab] at e1
  rw [hcd] at e2
  unfold numAt four
  rw [hab, hcd]
  simp [Fr.numL] at e1 e2
  rw [if_neg (by simp)]
  simp
  omega
theorem numAt_drop (l : List UInt8) (i k : Nat) : numAt (l.drop (4 * k)) i = numAt l (k + i) := by
  unfold numAt
  by_cases h : l.length < 4 * (k + i) + 4
  · rw [if_pos (by rw [List.length_drop]; omega), if_pos h]
  · rw [if_neg (by rw [List.length_drop]; omega), if_neg h]
    simp only [List.getD_eq_getElem?_getD, List.getElem?_drop]
    rw [show 4 * k + 4 * i = 4 * (k + i) by omega, show 4 * k + (4 * i + 1) = 4 * (k + i) + 1 by omega, show 4 * k + (4 * i + 2) = 4 * (k + i) + 2 by omega, show 4 * k + (4 * i + 3) = 4 * (k + i) + 3 by omega]
theorem numAt_skip (a b : List UInt8) (k i : Nat) (h : a.length = 4 * k) : numAt (a ++ b) (k + i) = numAt b i := by
  rw [← numAt_drop, ← h]; simp
theorem numAt_bytes {l : List Int} (hl : ∀ n ∈ l, 0 ≤ n ∧ n ≤ 4294967295) : ∀ (i : Nat) (x : Int), l[i]? = some x → numAt (bytes l) i = x := by
  induction l with
  | nil => intro i x h; simp at h
  | cons y l ih =>
    intro i x h
    have e : bytes (y :: l) = four y ++ bytes l := rfl
    rw [e]
    cases i with
    | zero =>
      simp at h; subst h
      obtain ⟨h0, h1⟩ := hl y (by simp)
      exact num_four h0 h1 _
    | succ i =>
      have := numAt_skip (four y) (bytes l) 1 i (by rw [four_len])
      rw [show i + 1 = 1 + i by omega, this]
      exact ih (fun n hn => hl n (by simp [hn])) i x (by simpa using h)
theorem bytes_of (N : Nat) : ∀ (s : List UInt8), s.length = 4 * N → s = bytes ((List.range N).map (numAt s)) := by
  induction N with
  | zero => intro s h; simp at h; subst h; rfl
  | succ N ih =>
    intro s h
    match s, h with
    | a :: b :: c :: d :: t, h =>
      have ht : t.length = 4 * N := by simp at h; omega
      have e1 : (List.range (N + 1)).map (numAt (a :: b :: c :: d :: t)) = numAt (a :: b :: c :: d :: t) 0 :: (List.range N).map (numAt t) := by
        rw [List.range_succ_eq_map, List.map_cons, List.map_map]
        congr 1
        apply List.map_congr_left
        intro i _
        have := numAt_drop (a :: b :: c :: d :: t) i 1
        simp at this
        show numAt _ (i + 1) = _
        rw [show i + 1 = 1 + i by omega, ← this]
      have e2 : four (numAt (a :: b :: c :: d :: t) 0) = [a, b, c, d] := by
        unfold numAt
        rw [if_neg (by simp)]
        simpa using four_num a b c d
      rw [e1, show bytes (numAt (a :: b :: c :: d :: t) 0 :: (List.range N).map (numAt t)) = four (numAt (a :: b :: c :: d :: t) 0) ++ bytes ((List.range N).map (numAt t)) from rfl, e2, ← ih t ht]
      rfl

/- The numbers of a book's snapshot. -/
def cellNums (B : Bk) : Nat → List Int
  | 0 => []
  | k + 1 => cellNums B k ++ [B.onHand k, B.committed k]
def holdRow (B : Bk) (h : Nat) : List Int := [(h : Int), B.hc h, B.hn h, B.ht h]
def liveL (B : Bk) : Nat → List Nat
  | 0 => []
  | k + 1 => liveL B k ++ if B.live (k + 1) then [k + 1] else []
def holdNums (B : Bk) (k : Nat) : List Int := (liveL B k).flatMap (holdRow B)
def pastNums (x : Past) : List Int := [x.req.id, x.req.kind, x.req.cell, x.req.hold, x.req.count, x.req.time, x.rep.code, x.rep.count]
def nums (B : Bk) : List Int := [B.count, B.clock] ++ cellNums B 8 ++ [(liveN B 50 : Int)] ++ holdNums B 50 ++ [(B.past.length : Int)] ++ B.past.flatMap pastNums

theorem cellsTo_bytes (B : Bk) : ∀ k, cellsTo B k = bytes (cellNums B k) := by
  intro k
  induction k with
  | zero => rfl
  | succ k ih => rw [cellsTo, cellNums, bytes_append, ih]; simp [bytes]
theorem holdsTo_bytes (B : Bk) : ∀ k, holdsTo B k = bytes (holdNums B k) := by
  intro k
  induction k with
  | zero => rfl
  | succ k ih =>
    unfold holdNums at ih ⊢
    rw [holdsTo, liveL, ih, List.flatMap_append, bytes_append]
    cases B.live (k + 1) <;> simp [bytes, holdRow, holdL]
theorem pastsL_bytes (l : List Past) : pastsL l = bytes (l.flatMap pastNums) := by
  induction l with
  | nil => rfl
  | cons x l ih =>
    rw [show pastsL (x :: l) = pastL x ++ pastsL l from rfl, List.flatMap_cons, bytes_append, ih]
    congr 1
theorem snap_bytes (B : Bk) : snap B = bytes (nums B) := by
  unfold snap nums
  simp only [bytes_append, bytes_one, cellsTo_bytes, holdsTo_bytes, pastsL_bytes]
  rfl
theorem cellNums_len (B : Bk) : ∀ k, (cellNums B k).length = 2 * k := by
  intro k
  induction k with
  | zero => rfl
  | succ k ih => rw [cellNums, List.length_append, ih]; simp; omega
theorem liveL_len (B : Bk) : ∀ k, (liveL B k).length = liveN B k := by
  intro k
  induction k with
  | zero => rfl
  | succ k ih => rw [liveL, liveN, List.length_append, ih]; split <;> rfl
theorem liveL_mem (B : Bk) : ∀ k h, h ∈ liveL B k ↔ 1 ≤ h ∧ h ≤ k ∧ B.live h = true := by
  intro k
  induction k with
  | zero => intro h; simp [liveL]; omega
  | succ k ih =>
    intro h
    rw [liveL, List.mem_append, ih]
    constructor
    · rintro (⟨a, b, c⟩ | a)
      · exact ⟨a, by omega, c⟩
      · split at a
        · simp at a; subst a; exact ⟨by omega, by omega, by assumption⟩
        · simp at a
    · rintro ⟨a, b, c⟩
      by_cases e : h = k + 1
      · subst e; right; rw [if_pos c]; simp
      · left; exact ⟨a, by omega, c⟩
theorem liveL_sorted (B : Bk) : ∀ k, (liveL B k).Pairwise (· < ·) := by
  intro k
  induction k with
  | zero => exact List.Pairwise.nil
  | succ k ih =>
    rw [liveL, List.pairwise_append]
    refine ⟨ih, ?_, ?_⟩
    · split
      · exact List.pairwise_singleton _ _
      · exact List.Pairwise.nil
    · intro a ha b hb
      have := ((liveL_mem B k a).1 ha).2.1
      split at hb
      · simp at hb; omega
      · simp at hb
/-- Rows of one length laid end to end. -/
theorem flat_at {α β : Type} {f : α → List β} {m : Nat} (hf : ∀ x, (f x).length = m) : ∀ (l : List α) (k o : Nat) (x : α), l[k]? = some x → o < m → (l.flatMap f)[m * k + o]? = (f x)[o]? := by
  intro l
  induction l with
  | nil => intro k o x h; simp at h
  | cons y l ih =>
    intro k o x h ho
    rw [List.flatMap_cons]
    cases k with
    | zero => simp at h; subst h; rw [List.getElem?_append_left (by rw [hf]; omega)]; simp
    | succ k =>
      rw [List.getElem?_append_right (by rw [hf, Nat.mul_add]; omega), hf, show m * (k + 1) + o - m = m * k + o by rw [Nat.mul_add]; omega]
      exact ih k o x (by simpa using h) ho
theorem flat_congr {α β : Type} {f g : α → List β} : ∀ (l : List α), (∀ x, x ∈ l → f x = g x) → l.flatMap f = l.flatMap g := by
  intro l
  induction l with
  | nil => intro _; rfl
  | cons y l ih => intro h; rw [List.flatMap_cons, List.flatMap_cons, h y (by simp), ih (fun x hx => h x (by simp [hx]))]
theorem flat_len {α β : Type} {f : α → List β} {m : Nat} (hf : ∀ x, (f x).length = m) (l : List α) : (l.flatMap f).length = m * l.length := by
  induction l with
  | nil => simp
  | cons y l ih => rw [List.flatMap_cons, List.length_append, ih, hf, List.length_cons, Nat.mul_add]; omega
theorem holdNums_len (B : Bk) (k : Nat) : (holdNums B k).length = 4 * liveN B k := by
  unfold holdNums; rw [flat_len (m := 4) (fun _ => rfl), liveL_len]

/- The document's reading. -/
def hNo (s : List UInt8) (k : Nat) : Int := numAt s (19 + 4 * k)
def hCell (s : List UInt8) (k : Nat) : Int := numAt s (19 + 4 * k + 1)
def hCount (s : List UInt8) (k : Nat) : Int := numAt s (19 + 4 * k + 2)
def hTime (s : List UInt8) (k : Nat) : Int := numAt s (19 + 4 * k + 3)
def book0 (s : List UInt8) : Bk := ⟨fun i => numAt s (2 + 2 * i), fun i => numAt s (3 + 2 * i), fun _ => 0, fun _ => 0, fun _ => 0, fun _ => false, numAt s 1, numAt s 0, []⟩
def putHold (B : Bk) (h : Nat) (c n t : Int) : Bk := { B with live := upd B.live h true, hc := upd B.hc h c, hn := upd B.hn h n, ht := upd B.ht h t }
def rHolds (s : List UInt8) : Nat → Bk
  | 0 => book0 s
  | k + 1 => putHold (rHolds s k) (hNo s k).toNat (hCell s k) (hCount s k) (hTime s k)
def holdGood (s : List UInt8) (k : Nat) : Bool := good ⟨1, 1, hCell s k, hNo s k, hCount s k, hTime s k⟩ && decide (numAt s 1 < hTime s k)
def holdsGood (s : List UInt8) : Nat → Bool
  | 0 => true
  | k + 1 => holdsGood s k && holdGood s k
def nH (s : List UInt8) : Nat := min 50 (numAt s 18).toNat
def nP (s : List UInt8) (n : Nat) : Nat := min 20 (numAt s (19 + 4 * n)).toNat
def pastRd (s : List UInt8) (a : Nat) (k : Nat) : Past := ⟨reqAt s (a + 8 * k), ⟨numAt s (a + 8 * k + 6), numAt s (a + 8 * k + 7)⟩⟩
def pastsRd (s : List UInt8) (a m : Nat) : List Past := (List.range m).map (pastRd s a)
def rBook (s : List UInt8) (n m : Nat) : Bk := { rHolds s n with past := pastsRd s (20 + 4 * n) m }
def ofSnap (s : List UInt8) : Option Bk :=
  if holdsGood s (nH s) = true ∧ sound (rBook s (nH s) (nP s (nH s))) = true ∧ snap (rBook s (nH s) (nP s (nH s))) = s then some (rBook s (nH s) (nP s (nH s))) else none

/- The reading by bounds. -/
def prevNo (s : List UInt8) : Nat → Int
  | 0 => 0
  | k + 1 => hNo s k
def okHead (s : List UInt8) : Prop := numAt s 0 ≤ 1000000000 ∧ numAt s 1 ≤ 1000000000
def okCells (s : List UInt8) (k : Nat) : Prop := ∀ i, i < k → numAt s (2 + 2 * i) ≤ 1000000000 ∧ numAt s (3 + 2 * i) ≤ 1000000000
def okHold (s : List UInt8) (k : Nat) : Prop := prevNo s k + 1 ≤ hNo s k ∧ hNo s k ≤ 50 ∧ hCell s k ≤ 7 ∧ 1 ≤ hCount s k ∧ hCount s k ≤ 1000000 ∧ numAt s 1 + 1 ≤ hTime s k ∧ hTime s k ≤ 1000000000
def okHolds (s : List UInt8) (k : Nat) : Prop := ∀ j, j < k → okHold s j
def okPast (s : List UInt8) (a k : Nat) : Prop := pastFine (pastsRd s a k) (pastRd s a k) = true
def okPasts (s : List UInt8) (a k : Nat) : Prop := ∀ j, j < k → okPast s a j
structure Okay (s : List UInt8) (n m : Nat) : Prop where
  head : okHead s
  cells : okCells s 8
  nh : numAt s 18 = n ∧ n ≤ 50
  holds : okHolds s n
  np : numAt s (19 + 4 * n) = m ∧ m ≤ 20 ∧ (m : Int) ≤ numAt s 0
  pasts : okPasts s (20 + 4 * n) m
  len : s.length = 4 * (20 + 4 * n + 8 * m)
  free : ∀ i, i < 8 → 0 ≤ free (rBook s n m) i

theorem rHolds_keep (s : List UInt8) : ∀ k, (rHolds s k).onHand = (book0 s).onHand ∧ (rHolds s k).committed = (book0 s).committed ∧ (rHolds s k).clock = numAt s 1 ∧ (rHolds s k).count = numAt s 0 := by
  intro k
  induction k with
  | zero => exact ⟨rfl, rfl, rfl, rfl⟩
  | succ k ih => exact ih
theorem pastsRd_len (s : List UInt8) (a m : Nat) : (pastsRd s a m).length = m := by simp [pastsRd]
theorem pastsRd_at (s : List UInt8) (a m k : Nat) (h : k < m) : (pastsRd s a m)[k]? = some (pastRd s a k) := by simp [pastsRd, h]
theorem pastsRd_take (s : List UInt8) (a m k : Nat) (h : k ≤ m) : (pastsRd s a m).take k = pastsRd s a k := by
  unfold pastsRd; rw [← List.map_take, List.take_range, Nat.min_eq_left h]
theorem pastsFine_iff (s : List UInt8) (a m : Nat) : ∀ k, k ≤ m → (pastsFine (pastsRd s a m) k = true ↔ okPasts s a k) := by
  intro k
  induction k with
  | zero => intro _; simp [pastsFine, okPasts]
  | succ k ih =>
    intro hk
    rw [pastsFine, pastsRd_at s a m k (by omega)]
    simp only [Bool.and_eq_true]
    rw [ih (by omega), pastsRd_take s a m k (by omega)]
    constructor
    · rintro ⟨h1, h2⟩ j hj
      by_cases e : j = k
      · subst e; exact h2
      · exact h1 j (by omega)
    · intro h
      exact ⟨fun j hj => h j (by omega), h k (by omega)⟩
theorem cellsFine_iff (B : Bk) : ∀ k, cellsFine B k = true ↔ ∀ i, i < k → B.onHand i ≤ 1000000000 ∧ 0 ≤ free B i := by
  intro k
  induction k with
  | zero => simp [cellsFine]
  | succ k ih =>
    rw [cellsFine, Bool.and_eq_true, ih]
    constructor
    · rintro ⟨h1, h2⟩ i hi
      by_cases e : i = k
      · subst e; simp [cellFine] at h2; omega
      · exact h1 i (by omega)
    · intro h
      refine ⟨fun i hi => h i (by omega), ?_⟩
      have := h k (by omega)
      simp [cellFine]; omega
theorem holdsGood_iff (s : List UInt8) : ∀ k, holdsGood s k = true ↔ ∀ j, j < k → holdGood s j = true := by
  intro k
  induction k with
  | zero => simp [holdsGood]
  | succ k ih =>
    rw [holdsGood, Bool.and_eq_true, ih]
    constructor
    · rintro ⟨h1, h2⟩ j hj
      by_cases e : j = k
      · subst e; exact h2
      · exact h1 j (by omega)
    · intro h
      exact ⟨fun j hj => h j (by omega), h k (by omega)⟩
theorem holdGood_iff (s : List UInt8) (k : Nat) : holdGood s k = true ↔ 1 ≤ hNo s k ∧ hNo s k ≤ 50 ∧ hCell s k ≤ 7 ∧ 1 ≤ hCount s k ∧ hCount s k ≤ 1000000 ∧ numAt s 1 + 1 ≤ hTime s k ∧ hTime s k ≤ 1000000000 := by
  have h1 := numAt_bd s (19 + 4 * k + 1)
  have h2 := numAt_bd s (19 + 4 * k + 3)
  change 0 ≤ hCell s k ∧ _ at h1
  change 0 ≤ hTime s k ∧ _ at h2
  simp only [holdGood, good, cellOk, holdOk, countOk, timeOk, inR, Bool.and_eq_true, decide_eq_true_eq]
  simp
  omega

theorem holdsGood_less {s : List UInt8} {k n : Nat} (h : k < n) (hf : holdGood s k = false) : holdsGood s n = false := by
  cases e : holdsGood s n with
  | false => rfl
  | true => rw [(holdsGood_iff s n).1 e k h] at hf; cases hf
theorem ofSnap_hold {s : List UInt8} {k : Nat} (h : k < nH s) (hf : holdGood s k = false) : ofSnap s = none := by
  unfold ofSnap
  rw [if_neg]
  rintro ⟨h1, _⟩
  rw [holdsGood_less h hf] at h1; cases h1

/- From the bounds to the text. -/
def mapR (s : List UInt8) (a N : Nat) : List Int := (List.range N).map fun i => numAt s (a + i)
theorem mapR_add (s : List UInt8) (a p q : Nat) : mapR s a (p + q) = mapR s a p ++ mapR s (a + p) q := by
  unfold mapR
  rw [List.range_add, List.map_append, List.map_map]
  congr 1
  apply List.map_congr_left
  intro i _
  show numAt s (a + (p + i)) = numAt s (a + p + i)
  rw [Nat.add_assoc]
theorem liveL_congr {A B : Bk} : ∀ k, (∀ i, i ≤ k → A.live i = B.live i) → liveL A k = liveL B k := by
  intro k
  induction k with
  | zero => intro _; rfl
  | succ k ih => intro h; rw [liveL, liveL, ih (fun i hi => h i (by omega)), h (k + 1) (by omega)]
theorem liveL_stop {B : Bk} {p : Nat} (h : ∀ i, p < i → B.live i = false) : ∀ k, p ≤ k → liveL B k = liveL B p := by
  intro k
  induction k with
  | zero => intro hk; obtain rfl : p = 0 := by omega
            rfl
  | succ k ih =>
    intro hk
    by_cases e : p = k + 1
    · subst e; rfl
    · rw [liveL, h (k + 1) (by omega), ih (by omega)]; simp
theorem liveL_put {B : Bk} {h K : Nat} (hB : ∀ i, h ≤ i → B.live i = false) (h1 : 1 ≤ h) (h2 : h ≤ K) (c n t : Int) : liveL (putHold B h c n t) K = liveL B K ++ [h] := by
  have e1 : liveL (putHold B h c n t) K = liveL (putHold B h c n t) h := liveL_stop (fun i hi => by
    show upd B.live h true i = false
    unfold upd; rw [if_neg (by omega)]; exact hB i (by omega)) K h2
  have e2 : liveL B K = liveL B (h - 1) := liveL_stop (fun i hi => hB i (by omega)) K (by omega)
  obtain ⟨j, rfl⟩ : ∃ j, h = j + 1 := ⟨h - 1, by omega⟩
  have e3 : (putHold B (j + 1) c n t).live (j + 1) = true := by show upd B.live (j + 1) true (j + 1) = true; simp [upd]
  have e4 : liveL (putHold B (j + 1) c n t) (j + 1) = liveL (putHold B (j + 1) c n t) j ++ [j + 1] := by rw [liveL, e3, if_pos rfl]
  rw [e1, e2, e4]
  congr 1
  exact liveL_congr j (fun i hi => by show upd B.live (j + 1) true i = B.live i; unfold upd; rw [if_neg (by omega)])
theorem prevNo_nonneg (s : List UInt8) (n : Nat) : 0 ≤ prevNo s n := by
  cases n with
  | zero => exact Int.le_refl _
  | succ k => exact (numAt_bd s _).1
theorem rHolds_live {s : List UInt8} : ∀ n, okHolds s n → ∀ i : Nat, prevNo s n < (i : Int) → (rHolds s n).live i = false := by
  intro n
  induction n with
  | zero => intro _ i _; rfl
  | succ n ih =>
    intro h i hi
    have h1 := h n (by omega)
    have hp : prevNo s n < hNo s n := by have := h1.1; omega
    have h0 := prevNo_nonneg s n
    change hNo s n < (i : Int) at hi
    show upd (rHolds s n).live (hNo s n).toNat true i = false
    unfold upd
    rw [if_neg (by omega)]
    exact ih (fun j hj => h j (by omega)) i (by omega)
theorem rHolds_list {s : List UInt8} {K : Nat} (hK : 50 ≤ K) : ∀ n, okHolds s n → holdNums (rHolds s n) K = mapR s 19 (4 * n) ∧ (liveL (rHolds s n) K).length = n := by
  intro n
  induction n with
  | zero =>
    intro _
    have e : liveL (rHolds s 0) K = [] := liveL_stop (p := 0) (fun _ _ => rfl) K (Nat.zero_le _)
    unfold holdNums
    rw [e]
    exact ⟨rfl, rfl⟩
  | succ n ih =>
    intro h
    obtain ⟨i1, i2⟩ := ih (fun j hj => h j (by omega))
    have h1 := h n (by omega)
    have h0 := prevNo_nonneg s n
    have hl := rHolds_live n (fun j hj => h j (by omega))
    have e := liveL_put (B := rHolds s n) (h := (hNo s n).toNat) (K := K) (fun i hi => hl i (by have := h1.1; omega)) (by have := h1.1; omega) (by have := h1.2.1; omega) (hCell s n) (hCount s n) (hTime s n)
    have er : rHolds s (n + 1) = putHold (rHolds s n) (hNo s n).toNat (hCell s n) (hCount s n) (hTime s n) := rfl
    rw [er]
    refine ⟨?_, by rw [e, List.length_append, i2]; rfl⟩
    unfold holdNums at i1 ⊢
    rw [e, List.flatMap_append, show 4 * (n + 1) = 4 * n + 4 by omega, mapR_add, ← i1]
    congr 1
    · apply flat_congr
      intro i hi
      have hi2 := (liveL_mem _ _ _).1 hi
      have hne : i ≠ (hNo s n).toNat := by
        intro e2
        have := hl i (by have := h1.1; omega)
        rw [this] at hi2; exact absurd hi2.2.2 (by simp)
      unfold holdRow putHold upd
      simp [hne]
    · have hh : (((hNo s n).toNat : Nat) : Int) = hNo s n := by have := h1.1; omega
      simp only [List.flatMap_cons, List.flatMap_nil, List.append_nil]
      unfold holdRow putHold upd
      simp only [if_true]
      rw [hh]
      rfl
theorem cellNums_map (s : List UInt8) (B : Bk) (h1 : B.onHand = (book0 s).onHand) (h2 : B.committed = (book0 s).committed) : ∀ k, cellNums B k = mapR s 2 (2 * k) := by
  intro k
  induction k with
  | zero => rfl
  | succ k ih =>
    rw [cellNums, ih, show 2 * (k + 1) = 2 * k + 2 by omega, mapR_add, h1, h2]
    congr 1
    show [numAt s (2 + 2 * k), numAt s (3 + 2 * k)] = [numAt s (2 + 2 * k + 0), numAt s (2 + 2 * k + 1)]
    rw [show 3 + 2 * k = 2 + 2 * k + 1 by omega]; rfl
theorem pastNums_map (s : List UInt8) (a : Nat) : ∀ m, (pastsRd s a m).flatMap pastNums = mapR s a (8 * m) := by
  intro m
  induction m with
  | zero => rfl
  | succ m ih =>
    have e : pastsRd s a (m + 1) = pastsRd s a m ++ [pastRd s a m] := by simp [pastsRd, List.range_succ]
    rw [e, List.flatMap_append, ih, show 8 * (m + 1) = 8 * m + 8 by omega, mapR_add]
    congr 1
theorem Okay.text {s : List UInt8} {n m : Nat} (h : Okay s n m) : snap (rBook s n m) = s := by
  obtain ⟨k1, k2, k3, k4⟩ := rHolds_keep s n
  obtain ⟨l1, l2⟩ := rHolds_list (K := 50) (Nat.le_refl _) n h.holds
  have e0 : s = bytes (mapR s 0 (20 + 4 * n + 8 * m)) := by
    have := bytes_of (20 + 4 * n + 8 * m) s h.len
    refine this.trans (congrArg bytes ?_)
    unfold mapR
    apply List.map_congr_left
    intro i _
    rw [Nat.zero_add]
  have e1 : nums (rBook s n m) = mapR s 0 (20 + 4 * n + 8 * m) := by
    rw [show 20 + 4 * n + 8 * m = 2 + 2 * 8 + 1 + 4 * n + 1 + 8 * m by omega]
    simp only [mapR_add]
    unfold nums
    have f1 : [(rBook s n m).count, (rBook s n m).clock] = mapR s 0 2 := by
      show [(rHolds s n).count, (rHolds s n).clock] = [numAt s 0, numAt s 1]
      rw [k3, k4]
    have f2 : cellNums (rBook s n m) 8 = mapR s (0 + 2) (2 * 8) := cellNums_map s _ k1 k2 8
    have f3 : [(liveN (rBook s n m) 50 : Int)] = mapR s (0 + (2 + 2 * 8)) 1 := by
      have : liveN (rBook s n m) 50 = n := by rw [← liveL_len]; exact (congrArg List.length (liveL_congr (B := rHolds s n) 50 (fun _ _ => rfl))).trans l2
      rw [this, ← h.nh.1]; rfl
    have f4 : holdNums (rBook s n m) 50 = mapR s (0 + (2 + 2 * 8 + 1)) (4 * n) := by
      have : holdNums (rBook s n m) 50 = holdNums (rHolds s n) 50 := by
        unfold holdNums
        rw [liveL_congr (A := rBook s n m) (B := rHolds s n) 50 (fun _ _ => rfl)]
        rfl
      rw [this, l1]
    have f5 : [((rBook s n m).past.length : Int)] = mapR s (0 + (2 + 2 * 8 + 1 + 4 * n)) 1 := by
      show [((pastsRd s (20 + 4 * n) m).length : Int)] = [numAt s (0 + (2 + 2 * 8 + 1 + 4 * n) + 0)]
      rw [pastsRd_len, show 0 + (2 + 2 * 8 + 1 + 4 * n) + 0 = 19 + 4 * n by omega, h.np.1]
    have f6 : (rBook s n m).past.flatMap pastNums = mapR s (0 + (2 + 2 * 8 + 1 + 4 * n + 1)) (8 * m) := by
      show (pastsRd s (20 + 4 * n) m).flatMap pastNums = _
      rw [pastNums_map, show 0 + (2 + 2 * 8 + 1 + 4 * n + 1) = 20 + 4 * n by omega]
    rw [f1, f2, f3, f4, f5, f6]
  exact (snap_bytes _).trans ((congrArg bytes e1).trans e0.symm)
theorem Okay.sound {s : List UInt8} {n m : Nat} (h : Okay s n m) : sound (rBook s n m) = true := by
  obtain ⟨k1, k2, k3, k4⟩ := rHolds_keep s n
  unfold Md.sound
  rw [Bool.and_eq_true, Bool.and_eq_true]
  refine ⟨⟨?_, ?_⟩, ?_⟩
  · have c1 : (rBook s n m).count = numAt s 0 := k4
    have c2 : (rBook s n m).clock = numAt s 1 := k3
    have c3 : (rBook s n m).past.length = m := pastsRd_len _ _ _
    unfold headOk
    rw [c1, c2, c3]
    have := h.head.1
    have := h.head.2
    have := h.np.2.2
    simp; omega
  · rw [cellsFine_iff]
    intro i hi
    refine ⟨?_, h.free i hi⟩
    show (rHolds s n).onHand i ≤ _
    rw [k1]
    exact (h.cells i hi).1
  · show pastsFine (pastsRd s (20 + 4 * n) m) (pastsRd s (20 + 4 * n) m).length = true
    rw [pastsRd_len, pastsFine_iff _ _ _ _ (Nat.le_refl _)]
    exact h.pasts
theorem Okay.holdsGood {s : List UInt8} {n m : Nat} (h : Okay s n m) : holdsGood s n = true := by
  rw [holdsGood_iff]
  intro j hj
  have := h.holds j hj
  have h0 := prevNo_nonneg s j
  rw [holdGood_iff]
  obtain ⟨a, b, c, d, e, f, g⟩ := this
  exact ⟨by omega, b, c, d, e, f, g⟩
theorem Okay.ofSnap {s : List UInt8} {n m : Nat} (h : Okay s n m) : ofSnap s = some (rBook s n m) := by
  have h1 : nH s = n := by unfold nH; have := h.nh; omega
  have h2 : nP s n = m := by unfold nP; have := h.np; omega
  unfold Md.ofSnap
  rw [h1, h2, if_pos ⟨h.holdsGood, h.sound, h.text⟩]

/- From the text to the bounds. -/
theorem rHolds_bd (s : List UInt8) : ∀ n h, (0 ≤ (rHolds s n).hc h ∧ (rHolds s n).hc h ≤ 4294967295) ∧ (0 ≤ (rHolds s n).hn h ∧ (rHolds s n).hn h ≤ 4294967295) ∧ (0 ≤ (rHolds s n).ht h ∧ (rHolds s n).ht h ≤ 4294967295) := by
  intro n
  induction n with
  | zero => intro h; simp [rHolds, book0]
  | succ n ih =>
    intro h
    have i := ih h
    show (0 ≤ upd (rHolds s n).hc _ _ h ∧ upd (rHolds s n).hc _ _ h ≤ _) ∧ (0 ≤ upd (rHolds s n).hn _ _ h ∧ upd (rHolds s n).hn _ _ h ≤ _) ∧ (0 ≤ upd (rHolds s n).ht _ _ h ∧ upd (rHolds s n).ht _ _ h ≤ _)
    unfold upd
    split
    · exact ⟨numAt_bd s _, numAt_bd s _, numAt_bd s _⟩
    · exact i
theorem rBook_small (s : List UInt8) (n m : Nat) : Small (rBook s n m) := by
  obtain ⟨k1, k2, k3, k4⟩ := rHolds_keep s n
  refine ⟨fun i _ => ?_, fun i _ => ?_, fun h _ => ?_⟩
  · show 0 ≤ (rHolds s n).onHand i ∧ (rHolds s n).onHand i ≤ _
    rw [k1]
    have := numAt_bd s (2 + 2 * i)
    exact ⟨this.1, by have := this.2; show numAt s (2 + 2 * i) ≤ _; omega⟩
  · show 0 ≤ (rHolds s n).committed i ∧ (rHolds s n).committed i ≤ _
    rw [k2]
    have := numAt_bd s (3 + 2 * i)
    exact ⟨this.1, by have := this.2; show numAt s (3 + 2 * i) ≤ _; omega⟩
  · have := (rHolds_bd s n h).2.1
    exact ⟨this.1, by have := this.2; show (rHolds s n).hn h ≤ _; omega⟩
theorem cellNums_mem {B : Bk} {P : Int → Prop} : ∀ k, (∀ i, i < k → P (B.onHand i) ∧ P (B.committed i)) → ∀ x ∈ cellNums B k, P x := by
  intro k
  induction k with
  | zero => intro _ x h; simp [cellNums] at h
  | succ k ih =>
    intro h x hx
    rw [cellNums, List.mem_append] at hx
    rcases hx with hx | hx
    · exact ih (fun i hi => h i (by omega)) x hx
    · have := h k (by omega)
      simp at hx
      rcases hx with rfl | rfl
      · exact this.1
      · exact this.2
theorem nums_bd (s : List UInt8) (n m : Nat) (hm : m ≤ 20) : ∀ x ∈ nums (rBook s n m), 0 ≤ x ∧ x ≤ 4294967295 := by
  obtain ⟨k1, k2, k3, k4⟩ := rHolds_keep s n
  intro x hx
  unfold nums at hx
  simp only [List.mem_append] at hx
  rcases hx with ((((hx | hx) | hx) | hx) | hx) | hx
  · simp only [List.mem_cons, List.not_mem_nil, or_false] at hx
    rcases hx with rfl | rfl
    · show 0 ≤ (rHolds s n).count ∧ (rHolds s n).count ≤ _; rw [k4]; exact numAt_bd _ _
    · show 0 ≤ (rHolds s n).clock ∧ (rHolds s n).clock ≤ _; rw [k3]; exact numAt_bd _ _
  · refine cellNums_mem (P := fun x => 0 ≤ x ∧ x ≤ 4294967295) 8 (fun i _ => ⟨?_, ?_⟩) x hx
    · show 0 ≤ (rHolds s n).onHand i ∧ (rHolds s n).onHand i ≤ _; rw [k1]; exact numAt_bd _ _
    · show 0 ≤ (rHolds s n).committed i ∧ (rHolds s n).committed i ≤ _; rw [k2]; exact numAt_bd _ _
  · simp at hx; have := liveN_le (rBook s n m) 50; omega
  · unfold holdNums at hx
    rw [List.mem_flatMap] at hx
    obtain ⟨h, h1, h2⟩ := hx
    have h3 := (liveL_mem _ _ _).1 h1
    have b := rHolds_bd s n h
    simp only [holdRow, List.mem_cons, List.not_mem_nil, or_false] at h2
    rcases h2 with rfl | rfl | rfl | rfl
    · omega
    · exact b.1
    · exact b.2.1
    · exact b.2.2
  · have : (rBook s n m).past.length = m := pastsRd_len _ _ _
    rw [this] at hx; simp at hx; omega
  · rw [List.mem_flatMap] at hx
    obtain ⟨y, h1, h2⟩ := hx
    change y ∈ pastsRd s (20 + 4 * n) m at h1
    unfold pastsRd at h1
    rw [List.mem_map] at h1
    obtain ⟨k, _, rfl⟩ := h1
    simp only [pastNums, pastRd, reqAt, List.mem_cons, List.not_mem_nil, or_false] at h2
    rcases h2 with rfl | rfl | rfl | rfl | rfl | rfl | rfl | rfl <;> exact numAt_bd _ _
theorem okay_of {s : List UInt8} {n m : Nat} (hm : m ≤ 20) (hn : n = nH s) (hmp : m = nP s n) (h1 : Md.holdsGood s n = true) (h2 : Md.sound (rBook s n m) = true) (h3 : snap (rBook s n m) = s) : Okay s n m := by
  obtain ⟨k1, k2, k3, k4⟩ := rHolds_keep s n
  have hp : (rBook s n m).past.length = m := pastsRd_len _ _ _
  have hs := rBook_small s n m
  have hbd := nums_bd s n m hm
  have hAt : ∀ i x, (nums (rBook s n m))[i]? = some x → numAt s i = x := by
    intro i x h
    have := numAt_bytes hbd i x h
    rwa [← snap_bytes, h3] at this
  have hlen : s.length = 4 * (nums (rBook s n m)).length := by
    have := congrArg List.length h3
    rw [snap_bytes, bytes_len] at this
    exact this.symm
  have hcl : ([(rBook s n m).count, (rBook s n m).clock] ++ cellNums (rBook s n m) 8).length = 18 := by rw [List.length_append, cellNums_len]; rfl
  have e18 : numAt s 18 = liveN (rBook s n m) 50 := by
    apply hAt
    unfold nums
    rw [List.getElem?_append_left (by simp only [List.length_append, hcl, holdNums_len]; simp <;> omega), List.getElem?_append_left (by simp only [List.length_append, hcl, holdNums_len]; simp <;> omega), List.getElem?_append_left (by rw [List.length_append, hcl]; simp), List.getElem?_append_right (by omega), hcl]
    rfl
  have hL50 := liveN_le (rBook s n m) 50
  have hnL : liveN (rBook s n m) 50 = n := by unfold nH at hn; omega
  have hrow : ∀ (k h : Nat), (liveL (rBook s n m) 50)[k]? = some h → numAt s (19 + 4 * k) = h := by
    intro k h hk
    have hkn : k < n := by
      have := (List.getElem?_eq_some_iff.1 hk).1
      rw [liveL_len, hnL] at this; exact this
    apply hAt
    unfold nums
    rw [List.getElem?_append_left (by simp only [List.length_append, hcl, holdNums_len, hnL]; simp <;> omega), List.getElem?_append_left (by simp only [List.length_append, hcl, holdNums_len, hnL]; simp <;> omega), List.getElem?_append_right (by simp only [List.length_append, hcl]; simp <;> omega)]
    have := flat_at (f := holdRow (rBook s n m)) (m := 4) (fun _ => rfl) (liveL (rBook s n m) 50) k 0 h hk (by omega)
    unfold holdNums
    simp only [List.length_append, hcl]
    rw [show 19 + 4 * k - (18 + [(liveN (rBook s n m) 50 : Int)].length) = 4 * k + 0 by simp <;> omega, this]
    rfl
  have eP : numAt s (19 + 4 * n) = m := by
    apply hAt
    unfold nums
    rw [List.getElem?_append_left (by simp only [List.length_append, hcl, holdNums_len, hnL]; simp <;> omega), List.getElem?_append_right (by simp only [List.length_append, hcl, holdNums_len, hnL]; simp <;> omega)]
    simp only [List.length_append, hcl, holdNums_len, hnL, hp]
    rw [show 19 + 4 * n - (18 + [(n : Int)].length + 4 * n) = 0 by simp <;> omega]
    rfl
  have hsd := h2
  unfold Md.sound at hsd
  rw [Bool.and_eq_true, Bool.and_eq_true] at hsd
  obtain ⟨⟨s1, s2⟩, s3⟩ := hsd
  have c1 : (rBook s n m).count = numAt s 0 := k4
  have c2 : (rBook s n m).clock = numAt s 1 := k3
  unfold headOk at s1
  rw [c1, c2, hp] at s1
  simp at s1
  rw [cellsFine_iff] at s2
  have s3' : pastsFine (pastsRd s (20 + 4 * n) m) (pastsRd s (20 + 4 * n) m).length = true := s3
  rw [pastsRd_len, pastsFine_iff _ _ _ _ (Nat.le_refl _)] at s3'
  have hsorted := liveL_sorted (rBook s n m) 50
  have hget : ∀ k, k < n → ∃ h, (liveL (rBook s n m) 50)[k]? = some h := fun k hk => ⟨_, List.getElem?_eq_getElem (by rw [liveL_len, hnL]; exact hk)⟩
  rw [holdsGood_iff] at h1
  refine ⟨⟨by omega, by omega⟩, fun i hi => ?_, ⟨by rw [e18, hnL], by omega⟩, fun k hk => ?_, ⟨eP, hm, by omega⟩, s3', ?_, fun i hi => (s2 i hi).2⟩
  · have a := s2 i hi
    have hb := (heldTo_bd hs (i : Int) 50 (by omega)).1
    have hf : free (rBook s n m) i = (rBook s n m).onHand i - heldTo (rBook s n m) i 50 - (rBook s n m).committed i := rfl
    have o1 : (rBook s n m).onHand i = numAt s (2 + 2 * i) := congrFun k1 i
    have o2 : (rBook s n m).committed i = numAt s (3 + 2 * i) := congrFun k2 i
    rw [o1, o2] at hf
    rw [o1] at a
    omega
  · have hg := (holdGood_iff s k).1 (h1 k hk)
    refine ⟨?_, hg.2⟩
    cases k with
    | zero => show 0 + 1 ≤ hNo s 0; have := hg.1; omega
    | succ k =>
      obtain ⟨x, hx⟩ := hget k (by omega)
      obtain ⟨y, hy⟩ := hget (k + 1) hk
      have e1 : hNo s k = x := hrow k x hx
      have e2 : hNo s (k + 1) = y := hrow (k + 1) y hy
      show hNo s k + 1 ≤ hNo s (k + 1)
      obtain ⟨q1, q2⟩ := List.getElem?_eq_some_iff.1 hx
      obtain ⟨q3, q4⟩ := List.getElem?_eq_some_iff.1 hy
      have := (List.pairwise_iff_getElem.1 hsorted) k (k + 1) q1 q3 (by omega)
      rw [q2, q4] at this
      omega
  · rw [hlen]
    unfold nums
    simp only [List.length_append, cellNums_len, holdNums_len, hnL]
    have : ((rBook s n m).past.flatMap pastNums).length = 8 * m := by rw [flat_len (m := 8) (fun _ => rfl), hp]
    rw [this]
    simp <;> omega
theorem ofSnap_some {s : List UInt8} {B : Bk} (h : ofSnap s = some B) : ∃ n m, Okay s n m ∧ B = rBook s n m := by
  unfold ofSnap at h
  split at h
  · rename_i hc
    refine ⟨nH s, nP s (nH s), okay_of ?_ rfl rfl hc.1 hc.2.1 hc.2.2, ?_⟩
    · unfold nP; omega
    · cases h; rfl
  · cases h
theorem ofSnap_none {s : List UInt8} (h : ∀ n m, ¬ Okay s n m) : ofSnap s = none := by
  cases e : ofSnap s with
  | none => rfl
  | some B => obtain ⟨n, m, h1, _⟩ := ofSnap_some e; exact absurd h1 (h n m)

end Md
end Go.Proofs.Ytidacihlalbohaa
