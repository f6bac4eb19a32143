/- The document's book in plain Lean: requests, replies, cells, holds, what becomes of a request. -/
import Derived.Test.YtidacihlalbohaaMath
namespace Go.Proofs.Ytidacihlalbohaa
namespace Md

structure Req where
  id : Int
  kind : Int
  cell : Int
  hold : Int
  count : Int
  time : Int
structure Rep where
  code : Int
  count : Int
structure Past where
  req : Req
  rep : Rep

/-- A number from lo to hi. -/
def inR (n lo hi : Int) : Bool := decide (lo ≤ n) && decide (n ≤ hi)
theorem inR_true {n lo hi : Int} : inR n lo hi = true ↔ lo ≤ n ∧ n ≤ hi := by simp [inR]

/-- Is a request one? -/
def cellOk (r : Req) : Bool := if 2 ≤ r.kind then r.cell == 0 else inR r.cell 0 7
def holdOk (r : Req) : Bool := if r.kind = 0 ∨ r.kind = 4 then r.hold == 0 else inR r.hold 1 50
def countOk (r : Req) : Bool := if 2 ≤ r.kind then r.count == 0 else inR r.count 1 1000000
def timeOk (r : Req) : Bool := if r.kind = 0 ∨ r.kind = 2 ∨ r.kind = 3 then r.time == 0 else inR r.time 0 1000000000
def good (r : Req) : Bool := inR r.id 1 1000000000 && cellOk r && holdOk r && countOk r && timeOk r && decide (0 ≤ r.kind) && decide (r.kind ≤ 4)

/-- The numbers that a request can bear on 64 bits. -/
def Req.fits (r : Req) : Prop := ∀ n ∈ [r.id, r.kind, r.cell, r.hold, r.count, r.time], -9223372036854775808 ≤ n ∧ n ≤ 9223372036854775807

/-- Four bytes, the low one first. -/
def four (n : Int) : List UInt8 := Fr.twoL (n % 65536) ++ Fr.twoL (n / 65536 % 65536)
theorem four_len (n : Int) : (four n).length = 4 := rfl

/-- What four bytes say. -/
def numAt (l : List UInt8) (i : Nat) : Int :=
  if l.length < 4 * i + 4 then 0
  else ((l.getD (4 * i) 0).toNat : Int) + 256 * ((l.getD (4 * i + 1) 0).toNat : Int) + 65536 * ((l.getD (4 * i + 2) 0).toNat : Int) + 16777216 * ((l.getD (4 * i + 3) 0).toNat : Int)
theorem numAt_bd (l : List UInt8) (i : Nat) : 0 ≤ numAt l i ∧ numAt l i ≤ 4294967295 := by
  have h0 := (l.getD (4 * i) 0).toNat_lt
  have h1 := (l.getD (4 * i + 1) 0).toNat_lt
  have h2 := (l.getD (4 * i + 2) 0).toNat_lt
  have h3 := (l.getD (4 * i + 3) 0).toNat_lt
  unfold numAt
  split <;> omega

def reqAt (l : List UInt8) (i : Nat) : Req := ⟨numAt l i, numAt l (i + 1), numAt l (i + 2), numAt l (i + 3), numAt l (i + 4), numAt l (i + 5)⟩
def asked (r : Req) : List UInt8 := four r.id ++ four r.kind ++ four r.cell ++ four r.hold ++ four r.count ++ four r.time

/-- The book: by numbers of cells and of holds. -/
structure Bk where
  onHand : Nat → Int
  committed : Nat → Int
  hc : Nat → Int
  hn : Nat → Int
  ht : Nat → Int
  live : Nat → Bool
  clock : Int
  count : Int
  past : List Past

/-- The same request in all its numbers. -/
def sameReq (a b : Req) : Bool := a.id == b.id && a.kind == b.kind && a.cell == b.cell && a.hold == b.hold && a.count == b.count && a.time == b.time
/-- The reply to a request whose number is remembered. -/
def known : List Past → Req → Option Rep
  | [], _ => none
  | x :: l, r => if x.req.id = r.id then (if sameReq x.req r then some x.rep else some ⟨2, 0⟩) else known l r
theorem known_none {l : List Past} {r : Req} (h : ∀ x ∈ l, x.req.id ≠ r.id) : known l r = none := by
  induction l with
  | nil => rfl
  | cons x l ih => unfold known; rw [if_neg (h x (by simp)), ih (fun y hy => h y (by simp [hy]))]
theorem known_at {l : List Past} {r : Req} : ∀ (k : Nat) (hk : k < l.length), (∀ j (hj : j < k), (l[j]'(by omega)).req.id ≠ r.id) → l[k].req.id = r.id → known l r = if sameReq l[k].req r then some l[k].rep else some ⟨2, 0⟩ := by
  induction l with
  | nil => intro k hk; simp at hk
  | cons x l ih =>
    intro k hk hn he
    cases k with
    | zero => unfold known; simp at he; rw [if_pos he]; rfl
    | succ k =>
      have h0 := hn 0 (by omega)
      simp at h0
      unfold known
      rw [if_neg h0, ih k (by simpa using hk) (fun j hj => by have := hn (j + 1) (by omega); simpa using this) (by simpa using he)]
      rfl

/-- What the live ones of the holds 1 to k hold of a cell. -/
def heldTo (B : Bk) (i : Int) : Nat → Int
  | 0 => 0
  | k + 1 => heldTo B i k + if B.live (k + 1) && B.hc (k + 1) == i then B.hn (k + 1) else 0
def held (B : Bk) (i : Int) : Int := heldTo B i 50
def free (B : Bk) (i : Nat) : Int := B.onHand i - held B i - B.committed i

/-- Can a request be done in the book as it is? -/
def can (B : Bk) (r : Req) : Bool :=
  if r.kind = 0 then decide (B.onHand r.cell.toNat ≤ 1000000000 - r.count)
  else if r.kind = 1 then (!B.live r.hold.toNat && decide (B.clock < r.time)) && decide (r.count ≤ free B r.cell.toNat)
  else if r.kind = 4 then decide (B.clock ≤ r.time)
  else B.live r.hold.toNat

def upd {α : Type} (f : Nat → α) (k : Nat) (x : α) : Nat → α := fun i => if i = k then x else f i
/-- How many of the holds 1 to k end at a time; what is live then. -/
def ends (B : Bk) (t : Int) (h : Nat) : Bool := B.live h && decide (B.ht h ≤ t)
def endedTo (B : Bk) (t : Int) : Nat → Int
  | 0 => 0
  | k + 1 => endedTo B t k + if ends B t (k + 1) then 1 else 0
def liveTo (B : Bk) (t : Int) (k : Nat) : Nat → Bool := fun h => B.live h && !(decide (1 ≤ h) && decide (h ≤ k) && ends B t h)

/-- A request that can be done is done: the book then, and the reply's number. -/
def receive (B : Bk) (c : Nat) (n : Int) : Bk := { B with onHand := upd B.onHand c (B.onHand c + n) }
def reserve (B : Bk) (c h : Nat) (n t : Int) : Bk := { B with live := upd B.live h true, hc := upd B.hc h c, hn := upd B.hn h n, ht := upd B.ht h t }
def tick (B : Bk) (t : Int) : Bk := { B with clock := t, live := liveTo B t 50 }
def release (B : Bk) (h : Nat) : Bk := { B with live := upd B.live h false }
def commit (B : Bk) (h : Nat) : Bk := { B with live := upd B.live h false, committed := upd B.committed (B.hc h).toNat (B.committed (B.hc h).toNat + B.hn h) }
def change (B : Bk) (r : Req) : Bk × Int :=
  if r.kind = 0 then (receive B r.cell.toNat r.count, free (receive B r.cell.toNat r.count) r.cell.toNat)
  else if r.kind = 1 then (reserve B r.cell.toNat r.hold.toNat r.count r.time, free (reserve B r.cell.toNat r.hold.toNat r.count r.time) r.cell.toNat)
  else if r.kind = 4 then (tick B r.time, endedTo B r.time 50)
  else if r.kind = 2 then (commit B r.hold.toNat, B.hn r.hold.toNat)
  else (release B r.hold.toNat, B.hn r.hold.toNat)

/-- A request that is one and is not remembered is done, in a book with a window. -/
def doReq (B : Bk) (r : Req) (window : Nat) : Bk × Rep :=
  let x : Bk × Rep := if can B r then ((change B r).1, ⟨0, (change B r).2⟩) else (B, ⟨1, 0⟩)
  let l := x.1.past ++ [⟨r, x.2⟩]
  ({ x.1 with count := x.1.count + 1, past := l.drop (l.length - window) }, x.2)

/-- Numbers far from the ends of what 64 bits bear. -/
structure Small (B : Bk) : Prop where
  on : ∀ i, i < 8 → 0 ≤ B.onHand i ∧ B.onHand i ≤ 4294967296
  co : ∀ i, i < 8 → 0 ≤ B.committed i ∧ B.committed i ≤ 4294967296
  hn : ∀ h, h < 51 → 0 ≤ B.hn h ∧ B.hn h ≤ 4294967296

theorem heldTo_bd {B : Bk} (hs : Small B) (i : Int) : ∀ k, k ≤ 50 → 0 ≤ heldTo B i k ∧ heldTo B i k ≤ 4294967296 * k := by
  intro k
  induction k with
  | zero => intro _; simp [heldTo]
  | succ k ih =>
    intro hk
    have h1 := ih (by omega)
    have h2 := hs.hn (k + 1) (by omega)
    unfold heldTo
    split <;> omega

end Md
end Go.Proofs.Ytidacihlalbohaa

/- A snapshot and a sound book in plain Lean. -/
namespace Go.Proofs.Ytidacihlalbohaa

namespace Md
def cellsTo (B : Bk) : Nat → List UInt8
  | 0 => []
  | k + 1 => cellsTo B k ++ four (B.onHand k) ++ four (B.committed k)
def liveN (B : Bk) : Nat → Nat
  | 0 => 0
  | k + 1 => liveN B k + if B.live (k + 1) then 1 else 0
def holdL (B : Bk) (h : Nat) : List UInt8 := four h ++ four (B.hc h) ++ four (B.hn h) ++ four (B.ht h)
def holdsTo (B : Bk) : Nat → List UInt8
  | 0 => []
  | k + 1 => holdsTo B k ++ if B.live (k + 1) then holdL B (k + 1) else []
def pastL (x : Past) : List UInt8 := asked x.req ++ four x.rep.code ++ four x.rep.count
def pastsL (l : List Past) : List UInt8 := l.flatMap pastL
/-- A book's snapshot. -/
def snap (B : Bk) : List UInt8 := four B.count ++ four B.clock ++ cellsTo B 8 ++ four (liveN B 50) ++ holdsTo B 50 ++ four B.past.length ++ pastsL B.past
theorem cellsTo_len (B : Bk) : ∀ k, (cellsTo B k).length = 8 * k := by
  intro k
  induction k with
  | zero => rfl
  | succ k ih => simp only [cellsTo, List.length_append, ih, four_len]; omega
theorem liveN_le (B : Bk) : ∀ k, liveN B k ≤ k := by
  intro k
  induction k with
  | zero => exact Nat.le_refl _
  | succ k ih => simp only [liveN]; split <;> omega
theorem holdsTo_len (B : Bk) : ∀ k, (holdsTo B k).length = 16 * liveN B k := by
  intro k
  induction k with
  | zero => rfl
  | succ k ih => simp only [holdsTo, liveN]; split <;> simp [ih, holdL, four_len] <;> omega
theorem asked_len (r : Req) : (asked r).length = 24 := rfl
theorem pastL_len (x : Past) : (pastL x).length = 32 := rfl
theorem pastsL_len (l : List Past) : (pastsL l).length = 32 * l.length := by
  induction l with
  | nil => rfl
  | cons x l ih => rw [show pastsL (x :: l) = pastL x ++ pastsL l from rfl, List.length_append, ih, pastL_len, List.length_cons]; omega
theorem pastsL_snoc (l : List Past) (x : Past) : pastsL (l ++ [x]) = pastsL l ++ pastL x := by simp [pastsL]
end Md

namespace Md
def headOk (B : Bk) : Bool := !(decide (B.count > 1000000000) || decide (B.clock > 1000000000) || decide ((B.past.length : Int) > B.count))
def cellFine (B : Bk) (i : Nat) : Bool := !(decide (B.onHand i > 1000000000) || decide (free B i < 0))
def cellsFine (B : Bk) : Nat → Bool
  | 0 => true
  | k + 1 => cellsFine B k && cellFine B k
def repFine (p : Rep) : Bool := !(decide (p.code > 1) || decide (p.count > 1000000000) || (p.code == 1 && p.count != 0))
def newId (l : List Past) (n : Int) : Bool := l.all fun x => x.req.id != n
def pastFine (l : List Past) (x : Past) : Bool := good x.req && repFine x.rep && newId l x.req.id
def pastsFine (l : List Past) : Nat → Bool
  | 0 => true
  | k + 1 => pastsFine l k && (match l[k]? with | some x => pastFine (l.take k) x | none => true)
/-- Is a book one? -/
def sound (B : Bk) : Bool := headOk B && cellsFine B 8 && pastsFine B.past B.past.length
theorem cellsFine_less {B : Bk} : ∀ {k n : Nat}, k ≤ n → cellsFine B k = false → cellsFine B n = false := by
  intro k n h hf
  induction n with
  | zero => obtain rfl : k = 0 := by omega
            exact hf
  | succ n ih =>
    rcases Nat.lt_or_ge n k with h1 | h1
    · obtain rfl : k = n + 1 := by omega
      exact hf
    · rw [cellsFine, ih h1]; rfl
theorem pastsFine_less {l : List Past} : ∀ {k n : Nat}, k ≤ n → pastsFine l k = false → pastsFine l n = false := by
  intro k n h hf
  induction n with
  | zero => obtain rfl : k = 0 := by omega
            exact hf
  | succ n ih =>
    rcases Nat.lt_or_ge n k with h1 | h1
    · obtain rfl : k = n + 1 := by omega
      exact hf
    · rw [pastsFine, ih h1]; rfl
end Md

end Go.Proofs.Ytidacihlalbohaa
