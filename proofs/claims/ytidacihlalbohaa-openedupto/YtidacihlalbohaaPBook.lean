/- The program's own book in memory. -/
import Derived.Test.YtidacihlalbohaaRefPut
import Derived.Test.YtidacihlalbohaaRefTick
import Derived.Deep.MidRow
namespace Go.Proofs.Ytidacihlalbohaa
open Go.RowKit

namespace Md
def pc (B : Bk) (h : Nat) : Int := if B.live h then B.hc h else 0
def pn (B : Bk) (h : Nat) : Int := if B.live h then B.hn h else 0
def pt (B : Bk) (h : Nat) : Int := if B.live h then B.ht h else 0
end Md

/-- The program's book lies in block p; n: its window. -/
structure PBook (W : World) (p : Nat) (B : Md.Bk) (n : Nat) : Prop where
  on : ∀ i, i < 8 → W.cell? ⟨p, i * 2, none⟩ = some (.int .i64 (B.onHand i))
  co : ∀ i, i < 8 → W.cell? ⟨p, i * 2 + 1, none⟩ = some (.int .i64 (B.committed i))
  hc : ∀ h, h < 51 → W.cell? ⟨p, 16 + h * 3, none⟩ = some (.int .i64 (Md.pc B h))
  hn : ∀ h, h < 51 → W.cell? ⟨p, 16 + h * 3 + 1, none⟩ = some (.int .i64 (Md.pn B h))
  ht : ∀ h, h < 51 → W.cell? ⟨p, 16 + h * 3 + 2, none⟩ = some (.int .i64 (Md.pt B h))
  cl : W.cell? ⟨p, 169, none⟩ = some (.int .i64 B.clock)
  cn : W.cell? ⟨p, 170, none⟩ = some (.int .i64 B.count)
  wi : W.cell? ⟨p, 171, none⟩ = some (.int .i64 n)
  pa : ∀ k, k < 20 → ∀ o, o < 8 → W.cell? ⟨p, 172 + k * 8 + o, none⟩ = some ((((B.past[k]?).map pastC).getD (List.replicate 8 (.int .i64 0))).getD o (.int .i64 0))
  re : W.cell? ⟨p, 332, none⟩ = some (.int .i64 B.past.length)
  fz : ∀ o, W.frozen? ⟨p, o, none⟩ = false
  lt : p < W.heap.size

theorem PBook.of_block {W W' : World} {p : Nat} {B : Md.Bk} {n : Nat} (h : PBook W p B n) (hb : W'.heap[p]? = W.heap[p]?) (hl : p < W'.heap.size) : PBook W' p B n :=
  have hc : ∀ o, W'.cell? ⟨p, o, none⟩ = W.cell? ⟨p, o, none⟩ := fun _ => World.cell?_of_block hb
  ⟨fun i hi => (hc _).trans (h.on i hi), fun i hi => (hc _).trans (h.co i hi), fun i hi => (hc _).trans (h.hc i hi), fun i hi => (hc _).trans (h.hn i hi), fun i hi => (hc _).trans (h.ht i hi),
    (hc _).trans h.cl, (hc _).trans h.cn, (hc _).trans h.wi, fun k hk o ho => (hc _).trans (h.pa k hk o ho), (hc _).trans h.re, fun o => (World.frozen?_of_block hb).trans (h.fz o), hl⟩
theorem PBook.below {W W' : World} {p : Nat} {B : Md.Bk} {n : Nat} (h : PBook W p B n) (hb : Below W.heap.size W W') : PBook W' p B n :=
  h.of_block (hb.block p h.lt) (Nat.lt_of_lt_of_le h.lt hb.size)
theorem PBook.drewN {W : World} {p : Nat} {B : Md.Bk} {n : Nat} (h : PBook W p B n) (d : Nat) : PBook (W.drewN d) p B n := ⟨h.on, h.co, h.hc, h.hn, h.ht, h.cl, h.cn, h.wi, h.pa, h.re, h.fz, h.lt⟩
theorem PBook.drew {W : World} {p : Nat} {B : Md.Bk} {n : Nat} (h : PBook W p B n) : PBook W.drew p B n := ⟨h.on, h.co, h.hc, h.hn, h.ht, h.cl, h.cn, h.wi, h.pa, h.re, h.fz, h.lt⟩

theorem infoHold : (Try.prog.info? 72).map (fun i => (i.zero, i.size, i.bytes)) = some (some (.agg #[.int .i64 0, .int .i64 0, .int .i64 0]), 3, 24) := by kernel_rfl

/- Cells of a block are written. -/
theorem put_other {W : World} {b o o' : Nat} {x v : Value} (h : W.cell? ⟨b, o', none⟩ = some v) (hne : o' ≠ o) : (W.setCell ⟨b, o, none⟩ x).cell? ⟨b, o', none⟩ = some v :=
  (World.cell?_setCell_other _ _ _ _ (fun e => by cases e; exact hne rfl)).trans h
theorem put_same {W : World} {b o : Nat} {x v : Value} (h : W.cell? ⟨b, o, none⟩ = some v) : (W.setCell ⟨b, o, none⟩ x).cell? ⟨b, o, none⟩ = some x := by
  rw [cell_put (by rw [h]; rfl), if_pos rfl]
theorem put2 {W : World} {b : Nat} {a0 a1 : Value} (h0 : W.cell? ⟨b, 0, none⟩ = some a0) (h1 : W.cell? ⟨b, 1, none⟩ = some a1) (x0 x1 : Value) :
    ((W.setCell ⟨b, 0, none⟩ x0).setCell ⟨b, 1, none⟩ x1).cell? ⟨b, 0, none⟩ = some x0 ∧ ((W.setCell ⟨b, 0, none⟩ x0).setCell ⟨b, 1, none⟩ x1).cell? ⟨b, 1, none⟩ = some x1 :=
  ⟨(put_other (x := x1) (o := 1) (put_same (x := x0) h0) (by omega)), (put_same (x := x1) (put_other (x := x0) (o := 0) h1 (by omega)))⟩
theorem put3 {W : World} {b : Nat} {a0 a1 a2 : Value} (h0 : W.cell? ⟨b, 0, none⟩ = some a0) (h1 : W.cell? ⟨b, 1, none⟩ = some a1) (h2 : W.cell? ⟨b, 2, none⟩ = some a2) (x0 x1 x2 : Value) :
    (((W.setCell ⟨b, 0, none⟩ x0).setCell ⟨b, 1, none⟩ x1).setCell ⟨b, 2, none⟩ x2).cell? ⟨b, 0, none⟩ = some x0 ∧ (((W.setCell ⟨b, 0, none⟩ x0).setCell ⟨b, 1, none⟩ x1).setCell ⟨b, 2, none⟩ x2).cell? ⟨b, 1, none⟩ = some x1 ∧ (((W.setCell ⟨b, 0, none⟩ x0).setCell ⟨b, 1, none⟩ x1).setCell ⟨b, 2, none⟩ x2).cell? ⟨b, 2, none⟩ = some x2 :=
  ⟨(put_other (x := x2) (o := 2) (put_other (x := x1) (o := 1) (put_same (x := x0) h0) (by omega)) (by omega)), (put_other (x := x2) (o := 2) (put_same (x := x1) (put_other (x := x0) (o := 0) h1 (by omega))) (by omega)), (put_same (x := x2) (put_other (x := x1) (o := 1) (put_other (x := x0) (o := 0) h2 (by omega)) (by omega)))⟩
theorem put6 {W : World} {b : Nat} {a0 a1 a2 a3 a4 a5 : Value} (h0 : W.cell? ⟨b, 0, none⟩ = some a0) (h1 : W.cell? ⟨b, 1, none⟩ = some a1) (h2 : W.cell? ⟨b, 2, none⟩ = some a2) (h3 : W.cell? ⟨b, 3, none⟩ = some a3) (h4 : W.cell? ⟨b, 4, none⟩ = some a4) (h5 : W.cell? ⟨b, 5, none⟩ = some a5) (x0 x1 x2 x3 x4 x5 : Value) :
    ((((((W.setCell ⟨b, 0, none⟩ x0).setCell ⟨b, 1, none⟩ x1).setCell ⟨b, 2, none⟩ x2).setCell ⟨b, 3, none⟩ x3).setCell ⟨b, 4, none⟩ x4).setCell ⟨b, 5, none⟩ x5).cell? ⟨b, 0, none⟩ = some x0 ∧ ((((((W.setCell ⟨b, 0, none⟩ x0).setCell ⟨b, 1, none⟩ x1).setCell ⟨b, 2, none⟩ x2).setCell ⟨b, 3, none⟩ x3).setCell ⟨b, 4, none⟩ x4).setCell ⟨b, 5, none⟩ x5).cell? ⟨b, 1, none⟩ = some x1 ∧ ((((((W.setCell ⟨b, 0, none⟩ x0).setCell ⟨b, 1, none⟩ x1).setCell ⟨b, 2, none⟩ x2).setCell ⟨b, 3, none⟩ x3).setCell ⟨b, 4, none⟩ x4).setCell ⟨b, 5, none⟩ x5).cell? ⟨b, 2, none⟩ = some x2 ∧ ((((((W.setCell ⟨b, 0, none⟩ x0).setCell ⟨b, 1, none⟩ x1).setCell ⟨b, 2, none⟩ x2).setCell ⟨b, 3, none⟩ x3).setCell ⟨b, 4, none⟩ x4).setCell ⟨b, 5, none⟩ x5).cell? ⟨b, 3, none⟩ = some x3 ∧ ((((((W.setCell ⟨b, 0, none⟩ x0).setCell ⟨b, 1, none⟩ x1).setCell ⟨b, 2, none⟩ x2).setCell ⟨b, 3, none⟩ x3).setCell ⟨b, 4, none⟩ x4).setCell ⟨b, 5, none⟩ x5).cell? ⟨b, 4, none⟩ = some x4 ∧ ((((((W.setCell ⟨b, 0, none⟩ x0).setCell ⟨b, 1, none⟩ x1).setCell ⟨b, 2, none⟩ x2).setCell ⟨b, 3, none⟩ x3).setCell ⟨b, 4, none⟩ x4).setCell ⟨b, 5, none⟩ x5).cell? ⟨b, 5, none⟩ = some x5 :=
  ⟨(put_other (x := x5) (o := 5) (put_other (x := x4) (o := 4) (put_other (x := x3) (o := 3) (put_other (x := x2) (o := 2) (put_other (x := x1) (o := 1) (put_same (x := x0) h0) (by omega)) (by omega)) (by omega)) (by omega)) (by omega)), (put_other (x := x5) (o := 5) (put_other (x := x4) (o := 4) (put_other (x := x3) (o := 3) (put_other (x := x2) (o := 2) (put_same (x := x1) (put_other (x := x0) (o := 0) h1 (by omega))) (by omega)) (by omega)) (by omega)) (by omega)), (put_other (x := x5) (o := 5) (put_other (x := x4) (o := 4) (put_other (x := x3) (o := 3) (put_same (x := x2) (put_other (x := x1) (o := 1) (put_other (x := x0) (o := 0) h2 (by omega)) (by omega))) (by omega)) (by omega)) (by omega)), (put_other (x := x5) (o := 5) (put_other (x := x4) (o := 4) (put_same (x := x3) (put_other (x := x2) (o := 2) (put_other (x := x1) (o := 1) (put_other (x := x0) (o := 0) h3 (by omega)) (by omega)) (by omega))) (by omega)) (by omega)), (put_other (x := x5) (o := 5) (put_same (x := x4) (put_other (x := x3) (o := 3) (put_other (x := x2) (o := 2) (put_other (x := x1) (o := 1) (put_other (x := x0) (o := 0) h4 (by omega)) (by omega)) (by omega)) (by omega))) (by omega)), (put_same (x := x5) (put_other (x := x4) (o := 4) (put_other (x := x3) (o := 3) (put_other (x := x2) (o := 2) (put_other (x := x1) (o := 1) (put_other (x := x0) (o := 0) h5 (by omega)) (by omega)) (by omega)) (by omega)) (by omega)))⟩
theorem put8 {W : World} {b : Nat} {a0 a1 a2 a3 a4 a5 a6 a7 : Value} (h0 : W.cell? ⟨b, 0, none⟩ = some a0) (h1 : W.cell? ⟨b, 1, none⟩ = some a1) (h2 : W.cell? ⟨b, 2, none⟩ = some a2) (h3 : W.cell? ⟨b, 3, none⟩ = some a3) (h4 : W.cell? ⟨b, 4, none⟩ = some a4) (h5 : W.cell? ⟨b, 5, none⟩ = some a5) (h6 : W.cell? ⟨b, 6, none⟩ = some a6) (h7 : W.cell? ⟨b, 7, none⟩ = some a7) (x0 x1 x2 x3 x4 x5 x6 x7 : Value) :
    ((((((((W.setCell ⟨b, 0, none⟩ x0).setCell ⟨b, 1, none⟩ x1).setCell ⟨b, 2, none⟩ x2).setCell ⟨b, 3, none⟩ x3).setCell ⟨b, 4, none⟩ x4).setCell ⟨b, 5, none⟩ x5).setCell ⟨b, 6, none⟩ x6).setCell ⟨b, 7, none⟩ x7).cell? ⟨b, 0, none⟩ = some x0 ∧ ((((((((W.setCell ⟨b, 0, none⟩ x0).setCell ⟨b, 1, none⟩ x1).setCell ⟨b, 2, none⟩ x2).setCell ⟨b, 3, none⟩ x3).setCell ⟨b, 4, none⟩ x4).setCell ⟨b, 5, none⟩ x5).setCell ⟨b, 6, none⟩ x6).setCell ⟨b, 7, none⟩ x7).cell? ⟨b, 1, none⟩ = some x1 ∧ ((((((((W.setCell ⟨b, 0, none⟩ x0).setCell ⟨b, 1, none⟩ x1).setCell ⟨b, 2, none⟩ x2).setCell ⟨b, 3, none⟩ x3).setCell ⟨b, 4, none⟩ x4).setCell ⟨b, 5, none⟩ x5).setCell ⟨b, 6, none⟩ x6).setCell ⟨b, 7, none⟩ x7).cell? ⟨b, 2, none⟩ = some x2 ∧ ((((((((W.setCell ⟨b, 0, none⟩ x0).setCell ⟨b, 1, none⟩ x1).setCell ⟨b, 2, none⟩ x2).setCell ⟨b, 3, none⟩ x3).setCell ⟨b, 4, none⟩ x4).setCell ⟨b, 5, none⟩ x5).setCell ⟨b, 6, none⟩ x6).setCell ⟨b, 7, none⟩ x7).cell? ⟨b, 3, none⟩ = some x3 ∧ ((((((((W.setCell ⟨b, 0, none⟩ x0).setCell ⟨b, 1, none⟩ x1).setCell ⟨b, 2, none⟩ x2).setCell ⟨b, 3, none⟩ x3).setCell ⟨b, 4, none⟩ x4).setCell ⟨b, 5, none⟩ x5).setCell ⟨b, 6, none⟩ x6).setCell ⟨b, 7, none⟩ x7).cell? ⟨b, 4, none⟩ = some x4 ∧ ((((((((W.setCell ⟨b, 0, none⟩ x0).setCell ⟨b, 1, none⟩ x1).setCell ⟨b, 2, none⟩ x2).setCell ⟨b, 3, none⟩ x3).setCell ⟨b, 4, none⟩ x4).setCell ⟨b, 5, none⟩ x5).setCell ⟨b, 6, none⟩ x6).setCell ⟨b, 7, none⟩ x7).cell? ⟨b, 5, none⟩ = some x5 ∧ ((((((((W.setCell ⟨b, 0, none⟩ x0).setCell ⟨b, 1, none⟩ x1).setCell ⟨b, 2, none⟩ x2).setCell ⟨b, 3, none⟩ x3).setCell ⟨b, 4, none⟩ x4).setCell ⟨b, 5, none⟩ x5).setCell ⟨b, 6, none⟩ x6).setCell ⟨b, 7, none⟩ x7).cell? ⟨b, 6, none⟩ = some x6 ∧ ((((((((W.setCell ⟨b, 0, none⟩ x0).setCell ⟨b, 1, none⟩ x1).setCell ⟨b, 2, none⟩ x2).setCell ⟨b, 3, none⟩ x3).setCell ⟨b, 4, none⟩ x4).setCell ⟨b, 5, none⟩ x5).setCell ⟨b, 6, none⟩ x6).setCell ⟨b, 7, none⟩ x7).cell? ⟨b, 7, none⟩ = some x7 :=
  ⟨(put_other (x := x7) (o := 7) (put_other (x := x6) (o := 6) (put_other (x := x5) (o := 5) (put_other (x := x4) (o := 4) (put_other (x := x3) (o := 3) (put_other (x := x2) (o := 2) (put_other (x := x1) (o := 1) (put_same (x := x0) h0) (by omega)) (by omega)) (by omega)) (by omega)) (by omega)) (by omega)) (by omega)), (put_other (x := x7) (o := 7) (put_other (x := x6) (o := 6) (put_other (x := x5) (o := 5) (put_other (x := x4) (o := 4) (put_other (x := x3) (o := 3) (put_other (x := x2) (o := 2) (put_same (x := x1) (put_other (x := x0) (o := 0) h1 (by omega))) (by omega)) (by omega)) (by omega)) (by omega)) (by omega)) (by omega)), (put_other (x := x7) (o := 7) (put_other (x := x6) (o := 6) (put_other (x := x5) (o := 5) (put_other (x := x4) (o := 4) (put_other (x := x3) (o := 3) (put_same (x := x2) (put_other (x := x1) (o := 1) (put_other (x := x0) (o := 0) h2 (by omega)) (by omega))) (by omega)) (by omega)) (by omega)) (by omega)) (by omega)), (put_other (x := x7) (o := 7) (put_other (x := x6) (o := 6) (put_other (x := x5) (o := 5) (put_other (x := x4) (o := 4) (put_same (x := x3) (put_other (x := x2) (o := 2) (put_other (x := x1) (o := 1) (put_other (x := x0) (o := 0) h3 (by omega)) (by omega)) (by omega))) (by omega)) (by omega)) (by omega)) (by omega)), (put_other (x := x7) (o := 7) (put_other (x := x6) (o := 6) (put_other (x := x5) (o := 5) (put_same (x := x4) (put_other (x := x3) (o := 3) (put_other (x := x2) (o := 2) (put_other (x := x1) (o := 1) (put_other (x := x0) (o := 0) h4 (by omega)) (by omega)) (by omega)) (by omega))) (by omega)) (by omega)) (by omega)), (put_other (x := x7) (o := 7) (put_other (x := x6) (o := 6) (put_same (x := x5) (put_other (x := x4) (o := 4) (put_other (x := x3) (o := 3) (put_other (x := x2) (o := 2) (put_other (x := x1) (o := 1) (put_other (x := x0) (o := 0) h5 (by omega)) (by omega)) (by omega)) (by omega)) (by omega))) (by omega)) (by omega)), (put_other (x := x7) (o := 7) (put_same (x := x6) (put_other (x := x5) (o := 5) (put_other (x := x4) (o := 4) (put_other (x := x3) (o := 3) (put_other (x := x2) (o := 2) (put_other (x := x1) (o := 1) (put_other (x := x0) (o := 0) h6 (by omega)) (by omega)) (by omega)) (by omega)) (by omega)) (by omega))) (by omega)), (put_same (x := x7) (put_other (x := x6) (o := 6) (put_other (x := x5) (o := 5) (put_other (x := x4) (o := 4) (put_other (x := x3) (o := 3) (put_other (x := x2) (o := 2) (put_other (x := x1) (o := 1) (put_other (x := x0) (o := 0) h7 (by omega)) (by omega)) (by omega)) (by omega)) (by omega)) (by omega)) (by omega)))⟩

/-- The holds by value. -/
def holdC (B : Md.Bk) (h : Nat) : List Value := [.int .i64 (Md.pc B h), .int .i64 (Md.pn B h), .int .i64 (Md.pt B h)]
def holdsL (B : Md.Bk) : List Value := (List.range 51).flatMap (holdC B)
theorem rows_at {α : Type} {f : α → List Value} {m : Nat} (hf : ∀ x, (f x).length = m) : ∀ (l : List α) (k o : Nat) (x : α), l[k]? = some x → o < m → (l.flatMap f)[m * k + o]? = (f x)[o]? := by
  intro l
  induction l with
  | nil => intro k o x h; simp at h
  | cons y l ih =>
    intro k o x h ho
    rw [List.flatMap_cons]
    cases k with
    | zero => simp at h; subst h; rw [List.getElem?_append_left (by rw [hf]; omega)]; simp
    | succ k =>
      rw [List.getElem?_append_right (by rw [hf, Nat.mul_add]; omega), hf, show m * (k + 1) + o - m = m * k + o by rw [Nat.mul_add]; omega]
      exact ih k o x (by simpa using h) ho
theorem rows_len {α : Type} {f : α → List Value} {m : Nat} (hf : ∀ x, (f x).length = m) (l : List α) : (l.flatMap f).length = m * l.length := by
  induction l with
  | nil => simp
  | cons y l ih => rw [List.flatMap_cons, List.length_append, ih, hf, List.length_cons, Nat.mul_add]; omega
theorem holdsL_len (B : Md.Bk) : (holdsL B).length = 153 := by unfold holdsL; rw [rows_len (m := 3) (fun _ => rfl), List.length_range]
theorem holdsL_at (B : Md.Bk) (h o : Nat) (hh : h < 51) (ho : o < 3) : (holdsL B)[h * 3 + o]? = (holdC B h)[o]? := by
  rw [Nat.mul_comm h 3]
  exact rows_at (m := 3) (fun _ => rfl) (List.range 51) h o h (by simp [hh]) ho
theorem PBook.holds {W : World} {p : Nat} {B : Md.Bk} {n : Nat} (h : PBook W p B n) : W.rangeAt p 16 (holdsL B) := by
  intro j v hv
  have hj : j < 153 := by rw [← holdsL_len B]; exact (List.getElem?_eq_some_iff.1 hv).1
  obtain ⟨a, b, hab, hb⟩ : ∃ a b, j = a * 3 + b ∧ b < 3 := ⟨j / 3, j % 3, by omega, Nat.mod_lt _ (by omega)⟩
  subst hab
  rw [holdsL_at B a b (by omega) hb] at hv
  have hb3 : b = 0 ∨ b = 1 ∨ b = 2 := by omega
  rcases hb3 with rfl | rfl | rfl
  · simp [holdC] at hv; subst hv; exact h.hc a (by omega)
  · simp [holdC] at hv; subst hv; exact h.hn a (by omega)
  · simp [holdC] at hv; subst hv; exact h.ht a (by omega)
theorem run_index_holds (B : Md.Bk) (j : Nat) (hj : j < 51) (W : World) : (Instr.index 73 (.agg (holdsL B).toArray) (.int .i64 j)).run Try.prog W = .ok (.agg #[.int .i64 (Md.pc B j), .int .i64 (Md.pn B j), .int .i64 (Md.pt B j)]) W := by
  have e : List.take 3 (List.drop (j * 3) (holdsL B)) = [.int .i64 (Md.pc B j), .int .i64 (Md.pn B j), .int .i64 (Md.pt B j)] := by
    apply List.ext_getElem?
    intro i
    have hl := holdsL_len B
    by_cases hi : i < 3
    · have := holdsL_at B j i hj hi
      simp [List.getElem?_drop, hi, this, holdC]
    · rw [List.getElem?_eq_none (by simp; omega), List.getElem?_eq_none (by simp; omega)]
  have h1 : (0 : Int) ≤ (j : Int) ∧ (j : Int) < 51 := by omega
  obtain ⟨i0, hi, _, hz1, _⟩ := info_parts infoHold
  simp [Instr.index, run_underlying Try.underlying73, run_underlying Try.underlying72, asIntOf, go_sem, hj, part, isAgg, sizeOf, typeInfo, hi, hz1, e]

namespace Md
/-- What the program adds up: the holds 0 to k - 1 as they lie. -/
def heldP (B : Bk) (i : Int) : Nat → Int
  | 0 => 0
  | k + 1 => heldP B i k + if pc B k = i then pn B k else 0
theorem heldP_eq {B : Bk} (h0 : B.live 0 = false) (i : Int) : ∀ k, heldP B i (k + 1) = heldTo B i k := by
  intro k
  induction k with
  | zero => simp [heldP, heldTo, pn, pc, h0]
  | succ k ih =>
    rw [heldP, ih, heldTo]
    congr 1
    unfold pc pn
    cases B.live (k + 1) <;> simp
theorem pn_bd {B : Bk} (hs : Small B) (h : Nat) (hh : h < 51) : 0 ≤ pn B h ∧ pn B h ≤ 4294967296 := by
  have := hs.hn h hh
  unfold pn; split <;> omega
theorem heldP_bd {B : Bk} (hs : Small B) (i : Int) : ∀ k, k ≤ 51 → 0 ≤ heldP B i k ∧ heldP B i k ≤ 4294967296 * k := by
  intro k
  induction k with
  | zero => intro _; simp [heldP]
  | succ k ih =>
    intro hk
    have h1 := ih (by omega)
    have h2 := pn_bd hs k (by omega)
    unfold heldP
    split <;> omega
end Md

set_option maxRecDepth 100000 in
set_option maxHeartbeats 2000000 in
theorem pCell_any (p : Nat) (B : Md.Bk) (n : Nat) (k : Int) (i : Nat) (w : World) (hk : k = i) (hi : i < 8) (hb : PBook w p B n) (hs : Md.Small B) (h0 : B.live 0 = false) :
    Calls Try.prog 77 #[.pointer (some ⟨p, 0, none⟩), .int .i64 k] w fun e w' => e = .returned (.agg (cellA B i)) ∧ Below w.heap.size w w' := by
  subst hk
  have hlt := hb.lt
  go_enter Try.func77, Try.ntmps77
  go_wp2
  refine wp_load_mid 73 (.tmp 11) rfl p 16 rfl (holdsL B) _ ((hb.below ((Below.refl _ _).alloc (Nat.le_refl _) _)).holds) Try.underlying73 rfl (by rw [holdsL_len]; kernel_rfl) ?_
  have hix := fun (j : Nat) (hj : j < 51) W => run_index_holds B j hj W
  generalize (holdsL B).toArray = A at hix ⊢
  have Hix := hide hix
  have Hb := hide (hb.below ((Below.refl w.heap.size w).alloc (Nat.le_refl _) (.cells #[.int .i64 0, .int .i64 0, .int .i64 0, .int .i64 0] 105)))
  have hB0 : Below w.heap.size w (w.alloc (.cells #[.int .i64 0, .int .i64 0, .int .i64 0, .int .i64 0] 105)) := (Below.refl _ _).alloc (Nat.le_refl _) _
  have r0 : (w.alloc (.cells #[.int .i64 0, .int .i64 0, .int .i64 0, .int .i64 0] 105)).cell? ⟨w.heap.size, 0, none⟩ = some (.int .i64 0) := by simp [go_sem]
  have r1 : (w.alloc (.cells #[.int .i64 0, .int .i64 0, .int .i64 0, .int .i64 0] 105)).cell? ⟨w.heap.size, 1, none⟩ = some (.int .i64 0) := by simp [go_sem]
  have r2 : (w.alloc (.cells #[.int .i64 0, .int .i64 0, .int .i64 0, .int .i64 0] 105)).cell? ⟨w.heap.size, 2, none⟩ = some (.int .i64 0) := by simp [go_sem]
  have r3 : (w.alloc (.cells #[.int .i64 0, .int .i64 0, .int .i64 0, .int .i64 0] 105)).cell? ⟨w.heap.size, 3, none⟩ = some (.int .i64 0) := by simp [go_sem]
  have rf : ∀ o, (w.alloc (.cells #[.int .i64 0, .int .i64 0, .int .i64 0, .int .i64 0] 105)).frozen? ⟨w.heap.size, o, none⟩ = false := by intro o; simp [go_sem]
  have hsz : w.heap.size < (w.alloc (.cells #[.int .i64 0, .int .i64 0, .int .i64 0, .int .i64 0] 105)).heap.size := by simp
  generalize w.alloc (.cells #[.int .i64 0, .int .i64 0, .int .i64 0, .int .i64 0] 105) = W0 at Hb hB0 r0 r1 r2 r3 rf hsz ⊢
  clear hix hb
  go_wp2
  go_loopw [5, 13] (fun a h wr => ∃ j : Nat, j ≤ 51 ∧ h = .int .i64 j ∧ a = .int .i64 (Md.heldP B i j) ∧ Below W0.heap.size W0 wr) (fun _ h _ => 51 - (intOf h).toNat)
  case atStart => exact ⟨0, by omega, rfl, rfl, Below.refl _ _⟩
  case round =>
    obtain ⟨j, hj, rfl, rfl, hB⟩ := hrel
    obtain ⟨d1, d2⟩ := Md.heldP_bd hs i j hj
    by_cases hlt2 : j < 51
    · have e1 := Hix.out j hlt2
      have hj' : (j : Int) < 51 := by omega
      obtain ⟨m1, m2⟩ := Md.pn_bd hs j hlt2
      go_wp2
      · go_roundw
        case rel => exact ⟨j + 1, by omega, by go_num, by rw [Md.heldP, if_pos (by simpa using ‹(Md.pc B j == (i : Int)) = true›)], hB.alloc hB.size _⟩
        case measure => simp [intOf]; omega
      · go_roundw
        case rel => exact ⟨j + 1, by omega, by go_num, by rw [Md.heldP, if_neg (by simpa using ‹(Md.pc B j == (i : Int)) = false›), Int.add_zero], hB.alloc hB.size _⟩
        case measure => simp [intOf]; omega
    · obtain rfl : j = 51 := by omega
      have hbk := Hb.out.below hB
      have o1 := hbk.on i hi
      have q1 := hbk.co i hi
      have hpl := hbk.lt
      obtain ⟨o3, o4⟩ := hs.on i hi
      obtain ⟨q3, q4⟩ := hs.co i hi
      have hh : Md.heldP B i 51 = Md.held B i := Md.heldP_eq h0 i 50
      rw [hh] at d1 d2 ⊢
      have s0 := (hB.cell (p := ⟨w.heap.size, 0, none⟩) hsz).trans r0
      have s1 := (hB.cell (p := ⟨w.heap.size, 1, none⟩) hsz).trans r1
      have s2 := (hB.cell (p := ⟨w.heap.size, 2, none⟩) hsz).trans r2
      have s3 := (hB.cell (p := ⟨w.heap.size, 3, none⟩) hsz).trans r3
      have sf := fun o => (hB.frozen (p := ⟨w.heap.size, o, none⟩) hsz).trans (rf o)
      have hi' : (i : Int) < 8 := by omega
      have hd3 : Md.held B i ≤ 219043332096 := by omega
      have hzz : w.heap.size < wr.heap.size := Nat.lt_of_lt_of_le hsz hB.size
      clear hbk Hb r0 r1 r2 r3 rf d2 hh Hix hs
      go_wp2
      have hBw : Below w.heap.size w wr := hB0.trans (hB.mono hB0.size)
      have f0 := put_other (x := .int .i64 (B.onHand i - Md.held B i - B.committed i)) (o := 3) (put_other (x := .int .i64 (B.committed i)) (o := 2) (put_other (x := .int .i64 (Md.held B i)) (o := 1) (put_same (x := .int .i64 (B.onHand i)) s0) (by omega)) (by omega)) (by omega)
      have f1 := put_other (x := .int .i64 (B.onHand i - Md.held B i - B.committed i)) (o := 3) (put_other (x := .int .i64 (B.committed i)) (o := 2) (put_same (x := .int .i64 (Md.held B i)) (put_other (x := .int .i64 (B.onHand i)) (o := 0) s1 (by omega))) (by omega)) (by omega)
      have f2 := put_other (x := .int .i64 (B.onHand i - Md.held B i - B.committed i)) (o := 3) (put_same (x := .int .i64 (B.committed i)) (put_other (x := .int .i64 (Md.held B i)) (o := 1) (put_other (x := .int .i64 (B.onHand i)) (o := 0) s2 (by omega)) (by omega))) (by omega)
      have f3 := put_same (x := .int .i64 (B.onHand i - Md.held B i - B.committed i)) (put_other (x := .int .i64 (B.committed i)) (o := 2) (put_other (x := .int .i64 (Md.held B i)) (o := 1) (put_other (x := .int .i64 (B.onHand i)) (o := 0) s3 (by omega)) (by omega)) (by omega))
      have h4 := (((hBw.setCell (p := ⟨w.heap.size, 0, none⟩) (Nat.le_refl _) (.int .i64 (B.onHand i))).setCell (p := ⟨w.heap.size, 1, none⟩) (Nat.le_refl _) (.int .i64 (Md.held B i))).setCell (p := ⟨w.heap.size, 2, none⟩) (Nat.le_refl _) (.int .i64 (B.committed i))).setCell (p := ⟨w.heap.size, 3, none⟩) (Nat.le_refl _) (.int .i64 (B.onHand i - Md.held B i - B.committed i))
      have h5 : w.heap.size < ((((wr.setCell ⟨w.heap.size, 0, none⟩ (.int .i64 (B.onHand i))).setCell ⟨w.heap.size, 1, none⟩ (.int .i64 (Md.held B i))).setCell ⟨w.heap.size, 2, none⟩ (.int .i64 (B.committed i))).setCell ⟨w.heap.size, 3, none⟩ (.int .i64 (B.onHand i - Md.held B i - B.committed i))).heap.size := by rw [size_put, size_put, size_put, size_put]; exact hzz
      generalize (((wr.setCell ⟨w.heap.size, 0, none⟩ (.int .i64 (B.onHand i))).setCell ⟨w.heap.size, 1, none⟩ (.int .i64 (Md.held B i))).setCell ⟨w.heap.size, 2, none⟩ (.int .i64 (B.committed i))).setCell ⟨w.heap.size, 3, none⟩ (.int .i64 (B.onHand i - Md.held B i - B.committed i)) = F at f0 f1 f2 f3 h4 h5 ⊢
      exact bodyPost_ret (v := .agg (cellA B i)) (by simp [results, Try.results77, go_sem, cellA, Md.free, f0, f1, f2, f3, h5]) rfl ⟨rfl, h4.alloc h4.size _⟩

/-- What the walks along the program's book lean on. -/
structure Md.Okb (B : Md.Bk) (n : Nat) : Prop where
  fit : Md.Fit B
  l0 : B.live 0 = false
  hn : ∀ h, h < 51 → B.live h = true → 1 ≤ B.hn h
  wi : 1 ≤ n ∧ n ≤ 20
  pl : B.past.length ≤ n

theorem pn_pos {B : Md.Bk} {h : Nat} (hk : B.live h = true → 1 ≤ B.hn h) : decide (Md.pn B h > 0) = B.live h := by
  unfold Md.pn
  cases hl : B.live h with
  | true => have := hk hl; simp; omega
  | false => simp

set_option maxHeartbeats 400000 in
theorem pIsLive_any (p : Nat) (B : Md.Bk) (n : Nat) (h : Nat) (w : World) (hh : h < 51) (hb : PBook w p B n) (hk : B.live h = true → 1 ≤ B.hn h) :
    Calls Try.prog 98 #[.pointer (some ⟨p, 0, none⟩), .int .i64 h] w fun e w' => e = .returned (.bool (B.live h)) ∧ w' = w := by
  have c := hb.hn h hh
  have hlt := hb.lt
  have hh' : (h : Int) < 51 := by omega
  have hp := pn_pos hk
  clear hb
  go_enter Try.func98, Try.ntmps98
  go_wp2
  go_ret
  exact ⟨by rw [← hp]; rfl, rfl⟩

theorem pClock_any (p : Nat) (B : Md.Bk) (n : Nat) (w : World) (hb : PBook w p B n) :
    Calls Try.prog 80 #[.pointer (some ⟨p, 0, none⟩)] w fun e w' => e = .returned (.int .i64 B.clock) ∧ w' = w := by
  have c := hb.cl
  clear hb
  go_enter Try.func80, Try.ntmps80
  go_wp2
  go_ret
  exact ⟨rfl, rfl⟩
theorem pCount_any (p : Nat) (B : Md.Bk) (n : Nat) (w : World) (hb : PBook w p B n) :
    Calls Try.prog 81 #[.pointer (some ⟨p, 0, none⟩)] w fun e w' => e = .returned (.int .i64 B.count) ∧ w' = w := by
  have c := hb.cn
  clear hb
  go_enter Try.func81, Try.ntmps81
  go_wp2
  go_ret
  exact ⟨rfl, rfl⟩
theorem pDone_any (c : Int) (w : World) : Calls Try.prog 110 #[.int .i64 c] w fun e w' => e = .returned (.agg #[.int .i64 0, .int .i64 c]) ∧ Below w.heap.size w w' := by
  go_enter Try.func110, Try.ntmps110
  go_wp2
  exact bodyPost_ret (v := .agg #[.int .i64 0, .int .i64 c]) (by simp [results, Try.results110, go_sem]) rfl ⟨rfl, (Below.refl _ _).alloc (Nat.le_refl _) _⟩
theorem pRejected_any (w : World) : Calls Try.prog 109 #[] w fun e w' => e = .returned (.agg #[.int .i64 1, .int .i64 0]) ∧ Below w.heap.size w w' := by
  go_enter Try.func109, Try.ntmps109
  go_wp2
  exact bodyPost_ret (v := .agg #[.int .i64 1, .int .i64 0]) (by simp [results, Try.results109, go_sem]) rfl ⟨rfl, (Below.refl _ _).alloc (Nat.le_refl _) _⟩
end Go.Proofs.Ytidacihlalbohaa
