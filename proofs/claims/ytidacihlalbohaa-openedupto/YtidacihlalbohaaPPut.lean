/- The program's book in memory, written into. -/
import Derived.Test.YtidacihlalbohaaPRead
import Derived.Test.YtidacihlalbohaaInvMath
namespace Go.Proofs.Ytidacihlalbohaa
open Go.RowKit

/-- What lies in the k-th place of what is remembered. -/
def pastAt (B : Md.Bk) (k o : Nat) : Value := ((((B.past[k]?).map pastC).getD (List.replicate 8 (.int .i64 0))).getD o (.int .i64 0))

/-- The book read off another world's cells. -/
theorem PBook.of_cells {W W' : World} {p : Nat} {B B' : Md.Bk} {n n' : Nat} (h : PBook W p B n)
    (on : ∀ i, i < 8 → W'.cell? ⟨p, i * 2, none⟩ = some (.int .i64 (B'.onHand i))) (co : ∀ i, i < 8 → W'.cell? ⟨p, i * 2 + 1, none⟩ = some (.int .i64 (B'.committed i)))
    (hc : ∀ i, i < 51 → W'.cell? ⟨p, 16 + i * 3, none⟩ = some (.int .i64 (Md.pc B' i))) (hn : ∀ i, i < 51 → W'.cell? ⟨p, 16 + i * 3 + 1, none⟩ = some (.int .i64 (Md.pn B' i))) (ht : ∀ i, i < 51 → W'.cell? ⟨p, 16 + i * 3 + 2, none⟩ = some (.int .i64 (Md.pt B' i)))
    (cl : W'.cell? ⟨p, 169, none⟩ = some (.int .i64 B'.clock)) (cn : W'.cell? ⟨p, 170, none⟩ = some (.int .i64 B'.count)) (wi : W'.cell? ⟨p, 171, none⟩ = some (.int .i64 n'))
    (pa : ∀ k, k < 20 → ∀ o, o < 8 → W'.cell? ⟨p, 172 + k * 8 + o, none⟩ = some (pastAt B' k o)) (re : W'.cell? ⟨p, 332, none⟩ = some (.int .i64 B'.past.length))
    (fz : ∀ o, W'.frozen? ⟨p, o, none⟩ = W.frozen? ⟨p, o, none⟩) (hl : W.heap.size ≤ W'.heap.size) : PBook W' p B' n' :=
  ⟨on, co, hc, hn, ht, cl, cn, wi, pa, re, fun o => (fz o).trans (h.fz o), Nat.lt_of_lt_of_le h.lt hl⟩

theorem PBook.setOn {W : World} {p : Nat} {B : Md.Bk} {n : Nat} (h : PBook W p B n) {c : Nat} (hc : c < 8) (x : Int) : PBook (W.setCell ⟨p, c * 2, none⟩ (.int .i64 x)) p { B with onHand := Md.upd B.onHand c x } n := by
  have g := fun o => cell_put (x := .int .i64 x) (show (W.cell? ⟨p, c * 2, none⟩).isSome = true by rw [h.on c hc]; rfl) o
  refine h.of_cells (fun i hi => ?_) (fun i hi => ?_) (fun i hi => ?_) (fun i hi => ?_) (fun i hi => ?_) ?_ ?_ ?_ (fun k hk o ho => ?_) ?_ (fun o => World.frozen?_setCell _ _ _ _) (by rw [size_put]; exact Nat.le_refl _)
  · rw [g]
    by_cases e : i = c
    · subst e; rw [if_pos rfl]; simp only [upd_same]
    · rw [if_neg (by omega)]; simp only [upd_other _ _ _ _ e]; exact h.on i hi
  · rw [g, if_neg (by omega)]; exact h.co i hi
  · rw [g, if_neg (by omega)]; exact h.hc i hi
  · rw [g, if_neg (by omega)]; exact h.hn i hi
  · rw [g, if_neg (by omega)]; exact h.ht i hi
  · rw [g, if_neg (by omega)]; exact h.cl
  · rw [g, if_neg (by omega)]; exact h.cn
  · rw [g, if_neg (by omega)]; exact h.wi
  · rw [g, if_neg (by omega)]; exact h.pa k hk o ho
  · rw [g, if_neg (by omega)]; exact h.re
theorem PBook.setCo {W : World} {p : Nat} {B : Md.Bk} {n : Nat} (h : PBook W p B n) {c : Nat} (hc : c < 8) (x : Int) : PBook (W.setCell ⟨p, c * 2 + 1, none⟩ (.int .i64 x)) p { B with committed := Md.upd B.committed c x } n := by
  have g := fun o => cell_put (x := .int .i64 x) (show (W.cell? ⟨p, c * 2 + 1, none⟩).isSome = true by rw [h.co c hc]; rfl) o
  refine h.of_cells (fun i hi => ?_) (fun i hi => ?_) (fun i hi => ?_) (fun i hi => ?_) (fun i hi => ?_) ?_ ?_ ?_ (fun k hk o ho => ?_) ?_ (fun o => World.frozen?_setCell _ _ _ _) (by rw [size_put]; exact Nat.le_refl _)
  · rw [g, if_neg (by omega)]; exact h.on i hi
  · rw [g]
    by_cases e : i = c
    · subst e; rw [if_pos rfl]; simp only [upd_same]
    · rw [if_neg (by omega)]; simp only [upd_other _ _ _ _ e]; exact h.co i hi
  · rw [g, if_neg (by omega)]; exact h.hc i hi
  · rw [g, if_neg (by omega)]; exact h.hn i hi
  · rw [g, if_neg (by omega)]; exact h.ht i hi
  · rw [g, if_neg (by omega)]; exact h.cl
  · rw [g, if_neg (by omega)]; exact h.cn
  · rw [g, if_neg (by omega)]; exact h.wi
  · rw [g, if_neg (by omega)]; exact h.pa k hk o ho
  · rw [g, if_neg (by omega)]; exact h.re
theorem PBook.setClock {W : World} {p : Nat} {B : Md.Bk} {n : Nat} (h : PBook W p B n) (x : Int) : PBook (W.setCell ⟨p, 169, none⟩ (.int .i64 x)) p { B with clock := x } n := by
  have g := fun o => cell_put (x := .int .i64 x) (show (W.cell? ⟨p, 169, none⟩).isSome = true by rw [h.cl]; rfl) o
  refine h.of_cells (fun i hi => ?_) (fun i hi => ?_) (fun i hi => ?_) (fun i hi => ?_) (fun i hi => ?_) ?_ ?_ ?_ (fun k hk o ho => ?_) ?_ (fun o => World.frozen?_setCell _ _ _ _) (by rw [size_put]; exact Nat.le_refl _)
  · rw [g, if_neg (by omega)]; exact h.on i hi
  · rw [g, if_neg (by omega)]; exact h.co i hi
  · rw [g, if_neg (by omega)]; exact h.hc i hi
  · rw [g, if_neg (by omega)]; exact h.hn i hi
  · rw [g, if_neg (by omega)]; exact h.ht i hi
  · rw [g, if_pos rfl]
  · rw [g, if_neg (by omega)]; exact h.cn
  · rw [g, if_neg (by omega)]; exact h.wi
  · rw [g, if_neg (by omega)]; exact h.pa k hk o ho
  · rw [g, if_neg (by omega)]; exact h.re
theorem PBook.setCount {W : World} {p : Nat} {B : Md.Bk} {n : Nat} (h : PBook W p B n) (x : Int) : PBook (W.setCell ⟨p, 170, none⟩ (.int .i64 x)) p { B with count := x } n := by
  have g := fun o => cell_put (x := .int .i64 x) (show (W.cell? ⟨p, 170, none⟩).isSome = true by rw [h.cn]; rfl) o
  refine h.of_cells (fun i hi => ?_) (fun i hi => ?_) (fun i hi => ?_) (fun i hi => ?_) (fun i hi => ?_) ?_ ?_ ?_ (fun k hk o ho => ?_) ?_ (fun o => World.frozen?_setCell _ _ _ _) (by rw [size_put]; exact Nat.le_refl _)
  · rw [g, if_neg (by omega)]; exact h.on i hi
  · rw [g, if_neg (by omega)]; exact h.co i hi
  · rw [g, if_neg (by omega)]; exact h.hc i hi
  · rw [g, if_neg (by omega)]; exact h.hn i hi
  · rw [g, if_neg (by omega)]; exact h.ht i hi
  · rw [g, if_neg (by omega)]; exact h.cl
  · rw [g, if_pos rfl]
  · rw [g, if_neg (by omega)]; exact h.wi
  · rw [g, if_neg (by omega)]; exact h.pa k hk o ho
  · rw [g, if_neg (by omega)]; exact h.re
theorem PBook.setWin {W : World} {p : Nat} {B : Md.Bk} {n : Nat} (h : PBook W p B n) (x : Nat) : PBook (W.setCell ⟨p, 171, none⟩ (.int .i64 x)) p B x := by
  have g := fun o => cell_put (x := .int .i64 x) (show (W.cell? ⟨p, 171, none⟩).isSome = true by rw [h.wi]; rfl) o
  refine h.of_cells (fun i hi => ?_) (fun i hi => ?_) (fun i hi => ?_) (fun i hi => ?_) (fun i hi => ?_) ?_ ?_ ?_ (fun k hk o ho => ?_) ?_ (fun o => World.frozen?_setCell _ _ _ _) (by rw [size_put]; exact Nat.le_refl _)
  · rw [g, if_neg (by omega)]; exact h.on i hi
  · rw [g, if_neg (by omega)]; exact h.co i hi
  · rw [g, if_neg (by omega)]; exact h.hc i hi
  · rw [g, if_neg (by omega)]; exact h.hn i hi
  · rw [g, if_neg (by omega)]; exact h.ht i hi
  · rw [g, if_neg (by omega)]; exact h.cl
  · rw [g, if_neg (by omega)]; exact h.cn
  · rw [g, if_pos rfl]
  · rw [g, if_neg (by omega)]; exact h.pa k hk o ho
  · rw [g, if_neg (by omega)]; exact h.re
/-- A hold's three cells are written. -/
theorem PBook.setHold {W : World} {p : Nat} {B B' : Md.Bk} {n : Nat} (h : PBook W p B n) {k : Nat} (hk : k < 51) (x y z : Int) (e1 : B'.onHand = B.onHand) (e2 : B'.committed = B.committed) (e3 : B'.clock = B.clock) (e4 : B'.count = B.count) (e5 : B'.past = B.past)
    (hx : Md.pc B' k = x) (hy : Md.pn B' k = y) (hz : Md.pt B' k = z) (ho : ∀ j, j ≠ k → Md.pc B' j = Md.pc B j ∧ Md.pn B' j = Md.pn B j ∧ Md.pt B' j = Md.pt B j) :
    PBook (((W.setCell ⟨p, 16 + k * 3, none⟩ (.int .i64 x)).setCell ⟨p, 16 + k * 3 + 1, none⟩ (.int .i64 y)).setCell ⟨p, 16 + k * 3 + 2, none⟩ (.int .i64 z)) p B' n := by
  have g1 := fun o => cell_put (x := .int .i64 x) (show (W.cell? ⟨p, 16 + k * 3, none⟩).isSome = true by rw [h.hc k hk]; rfl) o
  have g2 := fun o => cell_put (x := .int .i64 y) (show ((W.setCell ⟨p, 16 + k * 3, none⟩ (.int .i64 x)).cell? ⟨p, 16 + k * 3 + 1, none⟩).isSome = true by rw [g1, if_neg (by omega), h.hn k hk]; rfl) o
  have g3 := fun o => cell_put (x := .int .i64 z) (show (((W.setCell ⟨p, 16 + k * 3, none⟩ (.int .i64 x)).setCell ⟨p, 16 + k * 3 + 1, none⟩ (.int .i64 y)).cell? ⟨p, 16 + k * 3 + 2, none⟩).isSome = true by rw [g2, if_neg (by omega), g1, if_neg (by omega), h.ht k hk]; rfl) o
  have g : ∀ o, (((W.setCell ⟨p, 16 + k * 3, none⟩ (.int .i64 x)).setCell ⟨p, 16 + k * 3 + 1, none⟩ (.int .i64 y)).setCell ⟨p, 16 + k * 3 + 2, none⟩ (.int .i64 z)).cell? ⟨p, o, none⟩ = if o = 16 + k * 3 + 2 then some (.int .i64 z) else if o = 16 + k * 3 + 1 then some (.int .i64 y) else if o = 16 + k * 3 then some (.int .i64 x) else W.cell? ⟨p, o, none⟩ := fun o => by rw [g3, g2, g1]
  have gn : ∀ o, o < 16 ∨ 169 ≤ o → (((W.setCell ⟨p, 16 + k * 3, none⟩ (.int .i64 x)).setCell ⟨p, 16 + k * 3 + 1, none⟩ (.int .i64 y)).setCell ⟨p, 16 + k * 3 + 2, none⟩ (.int .i64 z)).cell? ⟨p, o, none⟩ = W.cell? ⟨p, o, none⟩ := fun o h => by rw [g, if_neg (by omega), if_neg (by omega), if_neg (by omega)]
  refine h.of_cells (fun i hi => ?_) (fun i hi => ?_) (fun i hi => ?_) (fun i hi => ?_) (fun i hi => ?_) ?_ ?_ ?_ (fun j hj o hoo => ?_) ?_ (fun o => (World.frozen?_setCell _ _ _ _).trans ((World.frozen?_setCell _ _ _ _).trans (World.frozen?_setCell _ _ _ _))) (by rw [size_put, size_put, size_put]; exact Nat.le_refl _)
  · rw [gn _ (by omega), e1]; exact h.on i hi
  · rw [gn _ (by omega), e2]; exact h.co i hi
  · rw [g, if_neg (by omega), if_neg (by omega)]
    by_cases e : i = k
    · subst e; rw [if_pos rfl, hx]
    · rw [if_neg (by omega), (ho i e).1]; exact h.hc i hi
  · rw [g, if_neg (by omega)]
    by_cases e : i = k
    · subst e; rw [if_pos rfl, hy]
    · rw [if_neg (by omega), if_neg (by omega), (ho i e).2.1]; exact h.hn i hi
  · rw [g]
    by_cases e : i = k
    · subst e; rw [if_pos rfl, hz]
    · rw [if_neg (by omega), if_neg (by omega), if_neg (by omega), (ho i e).2.2]; exact h.ht i hi
  · rw [gn _ (by omega), e3]; exact h.cl
  · rw [gn _ (by omega), e4]; exact h.cn
  · rw [gn _ (by omega)]; exact h.wi
  · rw [gn _ (by omega)]; unfold pastAt; rw [e5]; exact h.pa j hj o hoo
  · rw [gn _ (by omega), e5]; exact h.re
theorem PBook.reserve {W : World} {p : Nat} {B : Md.Bk} {n : Nat} (h : PBook W p B n) {k : Nat} (hk : k < 51) (c : Nat) (m t : Int) :
    PBook (((W.setCell ⟨p, 16 + k * 3, none⟩ (.int .i64 c)).setCell ⟨p, 16 + k * 3 + 1, none⟩ (.int .i64 m)).setCell ⟨p, 16 + k * 3 + 2, none⟩ (.int .i64 t)) p (Md.reserve B c k m t) n :=
  h.setHold hk c m t rfl rfl rfl rfl rfl (by simp [Md.pc, Md.reserve, Md.upd]) (by simp [Md.pn, Md.reserve, Md.upd]) (by simp [Md.pt, Md.reserve, Md.upd]) (fun j hj => by simp [Md.pc, Md.pn, Md.pt, Md.reserve, Md.upd, hj])
theorem PBook.putHold {W : World} {p : Nat} {B : Md.Bk} {n : Nat} (h : PBook W p B n) {k : Nat} (hk : k < 51) (c m t : Int) :
    PBook (((W.setCell ⟨p, 16 + k * 3, none⟩ (.int .i64 c)).setCell ⟨p, 16 + k * 3 + 1, none⟩ (.int .i64 m)).setCell ⟨p, 16 + k * 3 + 2, none⟩ (.int .i64 t)) p (Md.putHold B k c m t) n :=
  h.setHold hk c m t rfl rfl rfl rfl rfl (by simp [Md.pc, Md.putHold, Md.upd]) (by simp [Md.pn, Md.putHold, Md.upd]) (by simp [Md.pt, Md.putHold, Md.upd]) (fun j hj => by simp [Md.pc, Md.pn, Md.pt, Md.putHold, Md.upd, hj])
theorem PBook.drop {W : World} {p : Nat} {B : Md.Bk} {n : Nat} (h : PBook W p B n) {k : Nat} (hk : k < 51) :
    PBook (((W.setCell ⟨p, 16 + k * 3, none⟩ (.int .i64 0)).setCell ⟨p, 16 + k * 3 + 1, none⟩ (.int .i64 0)).setCell ⟨p, 16 + k * 3 + 2, none⟩ (.int .i64 0)) p { B with live := Md.upd B.live k false } n :=
  h.setHold hk 0 0 0 rfl rfl rfl rfl rfl (by simp [Md.pc, Md.upd]) (by simp [Md.pn, Md.upd]) (by simp [Md.pt, Md.upd]) (fun j hj => by simp [Md.pc, Md.pn, Md.pt, Md.upd, hj])

theorem Md.Inv.okb {B : Md.Bk} {n : Nat} (h : Md.Inv B n) (hw : 1 ≤ n ∧ n ≤ 20) : Md.Okb B n :=
  ⟨⟨h.small, fun i hi => (h.on i hi).2, fun i hi => h.comm i hi, fun j hj => (h.hn j hj).2, fun j hj hl => (h.lv j hj hl).2⟩, h.l0, fun j hj hl => (h.lv j hj hl).1, hw, h.pl⟩
end Go.Proofs.Ytidacihlalbohaa
