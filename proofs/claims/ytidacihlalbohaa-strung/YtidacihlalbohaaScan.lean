/- What Scan returns: the payloads of the frames at a text's beginning, in new memory, and the place behind them. -/
import Derived.Test.YtidacihlalbohaaIter
import Derived.Test.YtidacihlalbohaaClone
namespace Go.Proofs.Ytidacihlalbohaa
open Go.RowKit Go.Shelf
attribute [local go_sem] Oper.semAt_some

theorem row_cells {W : World} {base : Nat} {e : TypeId} {size : Nat} {v : Value} {k : Nat} {xs : List Value} (h : W.ownsRow base e size v k xs) :
    ∀ (j : Nat) (o : Obj), v.ownBlock = some j → W.heap[j]? = some o → o.isCells = true := by
  intro j o hj ho
  rcases h.2 with ⟨rfl, _⟩ | ⟨g, cap, cur, rfl, _, hg, _⟩
  · cases hj
  · cases hj
    rw [hg] at ho
    cases ho
    rfl

/-- Behind a round: what the three boxes hold, who owns the row, and what has been kept. -/
theorem round_end {w W w1 w2 : World} {H k q pl : Nat} {t : ByteArray} {v v' : Value} {xs ys : List Value} {tmp : Obj}
    (hv : Boxed W H 27 v) (he : Boxed W (H + 1) 3 (.int .i64 pl)) (ht : Boxed W (H + 2) 9 (.string t)) (hrow : W.ownsRow (H + 3) 9 1 v k xs) (hB : Below H w W)
    (hb1 : Below W.heap.size W w1) (hown : w2.ownsRow (H + 3) 9 1 v' (k + 1) ys) (hgrow : (w1.alloc tmp).grownBy w2 v.ownBlock) :
    Boxed w2 H 27 v ∧ Boxed (w2.setCell ⟨H, 0, none⟩ v') (H + 1) 3 (.int .i64 pl) ∧
    Boxed ((w2.setCell ⟨H, 0, none⟩ v').setCell ⟨H + 1, 0, none⟩ (.int .i64 q)) H 27 v' ∧
    ((w2.setCell ⟨H, 0, none⟩ v').setCell ⟨H + 1, 0, none⟩ (.int .i64 q)).ownsRow (H + 3) 9 1 v' (k + 1) ys ∧
    Boxed ((w2.setCell ⟨H, 0, none⟩ v').setCell ⟨H + 1, 0, none⟩ (.int .i64 q)) (H + 1) 3 (.int .i64 q) ∧
    Boxed ((w2.setCell ⟨H, 0, none⟩ v').setCell ⟨H + 1, 0, none⟩ (.int .i64 q)) (H + 2) 9 (.string t) ∧
    Below H w ((w2.setCell ⟨H, 0, none⟩ v').setCell ⟨H + 1, 0, none⟩ (.int .i64 q)) ∧
    KeepsOthers W ((w2.setCell ⟨H, 0, none⟩ v').setCell ⟨H + 1, 0, none⟩ (.int .i64 q)) := by
  have g1 := grown_of_below hb1
  have hrow1 := hrow.kept g1 (by cases v.ownBlock <;> simp)
  have hlt := hrow.lt
  have nr : ∀ B, B < H + 3 → some B ≠ v.ownBlock := fun B hB e => by have := (hlt B e.symm).1; omega
  have v2 : Boxed w2 H 27 v := ((hv.kept g1 (by simp)).alloc tmp).kept hgrow (nr _ (by omega))
  have e2 : Boxed w2 (H + 1) 3 (.int .i64 pl) := ((he.kept g1 (by simp)).alloc tmp).kept hgrow (nr _ (by omega))
  have t2 : Boxed w2 (H + 2) 9 (.string t) := ((ht.kept g1 (by simp)).alloc tmp).kept hgrow (nr _ (by omega))
  have v3 := v2.set v'
  have e3 := e2.other (B' := H) (by omega) v'
  have t3 := t2.other (B' := H) (by omega) v'
  have hs : H ≤ (w1.alloc tmp).heap.size := by have := hv.lt; have := hb1.size; simp; omega
  refine ⟨v2, e3, v3.other (by omega) _, ownsRow_setCell_below (ownsRow_setCell_below hown (by show H < H + 3; omega) _) (by show H + 1 < H + 3; omega) _, e3.set _, t3.other (by omega) _, ?_, ?_⟩
  · have hb2 : Below H w w2 := ((hB.trans (hb1.mono (by have := hv.lt; omega))).alloc (by have := hv.lt; have := hb1.size; omega) tmp).grown hgrow hs (fun j e => by have := (hlt j e).1; omega)
    exact (hb2.setCell (p := ⟨H, 0, none⟩) (Nat.le_refl _) _).setCell (p := ⟨H + 1, 0, none⟩) (Nat.le_succ _) _
  · exact (((KeepsOthers.of_grownBy g1 (fun j o e => by cases e)).trans (KeepsOthers.alloc w1 tmp)).trans (KeepsOthers.of_grownBy hgrow (row_cells (hrow1.alloc tmp)))).trans ((KeepsOthers.setCell w2 _ _).trans (KeepsOthers.setCell _ _ _))

/-- An append onto a row of the call's own, as one step of a statement that leaves its order open. -/
theorem step_append_in {F : Fence} {n : Nat} {P : Program} {ops : Array Oper} {o : Oper} {a : Act} {w : World} {K : Act → World → Prop} {Q : Exit → Act → World → Prop} {E : Prop}
    (hg : o.guard = none) (s x : Operand) (t : TypeId) (hop : o.op = Op.call { callee := Callee.builtin Builtin.append, args := #[s, x], argTypes := #[t, t] })
    (base : Nat) (e : TypeId) (i : TypeInfo) (z : Value) (size bytes : Nat) (h1 : P.underlying t = some (.slice e)) (h2 : P.info? e = some i) (h3 : i.zero = some z) (h4 : i.size = size) (h5 : i.bytes = bytes) (h6 : z.cells.size = size) (h7 : 0 < size)
    (v : Value) (k : Nat) (xs : List Value) (hs : a.eval s = v) (hown : w.ownsRow base e size v k xs) (ad : Addr) (m c : Nat) (news : List Value) (hx : a.eval x = .slice (some ad) m c) (hn : news.length = m * size)
    (hc : ∀ j u, news[j]? = some u → w.cell? (ad.add j) = some u) (h1c : ∀ u ∈ news, u.oneCell' = true) (b1 : k + m ≤ maxLen) (b2 : (k + m) * bytes ≤ 140737488355328) (b3 : base ≤ w.heap.size)
    (hK : ∀ v' w', w'.ownsRow base e size v' (k + m) (xs ++ news) → w.grownBy w' v.ownBlock → K (a.put o.dst v') w') :
    if Region.wanted o (yielded ops a.tmps) = true then Oper.wpIn F n P o a w K Q else E := by
  have hw : Region.wanted o (yielded ops a.tmps) = true := by simp [Region.wanted, hg]
  rw [if_pos hw]
  obtain ⟨v', w', hrun, r1, r2, _⟩ := run_append_own (P := P) w base t o.type e i z size bytes h1 h2 h3 h4 h5 h6 h7 v k xs hown ad m c news hn hc h1c b1 b2 b3
  unfold Oper.wpIn
  refine ⟨?_, ?_⟩
  · simp [Oper.about, hop, resolve, Target.leads, Sem.run_pure]
  · rw [Oper.semAt_plain F _ _ (by rw [hop]; intro c hc'; cases hc')]
    simp [execOp, hop, resolve, invoke, builtin, hs, hx, hrun, Result.andThen]
    exact hK v' w' r1 r2

end Go.Proofs.Ytidacihlalbohaa
