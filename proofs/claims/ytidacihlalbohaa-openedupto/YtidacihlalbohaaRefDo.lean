/- What the document's own Do does to the book, and what it returns. -/
import Derived.Test.YtidacihlalbohaaRefTick
import Derived.Deep.RegionLaw
namespace Go.Proofs.Ytidacihlalbohaa
open Go.RowKit

/-- An append onto a row of the call's own, as one step of a statement that leaves its order open. -/
theorem step_append_own {P : Program} {ops : Array Oper} {o : Oper} {a : Act} {w : World} {K : Act → World → Prop} {Q : Exit → Act → World → Prop} {E : Prop}
    (hg : o.guard = none) (s x : Operand) (t : TypeId) (hop : o.op = Op.call { callee := Callee.builtin Builtin.append, args := #[s, x], argTypes := #[t, t] })
    (base : Nat) (e : TypeId) (i : TypeInfo) (z : Value) (size bytes : Nat) (h1 : P.underlying t = some (.slice e)) (h2 : P.info? e = some i) (h3 : i.zero = some z) (h4 : i.size = size) (h5 : i.bytes = bytes) (h6 : z.cells.size = size) (h7 : 0 < size)
    (v : Value) (k : Nat) (xs : List Value) (hs : a.eval s = v) (hown : w.ownsRow base e size v k xs) (ad : Addr) (m c : Nat) (news : List Value) (hx : a.eval x = .slice (some ad) m c) (hn : news.length = m * size)
    (hc : ∀ j u, news[j]? = some u → w.cell? (ad.add j) = some u) (h1c : ∀ u ∈ news, u.oneCell' = true) (b1 : k + m ≤ maxLen) (b2 : (k + m) * bytes ≤ 140737488355328) (b3 : base ≤ w.heap.size)
    (hK : ∀ v' w', w'.ownsRow base e size v' (k + m) (xs ++ news) → w.grownBy w' v.ownBlock → K (a.put o.dst v') w') :
    if Region.wanted o (yielded ops a.tmps) = true then Oper.wp P o a w K Q else E := by
  have hw : Region.wanted o (yielded ops a.tmps) = true := by simp [Region.wanted, hg]
  rw [if_pos hw]
  obtain ⟨v', w', hrun, r1, r2, _⟩ := run_append_own (P := P) w base t o.type e i z size bytes h1 h2 h3 h4 h5 h6 h7 v k xs hown ad m c news hn hc h1c b1 b2 b3
  unfold Oper.wp
  simp [execOp, hop, resolve, invoke, builtin, hs, hx, hrun, Result.andThen]
  exact hK v' w' r1 r2

/-- Of what lay in w only block p and a row have changed. -/
structure Kept2 (p : Nat) (r : Option Nat) (w w' : World) : Prop where
  os : w'.os = w.os
  tape : w'.tape = w.tape
  output : w'.output = w.output
  size : w.heap.size ≤ w'.heap.size
  block : ∀ k, k < w.heap.size → k ≠ p → some k ≠ r → w'.heap[k]? = w.heap[k]?

theorem after_row {X w3 w4 : World} {o : Obj} {r : Option Nat} (hg : (X.drew.alloc o).grownBy w3 r) (hb : Below w3.heap.size w3 w4) {k : Nat} (hk : k < X.heap.size) (hr : r ≠ some k) : w4.heap[k]? = X.heap[k]? := by
  have h1 : X.heap.size + 1 ≤ w3.heap.size := by have := hg.size; simpa using this
  rw [hb.block k (by omega), hg.block k (by simp; omega) (fun e => hr e.symm)]
  show (X.heap.push o)[k]? = X.heap[k]?
  rw [Array.getElem?_push, if_neg (Nat.ne_of_lt hk)]
theorem after_size {X w3 w4 : World} {o : Obj} {r : Option Nat} (hg : (X.drew.alloc o).grownBy w3 r) (hb : Below w3.heap.size w3 w4) : X.heap.size ≤ w4.heap.size := by
  have h1 : X.heap.size + 1 ≤ w3.heap.size := by have := hg.size; simpa using this
  have := hb.size
  omega
theorem BookAt.of_block {W W' : World} {p : Nat} {B : Md.Bk} {v : Value} (h : BookAt W p B v) (hb : W'.heap[p]? = W.heap[p]?) (hl : p < W'.heap.size) : BookAt W' p B v :=
  have hc : ∀ o, W'.cell? ⟨p, o, none⟩ = W.cell? ⟨p, o, none⟩ := fun _ => World.cell?_of_block hb
  ⟨fun i hi => (hc _).trans (h.on i hi), fun i hi => (hc _).trans (h.co i hi), fun i hi => (hc _).trans (h.hc i hi), fun i hi => (hc _).trans (h.hn i hi), fun i hi => (hc _).trans (h.ht i hi), fun i hi => (hc _).trans (h.li i hi),
    (hc _).trans h.cl, (hc _).trans h.cn, (hc _).trans h.pa, fun o => (World.frozen?_of_block hb).trans (h.fz o), hl⟩

theorem BookAt.past {W : World} {p : Nat} {B : Md.Bk} {v : Value} (h : BookAt W p B v) (l : List Md.Past) : BookAt W p { B with past := l } v := ⟨h.on, h.co, h.hc, h.hn, h.ht, h.li, h.cl, h.cn, h.pa, h.fz, h.lt⟩
theorem doReq_no {B : Md.Bk} {r : Md.Req} (n : Nat) (h : Md.can B r = false) : Md.doReq B r n = ({ B with count := B.count + 1, past := (B.past ++ [(⟨r, ⟨1, 0⟩⟩ : Md.Past)]).drop ((B.past ++ [(⟨r, ⟨1, 0⟩⟩ : Md.Past)]).length - n) }, ⟨1, 0⟩) := by
  unfold Md.doReq; rw [h]; rfl
theorem change_past (B : Md.Bk) (r : Md.Req) : (Md.change B r).1.past = B.past := by
  unfold Md.change; repeat' split
  all_goals rfl
theorem doReq_yes {B : Md.Bk} {r : Md.Req} (n : Nat) (h : Md.can B r = true) : Md.doReq B r n = ({ (Md.change B r).1 with count := (Md.change B r).1.count + 1, past := (B.past ++ [(⟨r, ⟨0, (Md.change B r).2⟩⟩ : Md.Past)]).drop ((B.past ++ [(⟨r, ⟨0, (Md.change B r).2⟩⟩ : Md.Past)]).length - n) }, ⟨0, (Md.change B r).2⟩) := by
  unfold Md.doReq; rw [h]; simp only [if_true]; rw [change_past]

theorem doReq_yes' {B C : Md.Bk} {r : Md.Req} {c : Int} (n : Nat) (h : Md.can B r = true) (h2 : Md.change B r = (C, c)) : Md.doReq B r n = ({ C with count := C.count + 1, past := (B.past ++ [(⟨r, ⟨0, c⟩⟩ : Md.Past)]).drop ((B.past ++ [(⟨r, ⟨0, c⟩⟩ : Md.Past)]).length - n) }, ⟨0, c⟩) := by
  have := doReq_yes n h
  rw [h2] at this
  exact this
theorem change_count (B : Md.Bk) (r : Md.Req) : (Md.change B r).1.count = B.count := by
  unfold Md.change; repeat' split
  all_goals rfl
theorem grown_new {w W : World} {r : Option Nat} (h : w.grownBy W r) (q o : Nat) (x : Value) (hq : w.heap.size ≤ q) : w.grownBy (W.setCell ⟨q, o, none⟩ x) r :=
  have g := grown_put W q o x
  ⟨g.os.trans h.os, g.tape.trans h.tape, g.output.trans h.output, Nat.le_trans h.size g.size, fun k hk hr => (g.block k (Nat.lt_of_lt_of_le hk h.size) (fun e => by cases e; omega)).trans (h.block k hk hr)⟩
theorem grown_other {W : World} (q o : Nat) (x : Value) {k : Nat} (hk : k < W.heap.size) (hne : k ≠ q) : (W.setCell ⟨q, o, none⟩ x).heap[k]? = W.heap[k]? := (grown_put W q o x).block k hk (fun e => hne (by cases e; rfl))

theorem do_close {w W X w3 w4 : World} {p : Nat} {v v4 a b a0 b0 : Value} {o : Obj} {C : Md.Bk} {m : Nat} {xs : List Value}
    (hW : w.grownBy W (some p)) (hX : W.grownBy X (some p)) (hg : (X.drew.alloc o).grownBy w3 v.ownBlock) (h4 : Below w3.heap.size w3 w4) (hbX : BookAt X p C v) (hown : w4.ownsRow w3.heap.size 143 8 v4 m xs)
    (hpv : v.ownBlock ≠ some p) (hp : p < w.heap.size) (hz : w.heap.size + 3 ≤ W.heap.size) (r0 : w4.cell? ⟨w.heap.size + 1, 0, none⟩ = some a0) (r1 : w4.cell? ⟨w.heap.size + 1, 1, none⟩ = some b0) :
    BookAt (((w4.setCell ⟨p, 222, none⟩ v4).setCell ⟨w.heap.size + 1, 0, none⟩ a).setCell ⟨w.heap.size + 1, 1, none⟩ b) p C v4 ∧
    (((w4.setCell ⟨p, 222, none⟩ v4).setCell ⟨w.heap.size + 1, 0, none⟩ a).setCell ⟨w.heap.size + 1, 1, none⟩ b).ownsRow w.heap.size 143 8 v4 m xs ∧
    Kept2 p v.ownBlock w (((w4.setCell ⟨p, 222, none⟩ v4).setCell ⟨w.heap.size + 1, 0, none⟩ a).setCell ⟨w.heap.size + 1, 1, none⟩ b) ∧
    (((w4.setCell ⟨p, 222, none⟩ v4).setCell ⟨w.heap.size + 1, 0, none⟩ a).setCell ⟨w.heap.size + 1, 1, none⟩ b).cell? ⟨w.heap.size + 1, 0, none⟩ = some a ∧
    (((w4.setCell ⟨p, 222, none⟩ v4).setCell ⟨w.heap.size + 1, 0, none⟩ a).setCell ⟨w.heap.size + 1, 1, none⟩ b).cell? ⟨w.heap.size + 1, 1, none⟩ = some b := by
  have t0 : (w4.setCell ⟨p, 222, none⟩ v4).cell? ⟨w.heap.size + 1, 0, none⟩ = some a0 := (World.cell?_setCell_other _ _ _ _ (fun e => by cases e)).trans r0
  have t1 : (w4.setCell ⟨p, 222, none⟩ v4).cell? ⟨w.heap.size + 1, 1, none⟩ = some b0 := (World.cell?_setCell_other _ _ _ _ (fun e => by cases e)).trans r1
  have z1 := hX.size
  have z2 := after_size hg h4
  have z3 : X.heap.size + 1 ≤ w3.heap.size := by have := hg.size; simpa using this
  have g1 := grown_put w4 p 222 v4
  have g2 := grown_put (w4.setCell ⟨p, 222, none⟩ v4) (w.heap.size + 1) 0 a
  have g3 := grown_put ((w4.setCell ⟨p, 222, none⟩ v4).setCell ⟨w.heap.size + 1, 0, none⟩ a) (w.heap.size + 1) 1 b
  have v0 : ((w4.setCell ⟨p, 222, none⟩ v4).setCell ⟨w.heap.size + 1, 0, none⟩ a).cell? ⟨w.heap.size + 1, 0, none⟩ = some a := by rw [cell_put (by rw [t0]; rfl), if_pos rfl]
  have v1 : ((w4.setCell ⟨p, 222, none⟩ v4).setCell ⟨w.heap.size + 1, 0, none⟩ a).cell? ⟨w.heap.size + 1, 1, none⟩ = some b0 := by rw [cell_put (by rw [t0]; rfl), if_neg (by omega)]; exact t1
  have u0 := (cell_put (x := b) (by rw [v1]; rfl) 0).trans ((if_neg (by omega)).trans v0)
  have u1 := (cell_put (W := (w4.setCell ⟨p, 222, none⟩ v4).setCell ⟨w.heap.size + 1, 0, none⟩ a) (x := b) (by rw [v1]; rfl) 1).trans (if_pos rfl)
  generalize hF1 : w4.setCell ⟨p, 222, none⟩ v4 = F1 at *
  generalize hF2 : F1.setCell ⟨w.heap.size + 1, 0, none⟩ a = F2 at *
  generalize hF3 : F2.setCell ⟨w.heap.size + 1, 1, none⟩ b = F3 at *
  have s1 := g1.size
  have s2 := g2.size
  have s3 := g3.size
  have hb4 : BookAt w4 p C v := hbX.of_block (after_row hg h4 (by omega) hpv) (by omega)
  have hb5 : BookAt F1 p C v4 := by rw [← hF1]; exact hb4.setPast v4
  have ne : some p ≠ some (w.heap.size + 1) := fun e => by cases e; omega
  have hb6 : BookAt F2 p C v4 := hb5.of_block (g2.block p (by omega) ne) (by omega)
  have hb7 : BookAt F3 p C v4 := hb6.of_block (g3.block p (by omega) ne) (by omega)
  refine ⟨hb7, row_le (((hown.kept g1 (.inr ?_)).kept g2 (.inr ?_)).kept g3 (.inr ?_)) (by omega), ⟨?_, ?_, ?_, by omega, ?_⟩, ?_, ?_⟩
  · exact fun e => by have := (hown.lt _ e).1; omega
  · exact fun e => by have := (hown.lt _ e).1; omega
  · exact fun e => by have := (hown.lt _ e).1; omega
  · rw [g3.os, g2.os, g1.os, h4.os, hg.os]; exact hX.os.trans hW.os
  · rw [g3.tape, g2.tape, g1.tape, h4.tape, hg.tape]; exact hX.tape.trans hW.tape
  · rw [g3.output, g2.output, g1.output, h4.output, hg.output]; exact hX.output.trans hW.output
  · intro k hk hkp hkr
    have n1 : some k ≠ some p := fun e => hkp (by cases e; rfl)
    have n2 : some k ≠ some (w.heap.size + 1) := fun e => by cases e; omega
    rw [g3.block k (by omega) n2, g2.block k (by omega) n2, g1.block k (by omega) n1, after_row hg h4 (by omega) (fun e => hkr e.symm), hX.block k (by omega) n1, hW.block k hk n1]
  · exact u0
  · exact u1

set_option maxRecDepth 100000 in
set_option maxHeartbeats 2000000 in
theorem do_no (p base : Nat) (B : Md.Bk) (v : Value) (r : Md.Req) (n : Nat) (w : World) (hg : Md.good r = true) (hcan : Md.can B r = false) (hb : BookAt w p B v) (hf : Md.Fit B)
    (hrow : w.ownsRow base 143 8 v B.past.length (pastsC B.past)) (hpv : v.ownBlock ≠ some p) (hbase : base ≤ w.heap.size) (hl : B.past.length ≤ 1048576) (hn : n ≤ 1048576) (hcnt : 0 ≤ B.count ∧ B.count ≤ 4294967296) :
    Calls Try.prog 75 #[.pointer (some ⟨p, 0, none⟩), .agg (reqA r), .int .i64 n] w fun e w' => ∃ v', e = .returned (.agg (repA (Md.doReq B r n).2)) ∧ BookAt w' p (Md.doReq B r n).1 v' ∧
      w'.ownsRow w.heap.size 143 8 v' (Md.doReq B r n).1.past.length (pastsC (Md.doReq B r n).1.past) ∧ Kept2 p v.ownBlock w w' := by
  have hc := fun W (hB : Below w.heap.size w W) => can_any p B v r W hg (hb.below hB) hf.small
  rw [hcan] at hc
  unfold reqA at hc
  have Hc := hide hc
  have HD := hide (doReq_no n hcan)
  obtain ⟨i0, hi, hz0, hz1, hz2⟩ := info_parts infoPast
  have Hb := hide hb
  have Hrow := hide hrow
  obtain ⟨c1, c2⟩ := hcnt
  have hp := hb.lt
  clear hc hb hrow hg hcan hf
  unfold reqA
  go_enter Try.func75, Try.ntmps75
  go_wp2_with fail
  obtain ⟨W0, hW0⟩ : ∃ W0, (((w.alloc (.cells #[.int .i64 r.id, .int .i64 r.kind, .int .i64 r.cell, .int .i64 r.hold, .int .i64 r.count, .int .i64 r.time] 75)).alloc (.cells #[.int .i64 0, .int .i64 0] 77)).alloc (.cells #[.int .i64 1, .int .i64 0] 77)) = W0 := ⟨_, rfl⟩
  have hB0 : Below w.heap.size w W0 := by rw [← hW0]; exact (((Below.refl _ w).alloc (Nat.le_refl _) _).alloc (by simp) _).alloc (by simp; omega) _
  have hz : W0.heap.size = w.heap.size + 3 := by rw [← hW0]; simp [go_sem]
  have b0 : W0.cell? ⟨w.heap.size, 0, none⟩ = some (.int .i64 r.id) := by rw [← hW0]; simp [go_sem]
  have b1 : W0.cell? ⟨w.heap.size, 1, none⟩ = some (.int .i64 r.kind) := by rw [← hW0]; simp [go_sem]
  have b2 : W0.cell? ⟨w.heap.size, 2, none⟩ = some (.int .i64 r.cell) := by rw [← hW0]; simp [go_sem]
  have b3 : W0.cell? ⟨w.heap.size, 3, none⟩ = some (.int .i64 r.hold) := by rw [← hW0]; simp [go_sem]
  have b4 : W0.cell? ⟨w.heap.size, 4, none⟩ = some (.int .i64 r.count) := by rw [← hW0]; simp [go_sem]
  have b5 : W0.cell? ⟨w.heap.size, 5, none⟩ = some (.int .i64 r.time) := by rw [← hW0]; simp [go_sem]
  have d0 : W0.cell? ⟨w.heap.size + 1, 0, none⟩ = some (.int .i64 0) := by rw [← hW0]; simp [go_sem]
  have d1 : W0.cell? ⟨w.heap.size + 1, 1, none⟩ = some (.int .i64 0) := by rw [← hW0]; simp [go_sem]
  have k0 : W0.cell? ⟨w.heap.size + 1 + 1, 0, none⟩ = some (.int .i64 1) := by rw [← hW0]; simp [go_sem]
  have k1 : W0.cell? ⟨w.heap.size + 1 + 1, 1, none⟩ = some (.int .i64 0) := by rw [← hW0]; simp [go_sem]
  have z0 : ∀ o, W0.frozen? ⟨w.heap.size + 1, o, none⟩ = false := by rw [← hW0]; intro o; simp [go_sem]
  rw [hW0]
  clear hW0
  refine (Hc.out W0 hB0).mono ?_
  rintro e W ⟨rfl, hb1⟩
  have hzW : w.heap.size + 3 ≤ W.heap.size := by have := hb1.size; omega
  have e0 := (hb1.cell (p := ⟨w.heap.size, 0, none⟩) (by show w.heap.size < _; omega)).trans b0
  have e1 := (hb1.cell (p := ⟨w.heap.size, 1, none⟩) (by show w.heap.size < _; omega)).trans b1
  have e2 := (hb1.cell (p := ⟨w.heap.size, 2, none⟩) (by show w.heap.size < _; omega)).trans b2
  have e3 := (hb1.cell (p := ⟨w.heap.size, 3, none⟩) (by show w.heap.size < _; omega)).trans b3
  have e4 := (hb1.cell (p := ⟨w.heap.size, 4, none⟩) (by show w.heap.size < _; omega)).trans b4
  have e5 := (hb1.cell (p := ⟨w.heap.size, 5, none⟩) (by show w.heap.size < _; omega)).trans b5
  have g0 := (hb1.cell (p := ⟨w.heap.size + 1, 0, none⟩) (by show w.heap.size + 1 < _; omega)).trans d0
  have g1 := (hb1.cell (p := ⟨w.heap.size + 1, 1, none⟩) (by show w.heap.size + 1 < _; omega)).trans d1
  have y0 := fun o => (hb1.frozen (p := ⟨w.heap.size + 1, o, none⟩) (by show w.heap.size + 1 < _; omega)).trans (z0 o)
  have m0 := (hb1.cell (p := ⟨w.heap.size + 1 + 1, 0, none⟩) (by show w.heap.size + 1 + 1 < _; omega)).trans k0
  have m1 := (hb1.cell (p := ⟨w.heap.size + 1 + 1, 1, none⟩) (by show w.heap.size + 1 + 1 < _; omega)).trans k1
  have hBW : Below w.heap.size w W := hB0.trans (hb1.mono (by omega))
  have hbW := Hb.out.below hBW
  have hrW := Hrow.out.kept (grown_of_below hBW) (by cases v.ownBlock <;> simp)
  have cn := hbW.cn
  have pa := hbW.pa
  have fc := hbW.fz 221
  have fp := hbW.fz 222
  have hpW := hbW.lt
  have HbW := hide hbW
  have HrW := hide hrW
  have HW := hide (grown_below (r := some p) hBW)
  clear b0 b1 b2 b3 b4 b5 d0 d1 k0 k1 z0 hbW hrW hBW hb1 hB0 hz
  go_wp2_with fail
  obtain ⟨X, hX⟩ : ∃ X, W.setCell ⟨p, 221, none⟩ (.int .i64 (B.count + 1)) = X := ⟨_, rfl⟩
  have hgX : W.grownBy X (some p) := hX ▸ grown_put W p 221 (.int .i64 (B.count + 1))
  have hbX : BookAt X p { B with count := B.count + 1 } v := hX ▸ HbW.out.setCount _
  have hrX : X.ownsRow base 143 8 v B.past.length (pastsC B.past) := HrW.out.kept hgX (.inr hpv)
  have hzX : W.heap.size ≤ X.heap.size := hgX.size
  have xs : ∀ k, k < W.heap.size → k ≠ p → X.heap[k]? = W.heap[k]? := fun k hk hne => hgX.block k hk (fun e => hne (by cases e; rfl))
  have hvl : ∀ k, v.ownBlock = some k → k < w.heap.size := fun k e => (Hrow.out.lt k e).2
  replace e0 := (World.cell?_of_block (xs w.heap.size (by omega) (by omega))).trans e0
  replace e1 := (World.cell?_of_block (xs w.heap.size (by omega) (by omega))).trans e1
  replace e2 := (World.cell?_of_block (xs w.heap.size (by omega) (by omega))).trans e2
  replace e3 := (World.cell?_of_block (xs w.heap.size (by omega) (by omega))).trans e3
  replace e4 := (World.cell?_of_block (xs w.heap.size (by omega) (by omega))).trans e4
  replace e5 := (World.cell?_of_block (xs w.heap.size (by omega) (by omega))).trans e5
  replace g0 := (World.cell?_of_block (xs (w.heap.size + 1) (by omega) (by omega))).trans g0
  replace m0 := (World.cell?_of_block (xs (w.heap.size + 1 + 1) (by omega) (by omega))).trans m0
  replace g1 := (World.cell?_of_block (xs (w.heap.size + 1) (by omega) (by omega))).trans g1
  replace m1 := (World.cell?_of_block (xs (w.heap.size + 1 + 1) (by omega) (by omega))).trans m1
  replace y0 := fun o => (World.frozen?_of_block (a := ⟨w.heap.size + 1, o, none⟩) (xs (w.heap.size + 1) (by omega) (by omega))).trans (y0 o)
  replace pa := hbX.pa
  replace fp := hbX.fz 222
  have hpX := hbX.lt
  rw [hX]
  have HrX := hide hrX
  have HbX := hide hbX
  have HgX := hide hgX
  clear hrX hbX hgX xs hX cn fc
  go_region_law (first
    | (refine step_append_own rfl (.tmp 32) (.tmp 36) 95 rfl base 143 i0 (.agg #[.int .i64 0, .int .i64 0, .int .i64 0, .int .i64 0, .int .i64 0, .int .i64 0, .int .i64 0, .int .i64 0]) 8 64 Try.underlying95 hi hz0 hz1 hz2 rfl (by decide) v B.past.length (pastsC B.past) rfl (World.ownsRow.alloc (w := X.drew) HrX.out _) ⟨X.heap.size, 0, none⟩ 1 1 (pastC ⟨r, (⟨1, 0⟩ : Md.Rep)⟩) rfl rfl (cells_new _ _ _ _ rfl) (by simp [pastC, Value.oneCell']) (by unfold maxLen; omega) (by omega) (by simp; omega) ?_
       intro v' w3 hown hgrow)
    | (go_simp
       refine Calls.mono (last_any v' (B.past ++ [⟨r, (⟨1, 0⟩ : Md.Rep)⟩]) n w3 (pastAt_of_row (by rw [pastsC_snoc, List.length_append]; exact hown)) (by rw [List.length_append]; simp only [List.length_singleton]; omega) (by omega)) ?_
       rintro e w4 ⟨v4, rfl, hown4, hb4⟩
       obtain ⟨LL, hLL⟩ : ∃ LL, (B.past ++ [(⟨r, (⟨1, 0⟩ : Md.Rep)⟩ : Md.Past)]).drop ((B.past ++ [(⟨r, (⟨1, 0⟩ : Md.Rep)⟩ : Md.Past)]).length - n) = LL := ⟨_, rfl⟩
       rw [hLL] at hown4
       obtain ⟨L4, hL4⟩ : ∃ L4, LL.length = L4 := ⟨_, rfl⟩
       rw [hL4] at hown4
       obtain ⟨a4, cap4, rfl, _⟩ := row_form hown4
       have HLL := hide hLL
       have HL4 := hide hL4
       clear hLL hL4
       have m0' := (World.cell?_of_block (after_row hgrow hb4 (k := w.heap.size + 1 + 1) (by omega) (fun e => by have := hvl _ e; omega))).trans m0
       have m1' := (World.cell?_of_block (after_row hgrow hb4 (k := w.heap.size + 1 + 1) (by omega) (fun e => by have := hvl _ e; omega))).trans m1
       have g0' := (World.cell?_of_block (after_row hgrow hb4 (k := w.heap.size + 1) (by omega) (fun e => by have := hvl _ e; omega))).trans g0
       have g1' := (World.cell?_of_block (after_row hgrow hb4 (k := w.heap.size + 1) (by omega) (fun e => by have := hvl _ e; omega))).trans g1
       have y0' := fun o => (World.frozen?_of_block (a := ⟨w.heap.size + 1, o, none⟩) (after_row hgrow hb4 (k := w.heap.size + 1) (by omega) (fun e => by have := hvl _ e; omega))).trans (y0 o)
       have pa' := (World.cell?_of_block (after_row hgrow hb4 (k := p) hpX hpv)).trans pa
       have fp' := (World.frozen?_of_block (after_row hgrow hb4 (k := p) hpX hpv)).trans fp
       have hz4 : X.heap.size ≤ w4.heap.size := after_size hgrow hb4
       ))
  all_goals
    go_wp2_with fail
    obtain ⟨q1, q2, q3, q4, q5⟩ := do_close (w := w) (a := .int .i64 1) (b := .int .i64 0) (HW.out) HgX.out hgrow hb4 HbX.out hown4 hpv hp hzW g0' g1'
    generalize ((w4.setCell ⟨p, 222, none⟩ (.slice a4 L4 cap4)).setCell ⟨w.heap.size + 1, 0, none⟩ (.int .i64 1)).setCell ⟨w.heap.size + 1, 1, none⟩ (.int .i64 0) = F at q1 q2 q3 q4 q5 ⊢
    refine bodyPost_ret (v := .agg (repA (⟨1, 0⟩ : Md.Rep))) (by simp [results, Try.results75, go_sem, repA, q4, q5]) rfl ⟨_, by rw [HD.out], by rw [HD.out]; exact q1.past _, by rw [HD.out]; dsimp only; rw [HLL.out, HL4.out]; exact q2, q3⟩
set_option maxRecDepth 100000 in
set_option maxHeartbeats 2000000 in
theorem do_yes (p base : Nat) (B : Md.Bk) (v : Value) (r : Md.Req) (n : Nat) (w : World) (hg : Md.good r = true) (hcan : Md.can B r = true) (hb : BookAt w p B v) (hf : Md.Fit B)
    (hrow : w.ownsRow base 143 8 v B.past.length (pastsC B.past)) (hpv : v.ownBlock ≠ some p) (hbase : base ≤ w.heap.size) (hl : B.past.length ≤ 1048576) (hn : n ≤ 1048576) (hcnt : 0 ≤ B.count ∧ B.count ≤ 4294967296) :
    Calls Try.prog 75 #[.pointer (some ⟨p, 0, none⟩), .agg (reqA r), .int .i64 n] w fun e w' => ∃ v', e = .returned (.agg (repA (Md.doReq B r n).2)) ∧ BookAt w' p (Md.doReq B r n).1 v' ∧
      w'.ownsRow w.heap.size 143 8 v' (Md.doReq B r n).1.past.length (pastsC (Md.doReq B r n).1.past) ∧ Kept2 p v.ownBlock w w' := by
  obtain ⟨⟨C, c⟩, hCc⟩ : ∃ x, Md.change B r = x := ⟨_, rfl⟩
  have hch := fun W (hB : BookAt W p B v) => change_any p B v r W hg hcan hB hf
  have hCn := change_count B r
  rw [hCc] at hch hCn
  unfold reqA at hch
  have Hch := hide hch
  have hc := fun W (hB : Below w.heap.size w W) => can_any p B v r W hg (hb.below hB) hf.small
  rw [hcan] at hc
  unfold reqA at hc
  have Hc := hide hc
  have HD := hide (doReq_yes' n hcan hCc)
  obtain ⟨i0, hi, hz0, hz1, hz2⟩ := info_parts infoPast
  have Hb := hide hb
  have Hrow := hide hrow
  obtain ⟨c1, c2⟩ := hcnt
  have hp := hb.lt
  dsimp only at hCn
  have c3 : 0 ≤ C.count := by omega
  have c4 : C.count ≤ 4294967296 := by omega
  clear hc hb hrow hg hcan hf hch hCc hCn
  unfold reqA
  go_enter Try.func75, Try.ntmps75
  go_wp2_with fail
  obtain ⟨W0, hW0⟩ : ∃ W0, (((w.alloc (.cells #[.int .i64 r.id, .int .i64 r.kind, .int .i64 r.cell, .int .i64 r.hold, .int .i64 r.count, .int .i64 r.time] 75)).alloc (.cells #[.int .i64 0, .int .i64 0] 77)).alloc (.cells #[.int .i64 1, .int .i64 0] 77)) = W0 := ⟨_, rfl⟩
  have hB0 : Below w.heap.size w W0 := by rw [← hW0]; exact (((Below.refl _ w).alloc (Nat.le_refl _) _).alloc (by simp) _).alloc (by simp; omega) _
  have hz : W0.heap.size = w.heap.size + 3 := by rw [← hW0]; simp [go_sem]
  have b0 : W0.cell? ⟨w.heap.size, 0, none⟩ = some (.int .i64 r.id) := by rw [← hW0]; simp [go_sem]
  have b1 : W0.cell? ⟨w.heap.size, 1, none⟩ = some (.int .i64 r.kind) := by rw [← hW0]; simp [go_sem]
  have b2 : W0.cell? ⟨w.heap.size, 2, none⟩ = some (.int .i64 r.cell) := by rw [← hW0]; simp [go_sem]
  have b3 : W0.cell? ⟨w.heap.size, 3, none⟩ = some (.int .i64 r.hold) := by rw [← hW0]; simp [go_sem]
  have b4 : W0.cell? ⟨w.heap.size, 4, none⟩ = some (.int .i64 r.count) := by rw [← hW0]; simp [go_sem]
  have b5 : W0.cell? ⟨w.heap.size, 5, none⟩ = some (.int .i64 r.time) := by rw [← hW0]; simp [go_sem]
  have d0 : W0.cell? ⟨w.heap.size + 1, 0, none⟩ = some (.int .i64 0) := by rw [← hW0]; simp [go_sem]
  have d1 : W0.cell? ⟨w.heap.size + 1, 1, none⟩ = some (.int .i64 0) := by rw [← hW0]; simp [go_sem]
  have k0 : W0.cell? ⟨w.heap.size + 1 + 1, 0, none⟩ = some (.int .i64 1) := by rw [← hW0]; simp [go_sem]
  have k1 : W0.cell? ⟨w.heap.size + 1 + 1, 1, none⟩ = some (.int .i64 0) := by rw [← hW0]; simp [go_sem]
  have z0 : ∀ o, W0.frozen? ⟨w.heap.size + 1, o, none⟩ = false := by rw [← hW0]; intro o; simp [go_sem]
  have zr : ∀ o, W0.frozen? ⟨w.heap.size + 1 + 1, o, none⟩ = false := by rw [← hW0]; intro o; simp [go_sem]
  rw [hW0]
  clear hW0
  refine (Hc.out W0 hB0).mono ?_
  rintro e W ⟨rfl, hb1⟩
  have hzW : w.heap.size + 3 ≤ W.heap.size := by have := hb1.size; omega
  have e0 := (hb1.cell (p := ⟨w.heap.size, 0, none⟩) (by show w.heap.size < _; omega)).trans b0
  have e1 := (hb1.cell (p := ⟨w.heap.size, 1, none⟩) (by show w.heap.size < _; omega)).trans b1
  have e2 := (hb1.cell (p := ⟨w.heap.size, 2, none⟩) (by show w.heap.size < _; omega)).trans b2
  have e3 := (hb1.cell (p := ⟨w.heap.size, 3, none⟩) (by show w.heap.size < _; omega)).trans b3
  have e4 := (hb1.cell (p := ⟨w.heap.size, 4, none⟩) (by show w.heap.size < _; omega)).trans b4
  have e5 := (hb1.cell (p := ⟨w.heap.size, 5, none⟩) (by show w.heap.size < _; omega)).trans b5
  have g0 := (hb1.cell (p := ⟨w.heap.size + 1, 0, none⟩) (by show w.heap.size + 1 < _; omega)).trans d0
  have g1 := (hb1.cell (p := ⟨w.heap.size + 1, 1, none⟩) (by show w.heap.size + 1 < _; omega)).trans d1
  have y0 := fun o => (hb1.frozen (p := ⟨w.heap.size + 1, o, none⟩) (by show w.heap.size + 1 < _; omega)).trans (z0 o)
  have m0 := (hb1.cell (p := ⟨w.heap.size + 1 + 1, 0, none⟩) (by show w.heap.size + 1 + 1 < _; omega)).trans k0
  have m1 := (hb1.cell (p := ⟨w.heap.size + 1 + 1, 1, none⟩) (by show w.heap.size + 1 + 1 < _; omega)).trans k1
  have hBW : Below w.heap.size w W := hB0.trans (hb1.mono (by omega))
  have hbW := Hb.out.below hBW
  clear b0 b1 b2 b3 b4 b5 d0 d1 k0 k1 z0 hB0
  have yr := fun o => (hb1.frozen (p := ⟨w.heap.size + 1 + 1, o, none⟩) (by show w.heap.size + 1 + 1 < _; omega)).trans (zr o)
  go_wp2_with fail
  refine (Hch.out W hbW).mono ?_
  rintro e W2 ⟨rfl, hb2, hg2⟩
  have hs2 := hg2.size
  have x2 : ∀ k, k < W.heap.size → k ≠ p → W2.heap[k]? = W.heap[k]? := fun k hk hne => hg2.block k hk (fun e => hne (by cases e; rfl))
  replace e0 := (World.cell?_of_block (x2 w.heap.size (by omega) (by omega))).trans e0
  replace e1 := (World.cell?_of_block (x2 w.heap.size (by omega) (by omega))).trans e1
  replace e2 := (World.cell?_of_block (x2 w.heap.size (by omega) (by omega))).trans e2
  replace e3 := (World.cell?_of_block (x2 w.heap.size (by omega) (by omega))).trans e3
  replace e4 := (World.cell?_of_block (x2 w.heap.size (by omega) (by omega))).trans e4
  replace e5 := (World.cell?_of_block (x2 w.heap.size (by omega) (by omega))).trans e5
  replace g0 := (World.cell?_of_block (x2 (w.heap.size + 1) (by omega) (by omega))).trans g0
  replace m0 := (World.cell?_of_block (x2 (w.heap.size + 1 + 1) (by omega) (by omega))).trans m0
  replace g1 := (World.cell?_of_block (x2 (w.heap.size + 1) (by omega) (by omega))).trans g1
  replace m1 := (World.cell?_of_block (x2 (w.heap.size + 1 + 1) (by omega) (by omega))).trans m1
  replace y0 := fun o => (World.frozen?_of_block (a := ⟨w.heap.size + 1, o, none⟩) (x2 (w.heap.size + 1) (by omega) (by omega))).trans (y0 o)
  replace yr := fun o => (World.frozen?_of_block (a := ⟨w.heap.size + 1 + 1, o, none⟩) (x2 (w.heap.size + 1 + 1) (by omega) (by omega))).trans (yr o)
  have cn := hb2.cn
  have pa := hb2.pa
  have fc := hb2.fz 221
  have fp := hb2.fz 222
  have hp2 := hb2.lt
  have hgw : w.grownBy W2 (some p) := grown_trans (grown_below hBW) hg2
  have hr2 := Hrow.out.kept hgw (.inr hpv)
  have Hb2 := hide hb2
  have Hr2 := hide hr2
  have Hgw := hide hgw
  clear hb2 hr2 hgw hg2 x2 hbW hBW hb1
  dsimp only
  go_wp2_with fail
  obtain ⟨W, hWd⟩ : ∃ W, (W2.setCell ⟨w.heap.size + 1 + 1, 0, none⟩ (.int .i64 0)).setCell ⟨w.heap.size + 1 + 1, 1, none⟩ (.int .i64 c) = W := ⟨_, rfl⟩
  rw [hWd]
  have l0 := (cell_put (W := W2) (x := .int .i64 0) (by rw [m0]; rfl) 0).trans (if_pos rfl)
  have l1 := (cell_put (W := W2) (o := 0) (x := .int .i64 0) (by rw [m0]; rfl) 1).trans ((if_neg (by omega)).trans m1)
  replace m0 := (cell_put (x := .int .i64 c) (by rw [l1]; rfl) 0).trans ((if_neg (by omega)).trans l0)
  replace m1 := (cell_put (W := W2.setCell ⟨w.heap.size + 1 + 1, 0, none⟩ (.int .i64 0)) (x := .int .i64 c) (by rw [l1]; rfl) 1).trans (if_pos rfl)
  rw [hWd] at m0 m1
  have hzW : w.heap.size + 3 ≤ W.heap.size := by rw [← hWd, size_put, size_put]; omega
  have xw : ∀ k, k < W2.heap.size → k ≠ w.heap.size + 1 + 1 → W.heap[k]? = W2.heap[k]? := fun k hk hne => by
    rw [← hWd]; exact (grown_other _ _ _ (by rw [size_put]; exact hk) hne).trans (grown_other _ _ _ hk hne)
  replace e0 := (World.cell?_of_block (xw w.heap.size (by omega) (by omega))).trans e0
  replace e1 := (World.cell?_of_block (xw w.heap.size (by omega) (by omega))).trans e1
  replace e2 := (World.cell?_of_block (xw w.heap.size (by omega) (by omega))).trans e2
  replace e3 := (World.cell?_of_block (xw w.heap.size (by omega) (by omega))).trans e3
  replace e4 := (World.cell?_of_block (xw w.heap.size (by omega) (by omega))).trans e4
  replace e5 := (World.cell?_of_block (xw w.heap.size (by omega) (by omega))).trans e5
  replace g0 := (World.cell?_of_block (xw (w.heap.size + 1) (by omega) (by omega))).trans g0
  replace g1 := (World.cell?_of_block (xw (w.heap.size + 1) (by omega) (by omega))).trans g1
  replace y0 := fun o => (World.frozen?_of_block (a := ⟨w.heap.size + 1, o, none⟩) (xw (w.heap.size + 1) (by omega) (by omega))).trans (y0 o)
  have HW : Hid (w.grownBy W (some p)) := hide (by rw [← hWd]; exact grown_new (grown_new Hgw.out _ _ _ (by omega)) _ _ _ (by omega))
  have HbW : Hid (BookAt W p C v) := hide (Hb2.out.of_block (xw p (by omega) (by omega)) (by omega))
  have HrW : Hid (W.ownsRow base 143 8 v B.past.length (pastsC B.past)) := hide (Hrow.out.kept HW.out (.inr hpv))
  clear l0 l1 xw hWd
  obtain ⟨X, hX⟩ : ∃ X, W.setCell ⟨p, 221, none⟩ (.int .i64 (C.count + 1)) = X := ⟨_, rfl⟩
  have hgX : W.grownBy X (some p) := hX ▸ grown_put W p 221 (.int .i64 (C.count + 1))
  have hbX : BookAt X p { C with count := C.count + 1 } v := hX ▸ HbW.out.setCount _
  have hrX : X.ownsRow base 143 8 v B.past.length (pastsC B.past) := HrW.out.kept hgX (.inr hpv)
  have hzX : W.heap.size ≤ X.heap.size := hgX.size
  have xs : ∀ k, k < W.heap.size → k ≠ p → X.heap[k]? = W.heap[k]? := fun k hk hne => hgX.block k hk (fun e => hne (by cases e; rfl))
  have hvl : ∀ k, v.ownBlock = some k → k < w.heap.size := fun k e => (Hrow.out.lt k e).2
  replace e0 := (World.cell?_of_block (xs w.heap.size (by omega) (by omega))).trans e0
  replace e1 := (World.cell?_of_block (xs w.heap.size (by omega) (by omega))).trans e1
  replace e2 := (World.cell?_of_block (xs w.heap.size (by omega) (by omega))).trans e2
  replace e3 := (World.cell?_of_block (xs w.heap.size (by omega) (by omega))).trans e3
  replace e4 := (World.cell?_of_block (xs w.heap.size (by omega) (by omega))).trans e4
  replace e5 := (World.cell?_of_block (xs w.heap.size (by omega) (by omega))).trans e5
  replace g0 := (World.cell?_of_block (xs (w.heap.size + 1) (by omega) (by omega))).trans g0
  replace m0 := (World.cell?_of_block (xs (w.heap.size + 1 + 1) (by omega) (by omega))).trans m0
  replace g1 := (World.cell?_of_block (xs (w.heap.size + 1) (by omega) (by omega))).trans g1
  replace m1 := (World.cell?_of_block (xs (w.heap.size + 1 + 1) (by omega) (by omega))).trans m1
  replace y0 := fun o => (World.frozen?_of_block (a := ⟨w.heap.size + 1, o, none⟩) (xs (w.heap.size + 1) (by omega) (by omega))).trans (y0 o)
  replace pa := hbX.pa
  replace fp := hbX.fz 222
  have hpX := hbX.lt
  rw [hX]
  have HrX := hide hrX
  have HbX := hide hbX
  have HgX := hide hgX
  clear hrX hbX hgX xs hX cn fc
  go_region_law (first
    | (refine step_append_own rfl (.tmp 32) (.tmp 36) 95 rfl base 143 i0 (.agg #[.int .i64 0, .int .i64 0, .int .i64 0, .int .i64 0, .int .i64 0, .int .i64 0, .int .i64 0, .int .i64 0]) 8 64 Try.underlying95 hi hz0 hz1 hz2 rfl (by decide) v B.past.length (pastsC B.past) rfl (World.ownsRow.alloc (w := X.drew) HrX.out _) ⟨X.heap.size, 0, none⟩ 1 1 (pastC ⟨r, (⟨0, c⟩ : Md.Rep)⟩) rfl rfl (cells_new _ _ _ _ rfl) (by simp [pastC, Value.oneCell']) (by unfold maxLen; omega) (by omega) (by simp; omega) ?_
       intro v' w3 hown hgrow)
    | (go_simp
       refine Calls.mono (last_any v' (B.past ++ [⟨r, (⟨0, c⟩ : Md.Rep)⟩]) n w3 (pastAt_of_row (by rw [pastsC_snoc, List.length_append]; exact hown)) (by rw [List.length_append]; simp only [List.length_singleton]; omega) (by omega)) ?_
       rintro e w4 ⟨v4, rfl, hown4, hb4⟩
       obtain ⟨LL, hLL⟩ : ∃ LL, (B.past ++ [(⟨r, (⟨0, c⟩ : Md.Rep)⟩ : Md.Past)]).drop ((B.past ++ [(⟨r, (⟨0, c⟩ : Md.Rep)⟩ : Md.Past)]).length - n) = LL := ⟨_, rfl⟩
       rw [hLL] at hown4
       obtain ⟨L4, hL4⟩ : ∃ L4, LL.length = L4 := ⟨_, rfl⟩
       rw [hL4] at hown4
       obtain ⟨a4, cap4, rfl, _⟩ := row_form hown4
       have HLL := hide hLL
       have HL4 := hide hL4
       clear hLL hL4
       have m0' := (World.cell?_of_block (after_row hgrow hb4 (k := w.heap.size + 1 + 1) (by omega) (fun e => by have := hvl _ e; omega))).trans m0
       have m1' := (World.cell?_of_block (after_row hgrow hb4 (k := w.heap.size + 1 + 1) (by omega) (fun e => by have := hvl _ e; omega))).trans m1
       have g0' := (World.cell?_of_block (after_row hgrow hb4 (k := w.heap.size + 1) (by omega) (fun e => by have := hvl _ e; omega))).trans g0
       have g1' := (World.cell?_of_block (after_row hgrow hb4 (k := w.heap.size + 1) (by omega) (fun e => by have := hvl _ e; omega))).trans g1
       have y0' := fun o => (World.frozen?_of_block (a := ⟨w.heap.size + 1, o, none⟩) (after_row hgrow hb4 (k := w.heap.size + 1) (by omega) (fun e => by have := hvl _ e; omega))).trans (y0 o)
       have pa' := (World.cell?_of_block (after_row hgrow hb4 (k := p) hpX hpv)).trans pa
       have fp' := (World.frozen?_of_block (after_row hgrow hb4 (k := p) hpX hpv)).trans fp
       have hz4 : X.heap.size ≤ w4.heap.size := after_size hgrow hb4
       ))
  all_goals
    go_wp2_with fail
    obtain ⟨q1, q2, q3, q4, q5⟩ := do_close (w := w) (a := .int .i64 0) (b := .int .i64 c) (HW.out) HgX.out hgrow hb4 HbX.out hown4 hpv hp hzW g0' g1'
    generalize ((w4.setCell ⟨p, 222, none⟩ (.slice a4 L4 cap4)).setCell ⟨w.heap.size + 1, 0, none⟩ (.int .i64 0)).setCell ⟨w.heap.size + 1, 1, none⟩ (.int .i64 c) = F at q1 q2 q3 q4 q5 ⊢
    refine bodyPost_ret (v := .agg (repA (⟨0, c⟩ : Md.Rep))) (by simp [results, Try.results75, go_sem, repA, q4, q5]) rfl ⟨_, by rw [HD.out], by rw [HD.out]; exact q1.past _, by rw [HD.out]; dsimp only; rw [HLL.out, HL4.out]; exact q2, q3⟩

theorem do_any (p base : Nat) (B : Md.Bk) (v : Value) (r : Md.Req) (n : Nat) (w : World) (hg : Md.good r = true) (hb : BookAt w p B v) (hf : Md.Fit B)
    (hrow : w.ownsRow base 143 8 v B.past.length (pastsC B.past)) (hpv : v.ownBlock ≠ some p) (hbase : base ≤ w.heap.size) (hl : B.past.length ≤ 1048576) (hn : n ≤ 1048576) (hcnt : 0 ≤ B.count ∧ B.count ≤ 4294967296) :
    Calls Try.prog 75 #[.pointer (some ⟨p, 0, none⟩), .agg (reqA r), .int .i64 n] w fun e w' => ∃ v', e = .returned (.agg (repA (Md.doReq B r n).2)) ∧ BookAt w' p (Md.doReq B r n).1 v' ∧
      w'.ownsRow w.heap.size 143 8 v' (Md.doReq B r n).1.past.length (pastsC (Md.doReq B r n).1.past) ∧ Kept2 p v.ownBlock w w' := by
  cases hcan : Md.can B r with
  | false => exact do_no p base B v r n w hg hcan hb hf hrow hpv hbase hl hn hcnt
  | true => exact do_yes p base B v r n w hg hcan hb hf hrow hpv hbase hl hn hcnt
end Go.Proofs.Ytidacihlalbohaa
