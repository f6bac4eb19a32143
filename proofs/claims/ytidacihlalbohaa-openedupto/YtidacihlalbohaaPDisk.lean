/- A disk is made: on, onDisk, Of. -/
import Derived.Test.YtidacihlalbohaaClone
import Derived.Test.YtidacihlalbohaaPDo
import Derived.Conc.SmallLaws
import Derived.RangeFuncBox
import Derived.Test.YtidacihlalbohaaPVal
import Derived.Laws.Tables
namespace Go.Proofs.Ytidacihlalbohaa
open Go.Conc Go.RowKit

theorem infoUnit2 : (Try.prog.info? 166).map (fun i => (i.zero, i.bytes)) = some (some (.agg #[]), 0) := by kernel_rfl

set_option maxRecDepth 100000 in
set_option maxHeartbeats 1000000 in
theorem diskOn_any (w : World) :
    Calls Try.prog 65 #[] w fun e w' => e = .returned (.agg #[.chan (some (w.heap.size + 1)), .int .i64 0]) ∧ w'.heap[w.heap.size + 1]? = some (.chan 0 #[] false 0 0 false) ∧ w.heap.size + 1 < w'.heap.size ∧ Below w.heap.size w w' := by
  obtain ⟨i0, hi, hz⟩ := Option.map_eq_some_iff.1 infoUnit2
  simp only [Prod.mk.injEq] at hz
  have hmk : Sem.run Try.prog (Instr.makeChan 130 (.int .i64 0)) (w.alloc (.cells #[.chan none, .int .i64 0] 132)) = .ok (.chan (some (w.heap.size + 1))) ((w.alloc (.cells #[.chan none, .int .i64 0] 132)).alloc (.chan 0 #[] false 0 0 false)) := by
    have h := run_makeChan (P := Try.prog) (w := w.alloc (.cells #[.chan none, .int .i64 0] 132)) Try.underlying130 hi .i64 0 (by omega) (by rw [hz.2]; omega)
    rw [World.size_alloc] at h
    exact h
  have hF : Below w.heap.size w ((w.alloc (.cells #[.chan (some (w.heap.size + 1)), .int .i64 0] 132)).alloc (.chan 0 #[] false 0 0 false)) := ((Below.refl _ _).alloc (Nat.le_refl _) _).alloc (by simp) _
  have cF : ((w.alloc (.cells #[.chan (some (w.heap.size + 1)), .int .i64 0] 132)).alloc (.chan 0 #[] false 0 0 false)).heap[w.heap.size + 1]? = some (.chan 0 #[] false 0 0 false) := by
    have := World.alloc_heap_new (w.alloc (.cells #[.chan (some (w.heap.size + 1)), .int .i64 0] 132)) (.chan 0 #[] false 0 0 false)
    rwa [World.size_alloc] at this
  go_enter Try.func65, Try.ntmps65
  go_wp2
  exact bodyPost_ret (v := .agg #[.chan (some (w.heap.size + 1)), .int .i64 0]) (by simp [results, Try.results65, go_sem]) rfl ⟨rfl, cF, by simp, hF⟩

set_option maxRecDepth 100000 in
set_option maxHeartbeats 1000000 in
theorem onDisk_any (s : ByteArray) (w : World) (hs : s.size ≤ 281474976710656) :
    Calls Try.prog 66 #[.string s] w fun e w' => e = .returned (.agg #[.string s, .string ⟨#[]⟩]) ∧ Below w.heap.size w w' := by
  have hB := (Below.refl w.heap.size w).alloc (Nat.le_refl _) (.cells #[.string ⟨#[]⟩, .string ⟨#[]⟩] 135)
  have z0 : (w.alloc (.cells #[.string ⟨#[]⟩, .string ⟨#[]⟩] 135)).cell? ⟨w.heap.size, 0, none⟩ = some (.string ⟨#[]⟩) := by simp [go_sem]
  have z1 : (w.alloc (.cells #[.string ⟨#[]⟩, .string ⟨#[]⟩] 135)).cell? ⟨w.heap.size, 1, none⟩ = some (.string ⟨#[]⟩) := by simp [go_sem]
  have zf : ∀ o, (w.alloc (.cells #[.string ⟨#[]⟩, .string ⟨#[]⟩] 135)).frozen? ⟨w.heap.size, o, none⟩ = false := fun o => by simp [go_sem]
  have zl : w.heap.size < (w.alloc (.cells #[.string ⟨#[]⟩, .string ⟨#[]⟩] 135)).heap.size := by simp
  go_enter Try.func66, Try.ntmps66
  go_wp2_with fail
  generalize w.alloc (.cells #[.string ⟨#[]⟩, .string ⟨#[]⟩] 135) = V at hB z0 z1 zf zl ⊢
  refine (clone_any s V hs).mono ?_
  rintro e W ⟨rfl, hb⟩
  replace z0 := (hb.cell (p := ⟨w.heap.size, 0, none⟩) zl).trans z0
  replace z1 := (hb.cell (p := ⟨w.heap.size, 1, none⟩) zl).trans z1
  replace zf := fun o => (hb.frozen (p := ⟨w.heap.size, o, none⟩) zl).trans (zf o)
  have hBW := hB.trans (hb.mono hB.size)
  have p0 : ((W.setCell ⟨w.heap.size, 0, none⟩ (.string s)).setCell ⟨w.heap.size, 1, none⟩ (.string ⟨#[]⟩)).cell? ⟨w.heap.size, 0, none⟩ = some (.string s) := put_other (put_same z0) (by omega)
  have p1 : ((W.setCell ⟨w.heap.size, 0, none⟩ (.string s)).setCell ⟨w.heap.size, 1, none⟩ (.string ⟨#[]⟩)).cell? ⟨w.heap.size, 1, none⟩ = some (.string ⟨#[]⟩) := put_same (put_other z1 (by omega))
  have hF := (hBW.setCell (p := ⟨w.heap.size, 0, none⟩) (Nat.le_refl _) (.string s)).setCell (p := ⟨w.heap.size, 1, none⟩) (Nat.le_refl _) (.string ⟨#[]⟩)
  have HF := hide hF
  clear hF hB hb hBW
  go_wp2
  exact bodyPost_ret (v := .agg #[.string s, .string ⟨#[]⟩]) (by simp [results, Try.results66, go_sem, p0, p1]) rfl ⟨rfl, HF.out⟩

/-- What a disk's block holds: the channel, the steps that are left, and of the log, the snap and the tmp what is synced and what is under way. -/
structure DiskAt (W : World) (d c : Nat) (closed : Bool) (st : Int) (l0 l1 s0 s1 t0 t1 : ByteArray) : Prop where
  c0 : W.cell? ⟨d, 0, none⟩ = some (.chan (some c))
  c1 : W.cell? ⟨d, 1, none⟩ = some (.int .i64 st)
  c2 : W.cell? ⟨d, 2, none⟩ = some (.string l0)
  c3 : W.cell? ⟨d, 3, none⟩ = some (.string l1)
  c4 : W.cell? ⟨d, 4, none⟩ = some (.string s0)
  c5 : W.cell? ⟨d, 5, none⟩ = some (.string s1)
  c6 : W.cell? ⟨d, 6, none⟩ = some (.string t0)
  c7 : W.cell? ⟨d, 7, none⟩ = some (.string t1)
  fz : ∀ o, W.frozen? ⟨d, o, none⟩ = false
  ch : W.heap[c]? = some (.chan 0 #[] closed 0 0 false)
theorem DiskAt.lt {W : World} {d c : Nat} {closed : Bool} {st : Int} {l0 l1 s0 s1 t0 t1 : ByteArray} (h : DiskAt W d c closed st l0 l1 s0 s1 t0 t1) : d < W.heap.size := World.block_lt_of_cell? W ⟨d, 0, none⟩ h.c0
theorem DiskAt.of_block {W W' : World} {d c : Nat} {closed : Bool} {st : Int} {l0 l1 s0 s1 t0 t1 : ByteArray} (h : DiskAt W d c closed st l0 l1 s0 s1 t0 t1) (hb : W'.heap[d]? = W.heap[d]?) (hc : W'.heap[c]? = W.heap[c]?) : DiskAt W' d c closed st l0 l1 s0 s1 t0 t1 :=
  have e : ∀ o, W'.cell? ⟨d, o, none⟩ = W.cell? ⟨d, o, none⟩ := fun _o => World.cell?_of_block hb
  ⟨(e _).trans h.c0, (e _).trans h.c1, (e _).trans h.c2, (e _).trans h.c3, (e _).trans h.c4, (e _).trans h.c5, (e _).trans h.c6, (e _).trans h.c7, fun o => (World.frozen?_of_block hb).trans (h.fz o), hc.trans h.ch⟩
theorem DiskAt.below {W W' : World} {d c : Nat} {closed : Bool} {st : Int} {l0 l1 s0 s1 t0 t1 : ByteArray} (h : DiskAt W d c closed st l0 l1 s0 s1 t0 t1) (hb : Below W.heap.size W W') : DiskAt W' d c closed st l0 l1 s0 s1 t0 t1 :=
  h.of_block (hb.block d h.lt) (hb.block c (Array.getElem?_eq_some_iff.1 h.ch).1)
theorem DiskAt.new (W : World) (c : Nat) (l s : ByteArray) (hc : W.heap[c]? = some (.chan 0 #[] false 0 0 false)) :
    DiskAt (W.alloc (.cells #[.chan (some c), .int .i64 0, .string l, .string ⟨#[]⟩, .string s, .string ⟨#[]⟩, .string ⟨#[]⟩, .string ⟨#[]⟩] 138)) W.heap.size c false 0 l ⟨#[]⟩ s ⟨#[]⟩ ⟨#[]⟩ ⟨#[]⟩ := by
  refine ⟨by simp [go_sem], by simp [go_sem], by simp [go_sem], by simp [go_sem], by simp [go_sem], by simp [go_sem], by simp [go_sem], by simp [go_sem], fun o => by simp [go_sem], ?_⟩
  exact (Below.heap_alloc W _ c (Array.getElem?_eq_some_iff.1 hc).1).trans hc

set_option maxRecDepth 100000 in
set_option maxHeartbeats 1000000 in
theorem diskOf_any (l s : ByteArray) (w : World) (hl : l.size ≤ 281474976710656) (hs : s.size ≤ 281474976710656) :
    Calls Try.prog 35 #[.string l, .string s] w fun e w' => ∃ d c, e = .returned (.pointer (some ⟨d, 0, none⟩)) ∧ w.heap.size ≤ d ∧ w.heap.size ≤ c ∧ DiskAt w' d c false 0 l ⟨#[]⟩ s ⟨#[]⟩ ⟨#[]⟩ ⟨#[]⟩ ∧ Below w.heap.size w w' := by
  go_enter Try.func35, Try.ntmps35
  go_wp2_with fail
  refine (diskOn_any w).mono ?_
  rintro e W1 ⟨rfl, hc1, hs1, hb1⟩
  go_wp2_with fail
  refine (onDisk_any l W1 hl).mono ?_
  rintro e W2 ⟨rfl, hb2⟩
  have hc2 := (hb2.block _ hs1).trans hc1
  have hs2 := Nat.lt_of_lt_of_le hs1 hb2.size
  have hB2 := hb1.trans (hb2.mono hb1.size)
  go_wp2_with fail
  refine (onDisk_any s W2 hs).mono ?_
  rintro e W3 ⟨rfl, hb3⟩
  have hc3 := (hb3.block _ hs2).trans hc2
  have hB3 := hB2.trans (hb3.mono hB2.size)
  have hD := DiskAt.new W3 (w.heap.size + 1) l s hc3
  have HD := hide hD
  have HB := hide (hB3.alloc hB3.size (.cells #[.chan (some (w.heap.size + 1)), .int .i64 0, .string l, .string ⟨#[]⟩, .string s, .string ⟨#[]⟩, .string ⟨#[]⟩, .string ⟨#[]⟩] 138))
  have Hs := hide hB3.size
  clear hD hB3 hB2 hb1 hb2 hb3 hc1 hc2 hc3 hs1 hs2
  go_wp2
  go_ret
  exact ⟨_, _, rfl, Hs.out, Nat.le_succ _, HD.out, HB.out⟩
end Go.Proofs.Ytidacihlalbohaa

/- A shop's cells, put together: the book's and three more. -/
namespace Go.Proofs.Ytidacihlalbohaa
open Go.RowKit

theorem foldSet (off : Nat) : ∀ (l : List Value) (k : Nat) (cs : Array Value),
    ((l.zipIdx k).foldl (fun (cs : Array Value) (x : Value × Nat) => cs.setIfInBounds (off + x.2) x.1) cs).size = cs.size ∧
    ∀ o, ((l.zipIdx k).foldl (fun (cs : Array Value) (x : Value × Nat) => cs.setIfInBounds (off + x.2) x.1) cs)[o]? = if off + k ≤ o ∧ o < off + k + l.length ∧ o < cs.size then l[o - (off + k)]? else cs[o]?
  | [], k, cs => by
    refine ⟨rfl, fun o => ?_⟩
    rw [if_neg (by rintro ⟨h1, h2, _⟩; simp at h2; omega)]
    rfl
  | x :: l, k, cs => by
    obtain ⟨h1, h2⟩ := foldSet off l (k + 1) (cs.setIfInBounds (off + k) x)
    rw [List.zipIdx_cons, List.foldl_cons]
    refine ⟨h1.trans (by simp), fun o => ?_⟩
    rw [h2 o, Array.size_setIfInBounds, Array.getElem?_setIfInBounds]
    by_cases ho : o = off + k
    · subst ho
      rw [if_neg (by omega), if_pos rfl]
      by_cases hs : off + k < cs.size
      · rw [if_pos hs, if_pos ⟨Nat.le_refl _, by simp, hs⟩, Nat.sub_self]; rfl
      · rw [if_neg hs, if_neg (by omega), Array.getElem?_eq_none (by omega)]
    · rw [if_neg (show ¬ off + k = o from fun e => ho e.symm)]
      by_cases hc : off + (k + 1) ≤ o ∧ o < off + (k + 1) + l.length ∧ o < cs.size
      · rw [if_pos hc, if_pos (by rw [List.length_cons]; omega)]
        rw [show o - (off + k) = (o - (off + (k + 1))) + 1 by omega, List.getElem?_cons_succ]
      · rw [if_neg hc, if_neg (by rw [List.length_cons]; omega)]

theorem fill_cons {place : Nat → Option (Nat × Nat)} {cells : Array Value} {i off size : Nat} {v : Value} {rest : List (Nat × Value)} (hp : place i = some (off, size)) (hv : v.cells.size = size) (hs : off + size ≤ cells.size) :
    ∃ D : Array Value, Instr.fill place cells ((i, v) :: rest) = Instr.fill place D rest ∧ D.size = cells.size ∧ ∀ o, D[o]? = if off ≤ o ∧ o < off + size then v.cells.toList[o - off]? else cells[o]? := by
  obtain ⟨h1, h2⟩ := foldSet off v.cells.toList 0 cells
  refine ⟨_, ?_, h1, fun o => ?_⟩
  · conv => lhs; unfold Instr.fill
    rw [hp]
    dsimp only
    rw [if_neg (by simp; omega), ← Array.foldl_toList, Array.toList_zipIdx]
  · rw [h2 o, Array.length_toList, hv, Nat.add_zero]
    by_cases hc : off ≤ o ∧ o < off + size
    · rw [if_pos hc, if_pos ⟨hc.1, hc.2, by omega⟩]
    · rw [if_neg hc, if_neg (by omega)]

theorem infoShop : (Try.prog.info? 91).map (fun i => i.zero.map fun z => z.cells.size) = some (some 336) := by kernel_rfl
theorem placesShop : ((Try.prog.underlying 91).bind fun d => match d with | .struct fields => fields.toList.mapM (fun f => (Try.prog.info? f.type).map fun i => (f.offset, i.size)) | _ => none) = some [(0, 333), (333, 1), (334, 1), (335, 1)] := by kernel_rfl

theorem builtShop (L : List Value) (hL : L.length = 333) (g r p : Value) (hg : g.cells = #[g]) (hr : r.cells = #[r]) (hp : p.cells = #[p]) :
    ∃ C : Array Value, Try.prog.built 91 [(0, .agg L.toArray), (1, g), (2, r), (3, p)] = some C ∧ C.size = 336 ∧ (∀ o, o < 333 → C[o]? = L[o]?) ∧ C[333]? = some g ∧ C[334]? = some r ∧ C[335]? = some p := by
  obtain ⟨it, hit, hz⟩ := Option.map_eq_some_iff.1 infoShop
  obtain ⟨z, hz1, hz2⟩ := Option.map_eq_some_iff.1 hz
  have hpl := placesShop
  obtain ⟨d, hd, hpl⟩ := Option.bind_eq_some_iff.1 hpl
  cases d with
  | struct fields =>
    dsimp only at hpl
    have hb : Try.prog.built 91 [(0, .agg L.toArray), (1, g), (2, r), (3, p)] = Instr.fill (([(0, 333), (333, 1), (334, 1), (335, 1)] : List (Nat × Nat)).toArray[·]?) z.cells [(0, .agg L.toArray), (1, g), (2, r), (3, p)] := by
      unfold Program.built
      rw [hit, hd]
      dsimp only
      rw [hz1, hpl]
    rw [hb]
    obtain ⟨D1, e1, s1, g1⟩ := fill_cons (place := (([(0, 333), (333, 1), (334, 1), (335, 1)] : List (Nat × Nat)).toArray[·]?)) (cells := z.cells) (i := 0) (v := .agg L.toArray) (rest := [(1, g), (2, r), (3, p)]) (off := 0) (size := 333) rfl (by show L.toArray.size = 333; simpa using hL) (by omega)
    obtain ⟨D2, e2, s2, g2⟩ := fill_cons (place := (([(0, 333), (333, 1), (334, 1), (335, 1)] : List (Nat × Nat)).toArray[·]?)) (cells := D1) (i := 1) (v := g) (rest := [(2, r), (3, p)]) (off := 333) (size := 1) rfl (by rw [hg]; rfl) (by omega)
    obtain ⟨D3, e3, s3, g3⟩ := fill_cons (place := (([(0, 333), (333, 1), (334, 1), (335, 1)] : List (Nat × Nat)).toArray[·]?)) (cells := D2) (i := 2) (v := r) (rest := [(3, p)]) (off := 334) (size := 1) rfl (by rw [hr]; rfl) (by omega)
    obtain ⟨D4, e4, s4, g4⟩ := fill_cons (place := (([(0, 333), (333, 1), (334, 1), (335, 1)] : List (Nat × Nat)).toArray[·]?)) (cells := D3) (i := 3) (v := p) (rest := []) (off := 335) (size := 1) rfl (by rw [hp]; rfl) (by omega)
    refine ⟨D4, by rw [e1, e2, e3, e4]; rfl, by omega, fun o ho => ?_, ?_, ?_, ?_⟩
    · rw [g4, if_neg (by omega), g3, if_neg (by omega), g2, if_neg (by omega), g1, if_pos (by omega), Nat.sub_zero]
      rfl
    · rw [g4, if_neg (by omega), g3, if_neg (by omega), g2, if_pos (by omega), hg]; rfl
    · rw [g4, if_neg (by omega), g3, if_pos (by omega), hr]; rfl
    · rw [g4, if_pos (by omega), hp]; rfl
  | _ => cases hpl
theorem wp_build' {P : Program} {o : Oper} {a : Act} {w : World} {K : Act → World → Prop} {Q : Exit → Act → World → Prop} (t : TypeId) (parts : Array (Nat × Operand)) (ho : o.op = .build t parts)
    (vs : List (Nat × Value)) (hv : (parts.map fun (i, x) => (i, a.eval x)).toList = vs) (cells : Array Value) (hc : P.built t vs = some cells) (h : K (a.put o.dst (.agg cells)) w) : o.wp P a w K Q :=
  wp_build t parts ho (by rw [hv, hc]; rfl) (by rw [hv, hc]; exact h)
end Go.Proofs.Ytidacihlalbohaa
