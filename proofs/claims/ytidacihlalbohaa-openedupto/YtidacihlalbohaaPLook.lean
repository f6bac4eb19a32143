/- LookOver, Known: is it a request; what is told of one that would not be done. -/
import Derived.Test.YtidacihlalbohaaPRecall
import Derived.Test.YtidacihlalbohaaPReq
import Derived.Test.YtidacihlalbohaaPDo
import Derived.Deep.RegionWith
import Derived.Test.YtidacihlalbohaaPPast
import Derived.Test.YtidacihlalbohaaPAct
namespace Go.Proofs.Ytidacihlalbohaa
open Go.RowKit

theorem put7 {W : World} {b : Nat} {a0 a1 a2 a3 a4 a5 a6 : Value} (h0 : W.cell? ⟨b, 0, none⟩ = some a0) (h1 : W.cell? ⟨b, 1, none⟩ = some a1) (h2 : W.cell? ⟨b, 2, none⟩ = some a2) (h3 : W.cell? ⟨b, 3, none⟩ = some a3) (h4 : W.cell? ⟨b, 4, none⟩ = some a4) (h5 : W.cell? ⟨b, 5, none⟩ = some a5) (h6 : W.cell? ⟨b, 6, none⟩ = some a6) (x0 x1 x2 x3 x4 x5 x6 : Value) :
    (((((((W.setCell ⟨b, 0, none⟩ x0).setCell ⟨b, 1, none⟩ x1).setCell ⟨b, 2, none⟩ x2).setCell ⟨b, 3, none⟩ x3).setCell ⟨b, 4, none⟩ x4).setCell ⟨b, 5, none⟩ x5).setCell ⟨b, 6, none⟩ x6).cell? ⟨b, 0, none⟩ = some x0 ∧ (((((((W.setCell ⟨b, 0, none⟩ x0).setCell ⟨b, 1, none⟩ x1).setCell ⟨b, 2, none⟩ x2).setCell ⟨b, 3, none⟩ x3).setCell ⟨b, 4, none⟩ x4).setCell ⟨b, 5, none⟩ x5).setCell ⟨b, 6, none⟩ x6).cell? ⟨b, 1, none⟩ = some x1 ∧ (((((((W.setCell ⟨b, 0, none⟩ x0).setCell ⟨b, 1, none⟩ x1).setCell ⟨b, 2, none⟩ x2).setCell ⟨b, 3, none⟩ x3).setCell ⟨b, 4, none⟩ x4).setCell ⟨b, 5, none⟩ x5).setCell ⟨b, 6, none⟩ x6).cell? ⟨b, 2, none⟩ = some x2 ∧ (((((((W.setCell ⟨b, 0, none⟩ x0).setCell ⟨b, 1, none⟩ x1).setCell ⟨b, 2, none⟩ x2).setCell ⟨b, 3, none⟩ x3).setCell ⟨b, 4, none⟩ x4).setCell ⟨b, 5, none⟩ x5).setCell ⟨b, 6, none⟩ x6).cell? ⟨b, 3, none⟩ = some x3 ∧ (((((((W.setCell ⟨b, 0, none⟩ x0).setCell ⟨b, 1, none⟩ x1).setCell ⟨b, 2, none⟩ x2).setCell ⟨b, 3, none⟩ x3).setCell ⟨b, 4, none⟩ x4).setCell ⟨b, 5, none⟩ x5).setCell ⟨b, 6, none⟩ x6).cell? ⟨b, 4, none⟩ = some x4 ∧ (((((((W.setCell ⟨b, 0, none⟩ x0).setCell ⟨b, 1, none⟩ x1).setCell ⟨b, 2, none⟩ x2).setCell ⟨b, 3, none⟩ x3).setCell ⟨b, 4, none⟩ x4).setCell ⟨b, 5, none⟩ x5).setCell ⟨b, 6, none⟩ x6).cell? ⟨b, 5, none⟩ = some x5 ∧ (((((((W.setCell ⟨b, 0, none⟩ x0).setCell ⟨b, 1, none⟩ x1).setCell ⟨b, 2, none⟩ x2).setCell ⟨b, 3, none⟩ x3).setCell ⟨b, 4, none⟩ x4).setCell ⟨b, 5, none⟩ x5).setCell ⟨b, 6, none⟩ x6).cell? ⟨b, 6, none⟩ = some x6 :=
  ⟨(put_other (x := x6) (o := 6) (put_other (x := x5) (o := 5) (put_other (x := x4) (o := 4) (put_other (x := x3) (o := 3) (put_other (x := x2) (o := 2) (put_other (x := x1) (o := 1) (put_same (x := x0) h0) (by omega)) (by omega)) (by omega)) (by omega)) (by omega)) (by omega)), (put_other (x := x6) (o := 6) (put_other (x := x5) (o := 5) (put_other (x := x4) (o := 4) (put_other (x := x3) (o := 3) (put_other (x := x2) (o := 2) (put_same (x := x1) (put_other (x := x0) (o := 0) h1 (by omega))) (by omega)) (by omega)) (by omega)) (by omega)) (by omega)), (put_other (x := x6) (o := 6) (put_other (x := x5) (o := 5) (put_other (x := x4) (o := 4) (put_other (x := x3) (o := 3) (put_same (x := x2) (put_other (x := x1) (o := 1) (put_other (x := x0) (o := 0) h2 (by omega)) (by omega))) (by omega)) (by omega)) (by omega)) (by omega)), (put_other (x := x6) (o := 6) (put_other (x := x5) (o := 5) (put_other (x := x4) (o := 4) (put_same (x := x3) (put_other (x := x2) (o := 2) (put_other (x := x1) (o := 1) (put_other (x := x0) (o := 0) h3 (by omega)) (by omega)) (by omega))) (by omega)) (by omega)) (by omega)), (put_other (x := x6) (o := 6) (put_other (x := x5) (o := 5) (put_same (x := x4) (put_other (x := x3) (o := 3) (put_other (x := x2) (o := 2) (put_other (x := x1) (o := 1) (put_other (x := x0) (o := 0) h4 (by omega)) (by omega)) (by omega)) (by omega))) (by omega)) (by omega)), (put_other (x := x6) (o := 6) (put_same (x := x5) (put_other (x := x4) (o := 4) (put_other (x := x3) (o := 3) (put_other (x := x2) (o := 2) (put_other (x := x1) (o := 1) (put_other (x := x0) (o := 0) h5 (by omega)) (by omega)) (by omega)) (by omega)) (by omega))) (by omega)), (put_same (x := x6) (put_other (x := x5) (o := 5) (put_other (x := x4) (o := 4) (put_other (x := x3) (o := 3) (put_other (x := x2) (o := 2) (put_other (x := x1) (o := 1) (put_other (x := x0) (o := 0) h6 (by omega)) (by omega)) (by omega)) (by omega)) (by omega)) (by omega)))⟩


def lookA (r : Md.Req) (g : Bool) : Array Value := #[.int .i64 r.id, .int .i64 r.kind, .int .i64 r.cell, .int .i64 r.hold, .int .i64 r.count, .int .i64 r.time, .bool g]
/-- A request that was looked over lies in block b. -/
structure Look7 (W : World) (b : Nat) (r : Md.Req) (g : Bool) : Prop where
  rq : Req6 W b r
  c6 : W.cell? ⟨b, 6, none⟩ = some (.bool g)
theorem Look7.of_block {W W' : World} {b : Nat} {r : Md.Req} {g : Bool} (h : Look7 W b r g) (hb : W'.heap[b]? = W.heap[b]?) (hl : b < W'.heap.size) : Look7 W' b r g := ⟨h.rq.of_block hb hl, (World.cell?_of_block hb).trans h.c6⟩
theorem Look7.below {W W' : World} {b : Nat} {r : Md.Req} {g : Bool} (h : Look7 W b r g) (hb : Below W.heap.size W W') : Look7 W' b r g := h.of_block (hb.block b h.rq.lt) (Nat.lt_of_lt_of_le h.rq.lt hb.size)
theorem Look7.new (W : World) (r : Md.Req) (g : Bool) : Look7 (W.alloc (.cells #[.int .i64 r.id, .int .i64 r.kind, .int .i64 r.cell, .int .i64 r.hold, .int .i64 r.count, .int .i64 r.time, .bool g] 128)) W.heap.size r g := by
  refine ⟨⟨?_, ?_, ?_, ?_, ?_, ?_, by simp⟩, ?_⟩ <;> simp [go_sem]
/-- The box of a looked-over request and a place for the reply behind it. -/
theorem look_both (w : World) (r : Md.Req) (g : Bool) : Look7 ((w.alloc (.cells #[.int .i64 r.id, .int .i64 r.kind, .int .i64 r.cell, .int .i64 r.hold, .int .i64 r.count, .int .i64 r.time, .bool g] 128)).alloc (.cells #[.int .i64 0, .int .i64 0] 77)) w.heap.size r g ∧
    Rep2 ((w.alloc (.cells #[.int .i64 r.id, .int .i64 r.kind, .int .i64 r.cell, .int .i64 r.hold, .int .i64 r.count, .int .i64 r.time, .bool g] 128)).alloc (.cells #[.int .i64 0, .int .i64 0] 77)) (w.heap.size + 1) ∧
    Below w.heap.size w ((w.alloc (.cells #[.int .i64 r.id, .int .i64 r.kind, .int .i64 r.cell, .int .i64 r.hold, .int .i64 r.count, .int .i64 r.time, .bool g] 128)).alloc (.cells #[.int .i64 0, .int .i64 0] 77)) := by
  have h1 := (Look7.new w r g).below ((Below.refl _ _).alloc (Nat.le_refl _) (.cells #[.int .i64 0, .int .i64 0] 77))
  have h2 := Rep2.new (w.alloc (.cells #[.int .i64 r.id, .int .i64 r.kind, .int .i64 r.cell, .int .i64 r.hold, .int .i64 r.count, .int .i64 r.time, .bool g] 128))
  rw [World.size_alloc] at h2
  exact ⟨h1, h2, ((Below.refl _ _).alloc (Nat.le_refl _) _).alloc (by simp) _⟩

set_option maxRecDepth 100000 in
set_option maxHeartbeats 2000000 in
theorem lookOver_any (r : Md.Req) (w : World) : Calls Try.prog 64 #[.agg (reqA r)] w fun e w' => e = .returned (.agg (lookA r (Md.good r))) ∧ Below w.heap.size w w' := by
  have hgood := fun W => isRequest_any r W
  unfold reqA at hgood ⊢
  unfold lookA
  generalize Md.good r = G at hgood ⊢
  have hq := (Req6.new w r).below ((Below.refl _ _).alloc (Nat.le_refl _) (.cells #[.int .i64 0, .int .i64 0, .int .i64 0, .int .i64 0, .int .i64 0, .int .i64 0, .bool false] 128))
  have hz := Look7.new (w.alloc (.cells #[.int .i64 r.id, .int .i64 r.kind, .int .i64 r.cell, .int .i64 r.hold, .int .i64 r.count, .int .i64 r.time] 75)) ⟨0, 0, 0, 0, 0, 0⟩ false
  have hf : ∀ o, ((w.alloc (.cells #[.int .i64 r.id, .int .i64 r.kind, .int .i64 r.cell, .int .i64 r.hold, .int .i64 r.count, .int .i64 r.time] 75)).alloc (.cells #[.int .i64 0, .int .i64 0, .int .i64 0, .int .i64 0, .int .i64 0, .int .i64 0, .bool false] 128)).frozen? ⟨w.heap.size + 1, o, none⟩ = false := by intro o; simp [go_sem]
  rw [World.size_alloc] at hz
  have hB : Below w.heap.size w ((w.alloc (.cells #[.int .i64 r.id, .int .i64 r.kind, .int .i64 r.cell, .int .i64 r.hold, .int .i64 r.count, .int .i64 r.time] 75)).alloc (.cells #[.int .i64 0, .int .i64 0, .int .i64 0, .int .i64 0, .int .i64 0, .int .i64 0, .bool false] 128)) := ((Below.refl _ _).alloc (Nat.le_refl _) _).alloc (by simp) _
  go_enter Try.func64, Try.ntmps64
  go_wp2_with fail
  generalize (w.alloc (.cells #[.int .i64 r.id, .int .i64 r.kind, .int .i64 r.cell, .int .i64 r.hold, .int .i64 r.count, .int .i64 r.time] 75)).alloc (.cells #[.int .i64 0, .int .i64 0, .int .i64 0, .int .i64 0, .int .i64 0, .int .i64 0, .bool false] 128) = V at hq hz hf hB ⊢
  obtain ⟨q0, q1, q2, q3, q4, q5, ql⟩ := hq
  obtain ⟨⟨z0, z1, z2, z3, z4, z5, zl⟩, z6⟩ := hz
  dsimp only at z0 z1 z2 z3 z4 z5
  have hBd : Below w.heap.size w V.drew := hB.drew
  clear hB
  change V.drew.cell? _ = _ at q0 q1 q2 q3 q4 q5 z0 z1 z2 z3 z4 z5 z6
  change ∀ o, V.drew.frozen? _ = _ at hf
  change _ < V.drew.heap.size at ql zl
  go_region_with (go_at_call 93; refine (hgood _).mono ?_; rintro e W ⟨rfl, hb⟩; have q0 := (hb.cell (p := ⟨w.heap.size, 0, none⟩) ql).trans q0; have q1 := (hb.cell (p := ⟨w.heap.size, 1, none⟩) ql).trans q1; have q2 := (hb.cell (p := ⟨w.heap.size, 2, none⟩) ql).trans q2; have q3 := (hb.cell (p := ⟨w.heap.size, 3, none⟩) ql).trans q3; have q4 := (hb.cell (p := ⟨w.heap.size, 4, none⟩) ql).trans q4; have q5 := (hb.cell (p := ⟨w.heap.size, 5, none⟩) ql).trans q5; have z0 := (hb.cell (p := ⟨w.heap.size + 1, 0, none⟩) zl).trans z0; have z1 := (hb.cell (p := ⟨w.heap.size + 1, 1, none⟩) zl).trans z1; have z2 := (hb.cell (p := ⟨w.heap.size + 1, 2, none⟩) zl).trans z2; have z3 := (hb.cell (p := ⟨w.heap.size + 1, 3, none⟩) zl).trans z3; have z4 := (hb.cell (p := ⟨w.heap.size + 1, 4, none⟩) zl).trans z4; have z5 := (hb.cell (p := ⟨w.heap.size + 1, 5, none⟩) zl).trans z5; have z6 := (hb.cell (p := ⟨w.heap.size + 1, 6, none⟩) zl).trans z6; have hf := fun o => (hb.frozen (p := ⟨w.heap.size + 1, o, none⟩) zl).trans (hf o); have hBd := hBd.trans (hb.mono hBd.size); have ql := Nat.lt_of_lt_of_le ql hb.size; have zl := Nat.lt_of_lt_of_le zl hb.size)
  all_goals
    obtain ⟨p0, p1, p2, p3, p4, p5, p6⟩ := put7 z0 z1 z2 z3 z4 z5 z6 (.int .i64 r.id) (.int .i64 r.kind) (.int .i64 r.cell) (.int .i64 r.hold) (.int .i64 r.count) (.int .i64 r.time) (.bool G)
    have hF := ((((((hBd.setCell (p := ⟨w.heap.size + 1, 0, none⟩) (Nat.le_succ _) (.int .i64 r.id)).setCell (p := ⟨w.heap.size + 1, 1, none⟩) (Nat.le_succ _) (.int .i64 r.kind)).setCell (p := ⟨w.heap.size + 1, 2, none⟩) (Nat.le_succ _) (.int .i64 r.cell)).setCell (p := ⟨w.heap.size + 1, 3, none⟩) (Nat.le_succ _) (.int .i64 r.hold)).setCell (p := ⟨w.heap.size + 1, 4, none⟩) (Nat.le_succ _) (.int .i64 r.count)).setCell (p := ⟨w.heap.size + 1, 5, none⟩) (Nat.le_succ _) (.int .i64 r.time)).setCell (p := ⟨w.heap.size + 1, 6, none⟩) (Nat.le_succ _) (.bool G)
    generalize ((((((W.setCell ⟨w.heap.size + 1, 0, none⟩ (.int .i64 r.id)).setCell ⟨w.heap.size + 1, 1, none⟩ (.int .i64 r.kind)).setCell ⟨w.heap.size + 1, 2, none⟩ (.int .i64 r.cell)).setCell ⟨w.heap.size + 1, 3, none⟩ (.int .i64 r.hold)).setCell ⟨w.heap.size + 1, 4, none⟩ (.int .i64 r.count)).setCell ⟨w.heap.size + 1, 5, none⟩ (.int .i64 r.time)).setCell ⟨w.heap.size + 1, 6, none⟩ (.bool G) = F at p0 p1 p2 p3 p4 p5 p6 hF ⊢
    go_wp2
    exact bodyPost_ret (v := .agg #[.int .i64 r.id, .int .i64 r.kind, .int .i64 r.cell, .int .i64 r.hold, .int .i64 r.count, .int .i64 r.time, .bool G]) (by simp [results, Try.results64, go_sem, p0, p1, p2, p3, p4, p5, p6]) rfl ⟨rfl, hF⟩

/-- What is told of a request that would not be done; none: it would be. -/
def Md.tell (B : Md.Bk) (r : Md.Req) (g : Bool) : Option Md.Rep := if g then Md.known B.past r else some ⟨4, 0⟩
def tellV : Option Md.Rep → Value
  | some p => .tuple #[.agg (repA p), .bool true]
  | none => .tuple #[.agg #[.int .i64 0, .int .i64 0], .bool false]

set_option maxRecDepth 100000 in
set_option maxHeartbeats 4000000 in
theorem pKnown_any (p : Nat) (B : Md.Bk) (n : Nat) (r : Md.Req) (g : Bool) (w : World) (hb : PBook w p B n) (hL : B.past.length ≤ 20) :
    Calls Try.prog 90 #[.pointer (some ⟨p, 0, none⟩), .agg (lookA r g)] w fun e w' => e = .returned (tellV (Md.tell B r g)) ∧ Below w.heap.size w w' := by
  obtain ⟨hq, hr, hB⟩ := look_both w r g
  have hbV := hb.below hB
  unfold lookA
  obtain ⟨AA, hAA⟩ : ∃ AA, Md.tell B r g = AA := ⟨_, rfl⟩
  rw [hAA]
  have HA := hide hAA
  clear hb hAA
  have a0 := hq.rq.c0
  have a6 := hq.c6
  have al := hq.rq.lt
  go_enter Try.func90, Try.ntmps90
  cases g with
  | false =>
    have ha : AA = some ⟨4, 0⟩ := by rw [← HA.out]; rfl
    have Ha := hide ha
    clear ha
    go_wp2
    exact bodyPost_ret (v := .tuple #[.agg #[.int .i64 4, .int .i64 0], .bool true]) (by simp [results, Try.results90, go_sem]) rfl ⟨by rw [Ha.out]; rfl, ((Below.refl _ _).alloc (Nat.le_refl _) _).alloc (by simp) _⟩
  | true =>
    go_wp2_with fail
    generalize (w.alloc (.cells #[.int .i64 r.id, .int .i64 r.kind, .int .i64 r.cell, .int .i64 r.hold, .int .i64 r.count, .int .i64 r.time, .bool true] 128)).alloc (.cells #[.int .i64 0, .int .i64 0] 77) = V at hq hr hB hbV a0 a6 al ⊢
    have hrec := pRecall_any p B n r.id V hbV hL
    have hkf := Md.known_find B.past r
    go_wp2_with fail
    refine hrec.mono ?_
    rintro e W2 ⟨rfl, hb2⟩
    have hq2 := (hq.below hb2).rq
    have hr2 := hr.below hb2
    have hB2 : Below w.heap.size w W2 := hB.trans (hb2.mono hB.size)
    clear hq hr hb2 a0 a6 al hrec hB hbV
    cases hfi : Md.find B.past r.id with
    | some x =>
      rw [hfi] at hkf
      simp only [Option.map_some] at hkf
      unfold findV pastC
      have heq := fun W => equalReq W x.req.id x.req.kind x.req.cell x.req.hold x.req.count x.req.time r.id r.kind r.cell r.hold r.count r.time
      have hgq := guardReq
      change ∀ W, _ = Result.ok (Md.sameReq x.req r) W at heq
      obtain ⟨q0, q1, q2, q3, q4, q5, ql⟩ := hq2
      obtain ⟨r0, r1, rf, rl⟩ := hr2
      cases hsm : Md.sameReq x.req r with
      | true =>
        rw [hsm] at heq hkf
        have ha : AA = some x.rep := by rw [← HA.out]; unfold Md.tell; rw [hkf]; rfl
        have Ha := hide ha
        clear ha hkf hsm
        go_wp2
        obtain ⟨e0, e1⟩ := put2 r0 r1 (.int .i64 x.rep.code) (.int .i64 x.rep.count)
        have hF := (hB2.setCell (p := ⟨w.heap.size + 1, 0, none⟩) (Nat.le_succ _) (.int .i64 x.rep.code)).setCell (p := ⟨w.heap.size + 1, 1, none⟩) (Nat.le_succ _) (.int .i64 x.rep.count)
        have hl : w.heap.size + 1 < ((W2.setCell ⟨w.heap.size + 1, 0, none⟩ (.int .i64 x.rep.code)).setCell ⟨w.heap.size + 1, 1, none⟩ (.int .i64 x.rep.count)).heap.size := by rw [size_put, size_put]; exact rl
        generalize (W2.setCell ⟨w.heap.size + 1, 0, none⟩ (.int .i64 x.rep.code)).setCell ⟨w.heap.size + 1, 1, none⟩ (.int .i64 x.rep.count) = F at e0 e1 hF hl ⊢
        have hb9 := (Below.refl F.heap.size F).alloc (Nat.le_refl _) (.cells #[.int .i64 x.req.id, .int .i64 x.req.kind, .int .i64 x.req.cell, .int .i64 x.req.hold, .int .i64 x.req.count, .int .i64 x.req.time, .int .i64 x.rep.code, .int .i64 x.rep.count] 79)
        replace e0 := (hb9.cell (p := ⟨w.heap.size + 1, 0, none⟩) hl).trans e0
        replace e1 := (hb9.cell (p := ⟨w.heap.size + 1, 1, none⟩) hl).trans e1
        have hF2 := hF.trans (hb9.mono hF.size)
        generalize F.alloc (.cells #[.int .i64 x.req.id, .int .i64 x.req.kind, .int .i64 x.req.cell, .int .i64 x.req.hold, .int .i64 x.req.count, .int .i64 x.req.time, .int .i64 x.rep.code, .int .i64 x.rep.count] 79) = F2 at e0 e1 hF2 ⊢
        exact bodyPost_ret (v := .tuple #[.agg #[.int .i64 x.rep.code, .int .i64 x.rep.count], .bool true]) (by simp [results, Try.results90, go_sem, e0, e1]) rfl ⟨by rw [Ha.out]; rfl, hF2⟩
      | false =>
        rw [hsm] at heq hkf
        have ha : AA = some ⟨2, 0⟩ := by rw [← HA.out]; unfold Md.tell; rw [hkf]; rfl
        have Ha := hide ha
        clear ha hkf hsm
        go_wp2
        obtain ⟨e0, e1⟩ := put2 r0 r1 (.int .i64 2) (.int .i64 0)
        have hF := (hB2.setCell (p := ⟨w.heap.size + 1, 0, none⟩) (Nat.le_succ _) (.int .i64 2)).setCell (p := ⟨w.heap.size + 1, 1, none⟩) (Nat.le_succ _) (.int .i64 0)
        have hl : w.heap.size + 1 < ((W2.setCell ⟨w.heap.size + 1, 0, none⟩ (.int .i64 2)).setCell ⟨w.heap.size + 1, 1, none⟩ (.int .i64 0)).heap.size := by rw [size_put, size_put]; exact rl
        generalize (W2.setCell ⟨w.heap.size + 1, 0, none⟩ (.int .i64 2)).setCell ⟨w.heap.size + 1, 1, none⟩ (.int .i64 0) = F at e0 e1 hF hl ⊢
        have hb9 := (Below.refl F.heap.size F).alloc (Nat.le_refl _) (.cells #[.int .i64 x.req.id, .int .i64 x.req.kind, .int .i64 x.req.cell, .int .i64 x.req.hold, .int .i64 x.req.count, .int .i64 x.req.time, .int .i64 x.rep.code, .int .i64 x.rep.count] 79)
        replace e0 := (hb9.cell (p := ⟨w.heap.size + 1, 0, none⟩) hl).trans e0
        replace e1 := (hb9.cell (p := ⟨w.heap.size + 1, 1, none⟩) hl).trans e1
        have hF2 := hF.trans (hb9.mono hF.size)
        generalize F.alloc (.cells #[.int .i64 x.req.id, .int .i64 x.req.kind, .int .i64 x.req.cell, .int .i64 x.req.hold, .int .i64 x.req.count, .int .i64 x.req.time, .int .i64 x.rep.code, .int .i64 x.rep.count] 79) = F2 at e0 e1 hF2 ⊢
        exact bodyPost_ret (v := .tuple #[.agg #[.int .i64 2, .int .i64 0], .bool true]) (by simp [results, Try.results90, go_sem, e0, e1]) rfl ⟨by rw [Ha.out]; rfl, hF2⟩
    | none =>
      rw [hfi] at hkf
      have ha : AA = none := by rw [← HA.out]; unfold Md.tell; rw [hkf]; rfl
      have Ha := hide ha
      clear ha hkf hfi
      unfold findV
      obtain ⟨r0, r1, rf, rl⟩ := hr2
      go_wp2
      obtain ⟨e0, e1⟩ := put2 r0 r1 (.int .i64 0) (.int .i64 0)
      have hF := (hB2.setCell (p := ⟨w.heap.size + 1, 0, none⟩) (Nat.le_succ _) (.int .i64 0)).setCell (p := ⟨w.heap.size + 1, 1, none⟩) (Nat.le_succ _) (.int .i64 0)
      have hl : w.heap.size + 1 < ((W2.setCell ⟨w.heap.size + 1, 0, none⟩ (.int .i64 0)).setCell ⟨w.heap.size + 1, 1, none⟩ (.int .i64 0)).heap.size := by rw [size_put, size_put]; exact rl
      generalize (W2.setCell ⟨w.heap.size + 1, 0, none⟩ (.int .i64 0)).setCell ⟨w.heap.size + 1, 1, none⟩ (.int .i64 0) = F at e0 e1 hF hl ⊢
      have hb9 := (Below.refl F.heap.size F).alloc (Nat.le_refl _) (.cells #[.int .i64 0, .int .i64 0, .int .i64 0, .int .i64 0, .int .i64 0, .int .i64 0, .int .i64 0, .int .i64 0] 79)
      replace e0 := (hb9.cell (p := ⟨w.heap.size + 1, 0, none⟩) hl).trans e0
      replace e1 := (hb9.cell (p := ⟨w.heap.size + 1, 1, none⟩) hl).trans e1
      have hF2 := hF.trans (hb9.mono hF.size)
      generalize F.alloc (.cells #[.int .i64 0, .int .i64 0, .int .i64 0, .int .i64 0, .int .i64 0, .int .i64 0, .int .i64 0, .int .i64 0] 79) = F2 at e0 e1 hF2 ⊢
      exact bodyPost_ret (v := .tuple #[.agg #[.int .i64 0, .int .i64 0], .bool false]) (by simp [results, Try.results90, go_sem, e0, e1]) rfl ⟨by rw [Ha.out]; rfl, hF2⟩
end Go.Proofs.Ytidacihlalbohaa

/- Ask: what becomes of a request. -/
namespace Go.Proofs.Ytidacihlalbohaa
open Go.RowKit

namespace Md
/-- What becomes of a request: the book, the reply, whether it was done. -/
def ask (B : Bk) (r : Req) (n : Nat) : Bk × Rep × Bool :=
  if good r then (match known B.past r with | some p => (B, p, false) | none => ((doReq B r n).1, (doReq B r n).2, true)) else (B, ⟨4, 0⟩, false)
theorem doReq_act (B : Bk) (r : Req) (n : Nat) : doReq B r n = ({ (act B r).1 with count := (act B r).1.count + 1, past := ((act B r).1.past ++ [(⟨r, (act B r).2⟩ : Past)]).drop (((act B r).1.past ++ [(⟨r, (act B r).2⟩ : Past)]).length - n) }, (act B r).2) := rfl
theorem act_past (B : Bk) (r : Req) : (act B r).1.past = B.past := by
  unfold act; split
  · unfold change; repeat' split
    all_goals rfl
  · rfl
theorem act_count (B : Bk) (r : Req) : (act B r).1.count = B.count := by
  unfold act; split
  · unfold change; repeat' split
    all_goals rfl
  · rfl
end Md

def askV (x : Md.Bk × Md.Rep × Bool) : Value := .tuple #[.agg (repA x.2.1), .bool x.2.2]

theorem ask_tell (B : Md.Bk) (r : Md.Req) (n : Nat) : (∀ q, Md.tell B r (Md.good r) = some q → Md.ask B r n = (B, q, false)) ∧ (Md.tell B r (Md.good r) = none → Md.good r = true ∧ Md.ask B r n = ((Md.doReq B r n).1, (Md.doReq B r n).2, true)) := by
  unfold Md.tell Md.ask
  cases Md.good r with
  | false => exact ⟨fun q h => (by cases h; rfl), fun h => (by cases h)⟩
  | true =>
    simp only [if_true]
    cases Md.known B.past r with
    | none => exact ⟨fun q h => (by cases h), fun _ => ⟨by simp, rfl⟩⟩
    | some x => exact ⟨fun q h => (by cases h; rfl), fun h => (by cases h)⟩

set_option maxRecDepth 100000 in
set_option maxHeartbeats 4000000 in
theorem pAsk_any (p : Nat) (B : Md.Bk) (n : Nat) (r : Md.Req) (w : World) (hb : PBook w p B n) (hv : Md.Inv B n) (hw : 1 ≤ n ∧ n ≤ 20) (hc : 0 ≤ B.count ∧ B.count ≤ 4611686018427387904) :
    Calls Try.prog 63 #[.pointer (some ⟨p, 0, none⟩), .agg (lookA r (Md.good r))] w fun e w' => e = .returned (askV (Md.ask B r n)) ∧ PBook w' p (Md.ask B r n).1 n ∧ w.grownBy w' (some p) := by
  obtain ⟨hat1, hat2⟩ := ask_tell B r n
  obtain ⟨G, hG⟩ : ∃ G, Md.good r = G := ⟨_, rfl⟩
  rw [hG] at hat1 hat2
  have hkn := fun W hb => pKnown_any p B n r (Md.good r) W hb (by have := hv.pl; omega)
  rw [hG] at hkn ⊢
  obtain ⟨hq, hr, hB⟩ := look_both w r G
  have hbV := hb.below hB
  have hpw := hb.lt
  have h7 := hq.c6
  obtain ⟨h0, h1, h2, h3, h4, h5, h6⟩ := hq.rq
  unfold lookA at hkn ⊢
  obtain ⟨AA, hAA⟩ : ∃ AA, Md.ask B r n = AA := ⟨_, rfl⟩
  rw [hAA] at hat1 hat2 ⊢
  have Ht1 := hide hat1
  have Ht2 := hide hat2
  have HG := hide hG
  clear hb hAA hat1 hat2 hG
  go_enter Try.func63, Try.ntmps63
  go_wp2_with fail
  generalize (w.alloc (.cells #[.int .i64 r.id, .int .i64 r.kind, .int .i64 r.cell, .int .i64 r.hold, .int .i64 r.count, .int .i64 r.time, .bool G] 128)).alloc (.cells #[.int .i64 0, .int .i64 0] 77) = V at hq hr hB hbV h0 h1 h2 h3 h4 h5 h6 h7 ⊢
  refine (hkn V hbV).mono ?_
  rintro e W2 ⟨rfl, hb1⟩
  have hq2 := (hq.below hb1).rq
  have hr2 := hr.below hb1
  have Hbk2 := hide (hbV.below hb1)
  have hB2 : Below w.heap.size w W2 := hB.trans (hb1.mono hB.size)
  clear hq hr hbV hb1 hB hkn h0 h1 h2 h3 h4 h5 h6 h7
  cases hte : Md.tell B r G with
  | some x =>
    have Ha := hide (Ht1.out x hte)
    unfold tellV repA
    obtain ⟨r0, r1, rf, rl⟩ := hr2
    clear hte
    go_wp2
    have hE := rep_alloc (rep_close (grown_below hB2) Hbk2.out ⟨r0, r1, rf, rl⟩ hpw (.int .i64 x.code) (.int .i64 x.count)) (.cells #[.int .i64 x.code, .int .i64 x.count] 77)
    generalize ((W2.setCell ⟨w.heap.size + 1, 0, none⟩ (.int .i64 x.code)).setCell ⟨w.heap.size + 1, 1, none⟩ (.int .i64 x.count)).alloc (.cells #[.int .i64 x.code, .int .i64 x.count] 77) = F at hE ⊢
    obtain ⟨e1, e2, e3, e4, e5⟩ := hE
    exact bodyPost_ret (v := .tuple #[.agg #[.int .i64 x.code, .int .i64 x.count], .bool false]) (by simp [results, Try.results63, go_sem, e3, e4]) rfl ⟨by rw [Ha.out]; rfl, by rw [Ha.out]; exact e1, e2⟩
  | none =>
      obtain ⟨hgt, ha⟩ := Ht2.out hte
      have hgd : Md.good r = true := by rw [HG.out]; exact hgt
      have Ha := hide ha
      clear ha hte hgt
      unfold tellV
      have hBx := (Below.refl W2.heap.size W2).alloc (Nat.le_refl _) (.cells #[.int .i64 0, .int .i64 0] 77)
      have hq3 := hq2.below hBx
      have hr3 := hr2.below hBx
      have hbk3 := Hbk2.out.below hBx
      have hB3 := hB2.alloc hB2.size (.cells #[.int .i64 0, .int .i64 0] 77)
      obtain ⟨q0, q1, q2, q3, q4, q5, ql⟩ := hq2
      go_wp2_with fail
      generalize W2.alloc (.cells #[.int .i64 0, .int .i64 0] 77) = X at hq3 hr3 hbk3 hB3 ⊢
      have hdo := pDo_any p B n r X hgd hbk3 hv hw
      unfold reqA repA at hdo
      refine hdo.mono ?_
      rintro e W4 ⟨rfl, hb4, hg4⟩
      have hq4 := hq3.of_block (W' := W4) (hg4.block w.heap.size hq3.lt (fun e => by cases e; omega)) (Nat.lt_of_lt_of_le hq3.lt hg4.size)
      have hr4 := hr3.of_block (W' := W4) (hg4.block (w.heap.size + 1) hr3.lt (fun e => by cases e; omega)) (Nat.lt_of_lt_of_le hr3.lt hg4.size)
      have hgw := grown_trans (grown_below hB3) hg4
      have hcn := hb4.cn
      have hpast := Md.act_past B r
      have hcount := Md.act_count B r
      have hdoq := Md.doReq_act B r n
      obtain ⟨⟨A, rep⟩, hact⟩ : ∃ y, Md.act B r = y := ⟨_, rfl⟩
      rw [hact] at hb4 hcn hpast hcount hdoq ⊢
      dsimp only at hb4 hcn hpast hcount hdoq ⊢
      rw [hcount] at hcn hdoq
      obtain ⟨c1, c2⟩ := hc
      have cf := hb4.fz 170
      have cl := hb4.lt
      obtain ⟨g0, g1, g2, g3, g4, g5, gl⟩ := hq4
      have hY := (hb4.setCount (B.count + 1)).below ((Below.refl _ _).alloc (Nat.le_refl _) (.cells #[.int .i64 rep.code, .int .i64 rep.count] 77))
      have hrY := (hr4.put (q := p) (o := 170) (x := .int .i64 (B.count + 1)) (show w.heap.size + 1 ≠ p by omega)).below ((Below.refl _ _).alloc (Nat.le_refl _) (.cells #[.int .i64 rep.code, .int .i64 rep.count] 77))
      have hgY : w.grownBy ((W4.setCell ⟨p, 170, none⟩ (.int .i64 (B.count + 1))).alloc (.cells #[.int .i64 rep.code, .int .i64 rep.count] 77)) (some p) := grown_trans hgw (grown_trans (grown_put W4 p 170 _) (grown_below ((Below.refl _ _).alloc (Nat.le_refl _) _)))
      have b0 : ((W4.setCell ⟨p, 170, none⟩ (.int .i64 (B.count + 1))).alloc (.cells #[.int .i64 rep.code, .int .i64 rep.count] 77)).cell? ⟨W4.heap.size, 0, none⟩ = some (.int .i64 rep.code) := by have := World.cell?_alloc_mark (W4.setCell ⟨p, 170, none⟩ (.int .i64 (B.count + 1))) #[.int .i64 rep.code, .int .i64 rep.count] 77 (0, 0) 0; rw [size_put] at this; exact this
      have b1 : ((W4.setCell ⟨p, 170, none⟩ (.int .i64 (B.count + 1))).alloc (.cells #[.int .i64 rep.code, .int .i64 rep.count] 77)).cell? ⟨W4.heap.size, 1, none⟩ = some (.int .i64 rep.count) := by have := World.cell?_alloc_mark (W4.setCell ⟨p, 170, none⟩ (.int .i64 (B.count + 1))) #[.int .i64 rep.code, .int .i64 rep.count] 77 (0, 0) 1; rw [size_put] at this; exact this
      have bl : W4.heap.size < ((W4.setCell ⟨p, 170, none⟩ (.int .i64 (B.count + 1))).alloc (.cells #[.int .i64 rep.code, .int .i64 rep.count] 77)).heap.size := by rw [World.size_alloc, size_put]; omega
      have Hdoq := hide hdoq
      have Hact := hide hact
      have Hpast := hide hpast
      clear hq3 hr3 hbk3 hB3 hdo hb4 hg4 hpast hdoq hact hcount hgw hr2 Hbk2 q0 q1 q2 q3 q4 q5 ql hBx hB2
      go_wp2_with fail
      generalize (W4.setCell ⟨p, 170, none⟩ (.int .i64 (B.count + 1))).alloc (.cells #[.int .i64 rep.code, .int .i64 rep.count] 77) = Y at hY hrY hgY b0 b1 bl ⊢
      have hrm := pRemember_any p _ n ⟨r, rep⟩ Y hY hw (by show A.past.length ≤ n; rw [Hpast.out]; exact hv.pl)
      unfold pastC at hrm
      refine hrm.mono ?_
      rintro e W5 ⟨rfl, hb5, hg5⟩
      have hr5 := hrY.of_block (W' := W5) (hg5.block (w.heap.size + 1) hrY.lt (fun e => by cases e; omega)) (Nat.lt_of_lt_of_le hrY.lt hg5.size)
      have hne : W4.heap.size ≠ p := by omega
      have hblk := hg5.block W4.heap.size bl (fun e => by cases e; exact hne rfl)
      have d0 := (World.cell?_of_block (a := ⟨W4.heap.size, 0, none⟩) hblk).trans b0
      have d1 := (World.cell?_of_block (a := ⟨W4.heap.size, 1, none⟩) hblk).trans b1
      have dl : W4.heap.size < W5.heap.size := Nat.lt_of_lt_of_le bl hg5.size
      obtain ⟨r0, r1, rf, rl⟩ := hr5
      have Hb5 := hide hb5
      have hg6 := grown_trans hgY hg5
      clear hrm hb5 hY hrY b0 b1 bl hblk
      go_wp2
      have hE := rep_close hg6 Hb5.out ⟨r0, r1, rf, rl⟩ hpw (.int .i64 rep.code) (.int .i64 rep.count)
      generalize (W5.setCell ⟨w.heap.size + 1, 0, none⟩ (.int .i64 rep.code)).setCell ⟨w.heap.size + 1, 1, none⟩ (.int .i64 rep.count) = F at hE ⊢
      obtain ⟨e1, e2, e3, e4, e5⟩ := hE
      refine bodyPost_ret (v := .tuple #[.agg #[.int .i64 rep.code, .int .i64 rep.count], .bool true]) (by simp [results, Try.results63, go_sem, e3, e4]) rfl ⟨?_, ?_, e2⟩
      · rw [Ha.out, Hdoq.out]; rfl
      · rw [Ha.out, Hdoq.out]; exact e1
end Go.Proofs.Ytidacihlalbohaa
