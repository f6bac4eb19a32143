/- readRecord: the numbers of a record. -/
import Derived.Test.YtidacihlalbohaaPRead
import Derived.Test.YtidacihlalbohaaPLook
import Derived.Test.YtidacihlalbohaaRefReplay
namespace Go.Proofs.Ytidacihlalbohaa
open Go.RowKit

def recA (n : Int) (r : Md.Req) : Array Value := #[.int .i64 n, .int .i64 r.id, .int .i64 r.kind, .int .i64 r.cell, .int .i64 r.hold, .int .i64 r.count, .int .i64 r.time]
theorem rec28 (s : ByteArray) : (!(false || Md.lack s (0 + 1) || Md.lack s (1 + 6)) && decide (s.size ≤ 4 * 7)) = decide (s.size = 28) := by
  unfold Md.lack
  by_cases h : s.size = 28
  · rw [decide_eq_true h, h]; rfl
  · rw [decide_eq_false h]
    by_cases h2 : s.size < 28
    · rw [decide_eq_true (show s.size < 4 * (1 + 6) by omega)]; simp
    · rw [decide_eq_false (show ¬ s.size ≤ 4 * 7 by omega)]; simp

set_option maxRecDepth 100000 in
set_option maxHeartbeats 2000000 in
theorem readRecord_any (s : ByteArray) (w : World) :
    Calls Try.prog 61 #[.string s] w fun e w' => e = .returned (.tuple #[.agg (recA (Md.numAt s.data.toList 0) (Md.reqAt s.data.toList 1)), .bool (decide (s.size = 28))]) ∧ Below w.heap.size w w' := by
  unfold recA
  have h28 := rec28 s
  generalize decide (s.size = 28) = E at h28 ⊢
  have H28 := hide h28
  clear h28
  obtain ⟨V0, hV0⟩ : ∃ V0, (w.alloc (.cells #[.int .i64 0, .int .i64 0, .int .i64 0, .int .i64 0, .int .i64 0, .int .i64 0, .int .i64 0] 121)).alloc (.cells #[.string s, .bool false] 156) = V0 := ⟨_, rfl⟩
  have z0 : V0.cell? ⟨w.heap.size, 0, none⟩ = some (.int .i64 0) := by rw [← hV0]; simp [go_sem]
  have z1 : V0.cell? ⟨w.heap.size, 1, none⟩ = some (.int .i64 0) := by rw [← hV0]; simp [go_sem]
  have z2 : V0.cell? ⟨w.heap.size, 2, none⟩ = some (.int .i64 0) := by rw [← hV0]; simp [go_sem]
  have z3 : V0.cell? ⟨w.heap.size, 3, none⟩ = some (.int .i64 0) := by rw [← hV0]; simp [go_sem]
  have z4 : V0.cell? ⟨w.heap.size, 4, none⟩ = some (.int .i64 0) := by rw [← hV0]; simp [go_sem]
  have z5 : V0.cell? ⟨w.heap.size, 5, none⟩ = some (.int .i64 0) := by rw [← hV0]; simp [go_sem]
  have z6 : V0.cell? ⟨w.heap.size, 6, none⟩ = some (.int .i64 0) := by rw [← hV0]; simp [go_sem]
  have zf : ∀ o, V0.frozen? ⟨w.heap.size, o, none⟩ = false := by intro o; rw [← hV0]; simp [go_sem]
  have zl : w.heap.size < V0.heap.size := by rw [← hV0]; simp; omega
  have hB : Below w.heap.size w V0 := by rw [← hV0]; exact ((Below.refl _ _).alloc (Nat.le_refl _) _).alloc (by simp) _
  have hr : RdAt V0 (w.heap.size + 1) s 0 false := by
    refine ⟨?_, ?_, ?_, ?_⟩
    · have h0 : s.extract (4 * 0) s.size = s := by apply ByteArray.ext; simp
      rw [h0, ← hV0]; simp [go_sem]
    · rw [← hV0]; simp [go_sem]
    · intro o; rw [← hV0]; simp [go_sem]
    · rw [← hV0]; simp
  obtain ⟨R, hR⟩ : ∃ R, Md.reqAt s.data.toList 1 = R := ⟨_, rfl⟩
  have hnx := next_any (w.heap.size + 1) s 0 false V0 hr
  rw [hR]
  have HR := hide hR
  clear hR
  go_enter Try.func61, Try.ntmps61
  go_wp2_with fail
  clear hV0
  refine hnx.mono ?_
  rintro e W1 ⟨rfl, j1, g1⟩
  go_wp2_with fail
  have hrq := request_any (w.heap.size + 1) s 1 _ W1 j1
  rw [HR.out] at hrq
  unfold reqA at hrq
  refine hrq.mono ?_
  rintro e W2 ⟨rfl, j2, g2⟩
  have g : V0.grownBy W2 (some (w.heap.size + 1)) := grown_trans g1 g2
  have hblk := g.block w.heap.size zl (fun e => by injection e with e; omega)
  replace z0 := (World.cell?_of_block (a := ⟨w.heap.size, 0, none⟩) hblk).trans z0
  replace z1 := (World.cell?_of_block (a := ⟨w.heap.size, 1, none⟩) hblk).trans z1
  replace z2 := (World.cell?_of_block (a := ⟨w.heap.size, 2, none⟩) hblk).trans z2
  replace z3 := (World.cell?_of_block (a := ⟨w.heap.size, 3, none⟩) hblk).trans z3
  replace z4 := (World.cell?_of_block (a := ⟨w.heap.size, 4, none⟩) hblk).trans z4
  replace z5 := (World.cell?_of_block (a := ⟨w.heap.size, 5, none⟩) hblk).trans z5
  replace z6 := (World.cell?_of_block (a := ⟨w.heap.size, 6, none⟩) hblk).trans z6
  replace zf := fun o => (World.frozen?_of_block (a := ⟨w.heap.size, o, none⟩) hblk).trans (zf o)
  have zl2 : w.heap.size < W2.heap.size := Nat.lt_of_lt_of_le zl g.size
  have hB2 : Below w.heap.size w W2 := ⟨g.os.trans hB.os, g.tape.trans hB.tape, g.output.trans hB.output, Nat.le_trans hB.size g.size, fun k hk => (g.block k (Nat.lt_of_lt_of_le hk hB.size) (fun e => by injection e with e; omega)).trans (hB.block k hk)⟩
  clear hnx hrq g1 g2 j1 hr hblk g hB zl
  have hA := (Below.refl W2.heap.size W2).alloc (Nat.le_refl _) (.cells #[.int .i64 (Md.numAt s.data.toList 0), .int .i64 R.id, .int .i64 R.kind, .int .i64 R.cell, .int .i64 R.hold, .int .i64 R.count, .int .i64 R.time] 121)
  have j3 := j2.below hA
  replace z0 := (hA.cell (p := ⟨w.heap.size, 0, none⟩) zl2).trans z0
  replace z1 := (hA.cell (p := ⟨w.heap.size, 1, none⟩) zl2).trans z1
  replace z2 := (hA.cell (p := ⟨w.heap.size, 2, none⟩) zl2).trans z2
  replace z3 := (hA.cell (p := ⟨w.heap.size, 3, none⟩) zl2).trans z3
  replace z4 := (hA.cell (p := ⟨w.heap.size, 4, none⟩) zl2).trans z4
  replace z5 := (hA.cell (p := ⟨w.heap.size, 5, none⟩) zl2).trans z5
  replace z6 := (hA.cell (p := ⟨w.heap.size, 6, none⟩) zl2).trans z6
  replace zf := fun o => (hA.frozen (p := ⟨w.heap.size, o, none⟩) zl2).trans (zf o)
  have hB3 := hB2.trans (hA.mono hB2.size)
  have zl3 := Nat.lt_of_lt_of_le zl2 hA.size
  have y0 : (W2.alloc (.cells #[.int .i64 (Md.numAt s.data.toList 0), .int .i64 R.id, .int .i64 R.kind, .int .i64 R.cell, .int .i64 R.hold, .int .i64 R.count, .int .i64 R.time] 121)).cell? ⟨W2.heap.size, 0, none⟩ = some (.int .i64 (Md.numAt s.data.toList 0)) := by simp [go_sem]
  have y1 : (W2.alloc (.cells #[.int .i64 (Md.numAt s.data.toList 0), .int .i64 R.id, .int .i64 R.kind, .int .i64 R.cell, .int .i64 R.hold, .int .i64 R.count, .int .i64 R.time] 121)).cell? ⟨W2.heap.size, 1, none⟩ = some (.int .i64 R.id) := by simp [go_sem]
  have y2 : (W2.alloc (.cells #[.int .i64 (Md.numAt s.data.toList 0), .int .i64 R.id, .int .i64 R.kind, .int .i64 R.cell, .int .i64 R.hold, .int .i64 R.count, .int .i64 R.time] 121)).cell? ⟨W2.heap.size, 2, none⟩ = some (.int .i64 R.kind) := by simp [go_sem]
  have y3 : (W2.alloc (.cells #[.int .i64 (Md.numAt s.data.toList 0), .int .i64 R.id, .int .i64 R.kind, .int .i64 R.cell, .int .i64 R.hold, .int .i64 R.count, .int .i64 R.time] 121)).cell? ⟨W2.heap.size, 3, none⟩ = some (.int .i64 R.cell) := by simp [go_sem]
  have y4 : (W2.alloc (.cells #[.int .i64 (Md.numAt s.data.toList 0), .int .i64 R.id, .int .i64 R.kind, .int .i64 R.cell, .int .i64 R.hold, .int .i64 R.count, .int .i64 R.time] 121)).cell? ⟨W2.heap.size, 4, none⟩ = some (.int .i64 R.hold) := by simp [go_sem]
  have y5 : (W2.alloc (.cells #[.int .i64 (Md.numAt s.data.toList 0), .int .i64 R.id, .int .i64 R.kind, .int .i64 R.cell, .int .i64 R.hold, .int .i64 R.count, .int .i64 R.time] 121)).cell? ⟨W2.heap.size, 5, none⟩ = some (.int .i64 R.count) := by simp [go_sem]
  have y6 : (W2.alloc (.cells #[.int .i64 (Md.numAt s.data.toList 0), .int .i64 R.id, .int .i64 R.kind, .int .i64 R.cell, .int .i64 R.hold, .int .i64 R.count, .int .i64 R.time] 121)).cell? ⟨W2.heap.size, 6, none⟩ = some (.int .i64 R.time) := by simp [go_sem]
  have yl : W2.heap.size < (W2.alloc (.cells #[.int .i64 (Md.numAt s.data.toList 0), .int .i64 R.id, .int .i64 R.kind, .int .i64 R.cell, .int .i64 R.hold, .int .i64 R.count, .int .i64 R.time] 121)).heap.size := by simp
  clear hA
  go_wp2_with fail
  generalize W2.alloc (.cells #[.int .i64 (Md.numAt s.data.toList 0), .int .i64 R.id, .int .i64 R.kind, .int .i64 R.cell, .int .i64 R.hold, .int .i64 R.count, .int .i64 R.time] 121) = X at j3 z0 z1 z2 z3 z4 z5 z6 zf hB3 zl3 y0 y1 y2 y3 y4 y5 y6 yl ⊢
  have hen := ended_any (w.heap.size + 1) s 7 _ X.drew ⟨j3.le, j3.ba, j3.fz, j3.lt⟩
  have hB4 : Below w.heap.size w X.drew := hB3.drew
  clear hB3 hB2 zl2 j2 j3
  change X.drew.cell? _ = _ at z0 z1 z2 z3 z4 z5 z6 y0 y1 y2 y3 y4 y5 y6
  change ∀ o, X.drew.frozen? _ = _ at zf
  change _ < X.drew.heap.size at zl3 yl
  rw [H28.out] at hen
  go_region_with (go_at_call 86; refine hen.mono ?_; rintro e W ⟨rfl, hW⟩; have hb : Below X.drew.heap.size X.drew W := hW ▸ Below.refl _ _; clear hW; have z0 := (hb.cell (p := ⟨w.heap.size, 0, none⟩) zl3).trans z0; have z1 := (hb.cell (p := ⟨w.heap.size, 1, none⟩) zl3).trans z1; have z2 := (hb.cell (p := ⟨w.heap.size, 2, none⟩) zl3).trans z2; have z3 := (hb.cell (p := ⟨w.heap.size, 3, none⟩) zl3).trans z3; have z4 := (hb.cell (p := ⟨w.heap.size, 4, none⟩) zl3).trans z4; have z5 := (hb.cell (p := ⟨w.heap.size, 5, none⟩) zl3).trans z5; have z6 := (hb.cell (p := ⟨w.heap.size, 6, none⟩) zl3).trans z6; have y0 := (hb.cell (p := ⟨W2.heap.size, 0, none⟩) yl).trans y0; have y1 := (hb.cell (p := ⟨W2.heap.size, 1, none⟩) yl).trans y1; have y2 := (hb.cell (p := ⟨W2.heap.size, 2, none⟩) yl).trans y2; have y3 := (hb.cell (p := ⟨W2.heap.size, 3, none⟩) yl).trans y3; have y4 := (hb.cell (p := ⟨W2.heap.size, 4, none⟩) yl).trans y4; have y5 := (hb.cell (p := ⟨W2.heap.size, 5, none⟩) yl).trans y5; have y6 := (hb.cell (p := ⟨W2.heap.size, 6, none⟩) yl).trans y6; have zf := fun o => (hb.frozen (p := ⟨w.heap.size, o, none⟩) zl3).trans (zf o); have hB4 := hB4.trans (hb.mono hB4.size); have zl3 := Nat.lt_of_lt_of_le zl3 hb.size; have yl := Nat.lt_of_lt_of_le yl hb.size)
  all_goals
    obtain ⟨p0, p1, p2, p3, p4, p5, p6⟩ := put7 (W := W) (b := w.heap.size) z0 z1 z2 z3 z4 z5 z6 (.int .i64 (Md.numAt s.data.toList 0)) (.int .i64 R.id) (.int .i64 R.kind) (.int .i64 R.cell) (.int .i64 R.hold) (.int .i64 R.count) (.int .i64 R.time)
    have hF := (((((((hB4.setCell (p := ⟨w.heap.size, 0, none⟩) (Nat.le_refl _) (.int .i64 (Md.numAt s.data.toList 0))).setCell (p := ⟨w.heap.size, 1, none⟩) (Nat.le_refl _) (.int .i64 R.id)).setCell (p := ⟨w.heap.size, 2, none⟩) (Nat.le_refl _) (.int .i64 R.kind)).setCell (p := ⟨w.heap.size, 3, none⟩) (Nat.le_refl _) (.int .i64 R.cell)).setCell (p := ⟨w.heap.size, 4, none⟩) (Nat.le_refl _) (.int .i64 R.hold)).setCell (p := ⟨w.heap.size, 5, none⟩) (Nat.le_refl _) (.int .i64 R.count)).setCell (p := ⟨w.heap.size, 6, none⟩) (Nat.le_refl _) (.int .i64 R.time))
    generalize ((((((W.setCell ⟨w.heap.size, 0, none⟩ (.int .i64 (Md.numAt s.data.toList 0))).setCell ⟨w.heap.size, 1, none⟩ (.int .i64 R.id)).setCell ⟨w.heap.size, 2, none⟩ (.int .i64 R.kind)).setCell ⟨w.heap.size, 3, none⟩ (.int .i64 R.cell)).setCell ⟨w.heap.size, 4, none⟩ (.int .i64 R.hold)).setCell ⟨w.heap.size, 5, none⟩ (.int .i64 R.count)).setCell ⟨w.heap.size, 6, none⟩ (.int .i64 R.time) = F at p0 p1 p2 p3 p4 p5 p6 hF ⊢
    go_wp2
    exact bodyPost_ret (v := .tuple #[.agg #[.int .i64 (Md.numAt s.data.toList 0), .int .i64 R.id, .int .i64 R.kind, .int .i64 R.cell, .int .i64 R.hold, .int .i64 R.count, .int .i64 R.time], .bool E]) (by simp [results, Try.results61, go_sem, p0, p1, p2, p3, p4, p5, p6]) rfl ⟨rfl, hF⟩
end Go.Proofs.Ytidacihlalbohaa
