/- isDown: the power is there. -/
import Derived.Test.YtidacihlalbohaaPNew
import Derived.Conc.LoneCalls
import Derived.Test.YtidacihlalbohaaRefAsk
import Derived.Test.YtidacihlalbohaaRefReplay
import Derived.Deep.RegionWith
namespace Go.Proofs.Ytidacihlalbohaa
open Go.Conc Go.RowKit

theorem infoUnit : (Try.prog.info? 166).map (fun i => i.zero) = some (some (.agg #[])) := by kernel_rfl

set_option maxRecDepth 100000 in
set_option maxHeartbeats 1000000 in
theorem isDown_any (q c cap s r : Nat) (tm : Bool) (w : World) (hq : w.cell? ⟨q, 0, none⟩ = some (.chan (some c))) (hc : w.heap[c]? = some (.chan cap #[] false s r tm)) :
    Calls Try.prog 76 #[.pointer (some ⟨q, 0, none⟩)] w fun e w' => e = .returned (.bool false) ∧ w' = w := by
  refine calls_of_loneTo fun cs => ?_
  have hql : q < w.heap.size := World.block_lt_of_cell? w ⟨q, 0, none⟩ hq
  have e : Frame.enter Try.prog 76 #[.pointer (some ⟨q, 0, none⟩)] .normal = (base 76).at ⟨#[.pointer (some ⟨q, 0, none⟩), undef, undef, undef, undef, undef, undef, undef, undef, undef], []⟩ [.code (Try.f76.body.getD .skip)] := by
    simp [Frame.enter, Frame.at, Try.func76, base, Try.f76]
  rw [e]
  refine LoneTo.goes (n := 30) ?_
  simp only [Try.f76, Option.getD_some]
  s_c stepG_seq
  s_reg
  s_op
  s_c stepG_region_end
  s_c stepG_seq
  s_reg
  s_op
  s_op
  s_op
  s_op
  s_c stepG_region_end
  s_c stepG_seq
  s_reg
  s_stop
  obtain ⟨i0, hi, hz⟩ := Option.map_eq_some_iff.1 infoUnit
  refine LoneTo.step (step_lone_select_default (c := c) (z := .agg #[]) (cap := cap) (s := s) (r := r) (tm := tm) (stepG_comm (cases := #[rcase c (.agg #[])]) (blocking := false) (shape := .select) (w' := w) rfl rfl (by decide) (by simp [go_sem, execOp, rcase, Act.eval])) hc) ?_
  rw [Frame.finish_at]
  walk_nrm
  refine LoneTo.goes (n := 11) ?_
  s_op
  s_op
  s_c stepG_region_end
  s_c stepG_block
  s_cond false
  s_c stepG_seq
  s_reg
  s_op
  s_c stepG_region_end
  s_c stepG_ret'
  s_stop
  exact LoneTo.done ⟨.returned (.bool false), _, rfl, ⟨rfl, rfl⟩, rfl, rfl, rfl, rfl, _, Try.func76, by simp [results, Try.f76, Frame.at]⟩
end Go.Proofs.Ytidacihlalbohaa

/- What a shop is asked: Cell, Hold, Clock, Count. -/
namespace Go.Proofs.Ytidacihlalbohaa
open Go.RowKit

/-- A shop lies in block q: its book, and a disk whose channel is open. -/
structure ShopAt (W : World) (q : Nat) (B : Md.Bk) (n : Nat) : Prop where
  bk : PBook W q B n
  ch : ∃ d c cap s r tm, W.cell? ⟨q, 335, none⟩ = some (.pointer (some ⟨d, 0, none⟩)) ∧ W.cell? ⟨d, 0, none⟩ = some (.chan (some c)) ∧ W.heap[c]? = some (.chan cap #[] false s r tm)
theorem ShopAt.below {W W' : World} {q : Nat} {B : Md.Bk} {n : Nat} (h : ShopAt W q B n) (hb : Below W.heap.size W W') : ShopAt W' q B n := by
  obtain ⟨hbk, d, c, cap, s, r, tm, h0, h1, h2⟩ := h
  exact ⟨hbk.below hb, d, c, cap, s, r, tm, (hb.cell (p := ⟨q, 335, none⟩) hbk.lt).trans h0, (hb.cell (p := ⟨d, 0, none⟩) (World.block_lt_of_cell? W ⟨d, 0, none⟩ h1)).trans h1, (hb.block c (Array.getElem?_eq_some_iff.1 h2).1).trans h2⟩
theorem ShopAt.up {W : World} {q : Nat} {B : Md.Bk} {n : Nat} (h : ShopAt W q B n) : ∃ d, W.cell? ⟨q, 335, none⟩ = some (.pointer (some ⟨d, 0, none⟩)) ∧ d < W.heap.size ∧ Calls Try.prog 76 #[.pointer (some ⟨d, 0, none⟩)] W fun e w' => e = .returned (.bool false) ∧ w' = W := by
  obtain ⟨hbk, d, c, cap, s, r, tm, h0, h1, h2⟩ := h
  exact ⟨d, h0, World.block_lt_of_cell? W ⟨d, 0, none⟩ h1, isDown_any d c cap s r tm W h1 h2⟩

set_option maxRecDepth 100000 in
set_option maxHeartbeats 1000000 in
theorem sClock_any (q : Nat) (B : Md.Bk) (n : Nat) (w : World) (h : ShopAt w q B n) :
    Calls Try.prog 47 #[.pointer (some ⟨q, 0, none⟩)] w fun e w' => e = .returned (two2 (Md.askClock B false)) ∧ w' = w := by
  obtain ⟨d, hd, hdl, hu⟩ := h.up
  have hc := pClock_any q B n w h.bk
  have hl := h.bk.lt
  clear h
  go_enter Try.func47, Try.ntmps47
  go_wp2_with fail
  refine hu.mono ?_
  rintro e W ⟨rfl, rfl⟩
  go_wp2_with fail
  refine hc.mono ?_
  rintro e W ⟨rfl, rfl⟩
  go_wp2
  go_ret2
  exact ⟨rfl, rfl⟩
set_option maxRecDepth 100000 in
set_option maxHeartbeats 1000000 in
theorem sCount_any (q : Nat) (B : Md.Bk) (n : Nat) (w : World) (h : ShopAt w q B n) :
    Calls Try.prog 49 #[.pointer (some ⟨q, 0, none⟩)] w fun e w' => e = .returned (two2 (Md.askCount B false)) ∧ w' = w := by
  obtain ⟨d, hd, hdl, hu⟩ := h.up
  have hc := pCount_any q B n w h.bk
  have hl := h.bk.lt
  clear h
  go_enter Try.func49, Try.ntmps49
  go_wp2_with fail
  refine hu.mono ?_
  rintro e W ⟨rfl, rfl⟩
  go_wp2_with fail
  refine hc.mono ?_
  rintro e W ⟨rfl, rfl⟩
  go_wp2
  go_ret2
  exact ⟨rfl, rfl⟩

structure Four0 (W : World) (b : Nat) : Prop where
  c0 : W.cell? ⟨b, 0, none⟩ = some (.int .i64 0)
  c1 : W.cell? ⟨b, 1, none⟩ = some (.int .i64 0)
  c2 : W.cell? ⟨b, 2, none⟩ = some (.int .i64 0)
  c3 : W.cell? ⟨b, 3, none⟩ = some (.int .i64 0)
  fz : ∀ o, W.frozen? ⟨b, o, none⟩ = false
  lt : b < W.heap.size
theorem put4 {W : World} {b : Nat} {a0 a1 a2 a3 : Value} (h0 : W.cell? ⟨b, 0, none⟩ = some a0) (h1 : W.cell? ⟨b, 1, none⟩ = some a1) (h2 : W.cell? ⟨b, 2, none⟩ = some a2) (h3 : W.cell? ⟨b, 3, none⟩ = some a3) (x0 x1 x2 x3 : Value) :
    ((((W.setCell ⟨b, 0, none⟩ x0).setCell ⟨b, 1, none⟩ x1).setCell ⟨b, 2, none⟩ x2).setCell ⟨b, 3, none⟩ x3).cell? ⟨b, 0, none⟩ = some x0 ∧ ((((W.setCell ⟨b, 0, none⟩ x0).setCell ⟨b, 1, none⟩ x1).setCell ⟨b, 2, none⟩ x2).setCell ⟨b, 3, none⟩ x3).cell? ⟨b, 1, none⟩ = some x1 ∧ ((((W.setCell ⟨b, 0, none⟩ x0).setCell ⟨b, 1, none⟩ x1).setCell ⟨b, 2, none⟩ x2).setCell ⟨b, 3, none⟩ x3).cell? ⟨b, 2, none⟩ = some x2 ∧ ((((W.setCell ⟨b, 0, none⟩ x0).setCell ⟨b, 1, none⟩ x1).setCell ⟨b, 2, none⟩ x2).setCell ⟨b, 3, none⟩ x3).cell? ⟨b, 3, none⟩ = some x3 := by
  obtain ⟨p0, p1, p2⟩ := put3 h0 h1 h2 x0 x1 x2
  have p3 := put_other (x := x2) (o := 2) (put_other (x := x1) (o := 1) (put_other (x := x0) (o := 0) h3 (by omega)) (by omega)) (by omega)
  exact ⟨put_other p0 (by omega), put_other p1 (by omega), put_other p2 (by omega), put_same p3⟩

set_option maxRecDepth 100000 in
set_option maxHeartbeats 2000000 in
theorem sCell_any (q : Nat) (B : Md.Bk) (n : Nat) (i : Int) (w : World) (h : ShopAt w q B n) (hs : Md.Small B) (h0 : B.live 0 = false) :
    Calls Try.prog 43 #[.pointer (some ⟨q, 0, none⟩), .int .i64 i] w fun e w' => e = .returned (cell2 (Md.askCell B false i)) ∧ Below w.heap.size w w' := by
  have hB := (Below.refl w.heap.size w).alloc (Nat.le_refl _) (.cells #[.int .i64 0, .int .i64 0, .int .i64 0, .int .i64 0] 105)
  have hz : Four0 (w.alloc (.cells #[.int .i64 0, .int .i64 0, .int .i64 0, .int .i64 0] 105)) w.heap.size := ⟨by simp [go_sem], by simp [go_sem], by simp [go_sem], by simp [go_sem], fun o => by simp [go_sem], by simp⟩
  have h1 := h.below hB
  obtain ⟨d, hd, hdl, hu⟩ := h1.up
  have hql := h.bk.lt
  obtain ⟨AA, hAA⟩ : ∃ AA, Md.askCell B false i = AA := ⟨_, rfl⟩
  rw [hAA]
  have HA := hide hAA
  clear hAA h
  go_enter Try.func43, Try.ntmps43
  go_wp2_with fail
  generalize w.alloc (.cells #[.int .i64 0, .int .i64 0, .int .i64 0, .int .i64 0] 105) = V at hB hz h1 hd hdl hu ⊢
  refine hu.mono ?_
  rintro e W ⟨rfl, rfl⟩
  obtain ⟨z0, z1, z2, z3, zf, zl⟩ := hz
  by_cases hi : i < 0 ∨ 7 < i
  · have ha : AA = ((0, 0, 0, 0), 5) := by rw [← HA.out]; unfold Md.askCell; simp only [Bool.false_eq_true, if_false]; rw [if_pos hi]
    have Ha := hide ha
    obtain ⟨p0, p1, p2, p3⟩ := put4 z0 z1 z2 z3 (.int .i64 0) (.int .i64 0) (.int .i64 0) (.int .i64 0)
    have hF := (((hB.setCell (p := ⟨w.heap.size, 0, none⟩) (Nat.le_refl _) (.int .i64 0)).setCell (p := ⟨w.heap.size, 1, none⟩) (Nat.le_refl _) (.int .i64 0)).setCell (p := ⟨w.heap.size, 2, none⟩) (Nat.le_refl _) (.int .i64 0)).setCell (p := ⟨w.heap.size, 3, none⟩) (Nat.le_refl _) (.int .i64 0)
    clear ha h1
    rcases hi with hi | hi
    · go_wp2
      exact bodyPost_ret (v := .tuple #[.agg #[.int .i64 0, .int .i64 0, .int .i64 0, .int .i64 0], .int .i64 5]) (by simp [results, Try.results43, go_sem, p0, p1, p2, p3]) rfl ⟨by rw [Ha.out]; rfl, hF⟩
    · have hi2 : ¬ i < 0 := by omega
      have hi3 : 8 ≤ i := by omega
      go_wp2
      exact bodyPost_ret (v := .tuple #[.agg #[.int .i64 0, .int .i64 0, .int .i64 0, .int .i64 0], .int .i64 5]) (by simp [results, Try.results43, go_sem, p0, p1, p2, p3]) rfl ⟨by rw [Ha.out]; rfl, hF⟩
  · obtain ⟨k, rfl⟩ : ∃ k : Nat, i = k := ⟨i.toNat, by omega⟩
    have hk : k < 8 := by omega
    have ha : AA = ((B.onHand k, Md.held B k, B.committed k, Md.free B k), 0) := by rw [← HA.out]; unfold Md.askCell; simp only [Bool.false_eq_true, if_false]; rw [if_neg hi]; rfl
    have Ha := hide ha
    have hc := pCell_any q B n k k W rfl hk h1.bk hs h0
    unfold cellA at hc
    have k1 : ¬ (k : Int) < 0 := by omega
    have k2 : ¬ (8 : Int) ≤ (k : Int) := by omega
    clear ha hi
    go_wp2_with fail
    refine hc.mono ?_
    rintro e W2 ⟨rfl, hb2⟩
    have hBW : Below w.heap.size w W2 := hB.trans (hb2.mono hB.size)
    replace z0 := (hb2.cell (p := ⟨w.heap.size, 0, none⟩) zl).trans z0
    replace z1 := (hb2.cell (p := ⟨w.heap.size, 1, none⟩) zl).trans z1
    replace z2 := (hb2.cell (p := ⟨w.heap.size, 2, none⟩) zl).trans z2
    replace z3 := (hb2.cell (p := ⟨w.heap.size, 3, none⟩) zl).trans z3
    replace zf := fun o => (hb2.frozen (p := ⟨w.heap.size, o, none⟩) zl).trans (zf o)
    obtain ⟨p0, p1, p2, p3⟩ := put4 z0 z1 z2 z3 (.int .i64 (B.onHand k)) (.int .i64 (Md.held B k)) (.int .i64 (B.committed k)) (.int .i64 (Md.free B k))
    have hF := (((hBW.setCell (p := ⟨w.heap.size, 0, none⟩) (Nat.le_refl _) (.int .i64 (B.onHand k))).setCell (p := ⟨w.heap.size, 1, none⟩) (Nat.le_refl _) (.int .i64 (Md.held B k))).setCell (p := ⟨w.heap.size, 2, none⟩) (Nat.le_refl _) (.int .i64 (B.committed k))).setCell (p := ⟨w.heap.size, 3, none⟩) (Nat.le_refl _) (.int .i64 (Md.free B k))
    clear hc h1 hb2 zl
    go_wp2
    exact bodyPost_ret (v := .tuple #[.agg #[.int .i64 (B.onHand k), .int .i64 (Md.held B k), .int .i64 (B.committed k), .int .i64 (Md.free B k)], .int .i64 0]) (by simp [results, Try.results43, go_sem, p0, p1, p2, p3]) rfl ⟨by rw [Ha.out]; rfl, hF⟩

structure Three0 (W : World) (b : Nat) : Prop where
  c0 : W.cell? ⟨b, 0, none⟩ = some (.int .i64 0)
  c1 : W.cell? ⟨b, 1, none⟩ = some (.int .i64 0)
  c2 : W.cell? ⟨b, 2, none⟩ = some (.int .i64 0)
  fz : ∀ o, W.frozen? ⟨b, o, none⟩ = false
  lt : b < W.heap.size

set_option maxRecDepth 100000 in
set_option maxHeartbeats 2000000 in
theorem pHold_any (p : Nat) (B : Md.Bk) (n h : Nat) (w : World) (hb : PBook w p B n) (hh : h < 51) (hk : B.live h = true → 1 ≤ B.hn h) :
    Calls Try.prog 79 #[.pointer (some ⟨p, 0, none⟩), .int .i64 h] w fun e w' => e = .returned (.tuple #[.agg #[.int .i64 (Md.pc B h), .int .i64 (Md.pn B h), .int .i64 (Md.pt B h)], .bool (B.live h)]) ∧ Below w.heap.size w w' := by
  have hB := (Below.refl w.heap.size w).alloc (Nat.le_refl _) (.cells #[.int .i64 0, .int .i64 0, .int .i64 0] 72)
  have hz : Three0 (w.alloc (.cells #[.int .i64 0, .int .i64 0, .int .i64 0] 72)) w.heap.size := ⟨by simp [go_sem], by simp [go_sem], by simp [go_sem], fun o => by simp [go_sem], by simp⟩
  have hbV := hb.below hB
  have hh' : (h : Int) < 51 := by omega
  clear hb
  have hbd := hbV.drew
  have hlv := pIsLive_any p B n h _ hh hbd hk
  generalize B.live h = L at hlv ⊢
  have y0 := hbd.hc h hh
  have y1 := hbd.hn h hh
  have y2 := hbd.ht h hh
  have yl := hbd.lt
  generalize Md.pc B h = PC at y0 ⊢
  generalize Md.pn B h = PN at y1 ⊢
  generalize Md.pt B h = PT at y2 ⊢
  go_enter Try.func79, Try.ntmps79
  go_wp2_with fail
  generalize w.alloc (.cells #[.int .i64 0, .int .i64 0, .int .i64 0] 72) = V at hB hz hbV hbd hlv y0 y1 y2 yl ⊢
  obtain ⟨z0, z1, z2, zf, zl⟩ := hz
  change V.drew.cell? _ = _ at z0 z1 z2
  change ∀ o, V.drew.frozen? _ = _ at zf
  change _ < V.drew.heap.size at zl
  have hBd : Below w.heap.size w V.drew := hB.drew
  clear hB hbV hbd
  go_region_with (go_at_call 98; refine hlv.mono ?_; rintro e W ⟨rfl, hW⟩; have hb : Below V.drew.heap.size V.drew W := hW ▸ Below.refl _ _; clear hW; have z0 := (hb.cell (p := ⟨w.heap.size, 0, none⟩) zl).trans z0; have z1 := (hb.cell (p := ⟨w.heap.size, 1, none⟩) zl).trans z1; have z2 := (hb.cell (p := ⟨w.heap.size, 2, none⟩) zl).trans z2; have zf := fun o => (hb.frozen (p := ⟨w.heap.size, o, none⟩) zl).trans (zf o); have y0 := (hb.cell (p := ⟨p, 16 + h * 3, none⟩) yl).trans y0; have y1 := (hb.cell (p := ⟨p, 16 + h * 3 + 1, none⟩) yl).trans y1; have y2 := (hb.cell (p := ⟨p, 16 + h * 3 + 2, none⟩) yl).trans y2; have hBd := hBd.trans (hb.mono hBd.size); have zl := Nat.lt_of_lt_of_le zl hb.size; have yl := Nat.lt_of_lt_of_le yl hb.size)
  all_goals
    obtain ⟨p0, p1, p2⟩ := put3 z0 z1 z2 (.int .i64 PC) (.int .i64 PN) (.int .i64 PT)
    have hF := ((hBd.setCell (p := ⟨w.heap.size, 0, none⟩) (Nat.le_refl _) (.int .i64 PC)).setCell (p := ⟨w.heap.size, 1, none⟩) (Nat.le_refl _) (.int .i64 PN)).setCell (p := ⟨w.heap.size, 2, none⟩) (Nat.le_refl _) (.int .i64 PT)
    generalize ((W.setCell ⟨w.heap.size, 0, none⟩ (.int .i64 PC)).setCell ⟨w.heap.size, 1, none⟩ (.int .i64 PN)).setCell ⟨w.heap.size, 2, none⟩ (.int .i64 PT) = F at p0 p1 p2 hF ⊢
    go_wp2
    exact bodyPost_ret (v := .tuple #[.agg #[.int .i64 PC, .int .i64 PN, .int .i64 PT], .bool L]) (by simp [results, Try.results79, go_sem, p0, p1, p2]) rfl ⟨rfl, hF⟩

set_option maxRecDepth 100000 in
set_option maxHeartbeats 2000000 in
theorem sHold_any (q : Nat) (B : Md.Bk) (n : Nat) (h : Int) (w : World) (hs : ShopAt w q B n) (hn : ∀ k, k < 51 → B.live k = true → 1 ≤ B.hn k) :
    Calls Try.prog 45 #[.pointer (some ⟨q, 0, none⟩), .int .i64 h] w fun e w' => e = .returned (hold2 (Md.askHold B false h)) ∧ Below w.heap.size w w' := by
  have hB := (Below.refl w.heap.size w).alloc (Nat.le_refl _) (.cells #[.int .i64 0, .int .i64 0, .int .i64 0] 72)
  have hz : Three0 (w.alloc (.cells #[.int .i64 0, .int .i64 0, .int .i64 0] 72)) w.heap.size := ⟨by simp [go_sem], by simp [go_sem], by simp [go_sem], fun o => by simp [go_sem], by simp⟩
  have h1 := hs.below hB
  obtain ⟨d, hd, hdl, hu⟩ := h1.up
  have hql := hs.bk.lt
  obtain ⟨AA, hAA⟩ : ∃ AA, Md.askHold B false h = AA := ⟨_, rfl⟩
  rw [hAA]
  have HA := hide hAA
  clear hAA hs
  go_enter Try.func45, Try.ntmps45
  go_wp2_with fail
  generalize w.alloc (.cells #[.int .i64 0, .int .i64 0, .int .i64 0] 72) = V at hB hz h1 hd hdl hu ⊢
  refine hu.mono ?_
  rintro e W ⟨rfl, rfl⟩
  obtain ⟨z0, z1, z2, zf, zl⟩ := hz
  by_cases hi : h < 1 ∨ 50 < h
  · have ha : AA = ((0, 0, 0), 5) := by rw [← HA.out]; unfold Md.askHold; simp only [Bool.false_eq_true, if_false]; rw [if_pos hi]
    have Ha := hide ha
    obtain ⟨p0, p1, p2⟩ := put3 z0 z1 z2 (.int .i64 0) (.int .i64 0) (.int .i64 0)
    have hF := ((hB.setCell (p := ⟨w.heap.size, 0, none⟩) (Nat.le_refl _) (.int .i64 0)).setCell (p := ⟨w.heap.size, 1, none⟩) (Nat.le_refl _) (.int .i64 0)).setCell (p := ⟨w.heap.size, 2, none⟩) (Nat.le_refl _) (.int .i64 0)
    clear ha h1
    rcases hi with hi | hi
    · go_wp2
      exact bodyPost_ret (v := .tuple #[.agg #[.int .i64 0, .int .i64 0, .int .i64 0], .int .i64 5]) (by simp [results, Try.results45, go_sem, p0, p1, p2]) rfl ⟨by rw [Ha.out]; rfl, hF⟩
    · have hi2 : ¬ h < 1 := by omega
      go_wp2
      exact bodyPost_ret (v := .tuple #[.agg #[.int .i64 0, .int .i64 0, .int .i64 0], .int .i64 5]) (by simp [results, Try.results45, go_sem, p0, p1, p2]) rfl ⟨by rw [Ha.out]; rfl, hF⟩
  · obtain ⟨k, rfl⟩ : ∃ k : Nat, h = k := ⟨h.toNat, by omega⟩
    have hk : k < 51 := by omega
    have hc := pHold_any q B n k W h1.bk hk (hn k hk)
    have k1 : ¬ (k : Int) < 1 := by omega
    have k2 : ¬ (50 : Int) < (k : Int) := by omega
    have ha : AA = if B.live k then ((B.hc k, B.hn k, B.ht k), 0) else ((0, 0, 0), 6) := by rw [← HA.out]; unfold Md.askHold; simp only [Bool.false_eq_true, if_false]; rw [if_neg hi]; rfl
    cases hl : B.live k with
    | true =>
      rw [hl, if_pos rfl] at ha
      have e1 : Md.pc B k = B.hc k := by unfold Md.pc; rw [hl, if_pos rfl]
      have e2 : Md.pn B k = B.hn k := by unfold Md.pn; rw [hl, if_pos rfl]
      have e3 : Md.pt B k = B.ht k := by unfold Md.pt; rw [hl, if_pos rfl]
      rw [hl, e1, e2, e3] at hc
      have Ha := hide ha
      clear ha hi e1 e2 e3 hl
      go_wp2_with fail
      refine hc.mono ?_
      rintro e W2 ⟨rfl, hb2⟩
      have hBW : Below w.heap.size w W2 := hB.trans (hb2.mono hB.size)
      have zl2 := Nat.lt_of_lt_of_le zl hb2.size
      replace z0 := (hb2.cell (p := ⟨w.heap.size, 0, none⟩) zl).trans z0
      replace z1 := (hb2.cell (p := ⟨w.heap.size, 1, none⟩) zl).trans z1
      replace z2 := (hb2.cell (p := ⟨w.heap.size, 2, none⟩) zl).trans z2
      replace zf := fun o => (hb2.frozen (p := ⟨w.heap.size, o, none⟩) zl).trans (zf o)
      obtain ⟨p0, p1, p2⟩ := put3 z0 z1 z2 (.int .i64 (B.hc k)) (.int .i64 (B.hn k)) (.int .i64 (B.ht k))
      have hF := ((hBW.setCell (p := ⟨w.heap.size, 0, none⟩) (Nat.le_refl _) (.int .i64 (B.hc k))).setCell (p := ⟨w.heap.size, 1, none⟩) (Nat.le_refl _) (.int .i64 (B.hn k))).setCell (p := ⟨w.heap.size, 2, none⟩) (Nat.le_refl _) (.int .i64 (B.ht k))
      have hlF : w.heap.size < (((W2.setCell ⟨w.heap.size, 0, none⟩ (.int .i64 (B.hc k))).setCell ⟨w.heap.size, 1, none⟩ (.int .i64 (B.hn k))).setCell ⟨w.heap.size, 2, none⟩ (.int .i64 (B.ht k))).heap.size := by rw [size_put, size_put, size_put]; exact zl2
      clear hc h1 hb2 zl
      go_wp2
      generalize ((W2.setCell ⟨w.heap.size, 0, none⟩ (.int .i64 (B.hc k))).setCell ⟨w.heap.size, 1, none⟩ (.int .i64 (B.hn k))).setCell ⟨w.heap.size, 2, none⟩ (.int .i64 (B.ht k)) = F at p0 p1 p2 hF hlF ⊢
      exact bodyPost_ret (v := .tuple #[.agg #[.int .i64 (B.hc k), .int .i64 (B.hn k), .int .i64 (B.ht k)], .int .i64 0]) (by simp [results, Try.results45, go_sem, p0, p1, p2, hlF]) rfl ⟨by rw [Ha.out]; rfl, hF.alloc hF.size _⟩
    | false =>
      rw [hl] at ha hc
      simp only [Bool.false_eq_true, if_false] at ha
      have Ha := hide ha
      clear ha hi hl
      generalize Md.pc B k = PC at hc
      generalize Md.pn B k = PN at hc
      generalize Md.pt B k = PT at hc
      go_wp2_with fail
      refine hc.mono ?_
      rintro e W2 ⟨rfl, hb2⟩
      have hBW : Below w.heap.size w W2 := hB.trans (hb2.mono hB.size)
      have zl2 := Nat.lt_of_lt_of_le zl hb2.size
      replace z0 := (hb2.cell (p := ⟨w.heap.size, 0, none⟩) zl).trans z0
      replace z1 := (hb2.cell (p := ⟨w.heap.size, 1, none⟩) zl).trans z1
      replace z2 := (hb2.cell (p := ⟨w.heap.size, 2, none⟩) zl).trans z2
      replace zf := fun o => (hb2.frozen (p := ⟨w.heap.size, o, none⟩) zl).trans (zf o)
      obtain ⟨p0, p1, p2⟩ := put3 z0 z1 z2 (.int .i64 0) (.int .i64 0) (.int .i64 0)
      have hF := ((hBW.setCell (p := ⟨w.heap.size, 0, none⟩) (Nat.le_refl _) (.int .i64 0)).setCell (p := ⟨w.heap.size, 1, none⟩) (Nat.le_refl _) (.int .i64 0)).setCell (p := ⟨w.heap.size, 2, none⟩) (Nat.le_refl _) (.int .i64 0)
      have hlF : w.heap.size < (((W2.setCell ⟨w.heap.size, 0, none⟩ (.int .i64 0)).setCell ⟨w.heap.size, 1, none⟩ (.int .i64 0)).setCell ⟨w.heap.size, 2, none⟩ (.int .i64 0)).heap.size := by rw [size_put, size_put, size_put]; exact zl2
      clear hc h1 hb2 zl
      go_wp2
      generalize ((W2.setCell ⟨w.heap.size, 0, none⟩ (.int .i64 0)).setCell ⟨w.heap.size, 1, none⟩ (.int .i64 0)).setCell ⟨w.heap.size, 2, none⟩ (.int .i64 0) = F at p0 p1 p2 hF hlF ⊢
      exact bodyPost_ret (v := .tuple #[.agg #[.int .i64 0, .int .i64 0, .int .i64 0], .int .i64 6]) (by simp [results, Try.results45, go_sem, p0, p1, p2, hlF]) rfl ⟨by rw [Ha.out]; rfl, hF.alloc hF.size _⟩
end Go.Proofs.Ytidacihlalbohaa
