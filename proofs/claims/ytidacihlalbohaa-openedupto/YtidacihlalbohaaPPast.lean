/- Keep, remember and recall. -/
import Derived.Test.YtidacihlalbohaaPForget
namespace Go.Proofs.Ytidacihlalbohaa
open Go.RowKit

set_option maxRecDepth 100000 in
set_option maxHeartbeats 2000000 in
theorem pKeep_any (p : Nat) (B : Md.Bk) (n m : Nat) (w : World) (hb : PBook w p B n) (hL : B.past.length ≤ 20) (hm : 1 ≤ m) (hm2 : m ≤ 20) :
    Calls Try.prog 32 #[.pointer (some ⟨p, 0, none⟩), .int .i64 m] w fun e w' => e = .returned (.tuple #[]) ∧ PBook w' p { B with past := B.past.drop (B.past.length - m) } m ∧ w.grownBy w' (some p) := by
  obtain ⟨L, hLe⟩ : ∃ L, B.past.length = L := ⟨_, rfl⟩
  have hb1 := hb.setWin m
  have re := hb1.re
  have wi := hb.wi
  have fz := hb.fz
  have hlt := hb.lt
  have hg1 := grown_put w p 171 (.int .i64 m)
  have hfo := pForget_any p B m (L - m) _ hb1 (by omega) hL (by omega)
  rw [hLe] at re hL ⊢
  have hmx : max 0 ((L : Int) - (m : Int)) = ((L - m : Nat) : Int) := by omega
  have Hb1 := hide hb1
  clear hb1 hb
  go_enter Try.func32, Try.ntmps32
  have hfo2 : ∀ v : Int, v = ((L - m : Nat) : Int) → Calls Try.prog 58 #[.pointer (some ⟨p, 0, none⟩), .int .i64 v] (w.setCell ⟨p, 171, none⟩ (.int .i64 m)) fun e w' => e = .returned (.tuple #[]) ∧ PBook w' p { B with past := B.past.drop (L - m) } m ∧ (w.setCell ⟨p, 171, none⟩ (.int .i64 m)).grownBy w' (some p) := fun v hv => by rw [hv]; exact hfo
  have Hfo := hide hfo2
  clear hfo hfo2
  go_wp2_with fail
  all_goals
    refine (Hfo.out _ (by omega)).mono ?_
    rintro e W1 ⟨rfl, hb2, hg2⟩
    have Hb2 := hide hb2
    clear hb2
    go_wp2
    exact bodyPost_end (v := .tuple #[]) (by simp [results, Try.results32, go_sem]) rfl ⟨rfl, Hb2.out, grown_trans hg1 hg2⟩

theorem cells8 (W : World) (p o : Nat) (a0 a1 a2 a3 a4 a5 a6 a7 : Value) :
    (((((((W.setCell ⟨p, o, none⟩ a0).setCell ⟨p, o + 1, none⟩ a1).setCell ⟨p, o + 2, none⟩ a2).setCell ⟨p, o + 3, none⟩ a3).setCell ⟨p, o + 4, none⟩ a4).setCell ⟨p, o + 5, none⟩ a5).setCell ⟨p, o + 6, none⟩ a6).setCell ⟨p, o + 7, none⟩ a7 = W.setCells p o [a0, a1, a2, a3, a4, a5, a6, a7] := by
  simp only [World.setCells, Nat.add_assoc, Nat.reduceAdd]

/-- One more is remembered: its eight cells and the count are written. -/
theorem PBook.more {X : World} {p : Nat} {B : Md.Bk} {n : Nat} (h : PBook X p B n) (x : Md.Past) (L : Nat) (hLe : B.past.length = L) (hL : L < 20) :
    PBook ((X.setCells p (172 + L * 8) (pastC x)).setCell ⟨p, 332, none⟩ (.int .i64 ((L : Int) + 1))) p { B with past := B.past ++ [x] } n := by
  have hl8 : (pastC x).length = 8 := rfl
  have hso : ∀ j, j < (pastC x).length → (X.cell? ⟨p, 172 + L * 8 + j, none⟩).isSome = true := fun j hj => by
    have := h.paSome (L * 8 + j) (by omega)
    rwa [← Nat.add_assoc] at this
  have hout : ∀ o, o < 172 + L * 8 ∨ 172 + L * 8 + 8 ≤ o → (X.setCells p (172 + L * 8) (pastC x)).cell? ⟨p, o, none⟩ = X.cell? ⟨p, o, none⟩ := fun o ho => World.cell?_setCells_out p (pastC x) _ X ⟨p, o, none⟩ (fun _ _ => by show o < _ ∨ _ ≤ o; rw [hl8]; exact ho)
  have hput : ∀ o, o ≠ 332 → ((X.setCells p (172 + L * 8) (pastC x)).setCell ⟨p, 332, none⟩ (.int .i64 ((L : Int) + 1))).cell? ⟨p, o, none⟩ = (X.setCells p (172 + L * 8) (pastC x)).cell? ⟨p, o, none⟩ := fun o ho => World.cell?_setCell_other _ _ _ _ (fun e => by cases e; exact ho rfl)
  refine h.repast (B.past ++ [x]) (by rw [List.length_append, hLe]; simp; omega) (fun o ho => ?_) (fun j v hv => ?_) (fun j h1 h2 => ?_) ?_ (fun o => (World.frozen?_setCell _ _ _ _).trans (World.frozen?_setCells p _ _ X _)) (by rw [size_put, size_setCells]; exact Nat.le_refl _)
  · rw [hput _ (by omega), hout _ (by omega)]
  · have hj : j < (L + 1) * 8 := by
      have := (List.getElem?_eq_some_iff.1 hv).1
      rw [pastsC_len, List.length_append, hLe] at this; simpa using this
    rw [hput _ (by omega)]
    rw [pastsC_snoc] at hv
    by_cases hjl : j < L * 8
    · rw [hout _ (by omega)]
      rw [List.getElem?_append_left (by rw [pastsC_len, hLe]; exact hjl)] at hv
      have e := pastsC_at B.past (j / 8) (j % 8) (by omega) (Nat.mod_lt _ (by omega))
      rw [show j / 8 * 8 + j % 8 = j by omega] at e
      have := h.paAt (j / 8) _ (List.getElem?_eq_getElem (by omega)) (by omega) (j % 8) v (e.symm.trans hv)
      rwa [show 172 + j / 8 * 8 + j % 8 = 172 + j by omega] at this
    · rw [List.getElem?_append_right (by rw [pastsC_len, hLe]; omega), pastsC_len, hLe] at hv
      obtain ⟨g1, g2⟩ := List.getElem?_eq_some_iff.1 hv
      have := World.cell?_setCells_in p (pastC x) (172 + L * 8) X hso (j - L * 8) g1
      rw [show 172 + L * 8 + (j - L * 8) = 172 + j by omega] at this
      rw [this, g2]
  · rw [List.length_append, hLe] at h1
    simp only [List.length_singleton] at h1
    rw [hput _ (by omega), hout _ (by omega)]
    have := h.pa (j / 8) (by omega) (j % 8) (Nat.mod_lt _ (by omega))
    rw [show 172 + j / 8 * 8 + j % 8 = 172 + j by omega] at this
    rw [this, List.getElem?_eq_none (by omega)]
    show some ((List.replicate 8 (Value.int .i64 0)).getD (j % 8) (.int .i64 0)) = _
    rw [List.getD_eq_getElem?_getD, List.getElem?_replicate, if_pos (Nat.mod_lt _ (by omega))]; rfl
  · have e1 : (X.setCells p (172 + L * 8) (pastC x)).cell? ⟨p, 332, none⟩ = some (.int .i64 L) := by rw [hout _ (by omega), h.re, hLe]
    rw [put_same e1, List.length_append, hLe]; rfl

set_option maxRecDepth 100000 in
set_option maxHeartbeats 8000000 in
theorem pRemember_any (p : Nat) (B : Md.Bk) (n : Nat) (x : Md.Past) (w : World) (hb : PBook w p B n) (hw : 1 ≤ n ∧ n ≤ 20) (hL : B.past.length ≤ n) :
    Calls Try.prog 92 #[.pointer (some ⟨p, 0, none⟩), .agg (pastC x).toArray] w fun e w' => e = .returned (.tuple #[]) ∧ PBook w' p { B with past := (B.past ++ [x]).drop ((B.past ++ [x]).length - n) } n ∧ w.grownBy w' (some p) := by
  have hlt := hb.lt
  have hbV := hb.below ((Below.refl w.heap.size w).alloc (Nat.le_refl _) (.cells #[.int .i64 x.req.id, .int .i64 x.req.kind, .int .i64 x.req.cell, .int .i64 x.req.hold, .int .i64 x.req.count, .int .i64 x.req.time, .int .i64 x.rep.code, .int .i64 x.rep.count] 79))
  have hcx := cells_new w (pastC x).toArray (pastC x) 79 rfl
  have hgV : w.grownBy (w.alloc (.cells #[.int .i64 x.req.id, .int .i64 x.req.kind, .int .i64 x.req.cell, .int .i64 x.req.hold, .int .i64 x.req.count, .int .i64 x.req.time, .int .i64 x.rep.code, .int .i64 x.rep.count] 79)) (some p) := grown_below ((Below.refl w.heap.size w).alloc (Nat.le_refl _) (.cells #[.int .i64 x.req.id, .int .i64 x.req.kind, .int .i64 x.req.cell, .int .i64 x.req.hold, .int .i64 x.req.count, .int .i64 x.req.time, .int .i64 x.rep.code, .int .i64 x.rep.count] 79))
  have hzV : w.heap.size < (w.alloc (.cells #[.int .i64 x.req.id, .int .i64 x.req.kind, .int .i64 x.req.cell, .int .i64 x.req.hold, .int .i64 x.req.count, .int .i64 x.req.time, .int .i64 x.rep.code, .int .i64 x.rep.count] 79)).heap.size := by simp
  change ∀ j u, (pastC x)[j]? = some u → (w.alloc (.cells #[.int .i64 x.req.id, .int .i64 x.req.kind, .int .i64 x.req.cell, .int .i64 x.req.hold, .int .i64 x.req.count, .int .i64 x.req.time, .int .i64 x.rep.code, .int .i64 x.rep.count] 79)).cell? _ = some u at hcx
  obtain ⟨L, hLe⟩ : ∃ L, B.past.length = L := ⟨_, rfl⟩
  rw [hLe] at hL
  obtain ⟨hw1, hw2⟩ := hw
  unfold pastC
  go_enter Try.func92, Try.ntmps92
  go_wp2_with fail
  generalize w.alloc (.cells #[.int .i64 x.req.id, .int .i64 x.req.kind, .int .i64 x.req.cell, .int .i64 x.req.hold, .int .i64 x.req.count, .int .i64 x.req.time, .int .i64 x.rep.code, .int .i64 x.rep.count] 79) = V at hbV hcx hgV hzV ⊢
  have re0 := hbV.re
  have wi0 := hbV.wi
  have hpV := hbV.lt
  rw [hLe] at re0
  have HbV := hide hbV
  have Hcx := hide hcx
  clear hbV hcx hb
  by_cases hfull : L = n
  · have heq : ((L : Int) == (n : Int)) = true := by simp; omega
    have hfo := fun d => pForget_any p B n 1 (V.drewN d) (HbV.out.drewN d) (by omega) (by omega) (by omega)
    have Hfo := hide hfo
    clear hfo
    go_quiet (fail)
    go_wp2_with fail
    refine (Hfo.out nq).mono ?_
    rintro e X ⟨rfl, hb1, hg1⟩
    have Hbk := hide hb1
    have hblk := hg1.block w.heap.size hzV (fun e => by cases e; omega)
    have hbox : ∀ j u, (pastC x)[j]? = some u → X.cell? ⟨w.heap.size, j, none⟩ = some u := fun j u h => by
      have := Hcx.out j u h
      rw [add_plain, Nat.zero_add] at this
      exact (World.cell?_of_block (a := ⟨w.heap.size, j, none⟩) hblk).trans this
    have hgX := grown_trans (grown_drewN hgV nq) hg1
    have hzX : w.heap.size < X.heap.size := Nat.lt_of_lt_of_le hzV hg1.size
    obtain ⟨K, hK⟩ : ∃ K, K = L - 1 := ⟨_, rfl⟩
    have hLe1 : (B.past.drop 1).length = K := by rw [List.length_drop, hLe, hK]
    have hL20 : K < 20 := by omega
    have hL20' : (K : Int) < 20 := by omega
    have HK := hide hK
    have Hfull := hide hfull
    clear hK hfull heq re0 wi0 HbV Hcx hgV hb1 hg1 Hfo hblk
    have g0 : X.cell? ⟨w.heap.size, 0, none⟩ = some (.int .i64 x.req.id) := hbox 0 _ rfl
    have g1 : X.cell? ⟨w.heap.size, 1, none⟩ = some (.int .i64 x.req.kind) := hbox 1 _ rfl
    have g2 : X.cell? ⟨w.heap.size, 2, none⟩ = some (.int .i64 x.req.cell) := hbox 2 _ rfl
    have g3 : X.cell? ⟨w.heap.size, 3, none⟩ = some (.int .i64 x.req.hold) := hbox 3 _ rfl
    have g4 : X.cell? ⟨w.heap.size, 4, none⟩ = some (.int .i64 x.req.count) := hbox 4 _ rfl
    have g5 : X.cell? ⟨w.heap.size, 5, none⟩ = some (.int .i64 x.req.time) := hbox 5 _ rfl
    have g6 : X.cell? ⟨w.heap.size, 6, none⟩ = some (.int .i64 x.rep.code) := hbox 6 _ rfl
    have g7 : X.cell? ⟨w.heap.size, 7, none⟩ = some (.int .i64 x.rep.count) := hbox 7 _ rfl
    have hpl := Hbk.out.lt
    have re := Hbk.out.re
    have fz := Hbk.out.fz
    rw [hLe1] at re
    obtain ⟨p0v, p0⟩ := Option.isSome_iff_exists.1 (Hbk.out.paSome (K * 8 + 0) (by omega))
    replace p0 : X.cell? ⟨p, 172 + K * 8, none⟩ = some p0v := p0
    obtain ⟨p1v, p1⟩ := Option.isSome_iff_exists.1 (Hbk.out.paSome (K * 8 + 1) (by omega))
    replace p1 : X.cell? ⟨p, 172 + K * 8 + 1, none⟩ = some p1v := p1
    obtain ⟨p2v, p2⟩ := Option.isSome_iff_exists.1 (Hbk.out.paSome (K * 8 + 2) (by omega))
    replace p2 : X.cell? ⟨p, 172 + K * 8 + 2, none⟩ = some p2v := p2
    obtain ⟨p3v, p3⟩ := Option.isSome_iff_exists.1 (Hbk.out.paSome (K * 8 + 3) (by omega))
    replace p3 : X.cell? ⟨p, 172 + K * 8 + 3, none⟩ = some p3v := p3
    obtain ⟨p4v, p4⟩ := Option.isSome_iff_exists.1 (Hbk.out.paSome (K * 8 + 4) (by omega))
    replace p4 : X.cell? ⟨p, 172 + K * 8 + 4, none⟩ = some p4v := p4
    obtain ⟨p5v, p5⟩ := Option.isSome_iff_exists.1 (Hbk.out.paSome (K * 8 + 5) (by omega))
    replace p5 : X.cell? ⟨p, 172 + K * 8 + 5, none⟩ = some p5v := p5
    obtain ⟨p6v, p6⟩ := Option.isSome_iff_exists.1 (Hbk.out.paSome (K * 8 + 6) (by omega))
    replace p6 : X.cell? ⟨p, 172 + K * 8 + 6, none⟩ = some p6v := p6
    obtain ⟨p7v, p7⟩ := Option.isSome_iff_exists.1 (Hbk.out.paSome (K * 8 + 7) (by omega))
    replace p7 : X.cell? ⟨p, 172 + K * 8 + 7, none⟩ = some p7v := p7
    have hEq : (((((((X.setCell ⟨p, 172 + K * 8, none⟩ (.int .i64 x.req.id)).setCell ⟨p, 172 + K * 8 + 1, none⟩ (.int .i64 x.req.kind)).setCell ⟨p, 172 + K * 8 + 2, none⟩ (.int .i64 x.req.cell)).setCell ⟨p, 172 + K * 8 + 3, none⟩ (.int .i64 x.req.hold)).setCell ⟨p, 172 + K * 8 + 4, none⟩ (.int .i64 x.req.count)).setCell ⟨p, 172 + K * 8 + 5, none⟩ (.int .i64 x.req.time)).setCell ⟨p, 172 + K * 8 + 6, none⟩ (.int .i64 x.rep.code)).setCell ⟨p, 172 + K * 8 + 7, none⟩ (.int .i64 x.rep.count) = X.setCells p (172 + K * 8) (pastC x) := cells8 X p (172 + K * 8) _ _ _ _ _ _ _ _
    have HbM := hide (Hbk.out.more x K hLe1 hL20)
    have hgM : w.grownBy (X.setCells p (172 + K * 8) (pastC x)) (some p) := grown_trans hgX (grown_setCells p _ _ _)
    have y332 : (X.setCells p (172 + K * 8) (pastC x)).cell? ⟨p, 332, none⟩ = some (.int .i64 K) := (World.cell?_setCells_out p (pastC x) _ X ⟨p, 332, none⟩ (fun _ _ => .inr (by show 172 + K * 8 + 8 ≤ 332; omega))).trans re
    have yfz : ∀ o, (X.setCells p (172 + K * 8) (pastC x)).frozen? ⟨p, o, none⟩ = false := fun o => (World.frozen?_setCells p (pastC x) _ X _).trans (fz o)
    have yl : p < (X.setCells p (172 + K * 8) (pastC x)).heap.size := by rw [size_setCells]; exact hpl
    have HEq := hide hEq
    have Hy3 := hide y332
    have Hyf := hide yfz
    have Hyl := hide yl
    have HgM := hide hgM
    clear hEq y332 yfz yl hgM
    go_wp2_with fail
    go_region
    have y332 := Hy3.out
    have yfz := Hyf.out
    have yl := Hyl.out
    have hgM := HgM.out
    clear Hy3 Hyf Hyl HgM
    rw [HEq.out]
    clear HEq
    clear g0 g1 g2 g3 g4 g5 g6 g7 p0 p1 p2 p3 p4 p5 p6 p7
    generalize X.setCells p (172 + K * 8) (pastC x) = Y at HbM hgM y332 yfz yl ⊢
    go_wp2
    refine bodyPost_end (v := .tuple #[]) (by simp [results, Try.results92, go_sem]) rfl ⟨rfl, ?_, ?_⟩
    · have hpe : (B.past ++ [x]).drop ((B.past ++ [x]).length - n) = B.past.drop 1 ++ [x] := by
          have h9 := Hfull.out
          rw [List.length_append, hLe, show L + [x].length - n = 1 by simp; omega, List.drop_append_of_le_length (by omega)]
      rw [hpe]
      exact HbM.out.drew
    · exact grown_drew (grown_trans hgM (grown_put Y p 332 _))
  · have hne : ¬ (L : Int) = (n : Int) := by omega
    go_quiet (fail)
    go_wp2_with fail
    have Hbk := hide (HbV.out.drewN nq)
    have hbox : ∀ j u, (pastC x)[j]? = some u → (V.drewN nq).cell? ⟨w.heap.size, j, none⟩ = some u := fun j u h => by have := Hcx.out j u h; rw [add_plain, Nat.zero_add] at this; exact this
    have hgX := grown_drewN hgV nq
    have hzX : w.heap.size < (V.drewN nq).heap.size := hzV
    generalize V.drewN nq = X at Hbk hbox hgX hzX ⊢
    clear re0 wi0 HbV Hcx hgV
    have hL20 : L < 20 := by omega
    have hL20' : (L : Int) < 20 := by omega
    have g0 : X.cell? ⟨w.heap.size, 0, none⟩ = some (.int .i64 x.req.id) := hbox 0 _ rfl
    have g1 : X.cell? ⟨w.heap.size, 1, none⟩ = some (.int .i64 x.req.kind) := hbox 1 _ rfl
    have g2 : X.cell? ⟨w.heap.size, 2, none⟩ = some (.int .i64 x.req.cell) := hbox 2 _ rfl
    have g3 : X.cell? ⟨w.heap.size, 3, none⟩ = some (.int .i64 x.req.hold) := hbox 3 _ rfl
    have g4 : X.cell? ⟨w.heap.size, 4, none⟩ = some (.int .i64 x.req.count) := hbox 4 _ rfl
    have g5 : X.cell? ⟨w.heap.size, 5, none⟩ = some (.int .i64 x.req.time) := hbox 5 _ rfl
    have g6 : X.cell? ⟨w.heap.size, 6, none⟩ = some (.int .i64 x.rep.code) := hbox 6 _ rfl
    have g7 : X.cell? ⟨w.heap.size, 7, none⟩ = some (.int .i64 x.rep.count) := hbox 7 _ rfl
    have hpl := Hbk.out.lt
    have re := Hbk.out.re
    have fz := Hbk.out.fz
    rw [hLe] at re
    obtain ⟨p0v, p0⟩ := Option.isSome_iff_exists.1 (Hbk.out.paSome (L * 8 + 0) (by omega))
    replace p0 : X.cell? ⟨p, 172 + L * 8, none⟩ = some p0v := p0
    obtain ⟨p1v, p1⟩ := Option.isSome_iff_exists.1 (Hbk.out.paSome (L * 8 + 1) (by omega))
    replace p1 : X.cell? ⟨p, 172 + L * 8 + 1, none⟩ = some p1v := p1
    obtain ⟨p2v, p2⟩ := Option.isSome_iff_exists.1 (Hbk.out.paSome (L * 8 + 2) (by omega))
    replace p2 : X.cell? ⟨p, 172 + L * 8 + 2, none⟩ = some p2v := p2
    obtain ⟨p3v, p3⟩ := Option.isSome_iff_exists.1 (Hbk.out.paSome (L * 8 + 3) (by omega))
    replace p3 : X.cell? ⟨p, 172 + L * 8 + 3, none⟩ = some p3v := p3
    obtain ⟨p4v, p4⟩ := Option.isSome_iff_exists.1 (Hbk.out.paSome (L * 8 + 4) (by omega))
    replace p4 : X.cell? ⟨p, 172 + L * 8 + 4, none⟩ = some p4v := p4
    obtain ⟨p5v, p5⟩ := Option.isSome_iff_exists.1 (Hbk.out.paSome (L * 8 + 5) (by omega))
    replace p5 : X.cell? ⟨p, 172 + L * 8 + 5, none⟩ = some p5v := p5
    obtain ⟨p6v, p6⟩ := Option.isSome_iff_exists.1 (Hbk.out.paSome (L * 8 + 6) (by omega))
    replace p6 : X.cell? ⟨p, 172 + L * 8 + 6, none⟩ = some p6v := p6
    obtain ⟨p7v, p7⟩ := Option.isSome_iff_exists.1 (Hbk.out.paSome (L * 8 + 7) (by omega))
    replace p7 : X.cell? ⟨p, 172 + L * 8 + 7, none⟩ = some p7v := p7
    have hEq : (((((((X.setCell ⟨p, 172 + L * 8, none⟩ (.int .i64 x.req.id)).setCell ⟨p, 172 + L * 8 + 1, none⟩ (.int .i64 x.req.kind)).setCell ⟨p, 172 + L * 8 + 2, none⟩ (.int .i64 x.req.cell)).setCell ⟨p, 172 + L * 8 + 3, none⟩ (.int .i64 x.req.hold)).setCell ⟨p, 172 + L * 8 + 4, none⟩ (.int .i64 x.req.count)).setCell ⟨p, 172 + L * 8 + 5, none⟩ (.int .i64 x.req.time)).setCell ⟨p, 172 + L * 8 + 6, none⟩ (.int .i64 x.rep.code)).setCell ⟨p, 172 + L * 8 + 7, none⟩ (.int .i64 x.rep.count) = X.setCells p (172 + L * 8) (pastC x) := cells8 X p (172 + L * 8) _ _ _ _ _ _ _ _
    have HbM := hide (Hbk.out.more x L hLe hL20)
    have hgM : w.grownBy (X.setCells p (172 + L * 8) (pastC x)) (some p) := grown_trans hgX (grown_setCells p _ _ _)
    have y332 : (X.setCells p (172 + L * 8) (pastC x)).cell? ⟨p, 332, none⟩ = some (.int .i64 L) := (World.cell?_setCells_out p (pastC x) _ X ⟨p, 332, none⟩ (fun _ _ => .inr (by show 172 + L * 8 + 8 ≤ 332; omega))).trans re
    have yfz : ∀ o, (X.setCells p (172 + L * 8) (pastC x)).frozen? ⟨p, o, none⟩ = false := fun o => (World.frozen?_setCells p (pastC x) _ X _).trans (fz o)
    have yl : p < (X.setCells p (172 + L * 8) (pastC x)).heap.size := by rw [size_setCells]; exact hpl
    have HEq := hide hEq
    have Hy3 := hide y332
    have Hyf := hide yfz
    have Hyl := hide yl
    have HgM := hide hgM
    clear hEq y332 yfz yl hgM
    go_region
    have y332 := Hy3.out
    have yfz := Hyf.out
    have yl := Hyl.out
    have hgM := HgM.out
    clear Hy3 Hyf Hyl HgM
    rw [HEq.out]
    clear HEq
    clear g0 g1 g2 g3 g4 g5 g6 g7 p0 p1 p2 p3 p4 p5 p6 p7
    generalize X.setCells p (172 + L * 8) (pastC x) = Y at HbM hgM y332 yfz yl ⊢
    go_wp2
    refine bodyPost_end (v := .tuple #[]) (by simp [results, Try.results92, go_sem]) rfl ⟨rfl, ?_, ?_⟩
    · have hpe : (B.past ++ [x]).drop ((B.past ++ [x]).length - n) = B.past ++ [x] := by
          rw [List.length_append, hLe, show L + [x].length - n = 0 by simp; omega]; rfl
      rw [hpe]
      exact HbM.out.drew
    · exact grown_drew (grown_trans hgM (grown_put Y p 332 _))
end Go.Proofs.Ytidacihlalbohaa
