/- What the program does at a tick, and what it does for any request. -/
import Derived.Test.YtidacihlalbohaaPDo
namespace Go.Proofs.Ytidacihlalbohaa
open Go.RowKit

set_option maxRecDepth 100000 in
set_option maxHeartbeats 2000000 in
theorem pTick_no (p : Nat) (B : Md.Bk) (n : Nat) (t : Int) (w : World) (hb : PBook w p B n) (hcan : t < B.clock) :
    Calls Try.prog 104 #[.pointer (some ⟨p, 0, none⟩), .int .i64 t] w fun e w' => e = .returned (.agg #[.int .i64 1, .int .i64 0]) ∧ Below w.heap.size w w' := by
  have hB0 := (Below.refl w.heap.size w).alloc (Nat.le_refl _) (.cells #[.int .i64 0, .int .i64 0] 77)
  have hr := Rep2.new w
  have hb0 := hb.below hB0
  have c0 := hb.cl
  have cl := hb.lt
  clear hb
  go_enter Try.func104, Try.ntmps104
  go_wp2_with fail
  generalize w.alloc (.cells #[.int .i64 0, .int .i64 0] 77) = W0 at hB0 hr hb0 ⊢
  refine (pRejected_any W0).mono ?_
  rintro e W1 ⟨rfl, hb1⟩
  obtain ⟨r0, r1, rf, rl⟩ := hr.below hb1
  go_wp2
  have hF := ((hB0.trans (hb1.mono hB0.size)).setCell (p := ⟨w.heap.size, 0, none⟩) (Nat.le_refl _) (.int .i64 1)).setCell (p := ⟨w.heap.size, 1, none⟩) (Nat.le_refl _) (.int .i64 0)
  obtain ⟨f0, f1⟩ := put2 r0 r1 (.int .i64 1) (.int .i64 0)
  generalize (W1.setCell ⟨w.heap.size, 0, none⟩ (.int .i64 1)).setCell ⟨w.heap.size, 1, none⟩ (.int .i64 0) = F at f0 f1 hF ⊢
  exact bodyPost_ret (v := .agg #[.int .i64 1, .int .i64 0]) (by simp [results, Try.results104, go_sem, f0, f1]) rfl ⟨rfl, hF⟩

theorem lv_now (B : Md.Bk) (t : Int) (_h0 : B.live 0 = false) (j : Nat) : Md.liveTo B t (j - 1) j = B.live j := by
  cases j with
  | zero => show Md.liveTo B t 0 0 = _; rw [liveTo_zero]
  | succ k => exact liveTo_next B t k
theorem lv_dead (B : Md.Bk) (t : Int) (j : Nat) (h : B.live j = false) : Md.liveTo B t (j + 1 - 1) = Md.liveTo B t (j - 1) ∧ Md.endedTo B t (j + 1 - 1) = Md.endedTo B t (j - 1) := by
  cases j with
  | zero => exact ⟨rfl, rfl⟩
  | succ k =>
    have he : Md.ends B t (k + 1) = false := by unfold Md.ends; rw [h]; rfl
    refine ⟨liveTo_miss B t k he, ?_⟩
    show Md.endedTo B t (k + 1) = Md.endedTo B t k
    rw [Md.endedTo, he]; simp

set_option maxRecDepth 100000 in
set_option maxHeartbeats 2000000 in
theorem pTick (p : Nat) (B : Md.Bk) (n : Nat) (t : Int) (w : World) (hb : PBook w p B n) (hv : Md.Inv B n) (hcan : B.clock ≤ t) :
    Calls Try.prog 104 #[.pointer (some ⟨p, 0, none⟩), .int .i64 t] w fun e w' => e = .returned (.agg #[.int .i64 0, .int .i64 (Md.endedTo B t 50)]) ∧ PBook w' p (Md.tick B t) n ∧ w.grownBy w' (some p) := by
  have hB0 := (Below.refl w.heap.size w).alloc (Nat.le_refl _) (.cells #[.int .i64 0, .int .i64 0] 77)
  have hr := Rep2.new w
  have hpw := hb.lt
  have hb0 := hb.below hB0
  have c0 := hb.cl
  have cf := hb.fz 169
  have Hb := hide hb
  clear hb
  go_enter Try.func104, Try.ntmps104
  go_wp2_with fail
  have hbX : PBook ((w.setCell ⟨p, 169, none⟩ (.int .i64 t)).alloc (.cells #[.int .i64 0, .int .i64 0] 77)) p { B with clock := t } n := (Hb.out.setClock t).below ((Below.refl _ _).alloc (Nat.le_refl _) _)
  have hrX : Rep2 ((w.setCell ⟨p, 169, none⟩ (.int .i64 t)).alloc (.cells #[.int .i64 0, .int .i64 0] 77)) w.heap.size := by have := Rep2.new (w.setCell ⟨p, 169, none⟩ (.int .i64 t)); rwa [size_put] at this
  have hgX : w.grownBy ((w.setCell ⟨p, 169, none⟩ (.int .i64 t)).alloc (.cells #[.int .i64 0, .int .i64 0] 77)) (some p) := grown_trans (grown_put w p 169 _) (grown_below ((Below.refl _ _).alloc (Nat.le_refl _) _))
  generalize (w.setCell ⟨p, 169, none⟩ (.int .i64 t)).alloc (.cells #[.int .i64 0, .int .i64 0] 77) = X at hbX hrX hgX ⊢
  refine wp_load_mid 73 (.tmp 21) rfl p 16 rfl (holdsL { B with clock := t }) _ hbX.holds Try.underlying73 rfl (by rw [holdsL_len]; kernel_rfl) ?_
  have hix : ∀ (j : Nat) (hj : j < 51) W, (Instr.index 73 (.agg (holdsL { B with clock := t }).toArray) (.int .i64 j)).run Try.prog W = .ok (.agg #[.int .i64 (Md.pc B j), .int .i64 (Md.pn B j), .int .i64 (Md.pt B j)]) W := fun j hj W => run_index_holds { B with clock := t } j hj W
  generalize (holdsL { B with clock := t }).toArray = A at hix ⊢
  have Hix := hide hix
  have HbX := hide hbX
  clear hix hbX
  go_wp2
  go_loopw [5, 23] (fun a h wr => ∃ j : Nat, j ≤ 51 ∧ h = .int .i64 j ∧ a = .int .i64 (Md.endedTo B t (j - 1)) ∧ Hid (PBook wr p { B with clock := t, live := Md.liveTo B t (j - 1) } n) ∧ Rep2 wr w.heap.size ∧ w.grownBy wr (some p)) (fun _ h _ => 51 - (intOf h).toNat)
  case atStart =>
    refine ⟨0, by omega, rfl, rfl, hide ?_, hrX, hgX⟩
    show PBook X p { B with clock := t, live := Md.liveTo B t 0 } n
    rw [liveTo_zero]; exact HbX.out
  case round =>
    clear HbX hrX hgX
    obtain ⟨j, hj, rfl, rfl, hbk, hrr, hgg⟩ := hrel
    obtain ⟨d1, d2⟩ := endedTo_bd B t (j - 1)
    have hpr := hbk.out.lt
    by_cases hlt2 : j < 51
    · have e1 := Hix.out j hlt2
      have hj' : (j : Int) < 51 := by omega
      have hnow := lv_now B t hv.l0 j
      have hbb := hbk.out.below ((Below.refl wr.heap.size wr).alloc (Nat.le_refl _) (.cells #[.int .i64 (Md.pc B j), .int .i64 (Md.pn B j), .int .i64 (Md.pt B j)] 72))
      have hlv := pIsLive_any p _ n j _ hlt2 hbb (fun hl => (hv.lv j hlt2 (by rw [← hnow]; exact hl)).1)
      dsimp only at hlv
      rw [hnow] at hlv
      have hrb := hrr.below ((Below.refl wr.heap.size wr).alloc (Nat.le_refl _) (.cells #[.int .i64 (Md.pc B j), .int .i64 (Md.pn B j), .int .i64 (Md.pt B j)] 72))
      have hgb : w.grownBy (wr.alloc (.cells #[.int .i64 (Md.pc B j), .int .i64 (Md.pn B j), .int .i64 (Md.pt B j)] 72)) (some p) := grown_trans hgg (grown_below ((Below.refl _ _).alloc (Nat.le_refl _) _))
      have x2 : (wr.alloc (.cells #[.int .i64 (Md.pc B j), .int .i64 (Md.pn B j), .int .i64 (Md.pt B j)] 72)).cell? ⟨wr.heap.size, 2, none⟩ = some (.int .i64 (Md.pt B j)) := by simp [go_sem]
      have Hlv := hide hlv
      clear hlv hnow
      go_wp2_with fail
      generalize wr.alloc (.cells #[.int .i64 (Md.pc B j), .int .i64 (Md.pn B j), .int .i64 (Md.pt B j)] 72) = V at hbb hrb hgb x2 Hlv ⊢
      refine Hlv.out.mono ?_
      rintro e W ⟨rfl, hW⟩
      rw [hW]
      clear hW Hlv hbk hrr hgg e1
      cases hl : B.live j with
      | false =>
        obtain ⟨q1, q2⟩ := lv_dead B t j hl
        have Q1 := hide q1
        have Q2 := hide q2
        have Hbb := hide hbb
        clear q1 q2 hbb hl
        go_wp2
        go_roundw
        case rel => exact ⟨j + 1, by omega, by go_num, by rw [Q2.out], hide (by rw [Q1.out]; exact Hbb.out), hrb, hgb⟩
        case measure => simp [intOf]; omega
      | true =>
        have hj0 : j ≠ 0 := fun e => by subst e; rw [hv.l0] at hl; cases hl
        obtain ⟨k, rfl⟩ : ∃ k, j = k + 1 := ⟨j - 1, by omega⟩
        have hpt : Md.pt B (k + 1) = B.ht (k + 1) := by unfold Md.pt; rw [hl]; rfl
        rw [hpt] at x2
        simp only [Nat.add_sub_cancel] at hbb d1 d2 ⊢
        cases hti : decide (B.ht (k + 1) ≤ t) with
        | true =>
          have he : Md.ends B t (k + 1) = true := by unfold Md.ends; rw [hl, hti]; rfl
          have hn : Md.endedTo B t (k + 1) = Md.endedTo B t k + 1 := by rw [Md.endedTo, he]; rfl
          have hlv := liveTo_hit B t k he
          have c0 := hbb.hc (k + 1) hlt2
          have c1 := hbb.hn (k + 1) hlt2
          have c2 := hbb.ht (k + 1) hlt2
          have cf := hbb.fz
          have cl := hbb.lt
          have Hn := hide hn
          have Hlv2 := hide hlv
          have Hbb := hide hbb
          clear hn hlv he hbb hl hpt
          go_wp2
          go_roundw
          case rel =>
            refine ⟨k + 1 + 1, by omega, by go_num, by simp only [Nat.add_sub_cancel]; rw [Hn.out], hide ?_, ?_, ?_⟩
            · simp only [Nat.add_sub_cancel]
              rw [Hlv2.out]
              exact Hbb.out.drop hlt2
            · exact ((hrb.put (q := p) (show w.heap.size ≠ p by omega)).put (q := p) (show w.heap.size ≠ p by omega)).put (q := p) (show w.heap.size ≠ p by omega)
            · exact grown_trans hgb (grown_trans (grown_put V p _ _) (grown_trans (grown_put _ p _ _) (grown_put _ p _ _)))
          case measure => simp [intOf]; omega
        | false =>
          have he : Md.ends B t (k + 1) = false := by unfold Md.ends; rw [hti]; simp
          have hn : Md.endedTo B t (k + 1) = Md.endedTo B t k := by rw [Md.endedTo, he]; simp
          have hlv := liveTo_miss B t k he
          have Hn := hide hn
          have Hlv2 := hide hlv
          have Hbb := hide hbb
          clear hn hlv he hbb hl hpt
          go_wp2
          go_roundw
          case rel => exact ⟨k + 1 + 1, by omega, by go_num, by simp only [Nat.add_sub_cancel]; rw [Hn.out], hide (by simp only [Nat.add_sub_cancel]; rw [Hlv2.out]; exact Hbb.out), hrb, hgb⟩
          case measure => simp [intOf]; omega
    · obtain rfl : j = 51 := by omega
      simp only [Nat.add_one_sub_one] at hbk d1 d2 ⊢
      go_wp2_with fail
      refine (pDone_any _ wr).mono ?_
      rintro e W2 ⟨rfl, hb2⟩
      obtain ⟨r0, r1, rf, rl⟩ := hrr.below hb2
      have Hb2 := hide (hbk.out.below hb2)
      have hg2 := grown_trans hgg (grown_below hb2)
      clear hbk hb2
      go_wp2
      have hE := rep_close hg2 Hb2.out ⟨r0, r1, rf, rl⟩ hpw (.int .i64 0) (.int .i64 (Md.endedTo B t 50))
      generalize (W2.setCell ⟨w.heap.size, 0, none⟩ (.int .i64 0)).setCell ⟨w.heap.size, 1, none⟩ (.int .i64 (Md.endedTo B t 50)) = F at hE ⊢
      obtain ⟨e1, e2, e3, e4, e5⟩ := hE
      exact bodyPost_ret (v := .agg #[.int .i64 0, .int .i64 (Md.endedTo B t 50)]) (by simp [results, Try.results104, go_sem, e3, e4]) rfl ⟨rfl, e1, e2⟩
end Go.Proofs.Ytidacihlalbohaa
