/- What the document's own change does at a tick. -/
import Derived.Test.YtidacihlalbohaaRefPut
namespace Go.Proofs.Ytidacihlalbohaa
open Go.RowKit

theorem liveTo_zero (B : Md.Bk) (t : Int) : Md.liveTo B t 0 = B.live := by
  funext h; unfold Md.liveTo
  cases B.live h
  · rfl
  · simp; exact .inl (Decidable.em _)
theorem liveTo_next (B : Md.Bk) (t : Int) (j : Nat) : Md.liveTo B t j (j + 1) = B.live (j + 1) := by
  unfold Md.liveTo
  have e : decide (j + 1 ≤ j) = false := by simp
  rw [e]; simp
theorem liveTo_hit (B : Md.Bk) (t : Int) (j : Nat) (h : Md.ends B t (j + 1) = true) : Md.liveTo B t (j + 1) = Md.upd (Md.liveTo B t j) (j + 1) false := by
  funext i
  unfold Md.liveTo Md.upd
  by_cases e : i = j + 1
  · subst e
    rw [if_pos rfl, h]; simp
  · rw [if_neg e]
    have e1 : decide (i ≤ j + 1) = decide (i ≤ j) := by simp; omega
    rw [e1]
theorem liveTo_miss (B : Md.Bk) (t : Int) (j : Nat) (h : Md.ends B t (j + 1) = false) : Md.liveTo B t (j + 1) = Md.liveTo B t j := by
  funext i
  unfold Md.liveTo
  by_cases e : i = j + 1
  · subst e
    rw [h]; simp
  · have e1 : decide (i ≤ j + 1) = decide (i ≤ j) := by simp; omega
    rw [e1]
theorem endedTo_bd (B : Md.Bk) (t : Int) : ∀ j, 0 ≤ Md.endedTo B t j ∧ Md.endedTo B t j ≤ j := by
  intro j
  induction j with
  | zero => simp [Md.endedTo]
  | succ j ih => unfold Md.endedTo; split <;> omega

set_option maxRecDepth 100000 in
set_option maxHeartbeats 2000000 in
theorem change_tick (p : Nat) (B : Md.Bk) (v : Value) (id t : Int) (w : World) (hb : BookAt w p B v) :
    Calls Try.prog 97 #[.pointer (some ⟨p, 0, none⟩), .agg #[.int .i64 id, .int .i64 4, .int .i64 0, .int .i64 0, .int .i64 0, .int .i64 t]] w fun e w' => e = .returned (.int .i64 (Md.endedTo B t 50)) ∧ BookAt w' p (Md.tick B t) v ∧ w.grownBy w' (some p) := by
  have c1 := hb.cl
  have f0 := hb.fz 220
  have hlt := hb.lt
  have Hb := hide hb
  clear hb
  go_enter Try.func97, Try.ntmps97
  go_wp2
  go_loopw [7, 8] (fun n i wr => ∃ j : Nat, j ≤ 50 ∧ i = .int .i64 ((j : Int) + 1) ∧ n = .int .i64 (Md.endedTo B t j) ∧ BookAt wr p { B with clock := t, live := Md.liveTo B t j } v ∧ wr.cell? ⟨w.heap.size, 5, none⟩ = some (.int .i64 t) ∧ w.heap.size < wr.heap.size ∧ w.grownBy wr (some p)) (fun _ i _ => 51 - (intOf i).toNat)
  case atStart =>
    have hx := (box6 (w.setCell ⟨p, 220, none⟩ (.int .i64 t)) (.int .i64 id) (.int .i64 4) (.int .i64 0) (.int .i64 0) (.int .i64 0) (.int .i64 t) 75).2.2.2.2.2
    rw [size_put] at hx
    refine ⟨0, by omega, rfl, rfl, ?_, hx, by rw [World.size_alloc, size_put]; omega, ?_⟩
    · rw [liveTo_zero]
      exact (Hb.out.setClock t).below ((Below.refl _ _).alloc (Nat.le_refl _) _)
    · exact grown_trans (grown_put w p _ _) (grown_below ((Below.refl _ _).alloc (Nat.le_refl _) _))
  case round =>
    obtain ⟨j, hj, rfl, rfl, hbk, hbx, hsz, hg⟩ := hrel
    obtain ⟨d1, d2⟩ := endedTo_bd B t j
    by_cases hlt2 : j < 50
    · have l1 := hbk.li (j + 1) (by omega)
      have h1 := hbk.ht (j + 1) (by omega)
      have fz := hbk.fz (169 + (j + 1))
      have hp2 := hbk.lt
      dsimp only at l1 h1
      rw [liveTo_next] at l1
      have hj' : ((j : Int) + 1) ≤ 50 := by omega
      have Hbk := hide hbk
      clear hbk
      cases hl : B.live (j + 1) with
      | true =>
        rw [hl] at l1
        by_cases ht : B.ht (j + 1) ≤ t
        · have he : Md.ends B t (j + 1) = true := by unfold Md.ends; rw [hl]; simp [ht]
          have hn : Md.endedTo B t (j + 1) = Md.endedTo B t j + 1 := by rw [Md.endedTo, he]; rfl
          have hlv := liveTo_hit B t j he
          have Hn := hide hn
          have Hlv := hide hlv
          clear he hn hlv hl
          go_wp2_with fail
          go_quiet (fail)
          go_wp2
          go_roundw
          case rel =>
            refine ⟨j + 1, by omega, by go_num, by rw [Hn.out], ?_, ?_, ?_, ?_⟩
            · rw [Hlv.out]
              exact (Hbk.out.drewN _).setLive (show j + 1 < 51 by omega) false
            · refine Eq.trans ?_ hbx
              apply World.cell?_setCell_other
              intro e
              have := congrArg Addr.block e
              simp at this
              omega
            · rw [size_put]; exact hsz
            · exact grown_trans (grown_drewN hg _) (grown_put _ p _ _)
          case measure => simp [intOf]; omega
        · have he : Md.ends B t (j + 1) = false := by unfold Md.ends; simp [ht]
          have hn : Md.endedTo B t (j + 1) = Md.endedTo B t j := by rw [Md.endedTo, he]; simp
          have hlv := liveTo_miss B t j he
          have ht' : t < B.ht (j + 1) := by omega
          have Hn := hide hn
          have Hlv := hide hlv
          clear he hn hlv hl
          go_wp2_with fail
          go_quiet (fail)
          go_wp2
          go_roundw
          case rel => exact ⟨j + 1, by omega, by go_num, by rw [Hn.out], by rw [Hlv.out]; exact Hbk.out.drewN _, hbx, hsz, grown_drewN hg _⟩
          case measure => simp [intOf]; omega
      | false =>
        rw [hl] at l1
        have he : Md.ends B t (j + 1) = false := by unfold Md.ends; rw [hl]; rfl
        have hn : Md.endedTo B t (j + 1) = Md.endedTo B t j := by rw [Md.endedTo, he]; simp
        have hlv := liveTo_miss B t j he
        have Hn := hide hn
        have Hlv := hide hlv
        clear he hn hlv hl
        go_wp2_with fail
        go_quiet (fail)
        go_wp2
        go_roundw
        case rel => exact ⟨j + 1, by omega, by go_num, by rw [Hn.out], by rw [Hlv.out]; exact Hbk.out.drewN _, hbx, hsz, grown_drewN hg _⟩
        case measure => simp [intOf]; omega
    · obtain rfl : j = 50 := by omega
      have Hbk := hide hbk
      clear hbk
      go_wp2
      go_ret
      exact ⟨rfl, Hbk.out, hg⟩

/-- What the book must bear for a request to be done in it without any number running over. -/
structure Md.Fit (B : Md.Bk) : Prop where
  small : Md.Small B
  on : ∀ i, i < 8 → B.onHand i ≤ 1000000000
  co : ∀ i, i < 8 → B.committed i ≤ 1000000000
  hn : ∀ h, h < 51 → B.hn h ≤ 1000000
  hc : ∀ h, h < 51 → B.live h = true → 0 ≤ B.hc h ∧ B.hc h ≤ 7

theorem small_receive {B : Md.Bk} (hf : Md.Fit B) {c : Nat} {n : Int} (h1 : 1 ≤ n) (h2 : n ≤ 1000000) : Md.Small (Md.receive B c n) := by
  refine ⟨fun i hi => ?_, hf.small.co, hf.small.hn⟩
  have a := hf.small.on i hi
  have b := hf.on i hi
  show 0 ≤ Md.upd B.onHand c (B.onHand c + n) i ∧ Md.upd B.onHand c (B.onHand c + n) i ≤ 4294967296
  by_cases e : i = c
  · subst e; rw [upd_same]; omega
  · rw [upd_other _ _ _ _ e]; exact a
theorem small_reserve {B : Md.Bk} (hf : Md.Fit B) {c h : Nat} {n t : Int} (h1 : 1 ≤ n) (h2 : n ≤ 1000000) : Md.Small (Md.reserve B c h n t) := by
  refine ⟨hf.small.on, hf.small.co, fun i hi => ?_⟩
  have a := hf.small.hn i hi
  show 0 ≤ Md.upd B.hn h n i ∧ Md.upd B.hn h n i ≤ 4294967296
  by_cases e : i = h
  · subst e; rw [upd_same]; omega
  · rw [upd_other _ _ _ _ e]; exact a

/-- Change, of a request that is one and can be done. -/
theorem change_any (p : Nat) (B : Md.Bk) (v : Value) (r : Md.Req) (w : World) (hg : Md.good r = true) (hcan : Md.can B r = true) (hb : BookAt w p B v) (hf : Md.Fit B) :
    Calls Try.prog 97 #[.pointer (some ⟨p, 0, none⟩), .agg (reqA r)] w fun e w' => e = .returned (.int .i64 (Md.change B r).2) ∧ BookAt w' p (Md.change B r).1 v ∧ w.grownBy w' (some p) := by
  obtain ⟨id, kind, cell, hold, count, time⟩ := r
  simp only [Md.good, Md.cellOk, Md.holdOk, Md.countOk, Md.timeOk, Bool.and_eq_true, decide_eq_true_eq] at hg
  obtain ⟨⟨⟨⟨⟨⟨_, h2⟩, h3⟩, h4⟩, h5⟩, h6⟩, h7⟩ := hg
  unfold reqA Md.change
  unfold Md.can at hcan
  dsimp only at hcan ⊢
  have hk : kind = 0 ∨ kind = 1 ∨ kind = 2 ∨ kind = 3 ∨ kind = 4 := by omega
  rcases hk with rfl | rfl | rfl | rfl | rfl
  · simp [Md.inR] at h2 h3 h4 h5
    obtain ⟨c, rfl⟩ := Int.eq_ofNat_of_zero_le h2.1
    subst h3 h5
    simpa using change_receive p B v id count c w (by omega) h4 hb hf.small (small_receive hf h4.1 h4.2)
  · simp [Md.inR] at h2 h3 h4 h5
    obtain ⟨c, rfl⟩ := Int.eq_ofNat_of_zero_le h2.1
    obtain ⟨h, rfl⟩ := Int.eq_ofNat_of_zero_le (show 0 ≤ hold by omega)
    simpa using change_reserve p B v id count time c h w (by omega) (by omega) hb (small_reserve hf h4.1 h4.2)
  · simp [Md.inR] at h2 h3 h4 h5
    obtain ⟨h, rfl⟩ := Int.eq_ofNat_of_zero_le (show 0 ≤ hold by omega)
    subst h2 h4 h5
    simp at hcan
    have hx := hf.hc h (by omega) hcan
    obtain ⟨c, hc⟩ := Int.eq_ofNat_of_zero_le hx.1
    simpa using change_commit p B v id h c w (by omega) (by omega) hc hb hf.small
  · simp [Md.inR] at h2 h3 h4 h5
    obtain ⟨h, rfl⟩ := Int.eq_ofNat_of_zero_le (show 0 ≤ hold by omega)
    subst h2 h4 h5
    simpa using change_release p B v id h w (by omega) hb
  · simp [Md.inR] at h2 h3 h4 h5
    subst h2 h3 h4
    simpa using change_tick p B v id time w hb

end Go.Proofs.Ytidacihlalbohaa
