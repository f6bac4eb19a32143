/- Scan, walked: the payloads of the frames at a text's beginning, in new memory, and the place behind them. -/
import Derived.Test.YtidacihlalbohaaScan
namespace Go.Proofs.Ytidacihlalbohaa
open Go.RowKit Go.Shelf
attribute [local go_sem] Oper.semAt_some

set_option maxRecDepth 100000 in
set_option maxHeartbeats 2000000 in
theorem Scan_any (t : ByteArray) (w : World) (hm : t.size ≤ 4611686018427387904) (hal : (Fr.all t.data.toList).length ≤ 8796093022208) :
    Calls Try.prog 12 #[.string t] w fun e W' => ∃ v, e = .returned (.tuple #[v, .int .i64 (Fr.behind (Fr.all t.data.toList))]) ∧
      W'.ownsRow w.heap.size 9 1 v (Fr.all t.data.toList).length ((Fr.all t.data.toList).map pv) ∧ (v = .slice none 0 0 ↔ Fr.all t.data.toList = []) ∧ Below w.heap.size w W' := by
  refine (callsIn_wide (n := 9)).1 ?_
  obtain ⟨i0, hi, hz0, hz1, hz2⟩ := info_parts info9
  have hmx : Try.prog.follows .mixedOrders = true := by kernel_rfl
  refine callsIn_of_wp_marks Try.func12 rfl trivial ?_ rfl
  simp only [Try.ntmps12, List.size_toArray, List.length_cons, List.length_nil, Nat.reduceAdd, Nat.reduceSub, Array.replicate_succ, Array.replicate_zero, List.push_toArray, List.append_toArray, List.nil_append, List.cons_append]
  gi_wp2_with (refine ⟨trivial, ?_⟩; gi_at_call 25; refine (allMade_in _ _ _).mono ?_; rintro e w' ⟨rfl, rfl⟩)
  have hB0 : Below w.heap.size w (((w.alloc (.cells #[.slice none 0 0] 27)).alloc (.cells #[.int .i64 0] 3)).alloc (.cells #[.string t] 9)) := (((Below.refl _ w).alloc (Nat.le_refl _) _).alloc (by simp) _).alloc (by simp; omega) _
  have bO : Boxed (((w.alloc (.cells #[.slice none 0 0] 27)).alloc (.cells #[.int .i64 0] 3)).alloc (.cells #[.string t] 9)) w.heap.size 27 (.slice none 0 0) := ((Boxed.new w 27 (.slice none 0 0)).alloc _).alloc _
  have bE : Boxed (((w.alloc (.cells #[.slice none 0 0] 27)).alloc (.cells #[.int .i64 0] 3)).alloc (.cells #[.string t] 9)) (w.heap.size + 1) 3 (.int .i64 ((0 : Nat) : Int)) := by
    have h := (Boxed.new (w.alloc (.cells #[.slice none 0 0] 27)) 3 (.int .i64 0)).alloc (.cells #[.string t] 9)
    rwa [World.size_alloc] at h
  have bT : Boxed (((w.alloc (.cells #[.slice none 0 0] 27)).alloc (.cells #[.int .i64 0] 3)).alloc (.cells #[.string t] 9)) (w.heap.size + 1 + 1) 9 (.string t) := by
    have h := Boxed.new ((w.alloc (.cells #[.slice none 0 0] 27)).alloc (.cells #[.int .i64 0] 3)) 9 (.string t)
    rwa [World.size_alloc, World.size_alloc] at h
  obtain ⟨W0, hW0⟩ : ∃ W0, (((w.alloc (.cells #[.slice none 0 0] 27)).alloc (.cells #[.int .i64 0] 3)).alloc (.cells #[.string t] 9)) = W0 := ⟨_, rfl⟩
  have hsz : W0.heap.size = w.heap.size + 3 := by rw [← hW0]; simp
  rw [hW0] at hB0 bO bE bT ⊢
  clear hW0
  refine wpIn_rangeFunc_ownG rfl (by omega) (gf := 51) (lb := #[.pointer (some ⟨w.heap.size + 1 + 1, 0, none⟩)]) rfl trivial (enters_of Try.func51 (by kernel_rfl) rfl)
    (all_stops 8 (by omega) (w.heap.size + 1 + 1) t (by omega) W0 (by omega) bT.cell) keepsAt_t keepsAt_b (Below.refl _ _) (fun _ => rfl)
    (fun pre W => (∃ v, Boxed W w.heap.size 27 v ∧ W.ownsRow (w.heap.size + 3) 9 1 v pre.length (pre.map pv) ∧ (v = .slice none 0 0 ↔ pre = [])) ∧ Boxed W (w.heap.size + 1) 3 (.int .i64 (Fr.behind pre)) ∧ Boxed W (w.heap.size + 1 + 1) 9 (.string t) ∧ Below w.heap.size w W)
    (fun _ _ _ => False)
    (OwnFrom.and (Own.from (holdsRow_own (w.heap.size + 3) w.heap.size 27 9 1 (fun pre => pre.length) (fun pre => pre.map pv) (fun pre v => v = .slice none 0 0 ↔ pre = [])) _) (OwnFrom.and (Own.from (boxed_own _ _ (fun pre => .int .i64 (Fr.behind pre))) _) (OwnFrom.and (Own.from (boxed_own _ _ (fun _ => .string t)) _) (ownFrom_below (Nat.le_refl _) (by omega)))))
    (fun _ _ _ _ _ hs _ _ => hs)
    ⟨⟨_, bO, World.ownsRow_nil _ _ _ _, by simp⟩, bE, bT, hB0⟩
    (fun x => { tmps := #[.string t, undef, .slice none 0 0, .int .i64 0, .pointer (some ⟨w.heap.size, 0, none⟩), .pointer (some ⟨w.heap.size + 1, 0, none⟩), .string ⟨x.1.1.toArray⟩, .int .i64 x.2, .string t, .func (.func 51) #[] #[.pointer (some ⟨w.heap.size + 1 + 1, 0, none⟩)], .string ⟨x.1.1.toArray⟩, .int .i64 x.2, undef, undef, undef, undef, undef, undef, undef, undef], defers := [] }) ?assign ?body ?done ?stop
  case assign =>
    intro l x W K hK
    gi_wp2
    exact hK
  case body =>
    rintro l pre x W ⟨⟨v, hv, hrow, hnil⟩, he, ht, hB⟩ hlt
    have hc := hv.cell
    have hxs : (⟨x.1.1.toArray⟩ : ByteArray).size ≤ 281474976710656 := by have := x.1.2; simp only [ByteArray.size, List.size_toArray]; omega
    gi_wp2
    refine wpIn_region_any (by assumption) ?_
    change wpAnyIn _ _ _ _ _ _ _ _ _ (World.drew _)
    refine wpAnyIn_ready (rs := [0, 1]) (by kernel_rfl) (by simp) ?_
    refine AllReadyIn.cons rfl (fun K hK => ?_) (AllReadyIn.cons rfl (fun K hK => ?_) AllReadyIn.nil)
    · go_simp
      refine hK _ _ ?_
      clear hK K
      refine wpAnyIn_ready (rs := [1]) (by kernel_rfl) (by simp) ?_
      refine AllReadyIn.cons rfl (fun K hK => ?_) AllReadyIn.nil
      go_simp
      refine hK _ _ ?_
      clear hK K
      refine wpAnyIn_ready (rs := [2]) (by kernel_rfl) (by simp) ?_
      refine AllReadyIn.cons rfl (fun K hK => ?_) AllReadyIn.nil
      go_simp
      refine ⟨trivial, ?_⟩
      refine (CallsIn.inRound l (callsIn_wide.2 (clone_any _ _ hxs))).mono ?_
      rintro e w1 ⟨rfl, hb1⟩
      have hb0 : Below W.heap.size W w1 := ⟨hb1.os, hb1.tape, hb1.output, hb1.size, hb1.block⟩
      have hc1 : w1.cell? ⟨w.heap.size, 0, none⟩ = some v := (hb1.cell (p := ⟨w.heap.size, 0, none⟩) hv.lt).trans hc
      have hc2 : ∀ o, (w1.alloc o).cell? ⟨w.heap.size, 0, none⟩ = some v := fun o => ((hv.kept (grown_of_below hb0) (by simp)).alloc o).cell
      refine hK _ _ ?_
      clear hK K
      refine wpAnyIn_ready (rs := [3]) (by kernel_rfl) (by simp) ?_
      refine AllReadyIn.cons rfl (fun K hK => ?_) AllReadyIn.nil
      go_simp
      refine hK _ _ ?_
      clear hK K
      have hrow1 := hrow.kept (grown_of_below hb0) (by cases v.ownBlock <;> simp)
      refine wpAnyIn_ready (rs := [4]) (by kernel_rfl) (by simp) ?_
      refine AllReadyIn.cons rfl (fun K hK => ?_) AllReadyIn.nil
      refine step_append_in rfl _ _ 27 rfl (w.heap.size + 3) 9 i0 (.string ⟨#[]⟩) 1 16 Try.underlying27 hi hz0 hz1 hz2 rfl (by decide) v pre.length (pre.map pv) rfl (hrow1.alloc _) ⟨w1.heap.size, 0, none⟩ 1 1 [pv x] rfl rfl (cell_one_new _ _ _) (by simp [Value.oneCell', pv]) (by unfold maxLen; omega) (by omega) (by have := ht.lt; have := hb0.size; simp; omega) ?_
      intro v' w2 hown hgrow
      obtain ⟨g', cap', rfl⟩ := ownsRow_succ hown
      obtain ⟨hv2, he3, hv4, hr4, he4, ht4, hB4, hk4⟩ := round_end (q := x.2) hv he ht hrow hB hb0 hown hgrow
      have hcv := hv2.cell
      have hfv := hv2.frozen
      have hce := he3.cell
      have hfe := he3.frozen
      refine hK _ _ ?_
      clear hK K
      refine wpAnyIn_ready (rs := [5]) (by kernel_rfl) (by simp) ?_
      refine AllReadyIn.cons rfl (fun K hK => ?_) AllReadyIn.nil
      go_simp
      refine hK _ _ ?_
      clear hK K
      refine wpAnyIn_done (by kernel_rfl) ?_ _
      gi_wp2
      exact ⟨hk4.from _, fun u hu => by rw [ht.cell] at hu; cases hu; exact ht4.cell, ⟨_, hv4, by simpa using hr4, by simp⟩, by rw [Fr.behind_snoc]; exact he4, ht4, hB4⟩
    · go_simp
      refine hK _ _ ?_
      clear hK K
      refine wpAnyIn_ready (rs := [0, 2]) (by kernel_rfl) (by simp) ?_
      refine AllReadyIn.cons rfl (fun K hK => ?_) (AllReadyIn.cons rfl (fun K hK => ?_) AllReadyIn.nil)
      · go_simp
        refine hK _ _ ?_
        clear hK K
        refine wpAnyIn_ready (rs := [2]) (by kernel_rfl) (by simp) ?_
        refine AllReadyIn.cons rfl (fun K hK => ?_) AllReadyIn.nil
        go_simp
        refine ⟨trivial, ?_⟩
        refine (CallsIn.inRound l (callsIn_wide.2 (clone_any _ _ hxs))).mono ?_
        rintro e w1 ⟨rfl, hb1⟩
        have hb0 : Below W.heap.size W w1 := ⟨hb1.os, hb1.tape, hb1.output, hb1.size, hb1.block⟩
        have hc1 : w1.cell? ⟨w.heap.size, 0, none⟩ = some v := (hb1.cell (p := ⟨w.heap.size, 0, none⟩) hv.lt).trans hc
        have hc2 : ∀ o, (w1.alloc o).cell? ⟨w.heap.size, 0, none⟩ = some v := fun o => ((hv.kept (grown_of_below hb0) (by simp)).alloc o).cell
        refine hK _ _ ?_
        clear hK K
        refine wpAnyIn_ready (rs := [3]) (by kernel_rfl) (by simp) ?_
        refine AllReadyIn.cons rfl (fun K hK => ?_) AllReadyIn.nil
        go_simp
        refine hK _ _ ?_
        clear hK K
        have hrow1 := hrow.kept (grown_of_below hb0) (by cases v.ownBlock <;> simp)
        refine wpAnyIn_ready (rs := [4]) (by kernel_rfl) (by simp) ?_
        refine AllReadyIn.cons rfl (fun K hK => ?_) AllReadyIn.nil
        refine step_append_in rfl _ _ 27 rfl (w.heap.size + 3) 9 i0 (.string ⟨#[]⟩) 1 16 Try.underlying27 hi hz0 hz1 hz2 rfl (by decide) v pre.length (pre.map pv) rfl (hrow1.alloc _) ⟨w1.heap.size, 0, none⟩ 1 1 [pv x] rfl rfl (cell_one_new _ _ _) (by simp [Value.oneCell', pv]) (by unfold maxLen; omega) (by omega) (by have := ht.lt; have := hb0.size; simp; omega) ?_
        intro v' w2 hown hgrow
        obtain ⟨g', cap', rfl⟩ := ownsRow_succ hown
        obtain ⟨hv2, he3, hv4, hr4, he4, ht4, hB4, hk4⟩ := round_end (q := x.2) hv he ht hrow hB hb0 hown hgrow
        have hcv := hv2.cell
        have hfv := hv2.frozen
        have hce := he3.cell
        have hfe := he3.frozen
        refine hK _ _ ?_
        clear hK K
        refine wpAnyIn_ready (rs := [5]) (by kernel_rfl) (by simp) ?_
        refine AllReadyIn.cons rfl (fun K hK => ?_) AllReadyIn.nil
        go_simp
        refine hK _ _ ?_
        clear hK K
        refine wpAnyIn_done (by kernel_rfl) ?_ _
        gi_wp2
        exact ⟨hk4.from _, fun u hu => by rw [ht.cell] at hu; cases hu; exact ht4.cell, ⟨_, hv4, by simpa using hr4, by simp⟩, by rw [Fr.behind_snoc]; exact he4, ht4, hB4⟩
      · go_simp
        refine ⟨trivial, ?_⟩
        refine (CallsIn.inRound l (callsIn_wide.2 (clone_any _ _ hxs))).mono ?_
        rintro e w1 ⟨rfl, hb1⟩
        have hb0 : Below W.heap.size W w1 := ⟨hb1.os, hb1.tape, hb1.output, hb1.size, hb1.block⟩
        have hc1 : w1.cell? ⟨w.heap.size, 0, none⟩ = some v := (hb1.cell (p := ⟨w.heap.size, 0, none⟩) hv.lt).trans hc
        have hc2 : ∀ o, (w1.alloc o).cell? ⟨w.heap.size, 0, none⟩ = some v := fun o => ((hv.kept (grown_of_below hb0) (by simp)).alloc o).cell
        refine hK _ _ ?_
        clear hK K
        refine wpAnyIn_ready (rs := [0, 3]) (by kernel_rfl) (by simp) ?_
        refine AllReadyIn.cons rfl (fun K hK => ?_) (AllReadyIn.cons rfl (fun K hK => ?_) AllReadyIn.nil)
        · go_simp
          refine hK _ _ ?_
          clear hK K
          refine wpAnyIn_ready (rs := [3]) (by kernel_rfl) (by simp) ?_
          refine AllReadyIn.cons rfl (fun K hK => ?_) AllReadyIn.nil
          go_simp
          refine hK _ _ ?_
          clear hK K
          have hrow1 := hrow.kept (grown_of_below hb0) (by cases v.ownBlock <;> simp)
          refine wpAnyIn_ready (rs := [4]) (by kernel_rfl) (by simp) ?_
          refine AllReadyIn.cons rfl (fun K hK => ?_) AllReadyIn.nil
          refine step_append_in rfl _ _ 27 rfl (w.heap.size + 3) 9 i0 (.string ⟨#[]⟩) 1 16 Try.underlying27 hi hz0 hz1 hz2 rfl (by decide) v pre.length (pre.map pv) rfl (hrow1.alloc _) ⟨w1.heap.size, 0, none⟩ 1 1 [pv x] rfl rfl (cell_one_new _ _ _) (by simp [Value.oneCell', pv]) (by unfold maxLen; omega) (by omega) (by have := ht.lt; have := hb0.size; simp; omega) ?_
          intro v' w2 hown hgrow
          obtain ⟨g', cap', rfl⟩ := ownsRow_succ hown
          obtain ⟨hv2, he3, hv4, hr4, he4, ht4, hB4, hk4⟩ := round_end (q := x.2) hv he ht hrow hB hb0 hown hgrow
          have hcv := hv2.cell
          have hfv := hv2.frozen
          have hce := he3.cell
          have hfe := he3.frozen
          refine hK _ _ ?_
          clear hK K
          refine wpAnyIn_ready (rs := [5]) (by kernel_rfl) (by simp) ?_
          refine AllReadyIn.cons rfl (fun K hK => ?_) AllReadyIn.nil
          go_simp
          refine hK _ _ ?_
          clear hK K
          refine wpAnyIn_done (by kernel_rfl) ?_ _
          gi_wp2
          exact ⟨hk4.from _, fun u hu => by rw [ht.cell] at hu; cases hu; exact ht4.cell, ⟨_, hv4, by simpa using hr4, by simp⟩, by rw [Fr.behind_snoc]; exact he4, ht4, hB4⟩
        · go_simp
          refine hK _ _ ?_
          clear hK K
          refine wpAnyIn_ready (rs := [0]) (by kernel_rfl) (by simp) ?_
          refine AllReadyIn.cons rfl (fun K hK => ?_) AllReadyIn.nil
          go_simp
          refine hK _ _ ?_
          clear hK K
          have hrow1 := hrow.kept (grown_of_below hb0) (by cases v.ownBlock <;> simp)
          refine wpAnyIn_ready (rs := [4]) (by kernel_rfl) (by simp) ?_
          refine AllReadyIn.cons rfl (fun K hK => ?_) AllReadyIn.nil
          refine step_append_in rfl _ _ 27 rfl (w.heap.size + 3) 9 i0 (.string ⟨#[]⟩) 1 16 Try.underlying27 hi hz0 hz1 hz2 rfl (by decide) v pre.length (pre.map pv) rfl (hrow1.alloc _) ⟨w1.heap.size, 0, none⟩ 1 1 [pv x] rfl rfl (cell_one_new _ _ _) (by simp [Value.oneCell', pv]) (by unfold maxLen; omega) (by omega) (by have := ht.lt; have := hb0.size; simp; omega) ?_
          intro v' w2 hown hgrow
          obtain ⟨g', cap', rfl⟩ := ownsRow_succ hown
          obtain ⟨hv2, he3, hv4, hr4, he4, ht4, hB4, hk4⟩ := round_end (q := x.2) hv he ht hrow hB hb0 hown hgrow
          have hcv := hv2.cell
          have hfv := hv2.frozen
          have hce := he3.cell
          have hfe := he3.frozen
          refine hK _ _ ?_
          clear hK K
          refine wpAnyIn_ready (rs := [5]) (by kernel_rfl) (by simp) ?_
          refine AllReadyIn.cons rfl (fun K hK => ?_) AllReadyIn.nil
          go_simp
          refine hK _ _ ?_
          clear hK K
          refine wpAnyIn_done (by kernel_rfl) ?_ _
          gi_wp2
          exact ⟨hk4.from _, fun u hu => by rw [ht.cell] at hu; cases hu; exact ht4.cell, ⟨_, hv4, by simpa using hr4, by simp⟩, by rw [Fr.behind_snoc]; exact he4, ht4, hB4⟩
  case done =>
    rintro D ys W hD rfl ⟨⟨v, hv, hrow, hnil⟩, he, ht, hB⟩ hK
    have hcv := hv.cell
    have hce := he.cell
    gi_wp2
    gi_region
    gi_wp2
    have hK1 : W.drew.heap[D]? = some (.deferred (some [])) := hK
    refine ⟨by simp, .inl ⟨_, _, rfl, run_takeDeferred hK1, ?_⟩⟩
    exact ⟨_, results_tmp2 rfl _ _ _, v, rfl, row_le (ownsRow_putObj (W := W.drew) hrow _ hK1 rfl) (by omega), hnil, hB.drew.trans (belowK_b (w := w) (Nat.le_refl _) W.drew D _ _ (by omega) hK1 rfl rfl)⟩
  case stop =>
    rintro D c pre W _ _ h _
    exact h.elim
end Go.Proofs.Ytidacihlalbohaa
