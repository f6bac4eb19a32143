/- What the document's own can returns. -/
import Derived.Test.YtidacihlalbohaaRefBook
namespace Go.Proofs.Ytidacihlalbohaa
open Go.RowKit

/-- The world behind the box of a request and a call of Cell. -/
theorem can_head (p : Nat) (B : Md.Bk) (v : Value) (c : Nat) (w : World) (A : Obj) (hc : c < 8) (hb : BookAt w p B v) (hs : Md.Small B) :
    Calls Try.prog 78 #[.pointer (some ⟨p, 0, none⟩), .int .i64 c] (w.alloc A) fun e w' => e = .returned (.agg #[.int .i64 (B.onHand c), .int .i64 (Md.held B c), .int .i64 (B.committed c), .int .i64 (Md.free B c)]) ∧ Below (w.alloc A).heap.size (w.alloc A) w' :=
  bookCell_any p B v c c (w.alloc A) rfl hc (hb.below ((Below.refl _ _).alloc (Nat.le_refl _) _)) hs

set_option maxRecDepth 100000 in
set_option maxHeartbeats 2000000 in
theorem can_receive (p : Nat) (B : Md.Bk) (v : Value) (id count : Int) (c : Nat) (w : World) (hc : c < 8) (hn : 1 ≤ count ∧ count ≤ 1000000) (hb : BookAt w p B v) (hs : Md.Small B) :
    Calls Try.prog 96 #[.pointer (some ⟨p, 0, none⟩), .agg #[.int .i64 id, .int .i64 0, .int .i64 c, .int .i64 0, .int .i64 count, .int .i64 0]] w fun e w' => e = .returned (.bool (decide (B.onHand c ≤ 1000000000 - count))) ∧ Below w.heap.size w w' := by
  obtain ⟨n1, n2⟩ := hn
  have hcl := can_head p B v c w (.cells #[.int .i64 id, .int .i64 0, .int .i64 c, .int .i64 0, .int .i64 count, .int .i64 0] 75) (by omega) hb hs
  have Hcl := hide hcl
  have Hb := hide hb
  clear hcl hb
  go_enter Try.func96, Try.ntmps96
  go_wp2_with fail
  refine Hcl.out.mono ?_
  rintro e w1 ⟨rfl, hb1⟩
  have hz : w.heap.size < w1.heap.size := by have := hb1.size; simp at this; omega
  obtain ⟨h0, h1, h2, h3, h4, h5⟩ := box6 w (.int .i64 id) (.int .i64 0) (.int .i64 c) (.int .i64 0) (.int .i64 count) (.int .i64 0) 75
  have g1 := (hb1.cell (p := ⟨w.heap.size, 1, none⟩) (by simp)).trans h1
  have g3 := (hb1.cell (p := ⟨w.heap.size, 3, none⟩) (by simp)).trans h3
  have g4 := (hb1.cell (p := ⟨w.heap.size, 4, none⟩) (by simp)).trans h4
  have g5 := (hb1.cell (p := ⟨w.heap.size, 5, none⟩) (by simp)).trans h5
  have hB : Below w.heap.size w w1 := ((Below.refl _ _).alloc (Nat.le_refl _) _).trans (hb1.mono (by simp))
  have hk := Hb.out.below hB
  have hp1 := hk.lt
  clear h0 h1 h2 h3 h4 h5 hb1 hk
  go_wp2
  go_ret
  exact ⟨rfl, hB.alloc hB.size _⟩

set_option maxRecDepth 100000 in
set_option maxHeartbeats 2000000 in
theorem can_tick (p : Nat) (B : Md.Bk) (v : Value) (id time : Int) (w : World) (hb : BookAt w p B v) (hs : Md.Small B) :
    Calls Try.prog 96 #[.pointer (some ⟨p, 0, none⟩), .agg #[.int .i64 id, .int .i64 4, .int .i64 0, .int .i64 0, .int .i64 0, .int .i64 time]] w fun e w' => e = .returned (.bool (decide (B.clock ≤ time))) ∧ Below w.heap.size w w' := by
  have hcl := can_head p B v 0 w (.cells #[.int .i64 id, .int .i64 4, .int .i64 0, .int .i64 0, .int .i64 0, .int .i64 time] 75) (by omega) hb hs
  have Hcl := hide hcl
  have Hb := hide hb
  clear hcl hb
  go_enter Try.func96, Try.ntmps96
  go_wp2_with fail
  refine Hcl.out.mono ?_
  rintro e w1 ⟨rfl, hb1⟩
  have hz : w.heap.size < w1.heap.size := by have := hb1.size; simp at this; omega
  obtain ⟨h0, h1, h2, h3, h4, h5⟩ := box6 w (.int .i64 id) (.int .i64 4) (.int .i64 0) (.int .i64 0) (.int .i64 0) (.int .i64 time) 75
  have g1 := (hb1.cell (p := ⟨w.heap.size, 1, none⟩) (by simp)).trans h1
  have g3 := (hb1.cell (p := ⟨w.heap.size, 3, none⟩) (by simp)).trans h3
  have g4 := (hb1.cell (p := ⟨w.heap.size, 4, none⟩) (by simp)).trans h4
  have g5 := (hb1.cell (p := ⟨w.heap.size, 5, none⟩) (by simp)).trans h5
  have hB : Below w.heap.size w w1 := ((Below.refl _ _).alloc (Nat.le_refl _) _).trans (hb1.mono (by simp))
  have hk := Hb.out.below hB
  have hp1 := hk.lt
  have b1 := hk.cl
  clear h0 h1 h2 h3 h4 h5 hb1 hk
  go_wp2_with fail
  go_quiet (fail)
  go_wp2
  go_ret
  exact ⟨rfl, below_drewN' (hB.alloc hB.size _) _⟩

set_option maxRecDepth 100000 in
set_option maxHeartbeats 2000000 in
theorem can_commit (p : Nat) (B : Md.Bk) (v : Value) (id : Int) (h : Nat) (w : World) (hh : h < 51) (hb : BookAt w p B v) (hs : Md.Small B) :
    Calls Try.prog 96 #[.pointer (some ⟨p, 0, none⟩), .agg #[.int .i64 id, .int .i64 2, .int .i64 0, .int .i64 h, .int .i64 0, .int .i64 0]] w fun e w' => e = .returned (.bool (B.live h)) ∧ Below w.heap.size w w' := by
  have hcl := can_head p B v 0 w (.cells #[.int .i64 id, .int .i64 2, .int .i64 0, .int .i64 h, .int .i64 0, .int .i64 0] 75) (by omega) hb hs
  have Hcl := hide hcl
  have Hb := hide hb
  clear hcl hb
  go_enter Try.func96, Try.ntmps96
  go_wp2_with fail
  refine Hcl.out.mono ?_
  rintro e w1 ⟨rfl, hb1⟩
  have hz : w.heap.size < w1.heap.size := by have := hb1.size; simp at this; omega
  obtain ⟨h0, h1, h2, h3, h4, h5⟩ := box6 w (.int .i64 id) (.int .i64 2) (.int .i64 0) (.int .i64 h) (.int .i64 0) (.int .i64 0) 75
  have g1 := (hb1.cell (p := ⟨w.heap.size, 1, none⟩) (by simp)).trans h1
  have g3 := (hb1.cell (p := ⟨w.heap.size, 3, none⟩) (by simp)).trans h3
  have g4 := (hb1.cell (p := ⟨w.heap.size, 4, none⟩) (by simp)).trans h4
  have g5 := (hb1.cell (p := ⟨w.heap.size, 5, none⟩) (by simp)).trans h5
  have hB : Below w.heap.size w w1 := ((Below.refl _ _).alloc (Nat.le_refl _) _).trans (hb1.mono (by simp))
  have hk := Hb.out.below hB
  have hp1 := hk.lt
  have b1 := hk.li h hh
  have hh' : (h : Int) < 51 := by omega
  clear h0 h1 h2 h3 h4 h5 hb1 hk
  go_wp2_with fail
  go_quiet (fail)
  go_wp2
  go_ret
  exact ⟨rfl, below_drewN' (hB.alloc hB.size _) _⟩

set_option maxRecDepth 100000 in
set_option maxHeartbeats 2000000 in
theorem can_release (p : Nat) (B : Md.Bk) (v : Value) (id : Int) (h : Nat) (w : World) (hh : h < 51) (hb : BookAt w p B v) (hs : Md.Small B) :
    Calls Try.prog 96 #[.pointer (some ⟨p, 0, none⟩), .agg #[.int .i64 id, .int .i64 3, .int .i64 0, .int .i64 h, .int .i64 0, .int .i64 0]] w fun e w' => e = .returned (.bool (B.live h)) ∧ Below w.heap.size w w' := by
  have hcl := can_head p B v 0 w (.cells #[.int .i64 id, .int .i64 3, .int .i64 0, .int .i64 h, .int .i64 0, .int .i64 0] 75) (by omega) hb hs
  have Hcl := hide hcl
  have Hb := hide hb
  clear hcl hb
  go_enter Try.func96, Try.ntmps96
  go_wp2_with fail
  refine Hcl.out.mono ?_
  rintro e w1 ⟨rfl, hb1⟩
  have hz : w.heap.size < w1.heap.size := by have := hb1.size; simp at this; omega
  obtain ⟨h0, h1, h2, h3, h4, h5⟩ := box6 w (.int .i64 id) (.int .i64 3) (.int .i64 0) (.int .i64 h) (.int .i64 0) (.int .i64 0) 75
  have g1 := (hb1.cell (p := ⟨w.heap.size, 1, none⟩) (by simp)).trans h1
  have g3 := (hb1.cell (p := ⟨w.heap.size, 3, none⟩) (by simp)).trans h3
  have g4 := (hb1.cell (p := ⟨w.heap.size, 4, none⟩) (by simp)).trans h4
  have g5 := (hb1.cell (p := ⟨w.heap.size, 5, none⟩) (by simp)).trans h5
  have hB : Below w.heap.size w w1 := ((Below.refl _ _).alloc (Nat.le_refl _) _).trans (hb1.mono (by simp))
  have hk := Hb.out.below hB
  have hp1 := hk.lt
  have b1 := hk.li h hh
  have hh' : (h : Int) < 51 := by omega
  clear h0 h1 h2 h3 h4 h5 hb1 hk
  go_wp2_with fail
  go_quiet (fail)
  go_wp2
  go_ret
  exact ⟨rfl, below_drewN' (hB.alloc hB.size _) _⟩

set_option maxRecDepth 100000 in
set_option maxHeartbeats 2000000 in
theorem can_reserve (p : Nat) (B : Md.Bk) (v : Value) (id count time : Int) (c h : Nat) (w : World) (hc : c < 8) (hh : h < 51) (hb : BookAt w p B v) (hs : Md.Small B) :
    Calls Try.prog 96 #[.pointer (some ⟨p, 0, none⟩), .agg #[.int .i64 id, .int .i64 1, .int .i64 c, .int .i64 h, .int .i64 count, .int .i64 time]] w fun e w' => e = .returned (.bool ((!B.live h && decide (B.clock < time)) && decide (count ≤ Md.free B c))) ∧ Below w.heap.size w w' := by
  have hcl := can_head p B v c w (.cells #[.int .i64 id, .int .i64 1, .int .i64 c, .int .i64 h, .int .i64 count, .int .i64 time] 75) (by omega) hb hs
  have Hcl := hide hcl
  have Hb := hide hb
  clear hcl hb
  go_enter Try.func96, Try.ntmps96
  go_wp2_with fail
  refine Hcl.out.mono ?_
  rintro e w1 ⟨rfl, hb1⟩
  have hz : w.heap.size < w1.heap.size := by have := hb1.size; simp at this; omega
  obtain ⟨h0, h1, h2, h3, h4, h5⟩ := box6 w (.int .i64 id) (.int .i64 1) (.int .i64 c) (.int .i64 h) (.int .i64 count) (.int .i64 time) 75
  have g1 := (hb1.cell (p := ⟨w.heap.size, 1, none⟩) (by simp)).trans h1
  have g3 := (hb1.cell (p := ⟨w.heap.size, 3, none⟩) (by simp)).trans h3
  have g4 := (hb1.cell (p := ⟨w.heap.size, 4, none⟩) (by simp)).trans h4
  have g5 := (hb1.cell (p := ⟨w.heap.size, 5, none⟩) (by simp)).trans h5
  have hB : Below w.heap.size w w1 := ((Below.refl _ _).alloc (Nat.le_refl _) _).trans (hb1.mono (by simp))
  have hk := Hb.out.below hB
  have hp1 := hk.lt
  have b1 := hk.li h hh
  have b2 := hk.cl
  have hh' : (h : Int) < 51 := by omega
  clear h0 h1 h2 h3 h4 h5 hb1 hk
  cases hl : B.live h with
  | true =>
    rw [hl] at b1
    have Hl := hide hl
    clear hl
    go_wp2_with fail
    go_quiet (fail)
    go_wp2
    go_ret
    exact ⟨by simp [Hl.out], below_drewN' (hB.alloc hB.size _) _⟩
  | false =>
    rw [hl] at b1
    have Hl := hide hl
    clear hl
    by_cases ht : B.clock < time
    · have hd : decide (B.clock < time) = true := by simp [ht]
      by_cases hf : count ≤ Md.free B c
      · go_wp2_with fail
        go_quiet (fail)
        go_wp2
        go_ret
        exact ⟨by simp [Hl.out, ht, hf], below_drewN' (hB.alloc hB.size _) _⟩
      · have hf' : Md.free B c < count := by omega
        go_wp2_with fail
        go_quiet (fail)
        go_wp2
        go_ret
        exact ⟨by simp [Hl.out, ht], below_drewN' (hB.alloc hB.size _) _⟩
    · have hd : decide (B.clock < time) = false := by simp [ht]
      go_wp2_with fail
      go_quiet (fail)
      go_wp2
      go_ret
      exact ⟨by simp [Hl.out]; omega, below_drewN' (hB.alloc hB.size _) _⟩

/-- Can, of a request that is one. -/
theorem can_any (p : Nat) (B : Md.Bk) (v : Value) (r : Md.Req) (w : World) (hg : Md.good r = true) (hb : BookAt w p B v) (hs : Md.Small B) :
    Calls Try.prog 96 #[.pointer (some ⟨p, 0, none⟩), .agg (reqA r)] w fun e w' => e = .returned (.bool (Md.can B r)) ∧ Below w.heap.size w w' := by
  obtain ⟨id, kind, cell, hold, count, time⟩ := r
  simp only [Md.good, Md.cellOk, Md.holdOk, Md.countOk, Md.timeOk, Bool.and_eq_true, decide_eq_true_eq] at hg
  obtain ⟨⟨⟨⟨⟨⟨_, h2⟩, h3⟩, h4⟩, h5⟩, h6⟩, h7⟩ := hg
  unfold reqA Md.can
  dsimp only
  have hk : kind = 0 ∨ kind = 1 ∨ kind = 2 ∨ kind = 3 ∨ kind = 4 := by omega
  rcases hk with rfl | rfl | rfl | rfl | rfl
  · simp [Md.inR] at h2 h3 h4 h5
    obtain ⟨c, rfl⟩ := Int.eq_ofNat_of_zero_le h2.1
    subst h3 h5
    simpa using can_receive p B v id count c w (by omega) h4 hb hs
  · simp [Md.inR] at h2 h3 h4 h5
    obtain ⟨c, rfl⟩ := Int.eq_ofNat_of_zero_le h2.1
    obtain ⟨h, rfl⟩ := Int.eq_ofNat_of_zero_le (show 0 ≤ hold by omega)
    simpa using can_reserve p B v id count time c h w (by omega) (by omega) hb hs
  · simp [Md.inR] at h2 h3 h4 h5
    obtain ⟨h, rfl⟩ := Int.eq_ofNat_of_zero_le (show 0 ≤ hold by omega)
    subst h2 h4 h5
    simpa using can_commit p B v id h w (by omega) hb hs
  · simp [Md.inR] at h2 h3 h4 h5
    obtain ⟨h, rfl⟩ := Int.eq_ofNat_of_zero_le (show 0 ≤ hold by omega)
    subst h2 h4 h5
    simpa using can_release p B v id h w (by omega) hb hs
  · simp [Md.inR] at h2 h3 h4 h5
    subst h2 h3 h4
    simpa using can_tick p B v id time w hb hs

end Go.Proofs.Ytidacihlalbohaa
