/- What the program does for each kind of request. -/
import Derived.Test.YtidacihlalbohaaPPut
import Derived.Test.YtidacihlalbohaaRefReplay
namespace Go.Proofs.Ytidacihlalbohaa
open Go.RowKit

theorem fieldsCell : ((Try.prog.fieldsOf 105)[3]?).map (fun f => (f.type, f.offset)) = some (3, 3) := by kernel_rfl
theorem underCell : Try.prog.underlying 105 = some (.struct (Try.prog.fieldsOf 105)) := by kernel_rfl
theorem run_free (a b c d : Value) (W : World) : (Instr.field 105 (.agg #[a, b, c, d]) 3).run Try.prog W = .ok d W := by
  cases hf : (Try.prog.fieldsOf 105)[3]? with
  | none => have := fieldsCell; rw [hf] at this; cases this
  | some f =>
    have h := fieldsCell
    rw [hf] at h
    simp only [Option.map_some, Option.some.injEq, Prod.mk.injEq] at h
    simp [Instr.field, run_underlying underCell, part, isAgg, run_underlying Try.underlying3, asAgg, go_sem]

/-- A reply's place in block b. -/
structure Rep2 (W : World) (b : Nat) : Prop where
  c0 : W.cell? ⟨b, 0, none⟩ = some (.int .i64 0)
  c1 : W.cell? ⟨b, 1, none⟩ = some (.int .i64 0)
  fz : ∀ o, W.frozen? ⟨b, o, none⟩ = false
  lt : b < W.heap.size
theorem Rep2.new (W : World) : Rep2 (W.alloc (.cells #[.int .i64 0, .int .i64 0] 77)) W.heap.size := by
  refine ⟨by simp [go_sem], by simp [go_sem], fun o => by simp [go_sem], by simp⟩
theorem Rep2.of_block {W W' : World} {b : Nat} (h : Rep2 W b) (hb : W'.heap[b]? = W.heap[b]?) (hl : b < W'.heap.size) : Rep2 W' b :=
  ⟨(World.cell?_of_block hb).trans h.c0, (World.cell?_of_block hb).trans h.c1, fun o => (World.frozen?_of_block hb).trans (h.fz o), hl⟩
theorem Rep2.below {W W' : World} {b : Nat} (h : Rep2 W b) (hb : Below W.heap.size W W') : Rep2 W' b := h.of_block (hb.block b h.lt) (Nat.lt_of_lt_of_le h.lt hb.size)

/-- The reply is written at its place. -/
theorem rep_close {w X : World} {p b : Nat} {B : Md.Bk} {n : Nat} (hg : w.grownBy X (some p)) (hbk : PBook X p B n) (hr : Rep2 X b) (hp : p < w.heap.size) (a c : Value) (hwb : w.heap.size ≤ b := by omega) :
    PBook ((X.setCell ⟨b, 0, none⟩ a).setCell ⟨b, 1, none⟩ c) p B n ∧ w.grownBy ((X.setCell ⟨b, 0, none⟩ a).setCell ⟨b, 1, none⟩ c) (some p) ∧
    ((X.setCell ⟨b, 0, none⟩ a).setCell ⟨b, 1, none⟩ c).cell? ⟨b, 0, none⟩ = some a ∧ ((X.setCell ⟨b, 0, none⟩ a).setCell ⟨b, 1, none⟩ c).cell? ⟨b, 1, none⟩ = some c ∧
    b < ((X.setCell ⟨b, 0, none⟩ a).setCell ⟨b, 1, none⟩ c).heap.size := by
  obtain ⟨f0, f1⟩ := put2 hr.c0 hr.c1 a c
  exact ⟨hbk.of_block ((put_block 1 _ (by omega)).trans (put_block 0 _ (by omega))) (by rw [size_put, size_put]; exact hbk.lt), grown_new (grown_new hg _ 0 _ hwb) _ 1 _ hwb, f0, f1, by rw [size_put, size_put]; exact hr.lt⟩
theorem rep_alloc {w F : World} {p b : Nat} {B : Md.Bk} {n : Nat} {a c : Value} (h : PBook F p B n ∧ w.grownBy F (some p) ∧ F.cell? ⟨b, 0, none⟩ = some a ∧ F.cell? ⟨b, 1, none⟩ = some c ∧ b < F.heap.size) (o : Obj) :
    PBook (F.alloc o) p B n ∧ w.grownBy (F.alloc o) (some p) ∧ (F.alloc o).cell? ⟨b, 0, none⟩ = some a ∧ (F.alloc o).cell? ⟨b, 1, none⟩ = some c ∧ b < (F.alloc o).heap.size := by
  have hb := (Below.refl F.heap.size F).alloc (Nat.le_refl _) o
  exact ⟨h.1.below hb, grown_trans h.2.1 (grown_below hb), (hb.cell (p := ⟨b, 0, none⟩) h.2.2.2.2).trans h.2.2.1, (hb.cell (p := ⟨b, 1, none⟩) h.2.2.2.2).trans h.2.2.2.1, Nat.lt_of_lt_of_le h.2.2.2.2 hb.size⟩
/-- A request boxed and a place for the reply behind it. -/
theorem box_both (w : World) (r : Md.Req) : Req6 ((w.alloc (.cells #[.int .i64 r.id, .int .i64 r.kind, .int .i64 r.cell, .int .i64 r.hold, .int .i64 r.count, .int .i64 r.time] 75)).alloc (.cells #[.int .i64 0, .int .i64 0] 77)) w.heap.size r ∧
    Rep2 ((w.alloc (.cells #[.int .i64 r.id, .int .i64 r.kind, .int .i64 r.cell, .int .i64 r.hold, .int .i64 r.count, .int .i64 r.time] 75)).alloc (.cells #[.int .i64 0, .int .i64 0] 77)) (w.heap.size + 1) ∧
    Below w.heap.size w ((w.alloc (.cells #[.int .i64 r.id, .int .i64 r.kind, .int .i64 r.cell, .int .i64 r.hold, .int .i64 r.count, .int .i64 r.time] 75)).alloc (.cells #[.int .i64 0, .int .i64 0] 77)) := by
  have h1 := (Req6.new w r).below ((Below.refl _ _).alloc (Nat.le_refl _) (.cells #[.int .i64 0, .int .i64 0] 77))
  have h2 := Rep2.new (w.alloc (.cells #[.int .i64 r.id, .int .i64 r.kind, .int .i64 r.cell, .int .i64 r.hold, .int .i64 r.count, .int .i64 r.time] 75))
  rw [World.size_alloc] at h2
  exact ⟨h1, h2, ((Below.refl _ _).alloc (Nat.le_refl _) _).alloc (by simp) _⟩
theorem Req6.of_block {W W' : World} {b : Nat} {r : Md.Req} (h : Req6 W b r) (hb : W'.heap[b]? = W.heap[b]?) (hl : b < W'.heap.size) : Req6 W' b r :=
  have g := fun o => World.cell?_of_block (a := ⟨b, o, none⟩) hb
  ⟨(g _).trans h.c0, (g _).trans h.c1, (g _).trans h.c2, (g _).trans h.c3, (g _).trans h.c4, (g _).trans h.c5, hl⟩
theorem Req6.put {X : World} {b q o : Nat} {x : Value} {r : Md.Req} (h : Req6 X b r) (hne : b ≠ q) : Req6 (X.setCell ⟨q, o, none⟩ x) b r := h.of_block (put_block o x hne) (by rw [size_put]; exact h.lt)
theorem Req6.drewN {W : World} {b : Nat} {r : Md.Req} (h : Req6 W b r) (n : Nat) : Req6 (W.drewN n) b r := ⟨h.c0, h.c1, h.c2, h.c3, h.c4, h.c5, h.lt⟩
theorem Rep2.drewN {W : World} {b : Nat} (h : Rep2 W b) (n : Nat) : Rep2 (W.drewN n) b := ⟨h.c0, h.c1, h.fz, h.lt⟩
theorem Rep2.drew {W : World} {b : Nat} (h : Rep2 W b) : Rep2 W.drew b := ⟨h.c0, h.c1, h.fz, h.lt⟩

theorem Rep2.put {X : World} {b q o : Nat} {x : Value} (h : Rep2 X b) (hne : b ≠ q) : Rep2 (X.setCell ⟨q, o, none⟩ x) b := h.of_block (put_block o x hne) (by rw [size_put]; exact h.lt)

set_option maxRecDepth 100000 in
set_option maxHeartbeats 2000000 in
theorem pRelease_no (p : Nat) (B : Md.Bk) (n : Nat) (h : Nat) (w : World) (hh : h < 51) (hb : PBook w p B n) (hk : B.live h = true → 1 ≤ B.hn h) (hl : B.live h = false) :
    Calls Try.prog 103 #[.pointer (some ⟨p, 0, none⟩), .int .i64 h] w fun e w' => e = .returned (.agg #[.int .i64 1, .int .i64 0]) ∧ Below w.heap.size w w' := by
  have hB0 := (Below.refl w.heap.size w).alloc (Nat.le_refl _) (.cells #[.int .i64 0, .int .i64 0] 77)
  have hr := Rep2.new w
  have hlv := pIsLive_any p B n h _ hh (hb.below hB0) hk
  rw [hl] at hlv
  go_enter Try.func103, Try.ntmps103
  go_wp2_with fail
  refine hlv.mono ?_
  rintro e W ⟨rfl, hW⟩
  rw [hW]
  clear hW hlv
  generalize w.alloc (.cells #[.int .i64 0, .int .i64 0] 77) = W0 at hB0 hr ⊢
  go_wp2_with fail
  refine (pRejected_any W0).mono ?_
  rintro e W1 ⟨rfl, hb1⟩
  obtain ⟨c0, c1, cf, cl⟩ := hr.below hb1
  go_wp2
  have hF := ((hB0.trans (hb1.mono hB0.size)).setCell (p := ⟨w.heap.size, 0, none⟩) (Nat.le_refl _) (.int .i64 1)).setCell (p := ⟨w.heap.size, 1, none⟩) (Nat.le_refl _) (.int .i64 0)
  obtain ⟨f0, f1⟩ := put2 c0 c1 (.int .i64 1) (.int .i64 0)
  generalize (W1.setCell ⟨w.heap.size, 0, none⟩ (.int .i64 1)).setCell ⟨w.heap.size, 1, none⟩ (.int .i64 0) = F at f0 f1 hF ⊢
  exact bodyPost_ret (v := .agg #[.int .i64 1, .int .i64 0]) (by simp [results, Try.results103, go_sem, f0, f1]) rfl ⟨rfl, hF⟩

set_option maxRecDepth 100000 in
set_option maxHeartbeats 2000000 in
theorem pRelease_yes (p : Nat) (B : Md.Bk) (n : Nat) (h : Nat) (w : World) (hh : h < 51) (hb : PBook w p B n) (hk : B.live h = true → 1 ≤ B.hn h) (hl : B.live h = true) :
    Calls Try.prog 103 #[.pointer (some ⟨p, 0, none⟩), .int .i64 h] w fun e w' => e = .returned (.agg #[.int .i64 0, .int .i64 (B.hn h)]) ∧ PBook w' p (Md.release B h) n ∧ w.grownBy w' (some p) := by
  have hB0 := (Below.refl w.heap.size w).alloc (Nat.le_refl _) (.cells #[.int .i64 0, .int .i64 0] 77)
  have hr := Rep2.new w
  have hb0 := hb.below hB0
  have hlv := pIsLive_any p B n h _ hh hb0 hk
  rw [hl] at hlv
  have hpw := hb.lt
  have hpn : Md.pn B h = B.hn h := by unfold Md.pn; rw [hl]; rfl
  go_enter Try.func103, Try.ntmps103
  go_wp2_with fail
  refine hlv.mono ?_
  rintro e W ⟨rfl, hW⟩
  rw [hW]
  clear hW hlv
  generalize w.alloc (.cells #[.int .i64 0, .int .i64 0] 77) = W0 at hB0 hr hb0 ⊢
  have c1 := hb0.hn h hh
  rw [hpn] at c1
  have hh' : (h : Int) < 51 := by omega
  have Hb0 := hide hb0
  have hp0 := hb0.lt
  clear hb hb0 hpn
  go_wp2_with fail
  refine (pDone_any _ W0).mono ?_
  rintro e W1 ⟨rfl, hb1⟩
  have hbk1 := Hb0.out.below hb1
  obtain ⟨r0, r1, rf, rl⟩ := hr.below hb1
  have d0 := hbk1.hc h hh
  have d1 := hbk1.hn h hh
  have d2 := hbk1.ht h hh
  have df := hbk1.fz
  have dl := hbk1.lt
  have Hbk1 := hide hbk1
  clear hbk1 c1 hr
  go_wp2
  have hX : w.grownBy (((W1.setCell ⟨p, 16 + h * 3, none⟩ (.int .i64 0)).setCell ⟨p, 16 + h * 3 + 1, none⟩ (.int .i64 0)).setCell ⟨p, 16 + h * 3 + 2, none⟩ (.int .i64 0)) (some p) :=
    grown_trans (grown_below (hB0.trans (hb1.mono hB0.size))) (grown_trans (grown_put W1 p _ _) (grown_trans (grown_put _ p _ _) (grown_put _ p _ _)))
  have hR : Rep2 (((W1.setCell ⟨p, 16 + h * 3, none⟩ (.int .i64 0)).setCell ⟨p, 16 + h * 3 + 1, none⟩ (.int .i64 0)).setCell ⟨p, 16 + h * 3 + 2, none⟩ (.int .i64 0)) w.heap.size :=
    (((⟨r0, r1, rf, rl⟩ : Rep2 W1 w.heap.size).put (show w.heap.size ≠ p by omega)).put (show w.heap.size ≠ p by omega)).put (show w.heap.size ≠ p by omega)
  have hE := rep_alloc (rep_close hX (Hbk1.out.drop hh) hR hpw (.int .i64 0) (.int .i64 (B.hn h))) (.cells #[.int .i64 0, .int .i64 (B.hn h)] 77)
  generalize ((((((W1.setCell ⟨p, 16 + h * 3, none⟩ (.int .i64 0)).setCell ⟨p, 16 + h * 3 + 1, none⟩ (.int .i64 0)).setCell ⟨p, 16 + h * 3 + 2, none⟩ (.int .i64 0)).setCell ⟨w.heap.size, 0, none⟩ (.int .i64 0)).setCell ⟨w.heap.size, 1, none⟩ (.int .i64 (B.hn h))).alloc (.cells #[.int .i64 0, .int .i64 (B.hn h)] 77)) = F at hE ⊢
  obtain ⟨e1, e2, e3, e4, e5⟩ := hE
  exact bodyPost_ret (v := .agg #[.int .i64 0, .int .i64 (B.hn h)]) (by simp [results, Try.results103, go_sem, e3, e4]) rfl ⟨rfl, e1, e2⟩

set_option maxRecDepth 100000 in
set_option maxHeartbeats 2000000 in
theorem pCommit_no (p : Nat) (B : Md.Bk) (n : Nat) (h : Nat) (w : World) (hh : h < 51) (hb : PBook w p B n) (hk : Md.Okb B n) (hl : B.live h = false) :
    Calls Try.prog 102 #[.pointer (some ⟨p, 0, none⟩), .int .i64 h] w fun e w' => e = .returned (.agg #[.int .i64 1, .int .i64 0]) ∧ Below w.heap.size w w' := by
  have hB0 := (Below.refl w.heap.size w).alloc (Nat.le_refl _) (.cells #[.int .i64 0, .int .i64 0] 77)
  have hr := Rep2.new w
  have hlv := pIsLive_any p B n h _ hh (hb.below hB0) (hk.hn h hh)
  rw [hl] at hlv
  go_enter Try.func102, Try.ntmps102
  go_wp2_with fail
  refine hlv.mono ?_
  rintro e W ⟨rfl, hW⟩
  rw [hW]
  clear hW hlv
  generalize w.alloc (.cells #[.int .i64 0, .int .i64 0] 77) = W0 at hB0 hr ⊢
  go_wp2_with fail
  refine (pRejected_any W0).mono ?_
  rintro e W1 ⟨rfl, hb1⟩
  obtain ⟨c0, c1, cf, cl⟩ := hr.below hb1
  go_wp2
  have hF := ((hB0.trans (hb1.mono hB0.size)).setCell (p := ⟨w.heap.size, 0, none⟩) (Nat.le_refl _) (.int .i64 1)).setCell (p := ⟨w.heap.size, 1, none⟩) (Nat.le_refl _) (.int .i64 0)
  obtain ⟨f0, f1⟩ := put2 c0 c1 (.int .i64 1) (.int .i64 0)
  generalize (W1.setCell ⟨w.heap.size, 0, none⟩ (.int .i64 1)).setCell ⟨w.heap.size, 1, none⟩ (.int .i64 0) = F at f0 f1 hF ⊢
  exact bodyPost_ret (v := .agg #[.int .i64 1, .int .i64 0]) (by simp [results, Try.results102, go_sem, f0, f1]) rfl ⟨rfl, hF⟩

set_option maxRecDepth 100000 in
set_option maxHeartbeats 2000000 in
theorem pCommit_yes (p : Nat) (B : Md.Bk) (n : Nat) (h : Nat) (w : World) (hh : h < 51) (hb : PBook w p B n) (hk : Md.Okb B n) (hl : B.live h = true) :
    Calls Try.prog 102 #[.pointer (some ⟨p, 0, none⟩), .int .i64 h] w fun e w' => e = .returned (.agg #[.int .i64 0, .int .i64 (B.hn h)]) ∧ PBook w' p (Md.commit B h) n ∧ w.grownBy w' (some p) := by
  have hB0 := (Below.refl w.heap.size w).alloc (Nat.le_refl _) (.cells #[.int .i64 0, .int .i64 0] 77)
  have hr := Rep2.new w
  have hb0 := hb.below hB0
  have hlv := pIsLive_any p B n h _ hh hb0 (hk.hn h hh)
  rw [hl] at hlv
  have hpw := hb.lt
  have hpc : Md.pc B h = B.hc h := by unfold Md.pc; rw [hl]; rfl
  have hpn : Md.pn B h = B.hn h := by unfold Md.pn; rw [hl]; rfl
  have hcb := hk.fit.hc h hh hl
  have hnb := hk.fit.hn h hh
  have hnb2 := hk.hn h hh hl
  obtain ⟨c, hc⟩ := Int.eq_ofNat_of_zero_le hcb.1
  have hc8 : c < 8 := by omega
  have hco := hk.fit.co c hc8
  have hco2 := (hk.fit.small.co c hc8).1
  go_enter Try.func102, Try.ntmps102
  go_wp2_with fail
  refine hlv.mono ?_
  rintro e W ⟨rfl, hW⟩
  rw [hW]
  clear hW hlv
  generalize w.alloc (.cells #[.int .i64 0, .int .i64 0] 77) = W0 at hB0 hr hb0 ⊢
  have d0 := hb0.hc h hh
  have d1 := hb0.hn h hh
  have d2 := hb0.ht h hh
  rw [hpc, hc] at d0
  rw [hpn] at d1
  have q1 := hb0.co c hc8
  have df := hb0.fz
  have dl := hb0.lt
  have hh' : (h : Int) < 51 := by omega
  have hc8' : (c : Int) < 8 := by omega
  have Hb0 := hide hb0
  have HR := hide hr
  clear hb hb0 hpn hpc hcb hr
  go_wp2_with fail
  go_region
  have hbX := ((Hb0.out.setCo hc8 (B.committed c + B.hn h)).below ((Below.refl _ _).alloc (Nat.le_refl _) (.cells #[.int .i64 c, .int .i64 (B.hn h), .int .i64 (Md.pt B h)] 72))).drew
  have hRX : Rep2 (((W0.setCell ⟨p, c * 2 + 1, none⟩ (.int .i64 (B.committed c + B.hn h))).alloc (.cells #[.int .i64 c, .int .i64 (B.hn h), .int .i64 (Md.pt B h)] 72)).drew) w.heap.size := by
    have := ((HR.out.put (q := p) (o := c * 2 + 1) (x := .int .i64 (B.committed c + B.hn h)) (show w.heap.size ≠ p by omega)).below ((Below.refl _ _).alloc (Nat.le_refl _) (.cells #[.int .i64 c, .int .i64 (B.hn h), .int .i64 (Md.pt B h)] 72)))
    exact ⟨this.c0, this.c1, this.fz, this.lt⟩
  have hgX : w.grownBy (((W0.setCell ⟨p, c * 2 + 1, none⟩ (.int .i64 (B.committed c + B.hn h))).alloc (.cells #[.int .i64 c, .int .i64 (B.hn h), .int .i64 (Md.pt B h)] 72)).drew) (some p) := grown_drew (grown_trans (grown_below hB0) (grown_trans (grown_put W0 p (c * 2 + 1) _) (grown_below ((Below.refl _ _).alloc (Nat.le_refl _) (.cells #[.int .i64 c, .int .i64 (B.hn h), .int .i64 (Md.pt B h)] 72)))))
  generalize ((W0.setCell ⟨p, c * 2 + 1, none⟩ (.int .i64 (B.committed c + B.hn h))).alloc (.cells #[.int .i64 c, .int .i64 (B.hn h), .int .i64 (Md.pt B h)] 72)).drew = X at hbX hRX hgX ⊢
  have hrel := pRelease_yes p _ n h X hh hbX (fun _ => hnb2) hl
  clear Hb0 HR q1 d0 d1 d2 df dl
  go_wp2_with fail
  refine hrel.mono ?_
  rintro e W1 ⟨rfl, hb1, hg1⟩
  have hR1 := hRX.of_block (W' := W1) (hg1.block w.heap.size hRX.lt (fun e => by cases e; omega)) (Nat.lt_of_lt_of_le hRX.lt hg1.size)
  obtain ⟨r0, r1, rf, rl⟩ := hR1
  have Hb1 := hide hb1
  clear hb1 hbX hRX hrel
  go_wp2
  have hE := rep_close (grown_trans hgX hg1) Hb1.out ⟨r0, r1, rf, rl⟩ hpw (.int .i64 0) (.int .i64 (B.hn h))
  generalize (W1.setCell ⟨w.heap.size, 0, none⟩ (.int .i64 0)).setCell ⟨w.heap.size, 1, none⟩ (.int .i64 (B.hn h)) = F at hE ⊢
  obtain ⟨e1, e2, e3, e4, e5⟩ := hE
  refine bodyPost_ret (v := .agg #[.int .i64 0, .int .i64 (B.hn h)]) (by simp [results, Try.results102, go_sem, e3, e4]) rfl ⟨rfl, ?_, e2⟩
  have ec : (B.hc h).toNat = c := by rw [hc]; rfl
  unfold Md.commit
  rw [ec]
  exact e1

set_option maxRecDepth 100000 in
set_option maxHeartbeats 2000000 in
theorem pReceive (p : Nat) (B : Md.Bk) (n : Nat) (id count : Int) (c : Nat) (w : World) (hc : c < 8) (hb : PBook w p B n) (hv : Md.Inv B n) (h1 : 1 ≤ count) (h2 : count ≤ 1000000) (hcan : B.onHand c + count ≤ 1000000000) :
    Calls Try.prog 100 #[.pointer (some ⟨p, 0, none⟩), .agg #[.int .i64 id, .int .i64 0, .int .i64 c, .int .i64 0, .int .i64 count, .int .i64 0]] w fun e w' => e = .returned (.agg #[.int .i64 0, .int .i64 (Md.free (Md.receive B c count) c)]) ∧ PBook w' p (Md.receive B c count) n ∧ w.grownBy w' (some p) := by
  have hpw := hb.lt
  have hinv := hv.receive (c := c) (m := count) (by omega) hcan
  have o0 := (hv.on c hc).1
  have o1 := hb.on c hc
  have of := hb.fz
  have hc' : (c : Int) < 8 := by omega
  have Hb := hide hb
  clear hb
  obtain ⟨hq, hr, hB⟩ := box_both w ⟨id, 0, c, 0, count, 0⟩
  dsimp only at hq hr hB
  have hbV := Hb.out.below hB
  go_enter Try.func100, Try.ntmps100
  go_wp2_with fail
  generalize (w.alloc (.cells #[.int .i64 id, .int .i64 0, .int .i64 c, .int .i64 0, .int .i64 count, .int .i64 0] 75)).alloc (.cells #[.int .i64 0, .int .i64 0] 77) = V at hq hr hB hbV ⊢
  have a2 := hq.c2
  have a4 := hq.c4
  have al := hq.lt
  have o2 := hbV.on c hc
  have of2 := hbV.fz
  have ol := hbV.lt
  have HbV := hide hbV
  clear hbV o1 of
  go_quiet (fail)
  go_wp2_with fail
  go_region
  have hbX : PBook ((V.drewN (nq + 1)).setCell ⟨p, c * 2, none⟩ (.int .i64 (B.onHand c + count))) p (Md.receive B c count) n := (HbV.out.drewN (nq + 1)).setOn hc (B.onHand c + count)
  have hqX : Req6 ((V.drewN (nq + 1)).setCell ⟨p, c * 2, none⟩ (.int .i64 (B.onHand c + count))) w.heap.size ⟨id, 0, c, 0, count, 0⟩ := (hq.drewN (nq + 1)).put (show w.heap.size ≠ p by omega)
  have hrX : Rep2 ((V.drewN (nq + 1)).setCell ⟨p, c * 2, none⟩ (.int .i64 (B.onHand c + count))) (w.heap.size + 1) := (hr.drewN (nq + 1)).put (show w.heap.size + 1 ≠ p by omega)
  have hgX : w.grownBy ((V.drewN (nq + 1)).setCell ⟨p, c * 2, none⟩ (.int .i64 (B.onHand c + count))) (some p) := grown_trans (grown_drewN (grown_below hB) (nq + 1)) (grown_put _ p _ _)
  generalize ((V.drewN (nq + 1)).setCell ⟨p, c * 2, none⟩ (.int .i64 (B.onHand c + count))) = X at hbX hqX hrX hgX ⊢
  have hcell := pCell_any p (Md.receive B c count) n c c X rfl hc hbX hinv.small hinv.l0
  have b2 := hqX.c2
  have HbX := hide hbX
  clear hbX HbV a2 a4 o2 of2 hq hr
  go_wp2_with fail
  refine hcell.mono ?_
  rintro e W1 ⟨rfl, hb1⟩
  unfold cellA
  have hfd := fun a b c d => run_free a b c d W1
  go_wp2_with fail
  refine (pDone_any _ W1).mono ?_
  rintro e W2 ⟨rfl, hb2⟩
  have hb12 : Below X.heap.size X W2 := hb1.trans (hb2.mono hb1.size)
  have hR2 := hrX.below hb12
  obtain ⟨r0, r1, rf, rl⟩ := hR2
  have Hb2 := hide (HbX.out.below hb12)
  have hg2 := grown_trans hgX (grown_below hb12)
  clear hcell b2 hb1 hb2 hb12 hrX hqX HbX
  go_wp2
  have hE := rep_close hg2 Hb2.out ⟨r0, r1, rf, rl⟩ hpw (.int .i64 0) (.int .i64 (Md.free (Md.receive B c count) c))
  generalize (W2.setCell ⟨w.heap.size + 1, 0, none⟩ (.int .i64 0)).setCell ⟨w.heap.size + 1, 1, none⟩ (.int .i64 (Md.free (Md.receive B c count) c)) = F at hE ⊢
  obtain ⟨e1, e2, e3, e4, e5⟩ := hE
  exact bodyPost_ret (v := .agg #[.int .i64 0, .int .i64 (Md.free (Md.receive B c count) c)]) (by simp [results, Try.results100, go_sem, e3, e4]) rfl ⟨rfl, e1, e2⟩
set_option maxRecDepth 100000 in
set_option maxHeartbeats 2000000 in
theorem pReceive_no (p : Nat) (B : Md.Bk) (n : Nat) (id count : Int) (c : Nat) (w : World) (hc : c < 8) (hb : PBook w p B n) (hv : Md.Inv B n) (h1 : 1 ≤ count) (h2 : count ≤ 1000000) (hcan : 1000000000 < B.onHand c + count) :
    Calls Try.prog 100 #[.pointer (some ⟨p, 0, none⟩), .agg #[.int .i64 id, .int .i64 0, .int .i64 c, .int .i64 0, .int .i64 count, .int .i64 0]] w fun e w' => e = .returned (.agg #[.int .i64 1, .int .i64 0]) ∧ Below w.heap.size w w' := by
  obtain ⟨o0, o9⟩ := hv.on c hc
  have hc' : (c : Int) < 8 := by omega
  obtain ⟨hq, hr, hB⟩ := box_both w ⟨id, 0, c, 0, count, 0⟩
  dsimp only at hq hr hB
  have hbV := hb.below hB
  clear hb
  go_enter Try.func100, Try.ntmps100
  go_wp2_with fail
  generalize (w.alloc (.cells #[.int .i64 id, .int .i64 0, .int .i64 c, .int .i64 0, .int .i64 count, .int .i64 0] 75)).alloc (.cells #[.int .i64 0, .int .i64 0] 77) = V at hq hr hB hbV ⊢
  have a2 := hq.c2
  have a4 := hq.c4
  have al := hq.lt
  have o2 := hbV.on c hc
  have ol := hbV.lt
  clear hbV hq
  go_quiet (fail)
  go_wp2_with fail
  refine (pRejected_any (V.drewN nq)).mono ?_
  rintro e W1 ⟨rfl, hb1⟩
  obtain ⟨r0, r1, rf, rl⟩ := (hr.drewN nq).below hb1
  go_wp2
  have hF := (((below_drewN' hB nq).trans (hb1.mono hB.size)).setCell (p := ⟨w.heap.size + 1, 0, none⟩) (Nat.le_succ _) (.int .i64 1)).setCell (p := ⟨w.heap.size + 1, 1, none⟩) (Nat.le_succ _) (.int .i64 0)
  obtain ⟨f0, f1⟩ := put2 r0 r1 (.int .i64 1) (.int .i64 0)
  generalize (W1.setCell ⟨w.heap.size + 1, 0, none⟩ (.int .i64 1)).setCell ⟨w.heap.size + 1, 1, none⟩ (.int .i64 0) = F at f0 f1 hF ⊢
  exact bodyPost_ret (v := .agg #[.int .i64 1, .int .i64 0]) (by simp [results, Try.results100, go_sem, f0, f1]) rfl ⟨rfl, hF⟩

set_option maxRecDepth 100000 in
set_option maxHeartbeats 2000000 in
theorem pReserve_no (p : Nat) (B : Md.Bk) (n : Nat) (id count time : Int) (c h : Nat) (w : World) (hc : c < 8) (hh : h < 51) (hb : PBook w p B n) (hv : Md.Inv B n) (hcan : ((!B.live h && decide (B.clock < time)) && decide (count ≤ Md.free B c)) = false) :
    Calls Try.prog 101 #[.pointer (some ⟨p, 0, none⟩), .agg #[.int .i64 id, .int .i64 1, .int .i64 c, .int .i64 h, .int .i64 count, .int .i64 time]] w fun e w' => e = .returned (.agg #[.int .i64 1, .int .i64 0]) ∧ Below w.heap.size w w' := by
  obtain ⟨hq, hr, hB⟩ := box_both w ⟨id, 1, c, h, count, time⟩
  dsimp only at hq hr hB
  have hbV := hb.below hB
  have hh' : (h : Int) < 51 := by omega
  have hc' : (c : Int) < 8 := by omega
  have hpw := hb.lt
  clear hb
  go_enter Try.func101, Try.ntmps101
  go_wp2_with fail
  generalize (w.alloc (.cells #[.int .i64 id, .int .i64 1, .int .i64 c, .int .i64 h, .int .i64 count, .int .i64 time] 75)).alloc (.cells #[.int .i64 0, .int .i64 0] 77) = V at hq hr hB hbV ⊢
  have hlv := fun d : Wd V => pIsLive_any p B n h d.w hh (hbV.below d.h) (fun hl => (hv.lv h hh hl).1)
  have hlv2 : ∀ d : Wd V, Calls Try.prog 98 #[.pointer (some ⟨p, 0, none⟩), .int .i64 h] d.w fun e w' => e = .returned (.bool (B.live h)) ∧ Below d.w.heap.size d.w w' := fun d => (hlv d).mono (fun e w' h => ⟨h.1, by rw [h.2]; exact Below.refl _ _⟩)
  have hcl := fun d : Wd V => pCell_any p B n c c d.w rfl hc (hbV.below d.h) hv.small hv.l0
  unfold cellA at hcl
  have hfd := fun a b c d W => run_free a b c d W
  have hin := Wd.there V
  have a2 := Wd.cell hq.c2
  have a3 := Wd.cell hq.c3
  have a4 := Wd.cell hq.c4
  have a5 := Wd.cell hq.c5
  have ac := Wd.cell hbV.cl
  have Hlv := hide hlv2
  have Hcl := hide hcl
  have HbV := hide hbV
  clear hlv hlv2 hcl hbV
  cases hl : B.live h with
  | true =>
    rw [hl] at Hlv
    clear hcan
    refine region_growsW V (by kernel_rfl) (by kernel_rfl) (Below.refl _ _) ?_
    repeat (go_big_quiet_step (first | (go_at_call 98; exact Calls.growsW (Hlv.out _)) | (go_at_call 77; exact Calls.growsW (Hcl.out _))))
    refine wpQuiet_nil ?_
    rintro w1 ⟨d, hd⟩
    have hw1 : Below V.heap.size V w1 := hd ▸ d.h
    clear hd d
    clear a2 a3 a4 a5 ac hin hfd Hlv Hcl
    go_wp2_with fail
    refine (pRejected_any w1).mono ?_
    rintro e W1 ⟨rfl, hb1⟩
    obtain ⟨r0, r1, rf, rl⟩ := (hr.below hw1).below hb1
    go_wp2
    have hF := (((hB.trans (hw1.mono hB.size)).trans (hb1.mono (Nat.le_trans hB.size hw1.size))).setCell (p := ⟨w.heap.size + 1, 0, none⟩) (Nat.le_succ _) (.int .i64 1)).setCell (p := ⟨w.heap.size + 1, 1, none⟩) (Nat.le_succ _) (.int .i64 0)
    obtain ⟨f0, f1⟩ := put2 r0 r1 (.int .i64 1) (.int .i64 0)
    generalize (W1.setCell ⟨w.heap.size + 1, 0, none⟩ (.int .i64 1)).setCell ⟨w.heap.size + 1, 1, none⟩ (.int .i64 0) = F at f0 f1 hF ⊢
    exact bodyPost_ret (v := .agg #[.int .i64 1, .int .i64 0]) (by simp [results, Try.results101, go_sem, f0, f1]) rfl ⟨rfl, hF⟩
  | false =>
    rw [hl] at Hlv hcan
    cases ht : decide (time ≤ B.clock) with
    | true =>
      clear hcan
      refine region_growsW V (by kernel_rfl) (by kernel_rfl) (Below.refl _ _) ?_
      repeat (go_big_quiet_step (first | (go_at_call 98; exact Calls.growsW (Hlv.out _)) | (go_at_call 77; exact Calls.growsW (Hcl.out _))))
      refine wpQuiet_nil ?_
      rintro w1 ⟨d, hd⟩
      have hw1 : Below V.heap.size V w1 := hd ▸ d.h
      clear hd d
      clear a2 a3 a4 a5 ac hin hfd Hlv Hcl
      go_wp2_with fail
      refine (pRejected_any w1).mono ?_
      rintro e W1 ⟨rfl, hb1⟩
      obtain ⟨r0, r1, rf, rl⟩ := (hr.below hw1).below hb1
      go_wp2
      have hF := (((hB.trans (hw1.mono hB.size)).trans (hb1.mono (Nat.le_trans hB.size hw1.size))).setCell (p := ⟨w.heap.size + 1, 0, none⟩) (Nat.le_succ _) (.int .i64 1)).setCell (p := ⟨w.heap.size + 1, 1, none⟩) (Nat.le_succ _) (.int .i64 0)
      obtain ⟨f0, f1⟩ := put2 r0 r1 (.int .i64 1) (.int .i64 0)
      generalize (W1.setCell ⟨w.heap.size + 1, 0, none⟩ (.int .i64 1)).setCell ⟨w.heap.size + 1, 1, none⟩ (.int .i64 0) = F at f0 f1 hF ⊢
      exact bodyPost_ret (v := .agg #[.int .i64 1, .int .i64 0]) (by simp [results, Try.results101, go_sem, f0, f1]) rfl ⟨rfl, hF⟩
    | false =>
      have hcn : decide (count > Md.free B c) = true := by
        have h1 := of_decide_eq_false ht
        rw [decide_eq_true (show B.clock < time by omega)] at hcan
        simp at hcan
        exact decide_eq_true hcan
      clear hcan
      refine region_growsW V (by kernel_rfl) (by kernel_rfl) (Below.refl _ _) ?_
      repeat (go_big_quiet_step (first | (go_at_call 98; exact Calls.growsW (Hlv.out _)) | (go_at_call 77; exact Calls.growsW (Hcl.out _))))
      refine wpQuiet_nil ?_
      rintro w1 ⟨d, hd⟩
      have hw1 : Below V.heap.size V w1 := hd ▸ d.h
      clear hd d
      clear a2 a3 a4 a5 ac hin hfd Hlv Hcl
      go_wp2_with fail
      refine (pRejected_any w1).mono ?_
      rintro e W1 ⟨rfl, hb1⟩
      obtain ⟨r0, r1, rf, rl⟩ := (hr.below hw1).below hb1
      go_wp2
      have hF := (((hB.trans (hw1.mono hB.size)).trans (hb1.mono (Nat.le_trans hB.size hw1.size))).setCell (p := ⟨w.heap.size + 1, 0, none⟩) (Nat.le_succ _) (.int .i64 1)).setCell (p := ⟨w.heap.size + 1, 1, none⟩) (Nat.le_succ _) (.int .i64 0)
      obtain ⟨f0, f1⟩ := put2 r0 r1 (.int .i64 1) (.int .i64 0)
      generalize (W1.setCell ⟨w.heap.size + 1, 0, none⟩ (.int .i64 1)).setCell ⟨w.heap.size + 1, 1, none⟩ (.int .i64 0) = F at f0 f1 hF ⊢
      exact bodyPost_ret (v := .agg #[.int .i64 1, .int .i64 0]) (by simp [results, Try.results101, go_sem, f0, f1]) rfl ⟨rfl, hF⟩

set_option maxRecDepth 100000 in
set_option maxHeartbeats 2000000 in
theorem pReserve (p : Nat) (B : Md.Bk) (n : Nat) (id count time : Int) (c h : Nat) (w : World) (hc : c < 8) (hh : h < 51) (h1 : 1 ≤ h) (hb : PBook w p B n) (hv : Md.Inv B n) (hl : B.live h = false) (htm : B.clock < time) (hm1 : 1 ≤ count) (hm2 : count ≤ 1000000) (hfr : count ≤ Md.free B c) :
    Calls Try.prog 101 #[.pointer (some ⟨p, 0, none⟩), .agg #[.int .i64 id, .int .i64 1, .int .i64 c, .int .i64 h, .int .i64 count, .int .i64 time]] w fun e w' => e = .returned (.agg #[.int .i64 0, .int .i64 (Md.free (Md.reserve B c h count time) c)]) ∧ PBook w' p (Md.reserve B c h count time) n ∧ w.grownBy w' (some p) := by
  have hinv := hv.reserve (c := c) (k := h) (m := count) (t := time) hc h1 (by omega) hl hm1 hm2 hfr
  obtain ⟨hq, hr, hB⟩ := box_both w ⟨id, 1, c, h, count, time⟩
  dsimp only at hq hr hB
  have hbV := hb.below hB
  have hh' : (h : Int) < 51 := by omega
  have hc' : (c : Int) < 8 := by omega
  have hpw := hb.lt
  clear hb
  go_enter Try.func101, Try.ntmps101
  go_wp2_with fail
  generalize (w.alloc (.cells #[.int .i64 id, .int .i64 1, .int .i64 c, .int .i64 h, .int .i64 count, .int .i64 time] 75)).alloc (.cells #[.int .i64 0, .int .i64 0] 77) = V at hq hr hB hbV ⊢
  have hlv := fun d : Wd V => pIsLive_any p B n h d.w hh (hbV.below d.h) (fun hl => (hv.lv h hh hl).1)
  have hlv2 : ∀ d : Wd V, Calls Try.prog 98 #[.pointer (some ⟨p, 0, none⟩), .int .i64 h] d.w fun e w' => e = .returned (.bool (B.live h)) ∧ Below d.w.heap.size d.w w' := fun d => (hlv d).mono (fun e w' h => ⟨h.1, by rw [h.2]; exact Below.refl _ _⟩)
  have hcl := fun d : Wd V => pCell_any p B n c c d.w rfl hc (hbV.below d.h) hv.small hv.l0
  unfold cellA at hcl
  have hfd := fun a b c d W => run_free a b c d W
  have hin := Wd.there V
  have a2 := Wd.cell hq.c2
  have a3 := Wd.cell hq.c3
  have a4 := Wd.cell hq.c4
  have a5 := Wd.cell hq.c5
  have ac := Wd.cell hbV.cl
  have Hlv := hide hlv2
  have Hcl := hide hcl
  have HbV := hide hbV
  clear hlv hlv2 hcl hbV
  rw [hl] at Hlv
  have ht : decide (time ≤ B.clock) = false := decide_eq_false (by omega)
  have hcn : decide (count > Md.free B c) = false := decide_eq_false (by omega)
  refine region_growsW V (by kernel_rfl) (by kernel_rfl) (Below.refl _ _) ?_
  repeat (go_big_quiet_step (first | (go_at_call 98; exact Calls.growsW (Hlv.out _)) | (go_at_call 77; exact Calls.growsW (Hcl.out _))))
  refine wpQuiet_nil ?_
  rintro w1 ⟨d, hd⟩
  have hw1 : Below V.heap.size V w1 := hd ▸ d.h
  clear hd d
  clear a2 a3 a4 a5 ac hin hfd Hlv Hcl
  have hq1 := hq.below hw1
  have hb1 := HbV.out.below hw1
  have hr1 := hr.below hw1
  have hB1 := hB.trans (hw1.mono hB.size)
  have b2 := hq1.c2
  have b3 := hq1.c3
  have b4 := hq1.c4
  have b5 := hq1.c5
  have bl := hq1.lt
  have d0 := hb1.hc h hh
  have d1 := hb1.hn h hh
  have d2 := hb1.ht h hh
  have df := hb1.fz
  have dl := hb1.lt
  have Hb1 := hide hb1
  clear hb1 HbV hq hr ht hcn htm hfr
  go_wp2_with fail
  go_region
  have hbX : PBook ((((w1.setCell ⟨p, 16 + h * 3, none⟩ (.int .i64 c)).setCell ⟨p, 16 + h * 3 + 1, none⟩ (.int .i64 count)).setCell ⟨p, 16 + h * 3 + 2, none⟩ (.int .i64 time)).drew) p (Md.reserve B c h count time) n := (Hb1.out.reserve hh c count time).drew
  have hqX : Req6 ((((w1.setCell ⟨p, 16 + h * 3, none⟩ (.int .i64 c)).setCell ⟨p, 16 + h * 3 + 1, none⟩ (.int .i64 count)).setCell ⟨p, 16 + h * 3 + 2, none⟩ (.int .i64 time)).drew) w.heap.size ⟨id, 1, c, h, count, time⟩ := (((hq1.put (q := p) (show w.heap.size ≠ p by omega)).put (q := p) (show w.heap.size ≠ p by omega)).put (q := p) (show w.heap.size ≠ p by omega)).drewN 1
  have hrX : Rep2 ((((w1.setCell ⟨p, 16 + h * 3, none⟩ (.int .i64 c)).setCell ⟨p, 16 + h * 3 + 1, none⟩ (.int .i64 count)).setCell ⟨p, 16 + h * 3 + 2, none⟩ (.int .i64 time)).drew) (w.heap.size + 1) := (((hr1.put (q := p) (show w.heap.size + 1 ≠ p by omega)).put (q := p) (show w.heap.size + 1 ≠ p by omega)).put (q := p) (show w.heap.size + 1 ≠ p by omega)).drew
  have hgX : w.grownBy ((((w1.setCell ⟨p, 16 + h * 3, none⟩ (.int .i64 c)).setCell ⟨p, 16 + h * 3 + 1, none⟩ (.int .i64 count)).setCell ⟨p, 16 + h * 3 + 2, none⟩ (.int .i64 time)).drew) (some p) := grown_drew (grown_trans (grown_below hB1) (grown_trans (grown_put w1 p _ _) (grown_trans (grown_put _ p _ _) (grown_put _ p _ _))))
  generalize (((w1.setCell ⟨p, 16 + h * 3, none⟩ (.int .i64 c)).setCell ⟨p, 16 + h * 3 + 1, none⟩ (.int .i64 count)).setCell ⟨p, 16 + h * 3 + 2, none⟩ (.int .i64 time)).drew = X at hbX hqX hrX hgX ⊢
  have hcell := pCell_any p (Md.reserve B c h count time) n c c X rfl hc hbX hinv.small hinv.l0
  have g2 := hqX.c2
  have HbX := hide hbX
  clear hbX b2 b3 b4 b5 d0 d1 d2 df Hb1 hq1 hr1
  go_wp2_with fail
  refine hcell.mono ?_
  rintro e W1 ⟨rfl, hb1⟩
  unfold cellA
  have hfd := fun a b c d => run_free a b c d W1
  go_wp2_with fail
  refine (pDone_any _ W1).mono ?_
  rintro e W2 ⟨rfl, hb2⟩
  have hb12 : Below X.heap.size X W2 := hb1.trans (hb2.mono hb1.size)
  have hR2 := hrX.below hb12
  obtain ⟨r0, r1, rf, rl⟩ := hR2
  have Hb2 := hide (HbX.out.below hb12)
  have hg2 := grown_trans hgX (grown_below hb12)
  clear hcell g2 hb1 hb2 hb12 hrX hqX HbX
  go_wp2
  have hE := rep_close hg2 Hb2.out ⟨r0, r1, rf, rl⟩ hpw (.int .i64 0) (.int .i64 (Md.free (Md.reserve B c h count time) c))
  generalize (W2.setCell ⟨w.heap.size + 1, 0, none⟩ (.int .i64 0)).setCell ⟨w.heap.size + 1, 1, none⟩ (.int .i64 (Md.free (Md.reserve B c h count time) c)) = F at hE ⊢
  obtain ⟨e1, e2, e3, e4, e5⟩ := hE
  exact bodyPost_ret (v := .agg #[.int .i64 0, .int .i64 (Md.free (Md.reserve B c h count time) c)]) (by simp [results, Try.results101, go_sem, e3, e4]) rfl ⟨rfl, e1, e2⟩
end Go.Proofs.Ytidacihlalbohaa
