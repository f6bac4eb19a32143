/- Replay, walked: the records of a log are done. -/
import Derived.Test.YtidacihlalbohaaRepMath
import Derived.Test.YtidacihlalbohaaPRecord
import Derived.Test.YtidacihlalbohaaIter
import Derived.Test.YtidacihlalbohaaRefDo
namespace Go.Proofs.Ytidacihlalbohaa
open Go.RowKit Go.Shelf
attribute [local go_sem] Oper.semAt_some

theorem share4 {A B C D : Type} {R : A → B → C → D → Prop} {a : A} {b : B} {c : C} {d : D} (h : ∀ R' : A → B → C → D → Prop, R' = R → R' a b c d) : R a b c d := h R rfl
theorem castL {A B C D : Type} {R : A → B → C → D → Prop} {a : A} {L L' : B} {c : C} {d : D} (h : L' = L) (hr : R a L c d) : R a L' c d := h ▸ hr
theorem castLF {A B C D : Type} {R : A → B → C → D → Prop} {a a' : A} {L L' : B} {c : C} {d : D} (ha : a' = a) (h : L' = L) (hr : R a L c d) : R a' L' c d := ha ▸ h ▸ hr

/-- Replay's memory on its way. -/
structure RepSt (w W : World) (p : Nat) (C : Md.Bk) (n : Nat) (had ahead : Int) (e : Nat) (t : ByteArray) : Prop where
  bk : PBook W p C n
  b0 : Boxed W w.heap.size 117 (.pointer (some ⟨p, 0, none⟩))
  b1 : Boxed W (w.heap.size + 1) 3 (.int .i64 had)
  b2 : Boxed W (w.heap.size + 1 + 1) 3 (.int .i64 ahead)
  b3 : Boxed W (w.heap.size + 1 + 1 + 1) 3 (.int .i64 e)
  b4 : Boxed W (w.heap.size + 1 + 1 + 1 + 1) 9 (.string t)
  gr : w.grownBy W (some p)
theorem RepSt.grown {w W W' : World} {p : Nat} {C : Md.Bk} {n : Nat} {had ahead : Int} {e : Nat} {t : ByteArray} {row : Option Nat} (h : RepSt w W p C n had ahead e t) (hp : p < w.heap.size) (hg : W.grownBy W' row) (hr : ∀ r, row = some r → w.heap.size + 1 + 1 + 1 + 1 < r) : RepSt w W' p C n had ahead e t := by
  have nr : ∀ B, B < w.heap.size + 1 + 1 + 1 + 1 + 1 → some B ≠ row := fun B hB e => by have := hr B e.symm; omega
  refine ⟨h.bk.of_block (hg.block p h.bk.lt (nr p (by omega))) (Nat.lt_of_lt_of_le h.bk.lt hg.size), h.b0.kept hg (nr _ (by omega)), h.b1.kept hg (nr _ (by omega)), h.b2.kept hg (nr _ (by omega)), h.b3.kept hg (nr _ (by omega)), h.b4.kept hg (nr _ (by omega)), ?_⟩
  exact ⟨hg.os.trans h.gr.os, hg.tape.trans h.gr.tape, hg.output.trans h.gr.output, Nat.le_trans h.gr.size hg.size, fun k hk hne => (hg.block k (Nat.lt_of_lt_of_le hk h.gr.size) (nr k (by omega))).trans (h.gr.block k hk hne)⟩
theorem repSt_own {β : Type} (w : World) (p : Nat) (n : Nat) (had : Int) (t : ByteArray) (B0 : Nat) (hB : w.heap.size + 1 + 1 + 1 + 1 < B0) (hp : p < w.heap.size) (R : β → Int → Md.Bk → Nat → Prop) : OwnFrom B0 (fun s W => ∃ a C e, R s a C e ∧ RepSt w W p C n had a e t) :=
  fun _ _ _ _ ⟨a, C, e, hR, hs⟩ hg hr => ⟨a, C, e, hR, hs.grown hp hg fun r e => Nat.lt_of_lt_of_le hB (hr r e).1⟩
structure Req6o (W : World) (b : Nat) (r : Md.Req) : Prop where
  c0 : W.cell? ⟨b, 1, none⟩ = some (.int .i64 r.id)
  c1 : W.cell? ⟨b, 2, none⟩ = some (.int .i64 r.kind)
  c2 : W.cell? ⟨b, 3, none⟩ = some (.int .i64 r.cell)
  c3 : W.cell? ⟨b, 4, none⟩ = some (.int .i64 r.hold)
  c4 : W.cell? ⟨b, 5, none⟩ = some (.int .i64 r.count)
  c5 : W.cell? ⟨b, 6, none⟩ = some (.int .i64 r.time)
  lt : b < W.heap.size
theorem Req6o.of_block {W W' : World} {b : Nat} {r : Md.Req} (h : Req6o W b r) (hb : W'.heap[b]? = W.heap[b]?) (hl : b < W'.heap.size) : Req6o W' b r :=
  have c : ∀ o, W'.cell? ⟨b, o, none⟩ = W.cell? ⟨b, o, none⟩ := fun _ => World.cell?_of_block hb
  ⟨(c _).trans h.c0, (c _).trans h.c1, (c _).trans h.c2, (c _).trans h.c3, (c _).trans h.c4, (c _).trans h.c5, hl⟩
/-- .. behind a round's first part: the record lies in a new block R. -/
theorem RepSt.ahead {w W : World} {p : Nat} {C : Md.Bk} {n : Nat} {had ahead : Int} {e : Nat} {t : ByteArray} (h : RepSt w W p C n had ahead e t) (hp : p < w.heap.size) (m : Int) : RepSt w (W.setCell ⟨w.heap.size + 1 + 1, 0, none⟩ (.int .i64 m)) p C n had m e t :=
  ⟨h.bk.of_block (put_block 0 _ (by omega)) (by rw [size_put]; exact h.bk.lt), h.b0.other (by omega) _, h.b1.other (by omega) _, h.b2.set _, h.b3.other (by omega) _, h.b4.other (by omega) _, grown_new h.gr _ _ _ (by omega)⟩
theorem RepSt.end {w W : World} {p : Nat} {C : Md.Bk} {n : Nat} {had ahead : Int} {e : Nat} {t : ByteArray} (h : RepSt w W p C n had ahead e t) (hp : p < w.heap.size) (m : Nat) : RepSt w (W.setCell ⟨w.heap.size + 1 + 1 + 1, 0, none⟩ (.int .i64 m)) p C n had ahead m t :=
  ⟨h.bk.of_block (put_block 0 _ (by omega)) (by rw [size_put]; exact h.bk.lt), h.b0.other (by omega) _, h.b1.other (by omega) _, h.b2.other (by omega) _, h.b3.set _, h.b4.other (by omega) _, grown_new h.gr _ _ _ (by omega)⟩

set_option maxRecDepth 100000 in
set_option maxHeartbeats 2000000 in
theorem pReplay_any (p : Nat) (B : Md.Bk) (n : Nat) (t : ByteArray) (w : World) (hb : PBook w p B n) (hv : Md.Inv B n) (hw : 1 ≤ n ∧ n ≤ 20) (hc : 0 ≤ B.count ∧ B.count ≤ 1000000000) (hm : t.size ≤ 1099511627776) :
    Calls Try.prog 34 #[.pointer (some ⟨p, 0, none⟩), .string t] w fun e W' => e = .returned (.int .i64 (Md.finP n B.count (Fr.all t.data.toList) (0, B, 0)).2.2) ∧
      PBook W' p (Md.finP n B.count (Fr.all t.data.toList) (0, B, 0)).2.1 n ∧ w.grownBy W' (some p) := by
  refine (callsIn_wide (n := 9)).1 ?_
  have hmx : Try.prog.follows .mixedOrders = true := by kernel_rfl
  have hpl := hb.lt
  have hcn := hb.cn
  refine callsIn_of_wp_marks Try.func34 rfl trivial ?_ rfl
  simp only [Try.ntmps34, List.size_toArray, List.length_cons, List.length_nil, Nat.reduceAdd, Nat.reduceSub, Array.replicate_succ, Array.replicate_zero, List.push_toArray, List.append_toArray, List.nil_append, List.cons_append]
  gi_wp2
  refine wpIn_wide.2 (wp_scope_straight ((wpIn_wide (n := 9)).1 ?_))
  gi_wp2
  refine wpIn_label ?_
  gi_wp2_with (refine ⟨trivial, ?_⟩; gi_at_call 25; refine (allMade_in _ _ _).mono ?_; rintro e w' ⟨rfl, rfl⟩)
  have hS0 : RepSt w (((((w.alloc (.cells #[.pointer (some ⟨p, 0, none⟩)] 117)).alloc (.cells #[.int .i64 B.count] 3)).alloc (.cells #[.int .i64 0] 3)).alloc (.cells #[.int .i64 0] 3)).alloc (.cells #[.string t] 9)) p B n B.count 0 0 t := by
    refine ⟨hb.below ((((((Below.refl _ w).alloc (Nat.le_refl _) _).alloc (by simp) _).alloc (by simp; omega) _).alloc (by simp; omega) _).alloc (by simp; omega) _), ?_, ?_, ?_, ?_, ?_, ?_⟩
    · exact ((((Boxed.new w 117 (.pointer (some ⟨p, 0, none⟩))).alloc _).alloc _).alloc _).alloc _
    · have h := (((Boxed.new (w.alloc (.cells #[.pointer (some ⟨p, 0, none⟩)] 117)) 3 (.int .i64 B.count)).alloc (.cells #[.int .i64 0] 3)).alloc (.cells #[.int .i64 0] 3)).alloc (.cells #[.string t] 9)
      rwa [World.size_alloc] at h
    · have h := ((Boxed.new ((w.alloc (.cells #[.pointer (some ⟨p, 0, none⟩)] 117)).alloc (.cells #[.int .i64 B.count] 3)) 3 (.int .i64 0)).alloc (.cells #[.int .i64 0] 3)).alloc (.cells #[.string t] 9)
      rwa [World.size_alloc, World.size_alloc] at h
    · have h := (Boxed.new (((w.alloc (.cells #[.pointer (some ⟨p, 0, none⟩)] 117)).alloc (.cells #[.int .i64 B.count] 3)).alloc (.cells #[.int .i64 0] 3)) 3 (.int .i64 0)).alloc (.cells #[.string t] 9)
      rwa [World.size_alloc, World.size_alloc, World.size_alloc] at h
    · have h := Boxed.new ((((w.alloc (.cells #[.pointer (some ⟨p, 0, none⟩)] 117)).alloc (.cells #[.int .i64 B.count] 3)).alloc (.cells #[.int .i64 0] 3)).alloc (.cells #[.int .i64 0] 3)) 9 (.string t)
      rwa [World.size_alloc, World.size_alloc, World.size_alloc, World.size_alloc] at h
    · exact grown_below ((((((Below.refl _ w).alloc (Nat.le_refl _) _).alloc (by simp) _).alloc (by simp; omega) _).alloc (by simp; omega) _).alloc (by simp; omega) _)
  obtain ⟨W0, hW0⟩ : ∃ W0, ((((w.alloc (.cells #[.pointer (some ⟨p, 0, none⟩)] 117)).alloc (.cells #[.int .i64 B.count] 3)).alloc (.cells #[.int .i64 0] 3)).alloc (.cells #[.int .i64 0] 3)).alloc (.cells #[.string t] 9) = W0 := ⟨_, rfl⟩
  have hsz : W0.heap.size = w.heap.size + 1 + 1 + 1 + 1 + 1 := by rw [← hW0]; simp
  rw [hW0] at hS0 ⊢
  clear hW0
  refine wpIn_rangeFunc_ownG rfl (by omega) (gf := 51) (lb := #[.pointer (some ⟨w.heap.size + 1 + 1 + 1 + 1, 0, none⟩)]) rfl trivial (enters_of Try.func51 (by kernel_rfl) rfl)
    (all_stops 8 (by omega) (w.heap.size + 1 + 1 + 1 + 1) t (by omega) W0 (by omega) hS0.b4.cell) keepsAt_t keepsAt_b (Below.refl _ _) (fun _ => rfl)
    (fun pre W => ∃ a C e, (Md.goP n B.count pre (0, B, 0) = some (a, C, e) ∧ Md.Inv C n ∧ (0 ≤ C.count ∧ C.count ≤ B.count + pre.length) ∧ (0 ≤ a ∧ a ≤ 1000000000)) ∧ RepSt w W p C n B.count a e t)
    (fun c pre W => ∃ a C e, (c = .exit 0 ∧ ∃ pre' x a0, pre = pre' ++ [x] ∧ Md.goP n B.count pre' (0, B, 0) = some (a0, C, e) ∧ Md.stepP n B.count (a0, C, e) x = none) ∧ RepSt w W p C n B.count a e t)
    (repSt_own w p n B.count t W0.heap.size (by omega) hpl (fun pre a C e => Md.goP n B.count pre (0, B, 0) = some (a, C, e) ∧ Md.Inv C n ∧ (0 ≤ C.count ∧ C.count ≤ B.count + pre.length) ∧ (0 ≤ a ∧ a ≤ 1000000000)))
    (fun c => repSt_own w p n B.count t W0.heap.size (by omega) hpl (fun pre _ C e => c = .exit 0 ∧ ∃ pre' x a0, pre = pre' ++ [x] ∧ Md.goP n B.count pre' (0, B, 0) = some (a0, C, e) ∧ Md.stepP n B.count (a0, C, e) x = none))
    ⟨0, B, 0, ⟨rfl, hv, ⟨hc.1, by simp⟩, by omega⟩, hS0⟩
    (fun x => { tmps := #[.pointer (some ⟨p, 0, none⟩), .string t, .pointer (some ⟨w.heap.size, 0, none⟩), undef, .int .i64 0, .pointer (some ⟨w.heap.size + 1, 0, none⟩), .pointer (some ⟨w.heap.size + 1 + 1, 0, none⟩), .pointer (some ⟨w.heap.size + 1 + 1 + 1, 0, none⟩), .string ⟨x.1.1.toArray⟩, .int .i64 x.2, undef, undef, undef, undef, .pointer (some ⟨p, 0, none⟩), .pointer (some ⟨p, 0, none⟩), .pointer (some ⟨p, 170, none⟩), .int .i64 B.count, .string t, .func (.func 51) #[] #[.pointer (some ⟨w.heap.size + 1 + 1 + 1 + 1, 0, none⟩)], .string ⟨x.1.1.toArray⟩, .int .i64 x.2, undef, undef, undef, undef, undef, undef, undef, undef, undef, undef, undef, undef, undef, undef, undef, undef, undef, undef, undef, undef, undef, undef, undef, undef, undef, undef, undef, undef, undef, undef, undef, undef, undef, undef], defers := [] }) ?assign ?body ?done ?stop
  case assign =>
    intro l x W K hK
    gi_wp2
    exact hK
  case body =>
    rintro l pre x W ⟨a, C, e, ⟨hgo, hI, hcc, haa⟩, hS⟩ hlt
    have hal : (pre.length : Int) ≤ 1099511627776 := by have := Fr.items_length t.data.toList.length t.data.toList 0; have h2 := Fr.size_list t; unfold Fr.all at hlt; omega
    have hrd := readRecord_any ⟨x.1.1.toArray⟩ W
    have hln : (⟨x.1.1.toArray⟩ : ByteArray).size = x.1.1.length := by simp [ByteArray.size]
    dsimp only [List.toList_toArray] at hrd
    rw [hln] at hrd
    unfold recA at hrd
    obtain ⟨num, hnum⟩ : ∃ num, Md.numAt x.1.1 0 = num := ⟨_, rfl⟩
    obtain ⟨rq, hrq⟩ : ∃ rq, Md.reqAt x.1.1 1 = rq := ⟨_, rfl⟩
    obtain ⟨ok, hok⟩ : ∃ ok, decide (x.1.1.length = 28) = ok := ⟨_, rfl⟩
    have hstep : Md.stepP n B.count (a, C, e) x = (if (ok && Md.follows num a B.count) = true then if num ≤ B.count then some (num, C, x.2) else if Md.isNew C rq = true then some (num, (Md.doReq C rq n).1, x.2) else none else none) := by
      unfold Md.stepP; rw [hnum, hrq, hok]
    rw [hnum, hrq, hok] at hrd
    have Hstep := hide hstep
    have Hgo := hide hgo
    clear hstep hgo hnum hrq hok hln
    gi_wp2_with fail
    refine ⟨trivial, ?_⟩
    refine (CallsIn.inRound l (callsIn_wide.2 hrd)).mono ?_
    rintro ed W1 ⟨rfl, hb1⟩
    have hS1 := (hS.grown (row := none) hpl (grown_below hb1) (fun r e => by cases e)).grown (row := none) hpl (grown_below ((Below.refl W1.heap.size W1).alloc (Nat.le_refl _) (.cells #[.int .i64 num, .int .i64 rq.id, .int .i64 rq.kind, .int .i64 rq.cell, .int .i64 rq.hold, .int .i64 rq.count, .int .i64 rq.time] 121))) (fun r e => by cases e)
    have hkf : KeepsFrom W0.heap.size W (W1.alloc (.cells #[.int .i64 num, .int .i64 rq.id, .int .i64 rq.kind, .int .i64 rq.cell, .int .i64 rq.hold, .int .i64 rq.count, .int .i64 rq.time] 121)) := ((KeepsOthers.of_grownBy (grown_of_below hb1) (fun j o e => by cases e)).trans (KeepsOthers.alloc W1 _)).from _
    have hR1 : W1.heap.size ≠ p := by have := hS.bk.lt; have := hb1.size; omega
    have hR2 : w.heap.size + 1 + 1 + 1 + 1 < W1.heap.size := by have := hS.b4.lt; have := hb1.size; omega
    have y0 : (W1.alloc (.cells #[.int .i64 num, .int .i64 rq.id, .int .i64 rq.kind, .int .i64 rq.cell, .int .i64 rq.hold, .int .i64 rq.count, .int .i64 rq.time] 121)).cell? ⟨W1.heap.size, 0, none⟩ = some (.int .i64 num) := by simp [go_sem]
    have y1 : Req6o (W1.alloc (.cells #[.int .i64 num, .int .i64 rq.id, .int .i64 rq.kind, .int .i64 rq.cell, .int .i64 rq.hold, .int .i64 rq.count, .int .i64 rq.time] 121)) W1.heap.size rq := ⟨by simp [go_sem], by simp [go_sem], by simp [go_sem], by simp [go_sem], by simp [go_sem], by simp [go_sem], by simp⟩
    have ch := hS1.b1.cell
    have ca := hS1.b2.cell
    have fa := hS1.b2.frozen
    have fe := hS1.b3.frozen
    have ce := hS1.b3.cell
    obtain ⟨R, hRR⟩ : ∃ R, W1.heap.size = R := ⟨_, rfl⟩
    rw [hRR] at y0 y1 hR1 hR2
    cases ok with
    | false =>
      gi_wp2
      refine ⟨trivial, ?_⟩
      gi_wp2
      exact ⟨hkf, a, C, e, ⟨rfl, pre, x, a, rfl, Hgo.out, by rw [Hstep.out]; rfl⟩, hS1⟩
    | true =>
      gi_wp2_with fail
      generalize W1.alloc (.cells #[.int .i64 num, .int .i64 rq.id, .int .i64 rq.kind, .int .i64 rq.cell, .int .i64 rq.hold, .int .i64 rq.count, .int .i64 rq.time] 121) = X at hS1 hkf y0 y1 ch ca fa fe ce ⊢
      clear hrd hb1 hRR
      refine ⟨trivial, ?_⟩
      refine (CallsIn.inRound l (callsIn_wide.2 (follows_any num a B.count X hc haa))).mono ?_
      rintro ed W2 ⟨rfl, hW2⟩
      rw [hW2]; clear hW2 W2
      cases hfo : Md.follows num a B.count with
      | false =>
        rw [hfo] at Hstep
        gi_wp2
        exact ⟨hkf, a, C, e, ⟨rfl, pre, x, a, rfl, Hgo.out, by rw [Hstep.out]; rfl⟩, hS1⟩
      | true =>
        rw [hfo] at Hstep
        have hnb := Md.follows_bd hfo haa.1
        have hS2 := hS1.ahead hpl num
        have y0' : (X.setCell ⟨w.heap.size + 1 + 1, 0, none⟩ (.int .i64 num)).cell? ⟨R, 0, none⟩ = some (.int .i64 num) := (World.cell?_of_block (put_block 0 _ (show R ≠ w.heap.size + 1 + 1 by omega))).trans y0
        have y1' : Req6o (X.setCell ⟨w.heap.size + 1 + 1, 0, none⟩ (.int .i64 num)) R rq := y1.of_block (put_block 0 _ (show R ≠ w.heap.size + 1 + 1 by omega)) (by rw [size_put]; exact y1.lt)
        have ch' := hS2.b1.cell
        have cb' := hS2.b0.cell
        have ce' := hS2.b3.cell
        have fe' := hS2.b3.frozen
        have hkf' : KeepsFrom W0.heap.size W (X.setCell ⟨w.heap.size + 1 + 1, 0, none⟩ (.int .i64 num)) := hkf.trans ((KeepsOthers.setCell X _ _).from _)
        have hRl : R < (X.setCell ⟨w.heap.size + 1 + 1, 0, none⟩ (.int .i64 num)).heap.size := y1'.lt
        clear hfo
        by_cases hle : num ≤ B.count
        · have hS3 := hS2.end hpl x.2
          have hkf3 := hkf'.trans ((KeepsOthers.setCell (X.setCell ⟨w.heap.size + 1 + 1, 0, none⟩ (.int .i64 num)) ⟨w.heap.size + 1 + 1 + 1, 0, none⟩ (.int .i64 x.2)).from W0.heap.size)
          have Hle := hide hle
          gi_wp2
          refine ⟨hkf3, fun u hu => ?_, num, C, x.2, ⟨?_, hI, ⟨hcc.1, ?_⟩, by omega⟩, hS3⟩
          · rw [hS.b4.cell] at hu; cases hu; exact hS3.b4.cell
          · rw [Md.goP_snoc, Hgo.out]; exact Hstep.out.trans (by rw [if_pos (show (true && true) = true from rfl), if_pos Hle.out])
          · have := hcc.2; rw [List.length_append]; simp; omega
        · have Hle := hide hle
          gi_wp2_with fail
          generalize X.setCell ⟨w.heap.size + 1 + 1, 0, none⟩ (.int .i64 num) = V at hS2 y0' y1' ch' cb' ce' fe' hkf' hRl ⊢
          clear hle y0 y1 ch ca fa fe ce
          have cb'' := cb'
          have hHl : w.heap.size < V.heap.size := World.block_lt_of_cell? V ⟨w.heap.size, 0, none⟩ cb'
          have hlo := fun W => lookOver_any rq W
          unfold reqA lookA at hlo
          obtain ⟨⟨CC, ⟨rc, cc⟩, dn⟩, hAA⟩ : ∃ y, Md.ask C rq n = y := ⟨_, rfl⟩
          have hask := fun W (hb : PBook W p C n) => pAsk_any p C n rq W hb hI hw (by have := hcc; have := hal; omega)
          rw [hAA] at hask
          unfold askV lookA repA at hask
          dsimp only at hask
          have HAA := hide hAA
          clear hAA
          refine wpIn_mono (Q := fun ex ac Y => ex = .normal ∧ ∃ Z, ac = { tmps := #[.pointer (some ⟨p, 0, none⟩), .string t, .pointer (some ⟨w.heap.size, 0, none⟩), undef, .int .i64 0, .pointer (some ⟨w.heap.size + 1, 0, none⟩), .pointer (some ⟨w.heap.size + 1 + 1, 0, none⟩), .pointer (some ⟨w.heap.size + 1 + 1 + 1, 0, none⟩), .string ⟨x.1.1.toArray⟩, .int .i64 x.2, .pointer (some ⟨R, 0, none⟩), .bool true, .pointer (some ⟨Z, 0, none⟩), .bool dn, .pointer (some ⟨p, 0, none⟩), .pointer (some ⟨p, 0, none⟩), .pointer (some ⟨p, 170, none⟩), .int .i64 B.count, .string t, .func (.func 51) #[] #[.pointer (some ⟨w.heap.size + 1 + 1 + 1 + 1, 0, none⟩)], .string ⟨x.1.1.toArray⟩, .int .i64 x.2, .tuple #[.agg #[.int .i64 num, .int .i64 rq.id, .int .i64 rq.kind, .int .i64 rq.cell, .int .i64 rq.hold, .int .i64 rq.count, .int .i64 rq.time], .bool true], .string ⟨x.1.1.toArray⟩, .tuple #[.agg #[.int .i64 num, .int .i64 rq.id, .int .i64 rq.kind, .int .i64 rq.cell, .int .i64 rq.hold, .int .i64 rq.count, .int .i64 rq.time], .bool true], .agg #[.int .i64 num, .int .i64 rq.id, .int .i64 rq.kind, .int .i64 rq.cell, .int .i64 rq.hold, .int .i64 rq.count, .int .i64 rq.time], .bool true, .bool true, .bool false, .bool false, .pointer (some ⟨R, 0, none⟩), .int .i64 num, .int .i64 a, .int .i64 B.count, .bool true, .bool false, .bool false, .pointer (some ⟨R, 0, none⟩), .int .i64 num, .pointer (some ⟨R, 0, none⟩), .int .i64 num, .int .i64 B.count, .bool (decide (num ≤ B.count)), undef, .tuple #[.agg #[.int .i64 rc, .int .i64 cc], .bool dn], .pointer (some ⟨p, 0, none⟩), .pointer (some ⟨R, 1, none⟩), .agg #[.int .i64 rq.id, .int .i64 rq.kind, .int .i64 rq.cell, .int .i64 rq.hold, .int .i64 rq.count, .int .i64 rq.time], .agg #[.int .i64 rq.id, .int .i64 rq.kind, .int .i64 rq.cell, .int .i64 rq.hold, .int .i64 rq.count, .int .i64 rq.time, .bool (Md.good rq)], .tuple #[.agg #[.int .i64 rc, .int .i64 cc], .bool dn], .agg #[.int .i64 rc, .int .i64 cc], .bool dn, undef, undef, undef, undef], defers := [] } ∧ V.grownBy Y (some p) ∧ PBook Y p CC n) ?_ ?_
          · refine wpIn_region_any hmx ?_
            refine share4 (R := wpAnyIn _ _ _ _ _ _) fun RR hRR => ?_
            have s_0_1_2_3_4_5_6_7_8_9_10 : Hid (∀ (Y : World) (Z : Nat), V.grownBy Y (some p) → PBook Y p CC n → V.heap.size ≤ Z → RR 0 #[true, true, true, true, true, true, true, true, true, true, true] { tmps := #[.pointer (some ⟨p, 0, none⟩), .string t, .pointer (some ⟨w.heap.size, 0, none⟩), undef, .int .i64 0, .pointer (some ⟨w.heap.size + 1, 0, none⟩), .pointer (some ⟨w.heap.size + 1 + 1, 0, none⟩), .pointer (some ⟨w.heap.size + 1 + 1 + 1, 0, none⟩), .string ⟨x.1.1.toArray⟩, .int .i64 x.2, .pointer (some ⟨R, 0, none⟩), .bool true, .pointer (some ⟨Z, 0, none⟩), .bool dn, .pointer (some ⟨p, 0, none⟩), .pointer (some ⟨p, 0, none⟩), .pointer (some ⟨p, 170, none⟩), .int .i64 B.count, .string t, .func (.func 51) #[] #[.pointer (some ⟨w.heap.size + 1 + 1 + 1 + 1, 0, none⟩)], .string ⟨x.1.1.toArray⟩, .int .i64 x.2, .tuple #[.agg #[.int .i64 num, .int .i64 rq.id, .int .i64 rq.kind, .int .i64 rq.cell, .int .i64 rq.hold, .int .i64 rq.count, .int .i64 rq.time], .bool true], .string ⟨x.1.1.toArray⟩, .tuple #[.agg #[.int .i64 num, .int .i64 rq.id, .int .i64 rq.kind, .int .i64 rq.cell, .int .i64 rq.hold, .int .i64 rq.count, .int .i64 rq.time], .bool true], .agg #[.int .i64 num, .int .i64 rq.id, .int .i64 rq.kind, .int .i64 rq.cell, .int .i64 rq.hold, .int .i64 rq.count, .int .i64 rq.time], .bool true, .bool true, .bool false, .bool false, .pointer (some ⟨R, 0, none⟩), .int .i64 num, .int .i64 a, .int .i64 B.count, .bool true, .bool false, .bool false, .pointer (some ⟨R, 0, none⟩), .int .i64 num, .pointer (some ⟨R, 0, none⟩), .int .i64 num, .int .i64 B.count, .bool (decide (num ≤ B.count)), undef, .tuple #[.agg #[.int .i64 rc, .int .i64 cc], .bool dn], .pointer (some ⟨p, 0, none⟩), .pointer (some ⟨R, 1, none⟩), .agg #[.int .i64 rq.id, .int .i64 rq.kind, .int .i64 rq.cell, .int .i64 rq.hold, .int .i64 rq.count, .int .i64 rq.time], .agg #[.int .i64 rq.id, .int .i64 rq.kind, .int .i64 rq.cell, .int .i64 rq.hold, .int .i64 rq.count, .int .i64 rq.time, .bool (Md.good rq)], .tuple #[.agg #[.int .i64 rc, .int .i64 cc], .bool dn], .agg #[.int .i64 rc, .int .i64 cc], .bool dn, undef, undef, undef, undef], defers := [] } Y) := by
              intro Y Z hG hP hZ
              rw [hRR]
              refine wpAnyIn_done (by kernel_rfl) ?_ _
              exact ⟨rfl, Z, rfl, hG, hP⟩
            have s_0_1_2_3_4_5_6_7_8_9 : Hid (∀ (Y : World) (Z : Nat), V.grownBy Y (some p) → PBook Y p CC n → V.heap.size ≤ Z → RR 1 #[true, true, true, true, true, true, true, true, true, true, false] { tmps := #[.pointer (some ⟨p, 0, none⟩), .string t, .pointer (some ⟨w.heap.size, 0, none⟩), undef, .int .i64 0, .pointer (some ⟨w.heap.size + 1, 0, none⟩), .pointer (some ⟨w.heap.size + 1 + 1, 0, none⟩), .pointer (some ⟨w.heap.size + 1 + 1 + 1, 0, none⟩), .string ⟨x.1.1.toArray⟩, .int .i64 x.2, .pointer (some ⟨R, 0, none⟩), .bool true, .pointer (some ⟨Z, 0, none⟩), undef, .pointer (some ⟨p, 0, none⟩), .pointer (some ⟨p, 0, none⟩), .pointer (some ⟨p, 170, none⟩), .int .i64 B.count, .string t, .func (.func 51) #[] #[.pointer (some ⟨w.heap.size + 1 + 1 + 1 + 1, 0, none⟩)], .string ⟨x.1.1.toArray⟩, .int .i64 x.2, .tuple #[.agg #[.int .i64 num, .int .i64 rq.id, .int .i64 rq.kind, .int .i64 rq.cell, .int .i64 rq.hold, .int .i64 rq.count, .int .i64 rq.time], .bool true], .string ⟨x.1.1.toArray⟩, .tuple #[.agg #[.int .i64 num, .int .i64 rq.id, .int .i64 rq.kind, .int .i64 rq.cell, .int .i64 rq.hold, .int .i64 rq.count, .int .i64 rq.time], .bool true], .agg #[.int .i64 num, .int .i64 rq.id, .int .i64 rq.kind, .int .i64 rq.cell, .int .i64 rq.hold, .int .i64 rq.count, .int .i64 rq.time], .bool true, .bool true, .bool false, .bool false, .pointer (some ⟨R, 0, none⟩), .int .i64 num, .int .i64 a, .int .i64 B.count, .bool true, .bool false, .bool false, .pointer (some ⟨R, 0, none⟩), .int .i64 num, .pointer (some ⟨R, 0, none⟩), .int .i64 num, .int .i64 B.count, .bool (decide (num ≤ B.count)), undef, .tuple #[.agg #[.int .i64 rc, .int .i64 cc], .bool dn], .pointer (some ⟨p, 0, none⟩), .pointer (some ⟨R, 1, none⟩), .agg #[.int .i64 rq.id, .int .i64 rq.kind, .int .i64 rq.cell, .int .i64 rq.hold, .int .i64 rq.count, .int .i64 rq.time], .agg #[.int .i64 rq.id, .int .i64 rq.kind, .int .i64 rq.cell, .int .i64 rq.hold, .int .i64 rq.count, .int .i64 rq.time, .bool (Md.good rq)], .tuple #[.agg #[.int .i64 rc, .int .i64 cc], .bool dn], .agg #[.int .i64 rc, .int .i64 cc], .bool dn, undef, undef, undef, undef], defers := [] } Y) := by
              intro Y Z hG hP hZ
              have c0 : Y.cell? ⟨w.heap.size, 0, none⟩ = some (.pointer (some ⟨p, 0, none⟩)) := (World.cell?_of_block (hG.block w.heap.size hHl (fun e => by injection e with e; omega))).trans cb'
              rw [hRR]
              refine wpAnyIn_ready (rs := [10]) (by kernel_rfl) (by simp) ?_
              refine AllReadyIn.cons rfl (fun K hK => ?_) (AllReadyIn.nil)
              · go_simp
                refine hK _ _ ?_
                rw [← hRR]
                refine castL (L := #[true, true, true, true, true, true, true, true, true, true, true]) (by kernel_rfl) ?_
                exact s_0_1_2_3_4_5_6_7_8_9_10.out Y Z hG hP hZ
            have s_0_1_2_3_4_5_6_7_8 : Hid (∀ (Y : World) (Z : Nat), V.grownBy Y (some p) → PBook Y p CC n → V.heap.size ≤ Z → Rep2 Y Z → RR 2 #[true, true, true, true, true, true, true, true, true, false, false] { tmps := #[.pointer (some ⟨p, 0, none⟩), .string t, .pointer (some ⟨w.heap.size, 0, none⟩), undef, .int .i64 0, .pointer (some ⟨w.heap.size + 1, 0, none⟩), .pointer (some ⟨w.heap.size + 1 + 1, 0, none⟩), .pointer (some ⟨w.heap.size + 1 + 1 + 1, 0, none⟩), .string ⟨x.1.1.toArray⟩, .int .i64 x.2, .pointer (some ⟨R, 0, none⟩), .bool true, .pointer (some ⟨Z, 0, none⟩), undef, .pointer (some ⟨p, 0, none⟩), .pointer (some ⟨p, 0, none⟩), .pointer (some ⟨p, 170, none⟩), .int .i64 B.count, .string t, .func (.func 51) #[] #[.pointer (some ⟨w.heap.size + 1 + 1 + 1 + 1, 0, none⟩)], .string ⟨x.1.1.toArray⟩, .int .i64 x.2, .tuple #[.agg #[.int .i64 num, .int .i64 rq.id, .int .i64 rq.kind, .int .i64 rq.cell, .int .i64 rq.hold, .int .i64 rq.count, .int .i64 rq.time], .bool true], .string ⟨x.1.1.toArray⟩, .tuple #[.agg #[.int .i64 num, .int .i64 rq.id, .int .i64 rq.kind, .int .i64 rq.cell, .int .i64 rq.hold, .int .i64 rq.count, .int .i64 rq.time], .bool true], .agg #[.int .i64 num, .int .i64 rq.id, .int .i64 rq.kind, .int .i64 rq.cell, .int .i64 rq.hold, .int .i64 rq.count, .int .i64 rq.time], .bool true, .bool true, .bool false, .bool false, .pointer (some ⟨R, 0, none⟩), .int .i64 num, .int .i64 a, .int .i64 B.count, .bool true, .bool false, .bool false, .pointer (some ⟨R, 0, none⟩), .int .i64 num, .pointer (some ⟨R, 0, none⟩), .int .i64 num, .int .i64 B.count, .bool (decide (num ≤ B.count)), undef, .tuple #[.agg #[.int .i64 rc, .int .i64 cc], .bool dn], .pointer (some ⟨p, 0, none⟩), .pointer (some ⟨R, 1, none⟩), .agg #[.int .i64 rq.id, .int .i64 rq.kind, .int .i64 rq.cell, .int .i64 rq.hold, .int .i64 rq.count, .int .i64 rq.time], .agg #[.int .i64 rq.id, .int .i64 rq.kind, .int .i64 rq.cell, .int .i64 rq.hold, .int .i64 rq.count, .int .i64 rq.time, .bool (Md.good rq)], .tuple #[.agg #[.int .i64 rc, .int .i64 cc], .bool dn], .agg #[.int .i64 rc, .int .i64 cc], .bool dn, undef, undef, undef, undef], defers := [] } Y) := by
              intro Y Z hG hP hZ hr
              have c0 : Y.cell? ⟨w.heap.size, 0, none⟩ = some (.pointer (some ⟨p, 0, none⟩)) := (World.cell?_of_block (hG.block w.heap.size hHl (fun e => by injection e with e; omega))).trans cb'
              have hr' := hr
              obtain ⟨r0, r1, rf, rl⟩ := hr'
              rw [hRR]
              refine wpAnyIn_ready (rs := [9]) (by kernel_rfl) (by simp) ?_
              refine AllReadyIn.cons rfl (fun K hK => ?_) (AllReadyIn.nil)
              · go_simp
                refine hK _ _ ?_
                rw [← hRR]
                refine castL (L := #[true, true, true, true, true, true, true, true, true, true, false]) (by kernel_rfl) ?_
                exact s_0_1_2_3_4_5_6_7_8_9.out _ Z (grown_new (grown_new hG Z 0 _ hZ) Z 1 _ hZ) (hP.of_block ((put_block 1 _ (show p ≠ Z by omega)).trans (put_block 0 _ (show p ≠ Z by omega))) (by rw [size_put, size_put]; exact hP.lt)) hZ
            have s_0_1_2_3_4_5_6_8_9 : Hid (∀ (Y : World) (Z : Nat), V.grownBy Y (some p) → PBook Y p CC n → V.heap.size ≤ Z → RR 2 #[true, true, true, true, true, true, true, false, true, true, false] { tmps := #[.pointer (some ⟨p, 0, none⟩), .string t, .pointer (some ⟨w.heap.size, 0, none⟩), undef, .int .i64 0, .pointer (some ⟨w.heap.size + 1, 0, none⟩), .pointer (some ⟨w.heap.size + 1 + 1, 0, none⟩), .pointer (some ⟨w.heap.size + 1 + 1 + 1, 0, none⟩), .string ⟨x.1.1.toArray⟩, .int .i64 x.2, .pointer (some ⟨R, 0, none⟩), .bool true, .pointer (some ⟨Z, 0, none⟩), undef, .pointer (some ⟨p, 0, none⟩), .pointer (some ⟨p, 0, none⟩), .pointer (some ⟨p, 170, none⟩), .int .i64 B.count, .string t, .func (.func 51) #[] #[.pointer (some ⟨w.heap.size + 1 + 1 + 1 + 1, 0, none⟩)], .string ⟨x.1.1.toArray⟩, .int .i64 x.2, .tuple #[.agg #[.int .i64 num, .int .i64 rq.id, .int .i64 rq.kind, .int .i64 rq.cell, .int .i64 rq.hold, .int .i64 rq.count, .int .i64 rq.time], .bool true], .string ⟨x.1.1.toArray⟩, .tuple #[.agg #[.int .i64 num, .int .i64 rq.id, .int .i64 rq.kind, .int .i64 rq.cell, .int .i64 rq.hold, .int .i64 rq.count, .int .i64 rq.time], .bool true], .agg #[.int .i64 num, .int .i64 rq.id, .int .i64 rq.kind, .int .i64 rq.cell, .int .i64 rq.hold, .int .i64 rq.count, .int .i64 rq.time], .bool true, .bool true, .bool false, .bool false, .pointer (some ⟨R, 0, none⟩), .int .i64 num, .int .i64 a, .int .i64 B.count, .bool true, .bool false, .bool false, .pointer (some ⟨R, 0, none⟩), .int .i64 num, .pointer (some ⟨R, 0, none⟩), .int .i64 num, .int .i64 B.count, .bool (decide (num ≤ B.count)), undef, .tuple #[.agg #[.int .i64 rc, .int .i64 cc], .bool dn], .pointer (some ⟨p, 0, none⟩), .pointer (some ⟨R, 1, none⟩), .agg #[.int .i64 rq.id, .int .i64 rq.kind, .int .i64 rq.cell, .int .i64 rq.hold, .int .i64 rq.count, .int .i64 rq.time], .agg #[.int .i64 rq.id, .int .i64 rq.kind, .int .i64 rq.cell, .int .i64 rq.hold, .int .i64 rq.count, .int .i64 rq.time, .bool (Md.good rq)], .tuple #[.agg #[.int .i64 rc, .int .i64 cc], .bool dn], .agg #[.int .i64 rc, .int .i64 cc], undef, undef, undef, undef, undef], defers := [] } Y) := by
              intro Y Z hG hP hZ
              have c0 : Y.cell? ⟨w.heap.size, 0, none⟩ = some (.pointer (some ⟨p, 0, none⟩)) := (World.cell?_of_block (hG.block w.heap.size hHl (fun e => by injection e with e; omega))).trans cb'
              rw [hRR]
              refine wpAnyIn_ready (rs := [7]) (by kernel_rfl) (by simp) ?_
              refine AllReadyIn.cons rfl (fun K hK => ?_) (AllReadyIn.nil)
              · go_simp
                refine hK _ _ ?_
                rw [← hRR]
                refine castL (L := #[true, true, true, true, true, true, true, true, true, true, false]) (by kernel_rfl) ?_
                exact s_0_1_2_3_4_5_6_7_8_9.out Y Z hG hP hZ
            have s_0_1_2_3_4_5_6_7 : Hid (∀ (Y : World), V.grownBy Y (some p) → PBook Y p CC n → RR 3 #[true, true, true, true, true, true, true, true, false, false, false] { tmps := #[.pointer (some ⟨p, 0, none⟩), .string t, .pointer (some ⟨w.heap.size, 0, none⟩), undef, .int .i64 0, .pointer (some ⟨w.heap.size + 1, 0, none⟩), .pointer (some ⟨w.heap.size + 1 + 1, 0, none⟩), .pointer (some ⟨w.heap.size + 1 + 1 + 1, 0, none⟩), .string ⟨x.1.1.toArray⟩, .int .i64 x.2, .pointer (some ⟨R, 0, none⟩), .bool true, undef, undef, .pointer (some ⟨p, 0, none⟩), .pointer (some ⟨p, 0, none⟩), .pointer (some ⟨p, 170, none⟩), .int .i64 B.count, .string t, .func (.func 51) #[] #[.pointer (some ⟨w.heap.size + 1 + 1 + 1 + 1, 0, none⟩)], .string ⟨x.1.1.toArray⟩, .int .i64 x.2, .tuple #[.agg #[.int .i64 num, .int .i64 rq.id, .int .i64 rq.kind, .int .i64 rq.cell, .int .i64 rq.hold, .int .i64 rq.count, .int .i64 rq.time], .bool true], .string ⟨x.1.1.toArray⟩, .tuple #[.agg #[.int .i64 num, .int .i64 rq.id, .int .i64 rq.kind, .int .i64 rq.cell, .int .i64 rq.hold, .int .i64 rq.count, .int .i64 rq.time], .bool true], .agg #[.int .i64 num, .int .i64 rq.id, .int .i64 rq.kind, .int .i64 rq.cell, .int .i64 rq.hold, .int .i64 rq.count, .int .i64 rq.time], .bool true, .bool true, .bool false, .bool false, .pointer (some ⟨R, 0, none⟩), .int .i64 num, .int .i64 a, .int .i64 B.count, .bool true, .bool false, .bool false, .pointer (some ⟨R, 0, none⟩), .int .i64 num, .pointer (some ⟨R, 0, none⟩), .int .i64 num, .int .i64 B.count, .bool (decide (num ≤ B.count)), undef, .tuple #[.agg #[.int .i64 rc, .int .i64 cc], .bool dn], .pointer (some ⟨p, 0, none⟩), .pointer (some ⟨R, 1, none⟩), .agg #[.int .i64 rq.id, .int .i64 rq.kind, .int .i64 rq.cell, .int .i64 rq.hold, .int .i64 rq.count, .int .i64 rq.time], .agg #[.int .i64 rq.id, .int .i64 rq.kind, .int .i64 rq.cell, .int .i64 rq.hold, .int .i64 rq.count, .int .i64 rq.time, .bool (Md.good rq)], .tuple #[.agg #[.int .i64 rc, .int .i64 cc], .bool dn], .agg #[.int .i64 rc, .int .i64 cc], .bool dn, undef, undef, undef, undef], defers := [] } Y) := by
              intro Y hG hP
              have c0 : Y.cell? ⟨w.heap.size, 0, none⟩ = some (.pointer (some ⟨p, 0, none⟩)) := (World.cell?_of_block (hG.block w.heap.size hHl (fun e => by injection e with e; omega))).trans cb'
              rw [hRR]
              refine wpAnyIn_ready (rs := [8]) (by kernel_rfl) (by simp) ?_
              refine AllReadyIn.cons rfl (fun K hK => ?_) (AllReadyIn.nil)
              · go_simp
                refine hK _ _ ?_
                rw [← hRR]
                refine castL (L := #[true, true, true, true, true, true, true, true, true, false, false]) (by kernel_rfl) ?_
                exact s_0_1_2_3_4_5_6_7_8.out _ Y.heap.size (grown_trans hG (grown_below ((Below.refl Y.heap.size Y).alloc (Nat.le_refl _) _))) (hP.below ((Below.refl Y.heap.size Y).alloc (Nat.le_refl _) _)) hG.size (Rep2.new Y)
            have s_0_1_2_3_4_5_6_8 : Hid (∀ (Y : World) (Z : Nat), V.grownBy Y (some p) → PBook Y p CC n → V.heap.size ≤ Z → Rep2 Y Z → RR 3 #[true, true, true, true, true, true, true, false, true, false, false] { tmps := #[.pointer (some ⟨p, 0, none⟩), .string t, .pointer (some ⟨w.heap.size, 0, none⟩), undef, .int .i64 0, .pointer (some ⟨w.heap.size + 1, 0, none⟩), .pointer (some ⟨w.heap.size + 1 + 1, 0, none⟩), .pointer (some ⟨w.heap.size + 1 + 1 + 1, 0, none⟩), .string ⟨x.1.1.toArray⟩, .int .i64 x.2, .pointer (some ⟨R, 0, none⟩), .bool true, .pointer (some ⟨Z, 0, none⟩), undef, .pointer (some ⟨p, 0, none⟩), .pointer (some ⟨p, 0, none⟩), .pointer (some ⟨p, 170, none⟩), .int .i64 B.count, .string t, .func (.func 51) #[] #[.pointer (some ⟨w.heap.size + 1 + 1 + 1 + 1, 0, none⟩)], .string ⟨x.1.1.toArray⟩, .int .i64 x.2, .tuple #[.agg #[.int .i64 num, .int .i64 rq.id, .int .i64 rq.kind, .int .i64 rq.cell, .int .i64 rq.hold, .int .i64 rq.count, .int .i64 rq.time], .bool true], .string ⟨x.1.1.toArray⟩, .tuple #[.agg #[.int .i64 num, .int .i64 rq.id, .int .i64 rq.kind, .int .i64 rq.cell, .int .i64 rq.hold, .int .i64 rq.count, .int .i64 rq.time], .bool true], .agg #[.int .i64 num, .int .i64 rq.id, .int .i64 rq.kind, .int .i64 rq.cell, .int .i64 rq.hold, .int .i64 rq.count, .int .i64 rq.time], .bool true, .bool true, .bool false, .bool false, .pointer (some ⟨R, 0, none⟩), .int .i64 num, .int .i64 a, .int .i64 B.count, .bool true, .bool false, .bool false, .pointer (some ⟨R, 0, none⟩), .int .i64 num, .pointer (some ⟨R, 0, none⟩), .int .i64 num, .int .i64 B.count, .bool (decide (num ≤ B.count)), undef, .tuple #[.agg #[.int .i64 rc, .int .i64 cc], .bool dn], .pointer (some ⟨p, 0, none⟩), .pointer (some ⟨R, 1, none⟩), .agg #[.int .i64 rq.id, .int .i64 rq.kind, .int .i64 rq.cell, .int .i64 rq.hold, .int .i64 rq.count, .int .i64 rq.time], .agg #[.int .i64 rq.id, .int .i64 rq.kind, .int .i64 rq.cell, .int .i64 rq.hold, .int .i64 rq.count, .int .i64 rq.time, .bool (Md.good rq)], .tuple #[.agg #[.int .i64 rc, .int .i64 cc], .bool dn], .agg #[.int .i64 rc, .int .i64 cc], undef, undef, undef, undef, undef], defers := [] } Y) := by
              intro Y Z hG hP hZ hr
              have c0 : Y.cell? ⟨w.heap.size, 0, none⟩ = some (.pointer (some ⟨p, 0, none⟩)) := (World.cell?_of_block (hG.block w.heap.size hHl (fun e => by injection e with e; omega))).trans cb'
              have hr' := hr
              obtain ⟨r0, r1, rf, rl⟩ := hr'
              rw [hRR]
              refine wpAnyIn_ready (rs := [7, 9]) (by kernel_rfl) (by simp) ?_
              refine AllReadyIn.cons rfl (fun K hK => ?_) (AllReadyIn.cons rfl (fun K hK => ?_) (AllReadyIn.nil))
              · go_simp
                refine hK _ _ ?_
                rw [← hRR]
                refine castL (L := #[true, true, true, true, true, true, true, true, true, false, false]) (by kernel_rfl) ?_
                exact s_0_1_2_3_4_5_6_7_8.out Y Z hG hP hZ hr
              · go_simp
                refine hK _ _ ?_
                rw [← hRR]
                refine castL (L := #[true, true, true, true, true, true, true, false, true, true, false]) (by kernel_rfl) ?_
                exact s_0_1_2_3_4_5_6_8_9.out _ Z (grown_new (grown_new hG Z 0 _ hZ) Z 1 _ hZ) (hP.of_block ((put_block 1 _ (show p ≠ Z by omega)).trans (put_block 0 _ (show p ≠ Z by omega))) (by rw [size_put, size_put]; exact hP.lt)) hZ
            have s_0_1_2_3_4_5_7_8 : Hid (∀ (Y : World) (Z : Nat), V.grownBy Y (some p) → PBook Y p CC n → V.heap.size ≤ Z → Rep2 Y Z → RR 3 #[true, true, true, true, true, true, false, true, true, false, false] { tmps := #[.pointer (some ⟨p, 0, none⟩), .string t, .pointer (some ⟨w.heap.size, 0, none⟩), undef, .int .i64 0, .pointer (some ⟨w.heap.size + 1, 0, none⟩), .pointer (some ⟨w.heap.size + 1 + 1, 0, none⟩), .pointer (some ⟨w.heap.size + 1 + 1 + 1, 0, none⟩), .string ⟨x.1.1.toArray⟩, .int .i64 x.2, .pointer (some ⟨R, 0, none⟩), .bool true, .pointer (some ⟨Z, 0, none⟩), undef, .pointer (some ⟨p, 0, none⟩), .pointer (some ⟨p, 0, none⟩), .pointer (some ⟨p, 170, none⟩), .int .i64 B.count, .string t, .func (.func 51) #[] #[.pointer (some ⟨w.heap.size + 1 + 1 + 1 + 1, 0, none⟩)], .string ⟨x.1.1.toArray⟩, .int .i64 x.2, .tuple #[.agg #[.int .i64 num, .int .i64 rq.id, .int .i64 rq.kind, .int .i64 rq.cell, .int .i64 rq.hold, .int .i64 rq.count, .int .i64 rq.time], .bool true], .string ⟨x.1.1.toArray⟩, .tuple #[.agg #[.int .i64 num, .int .i64 rq.id, .int .i64 rq.kind, .int .i64 rq.cell, .int .i64 rq.hold, .int .i64 rq.count, .int .i64 rq.time], .bool true], .agg #[.int .i64 num, .int .i64 rq.id, .int .i64 rq.kind, .int .i64 rq.cell, .int .i64 rq.hold, .int .i64 rq.count, .int .i64 rq.time], .bool true, .bool true, .bool false, .bool false, .pointer (some ⟨R, 0, none⟩), .int .i64 num, .int .i64 a, .int .i64 B.count, .bool true, .bool false, .bool false, .pointer (some ⟨R, 0, none⟩), .int .i64 num, .pointer (some ⟨R, 0, none⟩), .int .i64 num, .int .i64 B.count, .bool (decide (num ≤ B.count)), undef, .tuple #[.agg #[.int .i64 rc, .int .i64 cc], .bool dn], .pointer (some ⟨p, 0, none⟩), .pointer (some ⟨R, 1, none⟩), .agg #[.int .i64 rq.id, .int .i64 rq.kind, .int .i64 rq.cell, .int .i64 rq.hold, .int .i64 rq.count, .int .i64 rq.time], .agg #[.int .i64 rq.id, .int .i64 rq.kind, .int .i64 rq.cell, .int .i64 rq.hold, .int .i64 rq.count, .int .i64 rq.time, .bool (Md.good rq)], .tuple #[.agg #[.int .i64 rc, .int .i64 cc], .bool dn], undef, .bool dn, undef, undef, undef, undef], defers := [] } Y) := by
              intro Y Z hG hP hZ hr
              have c0 : Y.cell? ⟨w.heap.size, 0, none⟩ = some (.pointer (some ⟨p, 0, none⟩)) := (World.cell?_of_block (hG.block w.heap.size hHl (fun e => by injection e with e; omega))).trans cb'
              rw [hRR]
              refine wpAnyIn_ready (rs := [6]) (by kernel_rfl) (by simp) ?_
              refine AllReadyIn.cons rfl (fun K hK => ?_) (AllReadyIn.nil)
              · go_simp
                refine hK _ _ ?_
                rw [← hRR]
                refine castL (L := #[true, true, true, true, true, true, true, true, true, false, false]) (by kernel_rfl) ?_
                exact s_0_1_2_3_4_5_6_7_8.out Y Z hG hP hZ hr
            have s_0_1_2_3_4_5_6 : Hid (∀ (Y : World), V.grownBy Y (some p) → PBook Y p CC n → RR 4 #[true, true, true, true, true, true, true, false, false, false, false] { tmps := #[.pointer (some ⟨p, 0, none⟩), .string t, .pointer (some ⟨w.heap.size, 0, none⟩), undef, .int .i64 0, .pointer (some ⟨w.heap.size + 1, 0, none⟩), .pointer (some ⟨w.heap.size + 1 + 1, 0, none⟩), .pointer (some ⟨w.heap.size + 1 + 1 + 1, 0, none⟩), .string ⟨x.1.1.toArray⟩, .int .i64 x.2, .pointer (some ⟨R, 0, none⟩), .bool true, undef, undef, .pointer (some ⟨p, 0, none⟩), .pointer (some ⟨p, 0, none⟩), .pointer (some ⟨p, 170, none⟩), .int .i64 B.count, .string t, .func (.func 51) #[] #[.pointer (some ⟨w.heap.size + 1 + 1 + 1 + 1, 0, none⟩)], .string ⟨x.1.1.toArray⟩, .int .i64 x.2, .tuple #[.agg #[.int .i64 num, .int .i64 rq.id, .int .i64 rq.kind, .int .i64 rq.cell, .int .i64 rq.hold, .int .i64 rq.count, .int .i64 rq.time], .bool true], .string ⟨x.1.1.toArray⟩, .tuple #[.agg #[.int .i64 num, .int .i64 rq.id, .int .i64 rq.kind, .int .i64 rq.cell, .int .i64 rq.hold, .int .i64 rq.count, .int .i64 rq.time], .bool true], .agg #[.int .i64 num, .int .i64 rq.id, .int .i64 rq.kind, .int .i64 rq.cell, .int .i64 rq.hold, .int .i64 rq.count, .int .i64 rq.time], .bool true, .bool true, .bool false, .bool false, .pointer (some ⟨R, 0, none⟩), .int .i64 num, .int .i64 a, .int .i64 B.count, .bool true, .bool false, .bool false, .pointer (some ⟨R, 0, none⟩), .int .i64 num, .pointer (some ⟨R, 0, none⟩), .int .i64 num, .int .i64 B.count, .bool (decide (num ≤ B.count)), undef, .tuple #[.agg #[.int .i64 rc, .int .i64 cc], .bool dn], .pointer (some ⟨p, 0, none⟩), .pointer (some ⟨R, 1, none⟩), .agg #[.int .i64 rq.id, .int .i64 rq.kind, .int .i64 rq.cell, .int .i64 rq.hold, .int .i64 rq.count, .int .i64 rq.time], .agg #[.int .i64 rq.id, .int .i64 rq.kind, .int .i64 rq.cell, .int .i64 rq.hold, .int .i64 rq.count, .int .i64 rq.time, .bool (Md.good rq)], .tuple #[.agg #[.int .i64 rc, .int .i64 cc], .bool dn], .agg #[.int .i64 rc, .int .i64 cc], undef, undef, undef, undef, undef], defers := [] } Y) := by
              intro Y hG hP
              have c0 : Y.cell? ⟨w.heap.size, 0, none⟩ = some (.pointer (some ⟨p, 0, none⟩)) := (World.cell?_of_block (hG.block w.heap.size hHl (fun e => by injection e with e; omega))).trans cb'
              rw [hRR]
              refine wpAnyIn_ready (rs := [7, 8]) (by kernel_rfl) (by simp) ?_
              refine AllReadyIn.cons rfl (fun K hK => ?_) (AllReadyIn.cons rfl (fun K hK => ?_) (AllReadyIn.nil))
              · go_simp
                refine hK _ _ ?_
                rw [← hRR]
                refine castL (L := #[true, true, true, true, true, true, true, true, false, false, false]) (by kernel_rfl) ?_
                exact s_0_1_2_3_4_5_6_7.out Y hG hP
              · go_simp
                refine hK _ _ ?_
                rw [← hRR]
                refine castL (L := #[true, true, true, true, true, true, true, false, true, false, false]) (by kernel_rfl) ?_
                exact s_0_1_2_3_4_5_6_8.out _ Y.heap.size (grown_trans hG (grown_below ((Below.refl Y.heap.size Y).alloc (Nat.le_refl _) _))) (hP.below ((Below.refl Y.heap.size Y).alloc (Nat.le_refl _) _)) hG.size (Rep2.new Y)
            have s_0_1_2_3_4_5_7 : Hid (∀ (Y : World), V.grownBy Y (some p) → PBook Y p CC n → RR 4 #[true, true, true, true, true, true, false, true, false, false, false] { tmps := #[.pointer (some ⟨p, 0, none⟩), .string t, .pointer (some ⟨w.heap.size, 0, none⟩), undef, .int .i64 0, .pointer (some ⟨w.heap.size + 1, 0, none⟩), .pointer (some ⟨w.heap.size + 1 + 1, 0, none⟩), .pointer (some ⟨w.heap.size + 1 + 1 + 1, 0, none⟩), .string ⟨x.1.1.toArray⟩, .int .i64 x.2, .pointer (some ⟨R, 0, none⟩), .bool true, undef, undef, .pointer (some ⟨p, 0, none⟩), .pointer (some ⟨p, 0, none⟩), .pointer (some ⟨p, 170, none⟩), .int .i64 B.count, .string t, .func (.func 51) #[] #[.pointer (some ⟨w.heap.size + 1 + 1 + 1 + 1, 0, none⟩)], .string ⟨x.1.1.toArray⟩, .int .i64 x.2, .tuple #[.agg #[.int .i64 num, .int .i64 rq.id, .int .i64 rq.kind, .int .i64 rq.cell, .int .i64 rq.hold, .int .i64 rq.count, .int .i64 rq.time], .bool true], .string ⟨x.1.1.toArray⟩, .tuple #[.agg #[.int .i64 num, .int .i64 rq.id, .int .i64 rq.kind, .int .i64 rq.cell, .int .i64 rq.hold, .int .i64 rq.count, .int .i64 rq.time], .bool true], .agg #[.int .i64 num, .int .i64 rq.id, .int .i64 rq.kind, .int .i64 rq.cell, .int .i64 rq.hold, .int .i64 rq.count, .int .i64 rq.time], .bool true, .bool true, .bool false, .bool false, .pointer (some ⟨R, 0, none⟩), .int .i64 num, .int .i64 a, .int .i64 B.count, .bool true, .bool false, .bool false, .pointer (some ⟨R, 0, none⟩), .int .i64 num, .pointer (some ⟨R, 0, none⟩), .int .i64 num, .int .i64 B.count, .bool (decide (num ≤ B.count)), undef, .tuple #[.agg #[.int .i64 rc, .int .i64 cc], .bool dn], .pointer (some ⟨p, 0, none⟩), .pointer (some ⟨R, 1, none⟩), .agg #[.int .i64 rq.id, .int .i64 rq.kind, .int .i64 rq.cell, .int .i64 rq.hold, .int .i64 rq.count, .int .i64 rq.time], .agg #[.int .i64 rq.id, .int .i64 rq.kind, .int .i64 rq.cell, .int .i64 rq.hold, .int .i64 rq.count, .int .i64 rq.time, .bool (Md.good rq)], .tuple #[.agg #[.int .i64 rc, .int .i64 cc], .bool dn], undef, .bool dn, undef, undef, undef, undef], defers := [] } Y) := by
              intro Y hG hP
              have c0 : Y.cell? ⟨w.heap.size, 0, none⟩ = some (.pointer (some ⟨p, 0, none⟩)) := (World.cell?_of_block (hG.block w.heap.size hHl (fun e => by injection e with e; omega))).trans cb'
              rw [hRR]
              refine wpAnyIn_ready (rs := [6, 8]) (by kernel_rfl) (by simp) ?_
              refine AllReadyIn.cons rfl (fun K hK => ?_) (AllReadyIn.cons rfl (fun K hK => ?_) (AllReadyIn.nil))
              · go_simp
                refine hK _ _ ?_
                rw [← hRR]
                refine castL (L := #[true, true, true, true, true, true, true, true, false, false, false]) (by kernel_rfl) ?_
                exact s_0_1_2_3_4_5_6_7.out Y hG hP
              · go_simp
                refine hK _ _ ?_
                rw [← hRR]
                refine castL (L := #[true, true, true, true, true, true, false, true, true, false, false]) (by kernel_rfl) ?_
                exact s_0_1_2_3_4_5_7_8.out _ Y.heap.size (grown_trans hG (grown_below ((Below.refl Y.heap.size Y).alloc (Nat.le_refl _) _))) (hP.below ((Below.refl Y.heap.size Y).alloc (Nat.le_refl _) _)) hG.size (Rep2.new Y)
            have s_0_1_2_3_4_5_8 : Hid (∀ (Y : World) (Z : Nat), V.grownBy Y (some p) → PBook Y p CC n → V.heap.size ≤ Z → Rep2 Y Z → RR 4 #[true, true, true, true, true, true, false, false, true, false, false] { tmps := #[.pointer (some ⟨p, 0, none⟩), .string t, .pointer (some ⟨w.heap.size, 0, none⟩), undef, .int .i64 0, .pointer (some ⟨w.heap.size + 1, 0, none⟩), .pointer (some ⟨w.heap.size + 1 + 1, 0, none⟩), .pointer (some ⟨w.heap.size + 1 + 1 + 1, 0, none⟩), .string ⟨x.1.1.toArray⟩, .int .i64 x.2, .pointer (some ⟨R, 0, none⟩), .bool true, .pointer (some ⟨Z, 0, none⟩), undef, .pointer (some ⟨p, 0, none⟩), .pointer (some ⟨p, 0, none⟩), .pointer (some ⟨p, 170, none⟩), .int .i64 B.count, .string t, .func (.func 51) #[] #[.pointer (some ⟨w.heap.size + 1 + 1 + 1 + 1, 0, none⟩)], .string ⟨x.1.1.toArray⟩, .int .i64 x.2, .tuple #[.agg #[.int .i64 num, .int .i64 rq.id, .int .i64 rq.kind, .int .i64 rq.cell, .int .i64 rq.hold, .int .i64 rq.count, .int .i64 rq.time], .bool true], .string ⟨x.1.1.toArray⟩, .tuple #[.agg #[.int .i64 num, .int .i64 rq.id, .int .i64 rq.kind, .int .i64 rq.cell, .int .i64 rq.hold, .int .i64 rq.count, .int .i64 rq.time], .bool true], .agg #[.int .i64 num, .int .i64 rq.id, .int .i64 rq.kind, .int .i64 rq.cell, .int .i64 rq.hold, .int .i64 rq.count, .int .i64 rq.time], .bool true, .bool true, .bool false, .bool false, .pointer (some ⟨R, 0, none⟩), .int .i64 num, .int .i64 a, .int .i64 B.count, .bool true, .bool false, .bool false, .pointer (some ⟨R, 0, none⟩), .int .i64 num, .pointer (some ⟨R, 0, none⟩), .int .i64 num, .int .i64 B.count, .bool (decide (num ≤ B.count)), undef, .tuple #[.agg #[.int .i64 rc, .int .i64 cc], .bool dn], .pointer (some ⟨p, 0, none⟩), .pointer (some ⟨R, 1, none⟩), .agg #[.int .i64 rq.id, .int .i64 rq.kind, .int .i64 rq.cell, .int .i64 rq.hold, .int .i64 rq.count, .int .i64 rq.time], .agg #[.int .i64 rq.id, .int .i64 rq.kind, .int .i64 rq.cell, .int .i64 rq.hold, .int .i64 rq.count, .int .i64 rq.time, .bool (Md.good rq)], .tuple #[.agg #[.int .i64 rc, .int .i64 cc], .bool dn], undef, undef, undef, undef, undef, undef], defers := [] } Y) := by
              intro Y Z hG hP hZ hr
              have c0 : Y.cell? ⟨w.heap.size, 0, none⟩ = some (.pointer (some ⟨p, 0, none⟩)) := (World.cell?_of_block (hG.block w.heap.size hHl (fun e => by injection e with e; omega))).trans cb'
              rw [hRR]
              refine wpAnyIn_ready (rs := [6, 7]) (by kernel_rfl) (by simp) ?_
              refine AllReadyIn.cons rfl (fun K hK => ?_) (AllReadyIn.cons rfl (fun K hK => ?_) (AllReadyIn.nil))
              · go_simp
                refine hK _ _ ?_
                rw [← hRR]
                refine castL (L := #[true, true, true, true, true, true, true, false, true, false, false]) (by kernel_rfl) ?_
                exact s_0_1_2_3_4_5_6_8.out Y Z hG hP hZ hr
              · go_simp
                refine hK _ _ ?_
                rw [← hRR]
                refine castL (L := #[true, true, true, true, true, true, false, true, true, false, false]) (by kernel_rfl) ?_
                exact s_0_1_2_3_4_5_7_8.out Y Z hG hP hZ hr
            have s_0_1_2_3_4_5 : Hid (∀ (Y : World), V.grownBy Y (some p) → PBook Y p CC n → RR 5 #[true, true, true, true, true, true, false, false, false, false, false] { tmps := #[.pointer (some ⟨p, 0, none⟩), .string t, .pointer (some ⟨w.heap.size, 0, none⟩), undef, .int .i64 0, .pointer (some ⟨w.heap.size + 1, 0, none⟩), .pointer (some ⟨w.heap.size + 1 + 1, 0, none⟩), .pointer (some ⟨w.heap.size + 1 + 1 + 1, 0, none⟩), .string ⟨x.1.1.toArray⟩, .int .i64 x.2, .pointer (some ⟨R, 0, none⟩), .bool true, undef, undef, .pointer (some ⟨p, 0, none⟩), .pointer (some ⟨p, 0, none⟩), .pointer (some ⟨p, 170, none⟩), .int .i64 B.count, .string t, .func (.func 51) #[] #[.pointer (some ⟨w.heap.size + 1 + 1 + 1 + 1, 0, none⟩)], .string ⟨x.1.1.toArray⟩, .int .i64 x.2, .tuple #[.agg #[.int .i64 num, .int .i64 rq.id, .int .i64 rq.kind, .int .i64 rq.cell, .int .i64 rq.hold, .int .i64 rq.count, .int .i64 rq.time], .bool true], .string ⟨x.1.1.toArray⟩, .tuple #[.agg #[.int .i64 num, .int .i64 rq.id, .int .i64 rq.kind, .int .i64 rq.cell, .int .i64 rq.hold, .int .i64 rq.count, .int .i64 rq.time], .bool true], .agg #[.int .i64 num, .int .i64 rq.id, .int .i64 rq.kind, .int .i64 rq.cell, .int .i64 rq.hold, .int .i64 rq.count, .int .i64 rq.time], .bool true, .bool true, .bool false, .bool false, .pointer (some ⟨R, 0, none⟩), .int .i64 num, .int .i64 a, .int .i64 B.count, .bool true, .bool false, .bool false, .pointer (some ⟨R, 0, none⟩), .int .i64 num, .pointer (some ⟨R, 0, none⟩), .int .i64 num, .int .i64 B.count, .bool (decide (num ≤ B.count)), undef, .tuple #[.agg #[.int .i64 rc, .int .i64 cc], .bool dn], .pointer (some ⟨p, 0, none⟩), .pointer (some ⟨R, 1, none⟩), .agg #[.int .i64 rq.id, .int .i64 rq.kind, .int .i64 rq.cell, .int .i64 rq.hold, .int .i64 rq.count, .int .i64 rq.time], .agg #[.int .i64 rq.id, .int .i64 rq.kind, .int .i64 rq.cell, .int .i64 rq.hold, .int .i64 rq.count, .int .i64 rq.time, .bool (Md.good rq)], .tuple #[.agg #[.int .i64 rc, .int .i64 cc], .bool dn], undef, undef, undef, undef, undef, undef], defers := [] } Y) := by
              intro Y hG hP
              have c0 : Y.cell? ⟨w.heap.size, 0, none⟩ = some (.pointer (some ⟨p, 0, none⟩)) := (World.cell?_of_block (hG.block w.heap.size hHl (fun e => by injection e with e; omega))).trans cb'
              rw [hRR]
              refine wpAnyIn_ready (rs := [6, 7, 8]) (by kernel_rfl) (by simp) ?_
              refine AllReadyIn.cons rfl (fun K hK => ?_) (AllReadyIn.cons rfl (fun K hK => ?_) (AllReadyIn.cons rfl (fun K hK => ?_) (AllReadyIn.nil)))
              · go_simp
                refine hK _ _ ?_
                rw [← hRR]
                refine castL (L := #[true, true, true, true, true, true, true, false, false, false, false]) (by kernel_rfl) ?_
                exact s_0_1_2_3_4_5_6.out Y hG hP
              · go_simp
                refine hK _ _ ?_
                rw [← hRR]
                refine castL (L := #[true, true, true, true, true, true, false, true, false, false, false]) (by kernel_rfl) ?_
                exact s_0_1_2_3_4_5_7.out Y hG hP
              · go_simp
                refine hK _ _ ?_
                rw [← hRR]
                refine castL (L := #[true, true, true, true, true, true, false, false, true, false, false]) (by kernel_rfl) ?_
                exact s_0_1_2_3_4_5_8.out _ Y.heap.size (grown_trans hG (grown_below ((Below.refl Y.heap.size Y).alloc (Nat.le_refl _) _))) (hP.below ((Below.refl Y.heap.size Y).alloc (Nat.le_refl _) _)) hG.size (Rep2.new Y)
            have s_0_1_2_3_4_8 : Hid (∀ (Y : World) (Z : Nat), V.grownBy Y (some p) → PBook Y p CC n → V.heap.size ≤ Z → Rep2 Y Z → RR 5 #[true, true, true, true, true, false, false, false, true, false, false] { tmps := #[.pointer (some ⟨p, 0, none⟩), .string t, .pointer (some ⟨w.heap.size, 0, none⟩), undef, .int .i64 0, .pointer (some ⟨w.heap.size + 1, 0, none⟩), .pointer (some ⟨w.heap.size + 1 + 1, 0, none⟩), .pointer (some ⟨w.heap.size + 1 + 1 + 1, 0, none⟩), .string ⟨x.1.1.toArray⟩, .int .i64 x.2, .pointer (some ⟨R, 0, none⟩), .bool true, .pointer (some ⟨Z, 0, none⟩), undef, .pointer (some ⟨p, 0, none⟩), .pointer (some ⟨p, 0, none⟩), .pointer (some ⟨p, 170, none⟩), .int .i64 B.count, .string t, .func (.func 51) #[] #[.pointer (some ⟨w.heap.size + 1 + 1 + 1 + 1, 0, none⟩)], .string ⟨x.1.1.toArray⟩, .int .i64 x.2, .tuple #[.agg #[.int .i64 num, .int .i64 rq.id, .int .i64 rq.kind, .int .i64 rq.cell, .int .i64 rq.hold, .int .i64 rq.count, .int .i64 rq.time], .bool true], .string ⟨x.1.1.toArray⟩, .tuple #[.agg #[.int .i64 num, .int .i64 rq.id, .int .i64 rq.kind, .int .i64 rq.cell, .int .i64 rq.hold, .int .i64 rq.count, .int .i64 rq.time], .bool true], .agg #[.int .i64 num, .int .i64 rq.id, .int .i64 rq.kind, .int .i64 rq.cell, .int .i64 rq.hold, .int .i64 rq.count, .int .i64 rq.time], .bool true, .bool true, .bool false, .bool false, .pointer (some ⟨R, 0, none⟩), .int .i64 num, .int .i64 a, .int .i64 B.count, .bool true, .bool false, .bool false, .pointer (some ⟨R, 0, none⟩), .int .i64 num, .pointer (some ⟨R, 0, none⟩), .int .i64 num, .int .i64 B.count, .bool (decide (num ≤ B.count)), undef, undef, .pointer (some ⟨p, 0, none⟩), .pointer (some ⟨R, 1, none⟩), .agg #[.int .i64 rq.id, .int .i64 rq.kind, .int .i64 rq.cell, .int .i64 rq.hold, .int .i64 rq.count, .int .i64 rq.time], .agg #[.int .i64 rq.id, .int .i64 rq.kind, .int .i64 rq.cell, .int .i64 rq.hold, .int .i64 rq.count, .int .i64 rq.time, .bool (Md.good rq)], .tuple #[.agg #[.int .i64 rc, .int .i64 cc], .bool dn], undef, undef, undef, undef, undef, undef], defers := [] } Y) := by
              intro Y Z hG hP hZ hr
              have c0 : Y.cell? ⟨w.heap.size, 0, none⟩ = some (.pointer (some ⟨p, 0, none⟩)) := (World.cell?_of_block (hG.block w.heap.size hHl (fun e => by injection e with e; omega))).trans cb'
              rw [hRR]
              refine wpAnyIn_ready (rs := [5]) (by kernel_rfl) (by simp) ?_
              refine AllReadyIn.cons rfl (fun K hK => ?_) (AllReadyIn.nil)
              · go_simp
                refine hK _ _ ?_
                rw [← hRR]
                refine castL (L := #[true, true, true, true, true, true, false, false, true, false, false]) (by kernel_rfl) ?_
                exact s_0_1_2_3_4_5_8.out Y Z hG hP hZ hr
            have s_0_1_2_3_4 : Hid (∀ (Y : World), V.grownBy Y (some p) → PBook Y p CC n → RR 6 #[true, true, true, true, true, false, false, false, false, false, false] { tmps := #[.pointer (some ⟨p, 0, none⟩), .string t, .pointer (some ⟨w.heap.size, 0, none⟩), undef, .int .i64 0, .pointer (some ⟨w.heap.size + 1, 0, none⟩), .pointer (some ⟨w.heap.size + 1 + 1, 0, none⟩), .pointer (some ⟨w.heap.size + 1 + 1 + 1, 0, none⟩), .string ⟨x.1.1.toArray⟩, .int .i64 x.2, .pointer (some ⟨R, 0, none⟩), .bool true, undef, undef, .pointer (some ⟨p, 0, none⟩), .pointer (some ⟨p, 0, none⟩), .pointer (some ⟨p, 170, none⟩), .int .i64 B.count, .string t, .func (.func 51) #[] #[.pointer (some ⟨w.heap.size + 1 + 1 + 1 + 1, 0, none⟩)], .string ⟨x.1.1.toArray⟩, .int .i64 x.2, .tuple #[.agg #[.int .i64 num, .int .i64 rq.id, .int .i64 rq.kind, .int .i64 rq.cell, .int .i64 rq.hold, .int .i64 rq.count, .int .i64 rq.time], .bool true], .string ⟨x.1.1.toArray⟩, .tuple #[.agg #[.int .i64 num, .int .i64 rq.id, .int .i64 rq.kind, .int .i64 rq.cell, .int .i64 rq.hold, .int .i64 rq.count, .int .i64 rq.time], .bool true], .agg #[.int .i64 num, .int .i64 rq.id, .int .i64 rq.kind, .int .i64 rq.cell, .int .i64 rq.hold, .int .i64 rq.count, .int .i64 rq.time], .bool true, .bool true, .bool false, .bool false, .pointer (some ⟨R, 0, none⟩), .int .i64 num, .int .i64 a, .int .i64 B.count, .bool true, .bool false, .bool false, .pointer (some ⟨R, 0, none⟩), .int .i64 num, .pointer (some ⟨R, 0, none⟩), .int .i64 num, .int .i64 B.count, .bool (decide (num ≤ B.count)), undef, undef, .pointer (some ⟨p, 0, none⟩), .pointer (some ⟨R, 1, none⟩), .agg #[.int .i64 rq.id, .int .i64 rq.kind, .int .i64 rq.cell, .int .i64 rq.hold, .int .i64 rq.count, .int .i64 rq.time], .agg #[.int .i64 rq.id, .int .i64 rq.kind, .int .i64 rq.cell, .int .i64 rq.hold, .int .i64 rq.count, .int .i64 rq.time, .bool (Md.good rq)], .tuple #[.agg #[.int .i64 rc, .int .i64 cc], .bool dn], undef, undef, undef, undef, undef, undef], defers := [] } Y) := by
              intro Y hG hP
              have c0 : Y.cell? ⟨w.heap.size, 0, none⟩ = some (.pointer (some ⟨p, 0, none⟩)) := (World.cell?_of_block (hG.block w.heap.size hHl (fun e => by injection e with e; omega))).trans cb'
              rw [hRR]
              refine wpAnyIn_ready (rs := [5, 8]) (by kernel_rfl) (by simp) ?_
              refine AllReadyIn.cons rfl (fun K hK => ?_) (AllReadyIn.cons rfl (fun K hK => ?_) (AllReadyIn.nil))
              · go_simp
                refine hK _ _ ?_
                rw [← hRR]
                refine castL (L := #[true, true, true, true, true, true, false, false, false, false, false]) (by kernel_rfl) ?_
                exact s_0_1_2_3_4_5.out Y hG hP
              · go_simp
                refine hK _ _ ?_
                rw [← hRR]
                refine castL (L := #[true, true, true, true, true, false, false, false, true, false, false]) (by kernel_rfl) ?_
                exact s_0_1_2_3_4_8.out _ Y.heap.size (grown_trans hG (grown_below ((Below.refl Y.heap.size Y).alloc (Nat.le_refl _) _))) (hP.below ((Below.refl Y.heap.size Y).alloc (Nat.le_refl _) _)) hG.size (Rep2.new Y)
            have s_0_1_2_3_8 : Hid (∀ (Y : World) (Z : Nat), V.grownBy Y (some p) → PBook Y p C n → V.heap.size ≤ Z → Rep2 Y Z → RR 6 #[true, true, true, true, false, false, false, false, true, false, false] { tmps := #[.pointer (some ⟨p, 0, none⟩), .string t, .pointer (some ⟨w.heap.size, 0, none⟩), undef, .int .i64 0, .pointer (some ⟨w.heap.size + 1, 0, none⟩), .pointer (some ⟨w.heap.size + 1 + 1, 0, none⟩), .pointer (some ⟨w.heap.size + 1 + 1 + 1, 0, none⟩), .string ⟨x.1.1.toArray⟩, .int .i64 x.2, .pointer (some ⟨R, 0, none⟩), .bool true, .pointer (some ⟨Z, 0, none⟩), undef, .pointer (some ⟨p, 0, none⟩), .pointer (some ⟨p, 0, none⟩), .pointer (some ⟨p, 170, none⟩), .int .i64 B.count, .string t, .func (.func 51) #[] #[.pointer (some ⟨w.heap.size + 1 + 1 + 1 + 1, 0, none⟩)], .string ⟨x.1.1.toArray⟩, .int .i64 x.2, .tuple #[.agg #[.int .i64 num, .int .i64 rq.id, .int .i64 rq.kind, .int .i64 rq.cell, .int .i64 rq.hold, .int .i64 rq.count, .int .i64 rq.time], .bool true], .string ⟨x.1.1.toArray⟩, .tuple #[.agg #[.int .i64 num, .int .i64 rq.id, .int .i64 rq.kind, .int .i64 rq.cell, .int .i64 rq.hold, .int .i64 rq.count, .int .i64 rq.time], .bool true], .agg #[.int .i64 num, .int .i64 rq.id, .int .i64 rq.kind, .int .i64 rq.cell, .int .i64 rq.hold, .int .i64 rq.count, .int .i64 rq.time], .bool true, .bool true, .bool false, .bool false, .pointer (some ⟨R, 0, none⟩), .int .i64 num, .int .i64 a, .int .i64 B.count, .bool true, .bool false, .bool false, .pointer (some ⟨R, 0, none⟩), .int .i64 num, .pointer (some ⟨R, 0, none⟩), .int .i64 num, .int .i64 B.count, .bool (decide (num ≤ B.count)), undef, undef, .pointer (some ⟨p, 0, none⟩), .pointer (some ⟨R, 1, none⟩), .agg #[.int .i64 rq.id, .int .i64 rq.kind, .int .i64 rq.cell, .int .i64 rq.hold, .int .i64 rq.count, .int .i64 rq.time], .agg #[.int .i64 rq.id, .int .i64 rq.kind, .int .i64 rq.cell, .int .i64 rq.hold, .int .i64 rq.count, .int .i64 rq.time, .bool (Md.good rq)], undef, undef, undef, undef, undef, undef, undef], defers := [] } Y) := by
              intro Y Z hG hP hZ hr
              have c0 : Y.cell? ⟨w.heap.size, 0, none⟩ = some (.pointer (some ⟨p, 0, none⟩)) := (World.cell?_of_block (hG.block w.heap.size hHl (fun e => by injection e with e; omega))).trans cb'
              rw [hRR]
              refine wpAnyIn_ready (rs := [4]) (by kernel_rfl) (by simp) ?_
              refine AllReadyIn.cons rfl (fun K hK => ?_) (AllReadyIn.nil)
              · go_simp
                refine ⟨trivial, ?_⟩
                refine (CallsIn.inRound l (callsIn_wide.2 (hask Y hP))).mono ?_
                rintro ed Y1 ⟨rfl, hP1, hg1⟩
                refine hK _ _ ?_
                rw [← hRR]
                refine castL (L := #[true, true, true, true, true, false, false, false, true, false, false]) (by kernel_rfl) ?_
                exact s_0_1_2_3_4_8.out Y1 Z (grown_trans hG hg1) hP1 hZ (hr.of_block (hg1.block Z hr.lt (fun e => by injection e with e; omega)) (Nat.lt_of_lt_of_le hr.lt hg1.size))
            have s_0_1_2_3 : Hid (∀ (Y : World), V.grownBy Y (some p) → PBook Y p C n → RR 7 #[true, true, true, true, false, false, false, false, false, false, false] { tmps := #[.pointer (some ⟨p, 0, none⟩), .string t, .pointer (some ⟨w.heap.size, 0, none⟩), undef, .int .i64 0, .pointer (some ⟨w.heap.size + 1, 0, none⟩), .pointer (some ⟨w.heap.size + 1 + 1, 0, none⟩), .pointer (some ⟨w.heap.size + 1 + 1 + 1, 0, none⟩), .string ⟨x.1.1.toArray⟩, .int .i64 x.2, .pointer (some ⟨R, 0, none⟩), .bool true, undef, undef, .pointer (some ⟨p, 0, none⟩), .pointer (some ⟨p, 0, none⟩), .pointer (some ⟨p, 170, none⟩), .int .i64 B.count, .string t, .func (.func 51) #[] #[.pointer (some ⟨w.heap.size + 1 + 1 + 1 + 1, 0, none⟩)], .string ⟨x.1.1.toArray⟩, .int .i64 x.2, .tuple #[.agg #[.int .i64 num, .int .i64 rq.id, .int .i64 rq.kind, .int .i64 rq.cell, .int .i64 rq.hold, .int .i64 rq.count, .int .i64 rq.time], .bool true], .string ⟨x.1.1.toArray⟩, .tuple #[.agg #[.int .i64 num, .int .i64 rq.id, .int .i64 rq.kind, .int .i64 rq.cell, .int .i64 rq.hold, .int .i64 rq.count, .int .i64 rq.time], .bool true], .agg #[.int .i64 num, .int .i64 rq.id, .int .i64 rq.kind, .int .i64 rq.cell, .int .i64 rq.hold, .int .i64 rq.count, .int .i64 rq.time], .bool true, .bool true, .bool false, .bool false, .pointer (some ⟨R, 0, none⟩), .int .i64 num, .int .i64 a, .int .i64 B.count, .bool true, .bool false, .bool false, .pointer (some ⟨R, 0, none⟩), .int .i64 num, .pointer (some ⟨R, 0, none⟩), .int .i64 num, .int .i64 B.count, .bool (decide (num ≤ B.count)), undef, undef, .pointer (some ⟨p, 0, none⟩), .pointer (some ⟨R, 1, none⟩), .agg #[.int .i64 rq.id, .int .i64 rq.kind, .int .i64 rq.cell, .int .i64 rq.hold, .int .i64 rq.count, .int .i64 rq.time], .agg #[.int .i64 rq.id, .int .i64 rq.kind, .int .i64 rq.cell, .int .i64 rq.hold, .int .i64 rq.count, .int .i64 rq.time, .bool (Md.good rq)], undef, undef, undef, undef, undef, undef, undef], defers := [] } Y) := by
              intro Y hG hP
              have c0 : Y.cell? ⟨w.heap.size, 0, none⟩ = some (.pointer (some ⟨p, 0, none⟩)) := (World.cell?_of_block (hG.block w.heap.size hHl (fun e => by injection e with e; omega))).trans cb'
              rw [hRR]
              refine wpAnyIn_ready (rs := [4, 8]) (by kernel_rfl) (by simp) ?_
              refine AllReadyIn.cons rfl (fun K hK => ?_) (AllReadyIn.cons rfl (fun K hK => ?_) (AllReadyIn.nil))
              · go_simp
                refine ⟨trivial, ?_⟩
                refine (CallsIn.inRound l (callsIn_wide.2 (hask Y hP))).mono ?_
                rintro ed Y1 ⟨rfl, hP1, hg1⟩
                refine hK _ _ ?_
                rw [← hRR]
                refine castL (L := #[true, true, true, true, true, false, false, false, false, false, false]) (by kernel_rfl) ?_
                exact s_0_1_2_3_4.out Y1 (grown_trans hG hg1) hP1
              · go_simp
                refine hK _ _ ?_
                rw [← hRR]
                refine castL (L := #[true, true, true, true, false, false, false, false, true, false, false]) (by kernel_rfl) ?_
                exact s_0_1_2_3_8.out _ Y.heap.size (grown_trans hG (grown_below ((Below.refl Y.heap.size Y).alloc (Nat.le_refl _) _))) (hP.below ((Below.refl Y.heap.size Y).alloc (Nat.le_refl _) _)) hG.size (Rep2.new Y)
            have s_0_1_2_8 : Hid (∀ (Y : World) (Z : Nat), V.grownBy Y (some p) → PBook Y p C n → V.heap.size ≤ Z → Rep2 Y Z → RR 7 #[true, true, true, false, false, false, false, false, true, false, false] { tmps := #[.pointer (some ⟨p, 0, none⟩), .string t, .pointer (some ⟨w.heap.size, 0, none⟩), undef, .int .i64 0, .pointer (some ⟨w.heap.size + 1, 0, none⟩), .pointer (some ⟨w.heap.size + 1 + 1, 0, none⟩), .pointer (some ⟨w.heap.size + 1 + 1 + 1, 0, none⟩), .string ⟨x.1.1.toArray⟩, .int .i64 x.2, .pointer (some ⟨R, 0, none⟩), .bool true, .pointer (some ⟨Z, 0, none⟩), undef, .pointer (some ⟨p, 0, none⟩), .pointer (some ⟨p, 0, none⟩), .pointer (some ⟨p, 170, none⟩), .int .i64 B.count, .string t, .func (.func 51) #[] #[.pointer (some ⟨w.heap.size + 1 + 1 + 1 + 1, 0, none⟩)], .string ⟨x.1.1.toArray⟩, .int .i64 x.2, .tuple #[.agg #[.int .i64 num, .int .i64 rq.id, .int .i64 rq.kind, .int .i64 rq.cell, .int .i64 rq.hold, .int .i64 rq.count, .int .i64 rq.time], .bool true], .string ⟨x.1.1.toArray⟩, .tuple #[.agg #[.int .i64 num, .int .i64 rq.id, .int .i64 rq.kind, .int .i64 rq.cell, .int .i64 rq.hold, .int .i64 rq.count, .int .i64 rq.time], .bool true], .agg #[.int .i64 num, .int .i64 rq.id, .int .i64 rq.kind, .int .i64 rq.cell, .int .i64 rq.hold, .int .i64 rq.count, .int .i64 rq.time], .bool true, .bool true, .bool false, .bool false, .pointer (some ⟨R, 0, none⟩), .int .i64 num, .int .i64 a, .int .i64 B.count, .bool true, .bool false, .bool false, .pointer (some ⟨R, 0, none⟩), .int .i64 num, .pointer (some ⟨R, 0, none⟩), .int .i64 num, .int .i64 B.count, .bool (decide (num ≤ B.count)), undef, undef, .pointer (some ⟨p, 0, none⟩), .pointer (some ⟨R, 1, none⟩), .agg #[.int .i64 rq.id, .int .i64 rq.kind, .int .i64 rq.cell, .int .i64 rq.hold, .int .i64 rq.count, .int .i64 rq.time], undef, undef, undef, undef, undef, undef, undef, undef], defers := [] } Y) := by
              intro Y Z hG hP hZ hr
              have c0 : Y.cell? ⟨w.heap.size, 0, none⟩ = some (.pointer (some ⟨p, 0, none⟩)) := (World.cell?_of_block (hG.block w.heap.size hHl (fun e => by injection e with e; omega))).trans cb'
              rw [hRR]
              refine wpAnyIn_ready (rs := [3]) (by kernel_rfl) (by simp) ?_
              refine AllReadyIn.cons rfl (fun K hK => ?_) (AllReadyIn.nil)
              · go_simp
                refine ⟨trivial, ?_⟩
                refine (CallsIn.inRound l (callsIn_wide.2 (hlo Y))).mono ?_
                rintro ed Y1 ⟨rfl, hb1⟩
                refine hK _ _ ?_
                rw [← hRR]
                refine castL (L := #[true, true, true, true, false, false, false, false, true, false, false]) (by kernel_rfl) ?_
                exact s_0_1_2_3_8.out Y1 Z (grown_trans hG (grown_below hb1)) (hP.below hb1) hZ (hr.below hb1)
            have s_1_2_3_8 : Hid (∀ (Y : World) (Z : Nat), V.grownBy Y (some p) → PBook Y p C n → V.heap.size ≤ Z → Rep2 Y Z → RR 7 #[false, true, true, true, false, false, false, false, true, false, false] { tmps := #[.pointer (some ⟨p, 0, none⟩), .string t, .pointer (some ⟨w.heap.size, 0, none⟩), undef, .int .i64 0, .pointer (some ⟨w.heap.size + 1, 0, none⟩), .pointer (some ⟨w.heap.size + 1 + 1, 0, none⟩), .pointer (some ⟨w.heap.size + 1 + 1 + 1, 0, none⟩), .string ⟨x.1.1.toArray⟩, .int .i64 x.2, .pointer (some ⟨R, 0, none⟩), .bool true, .pointer (some ⟨Z, 0, none⟩), undef, .pointer (some ⟨p, 0, none⟩), .pointer (some ⟨p, 0, none⟩), .pointer (some ⟨p, 170, none⟩), .int .i64 B.count, .string t, .func (.func 51) #[] #[.pointer (some ⟨w.heap.size + 1 + 1 + 1 + 1, 0, none⟩)], .string ⟨x.1.1.toArray⟩, .int .i64 x.2, .tuple #[.agg #[.int .i64 num, .int .i64 rq.id, .int .i64 rq.kind, .int .i64 rq.cell, .int .i64 rq.hold, .int .i64 rq.count, .int .i64 rq.time], .bool true], .string ⟨x.1.1.toArray⟩, .tuple #[.agg #[.int .i64 num, .int .i64 rq.id, .int .i64 rq.kind, .int .i64 rq.cell, .int .i64 rq.hold, .int .i64 rq.count, .int .i64 rq.time], .bool true], .agg #[.int .i64 num, .int .i64 rq.id, .int .i64 rq.kind, .int .i64 rq.cell, .int .i64 rq.hold, .int .i64 rq.count, .int .i64 rq.time], .bool true, .bool true, .bool false, .bool false, .pointer (some ⟨R, 0, none⟩), .int .i64 num, .int .i64 a, .int .i64 B.count, .bool true, .bool false, .bool false, .pointer (some ⟨R, 0, none⟩), .int .i64 num, .pointer (some ⟨R, 0, none⟩), .int .i64 num, .int .i64 B.count, .bool (decide (num ≤ B.count)), undef, undef, undef, .pointer (some ⟨R, 1, none⟩), .agg #[.int .i64 rq.id, .int .i64 rq.kind, .int .i64 rq.cell, .int .i64 rq.hold, .int .i64 rq.count, .int .i64 rq.time], .agg #[.int .i64 rq.id, .int .i64 rq.kind, .int .i64 rq.cell, .int .i64 rq.hold, .int .i64 rq.count, .int .i64 rq.time, .bool (Md.good rq)], undef, undef, undef, undef, undef, undef, undef], defers := [] } Y) := by
              intro Y Z hG hP hZ hr
              have c0 : Y.cell? ⟨w.heap.size, 0, none⟩ = some (.pointer (some ⟨p, 0, none⟩)) := (World.cell?_of_block (hG.block w.heap.size hHl (fun e => by injection e with e; omega))).trans cb'
              rw [hRR]
              refine wpAnyIn_ready (rs := [0]) (by kernel_rfl) (by simp) ?_
              refine AllReadyIn.cons rfl (fun K hK => ?_) (AllReadyIn.nil)
              · go_simp
                refine hK _ _ ?_
                rw [← hRR]
                refine castL (L := #[true, true, true, true, false, false, false, false, true, false, false]) (by kernel_rfl) ?_
                exact s_0_1_2_3_8.out Y Z hG hP hZ hr
            have s_0_1_2 : Hid (∀ (Y : World), V.grownBy Y (some p) → PBook Y p C n → RR 8 #[true, true, true, false, false, false, false, false, false, false, false] { tmps := #[.pointer (some ⟨p, 0, none⟩), .string t, .pointer (some ⟨w.heap.size, 0, none⟩), undef, .int .i64 0, .pointer (some ⟨w.heap.size + 1, 0, none⟩), .pointer (some ⟨w.heap.size + 1 + 1, 0, none⟩), .pointer (some ⟨w.heap.size + 1 + 1 + 1, 0, none⟩), .string ⟨x.1.1.toArray⟩, .int .i64 x.2, .pointer (some ⟨R, 0, none⟩), .bool true, undef, undef, .pointer (some ⟨p, 0, none⟩), .pointer (some ⟨p, 0, none⟩), .pointer (some ⟨p, 170, none⟩), .int .i64 B.count, .string t, .func (.func 51) #[] #[.pointer (some ⟨w.heap.size + 1 + 1 + 1 + 1, 0, none⟩)], .string ⟨x.1.1.toArray⟩, .int .i64 x.2, .tuple #[.agg #[.int .i64 num, .int .i64 rq.id, .int .i64 rq.kind, .int .i64 rq.cell, .int .i64 rq.hold, .int .i64 rq.count, .int .i64 rq.time], .bool true], .string ⟨x.1.1.toArray⟩, .tuple #[.agg #[.int .i64 num, .int .i64 rq.id, .int .i64 rq.kind, .int .i64 rq.cell, .int .i64 rq.hold, .int .i64 rq.count, .int .i64 rq.time], .bool true], .agg #[.int .i64 num, .int .i64 rq.id, .int .i64 rq.kind, .int .i64 rq.cell, .int .i64 rq.hold, .int .i64 rq.count, .int .i64 rq.time], .bool true, .bool true, .bool false, .bool false, .pointer (some ⟨R, 0, none⟩), .int .i64 num, .int .i64 a, .int .i64 B.count, .bool true, .bool false, .bool false, .pointer (some ⟨R, 0, none⟩), .int .i64 num, .pointer (some ⟨R, 0, none⟩), .int .i64 num, .int .i64 B.count, .bool (decide (num ≤ B.count)), undef, undef, .pointer (some ⟨p, 0, none⟩), .pointer (some ⟨R, 1, none⟩), .agg #[.int .i64 rq.id, .int .i64 rq.kind, .int .i64 rq.cell, .int .i64 rq.hold, .int .i64 rq.count, .int .i64 rq.time], undef, undef, undef, undef, undef, undef, undef, undef], defers := [] } Y) := by
              intro Y hG hP
              have c0 : Y.cell? ⟨w.heap.size, 0, none⟩ = some (.pointer (some ⟨p, 0, none⟩)) := (World.cell?_of_block (hG.block w.heap.size hHl (fun e => by injection e with e; omega))).trans cb'
              rw [hRR]
              refine wpAnyIn_ready (rs := [3, 8]) (by kernel_rfl) (by simp) ?_
              refine AllReadyIn.cons rfl (fun K hK => ?_) (AllReadyIn.cons rfl (fun K hK => ?_) (AllReadyIn.nil))
              · go_simp
                refine ⟨trivial, ?_⟩
                refine (CallsIn.inRound l (callsIn_wide.2 (hlo Y))).mono ?_
                rintro ed Y1 ⟨rfl, hb1⟩
                refine hK _ _ ?_
                rw [← hRR]
                refine castL (L := #[true, true, true, true, false, false, false, false, false, false, false]) (by kernel_rfl) ?_
                exact s_0_1_2_3.out Y1 (grown_trans hG (grown_below hb1)) (hP.below hb1)
              · go_simp
                refine hK _ _ ?_
                rw [← hRR]
                refine castL (L := #[true, true, true, false, false, false, false, false, true, false, false]) (by kernel_rfl) ?_
                exact s_0_1_2_8.out _ Y.heap.size (grown_trans hG (grown_below ((Below.refl Y.heap.size Y).alloc (Nat.le_refl _) _))) (hP.below ((Below.refl Y.heap.size Y).alloc (Nat.le_refl _) _)) hG.size (Rep2.new Y)
            have s_0_1_8 : Hid (∀ (Y : World) (Z : Nat), V.grownBy Y (some p) → PBook Y p C n → V.heap.size ≤ Z → Rep2 Y Z → RR 8 #[true, true, false, false, false, false, false, false, true, false, false] { tmps := #[.pointer (some ⟨p, 0, none⟩), .string t, .pointer (some ⟨w.heap.size, 0, none⟩), undef, .int .i64 0, .pointer (some ⟨w.heap.size + 1, 0, none⟩), .pointer (some ⟨w.heap.size + 1 + 1, 0, none⟩), .pointer (some ⟨w.heap.size + 1 + 1 + 1, 0, none⟩), .string ⟨x.1.1.toArray⟩, .int .i64 x.2, .pointer (some ⟨R, 0, none⟩), .bool true, .pointer (some ⟨Z, 0, none⟩), undef, .pointer (some ⟨p, 0, none⟩), .pointer (some ⟨p, 0, none⟩), .pointer (some ⟨p, 170, none⟩), .int .i64 B.count, .string t, .func (.func 51) #[] #[.pointer (some ⟨w.heap.size + 1 + 1 + 1 + 1, 0, none⟩)], .string ⟨x.1.1.toArray⟩, .int .i64 x.2, .tuple #[.agg #[.int .i64 num, .int .i64 rq.id, .int .i64 rq.kind, .int .i64 rq.cell, .int .i64 rq.hold, .int .i64 rq.count, .int .i64 rq.time], .bool true], .string ⟨x.1.1.toArray⟩, .tuple #[.agg #[.int .i64 num, .int .i64 rq.id, .int .i64 rq.kind, .int .i64 rq.cell, .int .i64 rq.hold, .int .i64 rq.count, .int .i64 rq.time], .bool true], .agg #[.int .i64 num, .int .i64 rq.id, .int .i64 rq.kind, .int .i64 rq.cell, .int .i64 rq.hold, .int .i64 rq.count, .int .i64 rq.time], .bool true, .bool true, .bool false, .bool false, .pointer (some ⟨R, 0, none⟩), .int .i64 num, .int .i64 a, .int .i64 B.count, .bool true, .bool false, .bool false, .pointer (some ⟨R, 0, none⟩), .int .i64 num, .pointer (some ⟨R, 0, none⟩), .int .i64 num, .int .i64 B.count, .bool (decide (num ≤ B.count)), undef, undef, .pointer (some ⟨p, 0, none⟩), .pointer (some ⟨R, 1, none⟩), undef, undef, undef, undef, undef, undef, undef, undef, undef], defers := [] } Y) := by
              intro Y Z hG hP hZ hr
              have c0 : Y.cell? ⟨w.heap.size, 0, none⟩ = some (.pointer (some ⟨p, 0, none⟩)) := (World.cell?_of_block (hG.block w.heap.size hHl (fun e => by injection e with e; omega))).trans cb'
              obtain ⟨q0, q1, q2, q3, q4, q5, ql⟩ := y1'.of_block (W' := Y) (hG.block R hRl (fun e => by injection e with e; omega)) (Nat.lt_of_lt_of_le hRl hG.size)
              rw [hRR]
              refine wpAnyIn_ready (rs := [2]) (by kernel_rfl) (by simp) ?_
              refine AllReadyIn.cons rfl (fun K hK => ?_) (AllReadyIn.nil)
              · go_simp
                refine hK _ _ ?_
                rw [← hRR]
                refine castL (L := #[true, true, true, false, false, false, false, false, true, false, false]) (by kernel_rfl) ?_
                exact s_0_1_2_8.out Y Z hG hP hZ hr
            have s_1_2_3 : Hid (∀ (Y : World), V.grownBy Y (some p) → PBook Y p C n → RR 8 #[false, true, true, true, false, false, false, false, false, false, false] { tmps := #[.pointer (some ⟨p, 0, none⟩), .string t, .pointer (some ⟨w.heap.size, 0, none⟩), undef, .int .i64 0, .pointer (some ⟨w.heap.size + 1, 0, none⟩), .pointer (some ⟨w.heap.size + 1 + 1, 0, none⟩), .pointer (some ⟨w.heap.size + 1 + 1 + 1, 0, none⟩), .string ⟨x.1.1.toArray⟩, .int .i64 x.2, .pointer (some ⟨R, 0, none⟩), .bool true, undef, undef, .pointer (some ⟨p, 0, none⟩), .pointer (some ⟨p, 0, none⟩), .pointer (some ⟨p, 170, none⟩), .int .i64 B.count, .string t, .func (.func 51) #[] #[.pointer (some ⟨w.heap.size + 1 + 1 + 1 + 1, 0, none⟩)], .string ⟨x.1.1.toArray⟩, .int .i64 x.2, .tuple #[.agg #[.int .i64 num, .int .i64 rq.id, .int .i64 rq.kind, .int .i64 rq.cell, .int .i64 rq.hold, .int .i64 rq.count, .int .i64 rq.time], .bool true], .string ⟨x.1.1.toArray⟩, .tuple #[.agg #[.int .i64 num, .int .i64 rq.id, .int .i64 rq.kind, .int .i64 rq.cell, .int .i64 rq.hold, .int .i64 rq.count, .int .i64 rq.time], .bool true], .agg #[.int .i64 num, .int .i64 rq.id, .int .i64 rq.kind, .int .i64 rq.cell, .int .i64 rq.hold, .int .i64 rq.count, .int .i64 rq.time], .bool true, .bool true, .bool false, .bool false, .pointer (some ⟨R, 0, none⟩), .int .i64 num, .int .i64 a, .int .i64 B.count, .bool true, .bool false, .bool false, .pointer (some ⟨R, 0, none⟩), .int .i64 num, .pointer (some ⟨R, 0, none⟩), .int .i64 num, .int .i64 B.count, .bool (decide (num ≤ B.count)), undef, undef, undef, .pointer (some ⟨R, 1, none⟩), .agg #[.int .i64 rq.id, .int .i64 rq.kind, .int .i64 rq.cell, .int .i64 rq.hold, .int .i64 rq.count, .int .i64 rq.time], .agg #[.int .i64 rq.id, .int .i64 rq.kind, .int .i64 rq.cell, .int .i64 rq.hold, .int .i64 rq.count, .int .i64 rq.time, .bool (Md.good rq)], undef, undef, undef, undef, undef, undef, undef], defers := [] } Y) := by
              intro Y hG hP
              have c0 : Y.cell? ⟨w.heap.size, 0, none⟩ = some (.pointer (some ⟨p, 0, none⟩)) := (World.cell?_of_block (hG.block w.heap.size hHl (fun e => by injection e with e; omega))).trans cb'
              rw [hRR]
              refine wpAnyIn_ready (rs := [0, 8]) (by kernel_rfl) (by simp) ?_
              refine AllReadyIn.cons rfl (fun K hK => ?_) (AllReadyIn.cons rfl (fun K hK => ?_) (AllReadyIn.nil))
              · go_simp
                refine hK _ _ ?_
                rw [← hRR]
                refine castL (L := #[true, true, true, true, false, false, false, false, false, false, false]) (by kernel_rfl) ?_
                exact s_0_1_2_3.out Y hG hP
              · go_simp
                refine hK _ _ ?_
                rw [← hRR]
                refine castL (L := #[false, true, true, true, false, false, false, false, true, false, false]) (by kernel_rfl) ?_
                exact s_1_2_3_8.out _ Y.heap.size (grown_trans hG (grown_below ((Below.refl Y.heap.size Y).alloc (Nat.le_refl _) _))) (hP.below ((Below.refl Y.heap.size Y).alloc (Nat.le_refl _) _)) hG.size (Rep2.new Y)
            have s_1_2_8 : Hid (∀ (Y : World) (Z : Nat), V.grownBy Y (some p) → PBook Y p C n → V.heap.size ≤ Z → Rep2 Y Z → RR 8 #[false, true, true, false, false, false, false, false, true, false, false] { tmps := #[.pointer (some ⟨p, 0, none⟩), .string t, .pointer (some ⟨w.heap.size, 0, none⟩), undef, .int .i64 0, .pointer (some ⟨w.heap.size + 1, 0, none⟩), .pointer (some ⟨w.heap.size + 1 + 1, 0, none⟩), .pointer (some ⟨w.heap.size + 1 + 1 + 1, 0, none⟩), .string ⟨x.1.1.toArray⟩, .int .i64 x.2, .pointer (some ⟨R, 0, none⟩), .bool true, .pointer (some ⟨Z, 0, none⟩), undef, .pointer (some ⟨p, 0, none⟩), .pointer (some ⟨p, 0, none⟩), .pointer (some ⟨p, 170, none⟩), .int .i64 B.count, .string t, .func (.func 51) #[] #[.pointer (some ⟨w.heap.size + 1 + 1 + 1 + 1, 0, none⟩)], .string ⟨x.1.1.toArray⟩, .int .i64 x.2, .tuple #[.agg #[.int .i64 num, .int .i64 rq.id, .int .i64 rq.kind, .int .i64 rq.cell, .int .i64 rq.hold, .int .i64 rq.count, .int .i64 rq.time], .bool true], .string ⟨x.1.1.toArray⟩, .tuple #[.agg #[.int .i64 num, .int .i64 rq.id, .int .i64 rq.kind, .int .i64 rq.cell, .int .i64 rq.hold, .int .i64 rq.count, .int .i64 rq.time], .bool true], .agg #[.int .i64 num, .int .i64 rq.id, .int .i64 rq.kind, .int .i64 rq.cell, .int .i64 rq.hold, .int .i64 rq.count, .int .i64 rq.time], .bool true, .bool true, .bool false, .bool false, .pointer (some ⟨R, 0, none⟩), .int .i64 num, .int .i64 a, .int .i64 B.count, .bool true, .bool false, .bool false, .pointer (some ⟨R, 0, none⟩), .int .i64 num, .pointer (some ⟨R, 0, none⟩), .int .i64 num, .int .i64 B.count, .bool (decide (num ≤ B.count)), undef, undef, undef, .pointer (some ⟨R, 1, none⟩), .agg #[.int .i64 rq.id, .int .i64 rq.kind, .int .i64 rq.cell, .int .i64 rq.hold, .int .i64 rq.count, .int .i64 rq.time], undef, undef, undef, undef, undef, undef, undef, undef], defers := [] } Y) := by
              intro Y Z hG hP hZ hr
              have c0 : Y.cell? ⟨w.heap.size, 0, none⟩ = some (.pointer (some ⟨p, 0, none⟩)) := (World.cell?_of_block (hG.block w.heap.size hHl (fun e => by injection e with e; omega))).trans cb'
              rw [hRR]
              refine wpAnyIn_ready (rs := [0, 3]) (by kernel_rfl) (by simp) ?_
              refine AllReadyIn.cons rfl (fun K hK => ?_) (AllReadyIn.cons rfl (fun K hK => ?_) (AllReadyIn.nil))
              · go_simp
                refine hK _ _ ?_
                rw [← hRR]
                refine castL (L := #[true, true, true, false, false, false, false, false, true, false, false]) (by kernel_rfl) ?_
                exact s_0_1_2_8.out Y Z hG hP hZ hr
              · go_simp
                refine ⟨trivial, ?_⟩
                refine (CallsIn.inRound l (callsIn_wide.2 (hlo Y))).mono ?_
                rintro ed Y1 ⟨rfl, hb1⟩
                refine hK _ _ ?_
                rw [← hRR]
                refine castL (L := #[false, true, true, true, false, false, false, false, true, false, false]) (by kernel_rfl) ?_
                exact s_1_2_3_8.out Y1 Z (grown_trans hG (grown_below hb1)) (hP.below hb1) hZ (hr.below hb1)
            have s_0_1 : Hid (∀ (Y : World), V.grownBy Y (some p) → PBook Y p C n → RR 9 #[true, true, false, false, false, false, false, false, false, false, false] { tmps := #[.pointer (some ⟨p, 0, none⟩), .string t, .pointer (some ⟨w.heap.size, 0, none⟩), undef, .int .i64 0, .pointer (some ⟨w.heap.size + 1, 0, none⟩), .pointer (some ⟨w.heap.size + 1 + 1, 0, none⟩), .pointer (some ⟨w.heap.size + 1 + 1 + 1, 0, none⟩), .string ⟨x.1.1.toArray⟩, .int .i64 x.2, .pointer (some ⟨R, 0, none⟩), .bool true, undef, undef, .pointer (some ⟨p, 0, none⟩), .pointer (some ⟨p, 0, none⟩), .pointer (some ⟨p, 170, none⟩), .int .i64 B.count, .string t, .func (.func 51) #[] #[.pointer (some ⟨w.heap.size + 1 + 1 + 1 + 1, 0, none⟩)], .string ⟨x.1.1.toArray⟩, .int .i64 x.2, .tuple #[.agg #[.int .i64 num, .int .i64 rq.id, .int .i64 rq.kind, .int .i64 rq.cell, .int .i64 rq.hold, .int .i64 rq.count, .int .i64 rq.time], .bool true], .string ⟨x.1.1.toArray⟩, .tuple #[.agg #[.int .i64 num, .int .i64 rq.id, .int .i64 rq.kind, .int .i64 rq.cell, .int .i64 rq.hold, .int .i64 rq.count, .int .i64 rq.time], .bool true], .agg #[.int .i64 num, .int .i64 rq.id, .int .i64 rq.kind, .int .i64 rq.cell, .int .i64 rq.hold, .int .i64 rq.count, .int .i64 rq.time], .bool true, .bool true, .bool false, .bool false, .pointer (some ⟨R, 0, none⟩), .int .i64 num, .int .i64 a, .int .i64 B.count, .bool true, .bool false, .bool false, .pointer (some ⟨R, 0, none⟩), .int .i64 num, .pointer (some ⟨R, 0, none⟩), .int .i64 num, .int .i64 B.count, .bool (decide (num ≤ B.count)), undef, undef, .pointer (some ⟨p, 0, none⟩), .pointer (some ⟨R, 1, none⟩), undef, undef, undef, undef, undef, undef, undef, undef, undef], defers := [] } Y) := by
              intro Y hG hP
              have c0 : Y.cell? ⟨w.heap.size, 0, none⟩ = some (.pointer (some ⟨p, 0, none⟩)) := (World.cell?_of_block (hG.block w.heap.size hHl (fun e => by injection e with e; omega))).trans cb'
              obtain ⟨q0, q1, q2, q3, q4, q5, ql⟩ := y1'.of_block (W' := Y) (hG.block R hRl (fun e => by injection e with e; omega)) (Nat.lt_of_lt_of_le hRl hG.size)
              rw [hRR]
              refine wpAnyIn_ready (rs := [2, 8]) (by kernel_rfl) (by simp) ?_
              refine AllReadyIn.cons rfl (fun K hK => ?_) (AllReadyIn.cons rfl (fun K hK => ?_) (AllReadyIn.nil))
              · go_simp
                refine hK _ _ ?_
                rw [← hRR]
                refine castL (L := #[true, true, true, false, false, false, false, false, false, false, false]) (by kernel_rfl) ?_
                exact s_0_1_2.out Y hG hP
              · go_simp
                refine hK _ _ ?_
                rw [← hRR]
                refine castL (L := #[true, true, false, false, false, false, false, false, true, false, false]) (by kernel_rfl) ?_
                exact s_0_1_8.out _ Y.heap.size (grown_trans hG (grown_below ((Below.refl Y.heap.size Y).alloc (Nat.le_refl _) _))) (hP.below ((Below.refl Y.heap.size Y).alloc (Nat.le_refl _) _)) hG.size (Rep2.new Y)
            have s_0_8 : Hid (∀ (Y : World) (Z : Nat), V.grownBy Y (some p) → PBook Y p C n → V.heap.size ≤ Z → Rep2 Y Z → RR 9 #[true, false, false, false, false, false, false, false, true, false, false] { tmps := #[.pointer (some ⟨p, 0, none⟩), .string t, .pointer (some ⟨w.heap.size, 0, none⟩), undef, .int .i64 0, .pointer (some ⟨w.heap.size + 1, 0, none⟩), .pointer (some ⟨w.heap.size + 1 + 1, 0, none⟩), .pointer (some ⟨w.heap.size + 1 + 1 + 1, 0, none⟩), .string ⟨x.1.1.toArray⟩, .int .i64 x.2, .pointer (some ⟨R, 0, none⟩), .bool true, .pointer (some ⟨Z, 0, none⟩), undef, .pointer (some ⟨p, 0, none⟩), .pointer (some ⟨p, 0, none⟩), .pointer (some ⟨p, 170, none⟩), .int .i64 B.count, .string t, .func (.func 51) #[] #[.pointer (some ⟨w.heap.size + 1 + 1 + 1 + 1, 0, none⟩)], .string ⟨x.1.1.toArray⟩, .int .i64 x.2, .tuple #[.agg #[.int .i64 num, .int .i64 rq.id, .int .i64 rq.kind, .int .i64 rq.cell, .int .i64 rq.hold, .int .i64 rq.count, .int .i64 rq.time], .bool true], .string ⟨x.1.1.toArray⟩, .tuple #[.agg #[.int .i64 num, .int .i64 rq.id, .int .i64 rq.kind, .int .i64 rq.cell, .int .i64 rq.hold, .int .i64 rq.count, .int .i64 rq.time], .bool true], .agg #[.int .i64 num, .int .i64 rq.id, .int .i64 rq.kind, .int .i64 rq.cell, .int .i64 rq.hold, .int .i64 rq.count, .int .i64 rq.time], .bool true, .bool true, .bool false, .bool false, .pointer (some ⟨R, 0, none⟩), .int .i64 num, .int .i64 a, .int .i64 B.count, .bool true, .bool false, .bool false, .pointer (some ⟨R, 0, none⟩), .int .i64 num, .pointer (some ⟨R, 0, none⟩), .int .i64 num, .int .i64 B.count, .bool (decide (num ≤ B.count)), undef, undef, .pointer (some ⟨p, 0, none⟩), undef, undef, undef, undef, undef, undef, undef, undef, undef, undef], defers := [] } Y) := by
              intro Y Z hG hP hZ hr
              have c0 : Y.cell? ⟨w.heap.size, 0, none⟩ = some (.pointer (some ⟨p, 0, none⟩)) := (World.cell?_of_block (hG.block w.heap.size hHl (fun e => by injection e with e; omega))).trans cb'
              obtain ⟨q0, q1, q2, q3, q4, q5, ql⟩ := y1'.of_block (W' := Y) (hG.block R hRl (fun e => by injection e with e; omega)) (Nat.lt_of_lt_of_le hRl hG.size)
              rw [hRR]
              refine wpAnyIn_ready (rs := [1]) (by kernel_rfl) (by simp) ?_
              refine AllReadyIn.cons rfl (fun K hK => ?_) (AllReadyIn.nil)
              · go_simp
                refine hK _ _ ?_
                rw [← hRR]
                refine castL (L := #[true, true, false, false, false, false, false, false, true, false, false]) (by kernel_rfl) ?_
                exact s_0_1_8.out Y Z hG hP hZ hr
            have s_1_2 : Hid (∀ (Y : World), V.grownBy Y (some p) → PBook Y p C n → RR 9 #[false, true, true, false, false, false, false, false, false, false, false] { tmps := #[.pointer (some ⟨p, 0, none⟩), .string t, .pointer (some ⟨w.heap.size, 0, none⟩), undef, .int .i64 0, .pointer (some ⟨w.heap.size + 1, 0, none⟩), .pointer (some ⟨w.heap.size + 1 + 1, 0, none⟩), .pointer (some ⟨w.heap.size + 1 + 1 + 1, 0, none⟩), .string ⟨x.1.1.toArray⟩, .int .i64 x.2, .pointer (some ⟨R, 0, none⟩), .bool true, undef, undef, .pointer (some ⟨p, 0, none⟩), .pointer (some ⟨p, 0, none⟩), .pointer (some ⟨p, 170, none⟩), .int .i64 B.count, .string t, .func (.func 51) #[] #[.pointer (some ⟨w.heap.size + 1 + 1 + 1 + 1, 0, none⟩)], .string ⟨x.1.1.toArray⟩, .int .i64 x.2, .tuple #[.agg #[.int .i64 num, .int .i64 rq.id, .int .i64 rq.kind, .int .i64 rq.cell, .int .i64 rq.hold, .int .i64 rq.count, .int .i64 rq.time], .bool true], .string ⟨x.1.1.toArray⟩, .tuple #[.agg #[.int .i64 num, .int .i64 rq.id, .int .i64 rq.kind, .int .i64 rq.cell, .int .i64 rq.hold, .int .i64 rq.count, .int .i64 rq.time], .bool true], .agg #[.int .i64 num, .int .i64 rq.id, .int .i64 rq.kind, .int .i64 rq.cell, .int .i64 rq.hold, .int .i64 rq.count, .int .i64 rq.time], .bool true, .bool true, .bool false, .bool false, .pointer (some ⟨R, 0, none⟩), .int .i64 num, .int .i64 a, .int .i64 B.count, .bool true, .bool false, .bool false, .pointer (some ⟨R, 0, none⟩), .int .i64 num, .pointer (some ⟨R, 0, none⟩), .int .i64 num, .int .i64 B.count, .bool (decide (num ≤ B.count)), undef, undef, undef, .pointer (some ⟨R, 1, none⟩), .agg #[.int .i64 rq.id, .int .i64 rq.kind, .int .i64 rq.cell, .int .i64 rq.hold, .int .i64 rq.count, .int .i64 rq.time], undef, undef, undef, undef, undef, undef, undef, undef], defers := [] } Y) := by
              intro Y hG hP
              have c0 : Y.cell? ⟨w.heap.size, 0, none⟩ = some (.pointer (some ⟨p, 0, none⟩)) := (World.cell?_of_block (hG.block w.heap.size hHl (fun e => by injection e with e; omega))).trans cb'
              rw [hRR]
              refine wpAnyIn_ready (rs := [0, 3, 8]) (by kernel_rfl) (by simp) ?_
              refine AllReadyIn.cons rfl (fun K hK => ?_) (AllReadyIn.cons rfl (fun K hK => ?_) (AllReadyIn.cons rfl (fun K hK => ?_) (AllReadyIn.nil)))
              · go_simp
                refine hK _ _ ?_
                rw [← hRR]
                refine castL (L := #[true, true, true, false, false, false, false, false, false, false, false]) (by kernel_rfl) ?_
                exact s_0_1_2.out Y hG hP
              · go_simp
                refine ⟨trivial, ?_⟩
                refine (CallsIn.inRound l (callsIn_wide.2 (hlo Y))).mono ?_
                rintro ed Y1 ⟨rfl, hb1⟩
                refine hK _ _ ?_
                rw [← hRR]
                refine castL (L := #[false, true, true, true, false, false, false, false, false, false, false]) (by kernel_rfl) ?_
                exact s_1_2_3.out Y1 (grown_trans hG (grown_below hb1)) (hP.below hb1)
              · go_simp
                refine hK _ _ ?_
                rw [← hRR]
                refine castL (L := #[false, true, true, false, false, false, false, false, true, false, false]) (by kernel_rfl) ?_
                exact s_1_2_8.out _ Y.heap.size (grown_trans hG (grown_below ((Below.refl Y.heap.size Y).alloc (Nat.le_refl _) _))) (hP.below ((Below.refl Y.heap.size Y).alloc (Nat.le_refl _) _)) hG.size (Rep2.new Y)
            have s_1_8 : Hid (∀ (Y : World) (Z : Nat), V.grownBy Y (some p) → PBook Y p C n → V.heap.size ≤ Z → Rep2 Y Z → RR 9 #[false, true, false, false, false, false, false, false, true, false, false] { tmps := #[.pointer (some ⟨p, 0, none⟩), .string t, .pointer (some ⟨w.heap.size, 0, none⟩), undef, .int .i64 0, .pointer (some ⟨w.heap.size + 1, 0, none⟩), .pointer (some ⟨w.heap.size + 1 + 1, 0, none⟩), .pointer (some ⟨w.heap.size + 1 + 1 + 1, 0, none⟩), .string ⟨x.1.1.toArray⟩, .int .i64 x.2, .pointer (some ⟨R, 0, none⟩), .bool true, .pointer (some ⟨Z, 0, none⟩), undef, .pointer (some ⟨p, 0, none⟩), .pointer (some ⟨p, 0, none⟩), .pointer (some ⟨p, 170, none⟩), .int .i64 B.count, .string t, .func (.func 51) #[] #[.pointer (some ⟨w.heap.size + 1 + 1 + 1 + 1, 0, none⟩)], .string ⟨x.1.1.toArray⟩, .int .i64 x.2, .tuple #[.agg #[.int .i64 num, .int .i64 rq.id, .int .i64 rq.kind, .int .i64 rq.cell, .int .i64 rq.hold, .int .i64 rq.count, .int .i64 rq.time], .bool true], .string ⟨x.1.1.toArray⟩, .tuple #[.agg #[.int .i64 num, .int .i64 rq.id, .int .i64 rq.kind, .int .i64 rq.cell, .int .i64 rq.hold, .int .i64 rq.count, .int .i64 rq.time], .bool true], .agg #[.int .i64 num, .int .i64 rq.id, .int .i64 rq.kind, .int .i64 rq.cell, .int .i64 rq.hold, .int .i64 rq.count, .int .i64 rq.time], .bool true, .bool true, .bool false, .bool false, .pointer (some ⟨R, 0, none⟩), .int .i64 num, .int .i64 a, .int .i64 B.count, .bool true, .bool false, .bool false, .pointer (some ⟨R, 0, none⟩), .int .i64 num, .pointer (some ⟨R, 0, none⟩), .int .i64 num, .int .i64 B.count, .bool (decide (num ≤ B.count)), undef, undef, undef, .pointer (some ⟨R, 1, none⟩), undef, undef, undef, undef, undef, undef, undef, undef, undef], defers := [] } Y) := by
              intro Y Z hG hP hZ hr
              have c0 : Y.cell? ⟨w.heap.size, 0, none⟩ = some (.pointer (some ⟨p, 0, none⟩)) := (World.cell?_of_block (hG.block w.heap.size hHl (fun e => by injection e with e; omega))).trans cb'
              obtain ⟨q0, q1, q2, q3, q4, q5, ql⟩ := y1'.of_block (W' := Y) (hG.block R hRl (fun e => by injection e with e; omega)) (Nat.lt_of_lt_of_le hRl hG.size)
              rw [hRR]
              refine wpAnyIn_ready (rs := [0, 2]) (by kernel_rfl) (by simp) ?_
              refine AllReadyIn.cons rfl (fun K hK => ?_) (AllReadyIn.cons rfl (fun K hK => ?_) (AllReadyIn.nil))
              · go_simp
                refine hK _ _ ?_
                rw [← hRR]
                refine castL (L := #[true, true, false, false, false, false, false, false, true, false, false]) (by kernel_rfl) ?_
                exact s_0_1_8.out Y Z hG hP hZ hr
              · go_simp
                refine hK _ _ ?_
                rw [← hRR]
                refine castL (L := #[false, true, true, false, false, false, false, false, true, false, false]) (by kernel_rfl) ?_
                exact s_1_2_8.out Y Z hG hP hZ hr
            have s_0 : Hid (∀ (Y : World), V.grownBy Y (some p) → PBook Y p C n → RR 10 #[true, false, false, false, false, false, false, false, false, false, false] { tmps := #[.pointer (some ⟨p, 0, none⟩), .string t, .pointer (some ⟨w.heap.size, 0, none⟩), undef, .int .i64 0, .pointer (some ⟨w.heap.size + 1, 0, none⟩), .pointer (some ⟨w.heap.size + 1 + 1, 0, none⟩), .pointer (some ⟨w.heap.size + 1 + 1 + 1, 0, none⟩), .string ⟨x.1.1.toArray⟩, .int .i64 x.2, .pointer (some ⟨R, 0, none⟩), .bool true, undef, undef, .pointer (some ⟨p, 0, none⟩), .pointer (some ⟨p, 0, none⟩), .pointer (some ⟨p, 170, none⟩), .int .i64 B.count, .string t, .func (.func 51) #[] #[.pointer (some ⟨w.heap.size + 1 + 1 + 1 + 1, 0, none⟩)], .string ⟨x.1.1.toArray⟩, .int .i64 x.2, .tuple #[.agg #[.int .i64 num, .int .i64 rq.id, .int .i64 rq.kind, .int .i64 rq.cell, .int .i64 rq.hold, .int .i64 rq.count, .int .i64 rq.time], .bool true], .string ⟨x.1.1.toArray⟩, .tuple #[.agg #[.int .i64 num, .int .i64 rq.id, .int .i64 rq.kind, .int .i64 rq.cell, .int .i64 rq.hold, .int .i64 rq.count, .int .i64 rq.time], .bool true], .agg #[.int .i64 num, .int .i64 rq.id, .int .i64 rq.kind, .int .i64 rq.cell, .int .i64 rq.hold, .int .i64 rq.count, .int .i64 rq.time], .bool true, .bool true, .bool false, .bool false, .pointer (some ⟨R, 0, none⟩), .int .i64 num, .int .i64 a, .int .i64 B.count, .bool true, .bool false, .bool false, .pointer (some ⟨R, 0, none⟩), .int .i64 num, .pointer (some ⟨R, 0, none⟩), .int .i64 num, .int .i64 B.count, .bool (decide (num ≤ B.count)), undef, undef, .pointer (some ⟨p, 0, none⟩), undef, undef, undef, undef, undef, undef, undef, undef, undef, undef], defers := [] } Y) := by
              intro Y hG hP
              have c0 : Y.cell? ⟨w.heap.size, 0, none⟩ = some (.pointer (some ⟨p, 0, none⟩)) := (World.cell?_of_block (hG.block w.heap.size hHl (fun e => by injection e with e; omega))).trans cb'
              obtain ⟨q0, q1, q2, q3, q4, q5, ql⟩ := y1'.of_block (W' := Y) (hG.block R hRl (fun e => by injection e with e; omega)) (Nat.lt_of_lt_of_le hRl hG.size)
              rw [hRR]
              refine wpAnyIn_ready (rs := [1, 8]) (by kernel_rfl) (by simp) ?_
              refine AllReadyIn.cons rfl (fun K hK => ?_) (AllReadyIn.cons rfl (fun K hK => ?_) (AllReadyIn.nil))
              · go_simp
                refine hK _ _ ?_
                rw [← hRR]
                refine castL (L := #[true, true, false, false, false, false, false, false, false, false, false]) (by kernel_rfl) ?_
                exact s_0_1.out Y hG hP
              · go_simp
                refine hK _ _ ?_
                rw [← hRR]
                refine castL (L := #[true, false, false, false, false, false, false, false, true, false, false]) (by kernel_rfl) ?_
                exact s_0_8.out _ Y.heap.size (grown_trans hG (grown_below ((Below.refl Y.heap.size Y).alloc (Nat.le_refl _) _))) (hP.below ((Below.refl Y.heap.size Y).alloc (Nat.le_refl _) _)) hG.size (Rep2.new Y)
            have s_1 : Hid (∀ (Y : World), V.grownBy Y (some p) → PBook Y p C n → RR 10 #[false, true, false, false, false, false, false, false, false, false, false] { tmps := #[.pointer (some ⟨p, 0, none⟩), .string t, .pointer (some ⟨w.heap.size, 0, none⟩), undef, .int .i64 0, .pointer (some ⟨w.heap.size + 1, 0, none⟩), .pointer (some ⟨w.heap.size + 1 + 1, 0, none⟩), .pointer (some ⟨w.heap.size + 1 + 1 + 1, 0, none⟩), .string ⟨x.1.1.toArray⟩, .int .i64 x.2, .pointer (some ⟨R, 0, none⟩), .bool true, undef, undef, .pointer (some ⟨p, 0, none⟩), .pointer (some ⟨p, 0, none⟩), .pointer (some ⟨p, 170, none⟩), .int .i64 B.count, .string t, .func (.func 51) #[] #[.pointer (some ⟨w.heap.size + 1 + 1 + 1 + 1, 0, none⟩)], .string ⟨x.1.1.toArray⟩, .int .i64 x.2, .tuple #[.agg #[.int .i64 num, .int .i64 rq.id, .int .i64 rq.kind, .int .i64 rq.cell, .int .i64 rq.hold, .int .i64 rq.count, .int .i64 rq.time], .bool true], .string ⟨x.1.1.toArray⟩, .tuple #[.agg #[.int .i64 num, .int .i64 rq.id, .int .i64 rq.kind, .int .i64 rq.cell, .int .i64 rq.hold, .int .i64 rq.count, .int .i64 rq.time], .bool true], .agg #[.int .i64 num, .int .i64 rq.id, .int .i64 rq.kind, .int .i64 rq.cell, .int .i64 rq.hold, .int .i64 rq.count, .int .i64 rq.time], .bool true, .bool true, .bool false, .bool false, .pointer (some ⟨R, 0, none⟩), .int .i64 num, .int .i64 a, .int .i64 B.count, .bool true, .bool false, .bool false, .pointer (some ⟨R, 0, none⟩), .int .i64 num, .pointer (some ⟨R, 0, none⟩), .int .i64 num, .int .i64 B.count, .bool (decide (num ≤ B.count)), undef, undef, undef, .pointer (some ⟨R, 1, none⟩), undef, undef, undef, undef, undef, undef, undef, undef, undef], defers := [] } Y) := by
              intro Y hG hP
              have c0 : Y.cell? ⟨w.heap.size, 0, none⟩ = some (.pointer (some ⟨p, 0, none⟩)) := (World.cell?_of_block (hG.block w.heap.size hHl (fun e => by injection e with e; omega))).trans cb'
              obtain ⟨q0, q1, q2, q3, q4, q5, ql⟩ := y1'.of_block (W' := Y) (hG.block R hRl (fun e => by injection e with e; omega)) (Nat.lt_of_lt_of_le hRl hG.size)
              rw [hRR]
              refine wpAnyIn_ready (rs := [0, 2, 8]) (by kernel_rfl) (by simp) ?_
              refine AllReadyIn.cons rfl (fun K hK => ?_) (AllReadyIn.cons rfl (fun K hK => ?_) (AllReadyIn.cons rfl (fun K hK => ?_) (AllReadyIn.nil)))
              · go_simp
                refine hK _ _ ?_
                rw [← hRR]
                refine castL (L := #[true, true, false, false, false, false, false, false, false, false, false]) (by kernel_rfl) ?_
                exact s_0_1.out Y hG hP
              · go_simp
                refine hK _ _ ?_
                rw [← hRR]
                refine castL (L := #[false, true, true, false, false, false, false, false, false, false, false]) (by kernel_rfl) ?_
                exact s_1_2.out Y hG hP
              · go_simp
                refine hK _ _ ?_
                rw [← hRR]
                refine castL (L := #[false, true, false, false, false, false, false, false, true, false, false]) (by kernel_rfl) ?_
                exact s_1_8.out _ Y.heap.size (grown_trans hG (grown_below ((Below.refl Y.heap.size Y).alloc (Nat.le_refl _) _))) (hP.below ((Below.refl Y.heap.size Y).alloc (Nat.le_refl _) _)) hG.size (Rep2.new Y)
            have s_8 : Hid (∀ (Y : World) (Z : Nat), V.grownBy Y (some p) → PBook Y p C n → V.heap.size ≤ Z → Rep2 Y Z → RR 10 #[false, false, false, false, false, false, false, false, true, false, false] { tmps := #[.pointer (some ⟨p, 0, none⟩), .string t, .pointer (some ⟨w.heap.size, 0, none⟩), undef, .int .i64 0, .pointer (some ⟨w.heap.size + 1, 0, none⟩), .pointer (some ⟨w.heap.size + 1 + 1, 0, none⟩), .pointer (some ⟨w.heap.size + 1 + 1 + 1, 0, none⟩), .string ⟨x.1.1.toArray⟩, .int .i64 x.2, .pointer (some ⟨R, 0, none⟩), .bool true, .pointer (some ⟨Z, 0, none⟩), undef, .pointer (some ⟨p, 0, none⟩), .pointer (some ⟨p, 0, none⟩), .pointer (some ⟨p, 170, none⟩), .int .i64 B.count, .string t, .func (.func 51) #[] #[.pointer (some ⟨w.heap.size + 1 + 1 + 1 + 1, 0, none⟩)], .string ⟨x.1.1.toArray⟩, .int .i64 x.2, .tuple #[.agg #[.int .i64 num, .int .i64 rq.id, .int .i64 rq.kind, .int .i64 rq.cell, .int .i64 rq.hold, .int .i64 rq.count, .int .i64 rq.time], .bool true], .string ⟨x.1.1.toArray⟩, .tuple #[.agg #[.int .i64 num, .int .i64 rq.id, .int .i64 rq.kind, .int .i64 rq.cell, .int .i64 rq.hold, .int .i64 rq.count, .int .i64 rq.time], .bool true], .agg #[.int .i64 num, .int .i64 rq.id, .int .i64 rq.kind, .int .i64 rq.cell, .int .i64 rq.hold, .int .i64 rq.count, .int .i64 rq.time], .bool true, .bool true, .bool false, .bool false, .pointer (some ⟨R, 0, none⟩), .int .i64 num, .int .i64 a, .int .i64 B.count, .bool true, .bool false, .bool false, .pointer (some ⟨R, 0, none⟩), .int .i64 num, .pointer (some ⟨R, 0, none⟩), .int .i64 num, .int .i64 B.count, .bool (decide (num ≤ B.count)), undef, undef, undef, undef, undef, undef, undef, undef, undef, undef, undef, undef, undef], defers := [] } Y) := by
              intro Y Z hG hP hZ hr
              have c0 : Y.cell? ⟨w.heap.size, 0, none⟩ = some (.pointer (some ⟨p, 0, none⟩)) := (World.cell?_of_block (hG.block w.heap.size hHl (fun e => by injection e with e; omega))).trans cb'
              obtain ⟨q0, q1, q2, q3, q4, q5, ql⟩ := y1'.of_block (W' := Y) (hG.block R hRl (fun e => by injection e with e; omega)) (Nat.lt_of_lt_of_le hRl hG.size)
              rw [hRR]
              refine wpAnyIn_ready (rs := [0, 1]) (by kernel_rfl) (by simp) ?_
              refine AllReadyIn.cons rfl (fun K hK => ?_) (AllReadyIn.cons rfl (fun K hK => ?_) (AllReadyIn.nil))
              · go_simp
                refine hK _ _ ?_
                rw [← hRR]
                refine castL (L := #[true, false, false, false, false, false, false, false, true, false, false]) (by kernel_rfl) ?_
                exact s_0_8.out Y Z hG hP hZ hr
              · go_simp
                refine hK _ _ ?_
                rw [← hRR]
                refine castL (L := #[false, true, false, false, false, false, false, false, true, false, false]) (by kernel_rfl) ?_
                exact s_1_8.out Y Z hG hP hZ hr
            have s_ : Hid (∀ (Y : World), V.grownBy Y (some p) → PBook Y p C n → RR 11 #[false, false, false, false, false, false, false, false, false, false, false] { tmps := #[.pointer (some ⟨p, 0, none⟩), .string t, .pointer (some ⟨w.heap.size, 0, none⟩), undef, .int .i64 0, .pointer (some ⟨w.heap.size + 1, 0, none⟩), .pointer (some ⟨w.heap.size + 1 + 1, 0, none⟩), .pointer (some ⟨w.heap.size + 1 + 1 + 1, 0, none⟩), .string ⟨x.1.1.toArray⟩, .int .i64 x.2, .pointer (some ⟨R, 0, none⟩), .bool true, undef, undef, .pointer (some ⟨p, 0, none⟩), .pointer (some ⟨p, 0, none⟩), .pointer (some ⟨p, 170, none⟩), .int .i64 B.count, .string t, .func (.func 51) #[] #[.pointer (some ⟨w.heap.size + 1 + 1 + 1 + 1, 0, none⟩)], .string ⟨x.1.1.toArray⟩, .int .i64 x.2, .tuple #[.agg #[.int .i64 num, .int .i64 rq.id, .int .i64 rq.kind, .int .i64 rq.cell, .int .i64 rq.hold, .int .i64 rq.count, .int .i64 rq.time], .bool true], .string ⟨x.1.1.toArray⟩, .tuple #[.agg #[.int .i64 num, .int .i64 rq.id, .int .i64 rq.kind, .int .i64 rq.cell, .int .i64 rq.hold, .int .i64 rq.count, .int .i64 rq.time], .bool true], .agg #[.int .i64 num, .int .i64 rq.id, .int .i64 rq.kind, .int .i64 rq.cell, .int .i64 rq.hold, .int .i64 rq.count, .int .i64 rq.time], .bool true, .bool true, .bool false, .bool false, .pointer (some ⟨R, 0, none⟩), .int .i64 num, .int .i64 a, .int .i64 B.count, .bool true, .bool false, .bool false, .pointer (some ⟨R, 0, none⟩), .int .i64 num, .pointer (some ⟨R, 0, none⟩), .int .i64 num, .int .i64 B.count, .bool (decide (num ≤ B.count)), undef, undef, undef, undef, undef, undef, undef, undef, undef, undef, undef, undef, undef], defers := [] } Y) := by
              intro Y hG hP
              have c0 : Y.cell? ⟨w.heap.size, 0, none⟩ = some (.pointer (some ⟨p, 0, none⟩)) := (World.cell?_of_block (hG.block w.heap.size hHl (fun e => by injection e with e; omega))).trans cb'
              obtain ⟨q0, q1, q2, q3, q4, q5, ql⟩ := y1'.of_block (W' := Y) (hG.block R hRl (fun e => by injection e with e; omega)) (Nat.lt_of_lt_of_le hRl hG.size)
              rw [hRR]
              refine wpAnyIn_ready (rs := [0, 1, 8]) (by kernel_rfl) (by simp) ?_
              refine AllReadyIn.cons rfl (fun K hK => ?_) (AllReadyIn.cons rfl (fun K hK => ?_) (AllReadyIn.cons rfl (fun K hK => ?_) (AllReadyIn.nil)))
              · go_simp
                refine hK _ _ ?_
                rw [← hRR]
                refine castL (L := #[true, false, false, false, false, false, false, false, false, false, false]) (by kernel_rfl) ?_
                exact s_0.out Y hG hP
              · go_simp
                refine hK _ _ ?_
                rw [← hRR]
                refine castL (L := #[false, true, false, false, false, false, false, false, false, false, false]) (by kernel_rfl) ?_
                exact s_1.out Y hG hP
              · go_simp
                refine hK _ _ ?_
                rw [← hRR]
                refine castL (L := #[false, false, false, false, false, false, false, false, true, false, false]) (by kernel_rfl) ?_
                exact s_8.out _ Y.heap.size (grown_trans hG (grown_below ((Below.refl Y.heap.size Y).alloc (Nat.le_refl _) _))) (hP.below ((Below.refl Y.heap.size Y).alloc (Nat.le_refl _) _)) hG.size (Rep2.new Y)
            exact castLF (by kernel_rfl) (by kernel_rfl) (s_.out V.drew (grown_drew (grown_refl V _)) hS2.bk.drew)
          · rintro ex ac Y ⟨rfl, Z, rfl, hG, hP⟩
            have hS4 : RepSt w Y p CC n B.count num e t := by
              have nb : ∀ k, k < V.heap.size → k ≠ p → some k ≠ some p := fun k _ h e => h (by cases e; rfl)
              exact ⟨hP, hS2.b0.kept hG (nb _ hS2.b0.lt (by omega)), hS2.b1.kept hG (nb _ hS2.b1.lt (by omega)), hS2.b2.kept hG (nb _ hS2.b2.lt (by omega)), hS2.b3.kept hG (nb _ hS2.b3.lt (by omega)), hS2.b4.kept hG (nb _ hS2.b4.lt (by omega)), grown_trans hS2.gr hG⟩
            have hkf4 : KeepsFrom W0.heap.size W Y := hkf'.trans (KeepsFrom.of_grownBy hG (fun j e => by cases e; omega))
            have ce4 := hS4.b3.cell
            have fe4 := hS4.b3.frozen
            obtain ⟨hn1, hn2⟩ := Md.ask_new C rq n
            rw [HAA.out] at hn1 hn2
            cases hnew : Md.isNew C rq with
            | false =>
              obtain ⟨e1, e2⟩ := hn2 hnew
              dsimp only at e1 e2
              subst e1 e2
              rw [hnew] at Hstep
              clear hn1 hn2 hnew
              gi_wp2
              exact ⟨hkf4, num, CC, e, ⟨rfl, pre, x, a, rfl, Hgo.out, Hstep.out.trans (by rw [if_pos (show (true && true) = true from rfl), if_neg (by have := Hle.out; omega)]; rfl)⟩, hS4⟩
            | true =>
              have e1 := hn1 hnew
              simp only [Prod.mk.injEq] at e1
              obtain ⟨e1, e2, e3⟩ := e1
              subst e3
              rw [hnew] at Hstep
              have hI5 : Md.Inv CC n := by rw [e1]; exact hI.doReq (by unfold Md.isNew at hnew; rw [Bool.and_eq_true] at hnew; exact hnew.2)
              have hc5 : CC.count = C.count + 1 := by rw [e1]; exact Md.doReq_count C rq n
              have hst5 := hide (Hstep.out.trans (by rw [if_pos (show (true && true) = true from rfl), if_neg (by have := Hle.out; omega), if_pos rfl, ← e1] : _ = some (num, CC, x.2)))
              clear hn1 hn2 hnew e1 e2 Hstep
              have hS5 := hS4.end hpl x.2
              have hkf5 := hkf4.trans ((KeepsOthers.setCell Y ⟨w.heap.size + 1 + 1 + 1, 0, none⟩ (.int .i64 x.2)).from W0.heap.size)
              gi_wp2
              refine ⟨hkf5, fun u hu => ?_, num, CC, x.2, ⟨?_, hI5, ⟨by have := hcc.1; omega, ?_⟩, by omega⟩, hS5⟩
              · rw [hS.b4.cell] at hu; cases hu; exact hS5.b4.cell
              · rw [Md.goP_snoc, Hgo.out]; exact hst5.out
              · have := hcc.2; rw [List.length_append]; simp; omega
  case done =>
    rintro D ys W hD rfl ⟨a, C, e, ⟨hgo, hI, hcc, haa⟩, hS⟩ hK
    have hce := hS.b3.cell
    have hfin := hide (Md.finP_all n B.count _ _ _ hgo)
    gi_wp2
    rw [Exit.noGoto_ret]
    refine ⟨by simp, .inl ⟨_, _, rfl, run_takeDeferred hK, ?_⟩⟩
    refine ⟨_, results_tmp rfl _ _ _, ?_⟩
    have hS' := hS.grown (row := some D) hpl (grownBy_putObj' W D (.deferred none)) (fun r e => by cases e; omega)
    rw [hfin.out]
    exact ⟨rfl, hS'.bk, hS'.gr⟩
  case stop =>
    rintro D c pre W hD hp ⟨a, C, e, ⟨rfl, pre', x, a0, rfl, hgo, hst⟩, hS⟩ hK
    have hce := hS.b3.cell
    have hfin := hide (Md.finP_stop n B.count hgo hst hp)
    gi_wp2
    rw [Exit.noGoto_ret]
    refine ⟨by simp, .inl ⟨_, _, rfl, run_takeDeferred hK, ?_⟩⟩
    refine ⟨_, results_tmp rfl _ _ _, ?_⟩
    have hS' := hS.grown (row := some D) hpl (grownBy_putObj' W D (.deferred none)) (fun r e => by cases e; omega)
    rw [hfin.out]
    exact ⟨rfl, hS'.bk, hS'.gr⟩
end Go.Proofs.Ytidacihlalbohaa
