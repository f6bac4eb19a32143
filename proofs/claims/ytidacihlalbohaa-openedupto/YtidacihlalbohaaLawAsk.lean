/- The law's own asked and all: what a shop is asked, the document's beside it. -/
import Derived.Test.YtidacihlalbohaaPDown
import Derived.Test.YtidacihlalbohaaLawFiles
namespace Go.Proofs.Ytidacihlalbohaa
open Go.RowKit

/-- A shop in block q and the document's in block r, with one book; the pair of them in block b. -/
structure PairAt (W : World) (b q r p : Nat) (B : Md.Bk) (n : Nat) (v : Value) : Prop where
  c0 : W.cell? ⟨b, 0, none⟩ = some (.pointer (some ⟨q, 0, none⟩))
  c1 : W.cell? ⟨b, 1, none⟩ = some (.pointer (some ⟨r, 0, none⟩))
  sh : ShopAt W q B n
  ak : AskAt W r p false
  bk : BookAt W p B v
theorem PairAt.lt {W : World} {b q r p : Nat} {B : Md.Bk} {n : Nat} {v : Value} (h : PairAt W b q r p B n v) : b < W.heap.size := World.block_lt_of_cell? W ⟨b, 0, none⟩ h.c0
theorem AskAt.below {W W' : World} {q p : Nat} {d : Bool} (h : AskAt W q p d) (hb : Below W.heap.size W W') : AskAt W' q p d :=
  ⟨(hb.cell (p := ⟨q, 12, none⟩) h.lt).trans h.dn, (hb.cell (p := ⟨q, 3, none⟩) h.lt).trans h.bk, Nat.lt_of_lt_of_le h.lt hb.size⟩
theorem PairAt.below {W W' : World} {b q r p : Nat} {B : Md.Bk} {n : Nat} {v : Value} (h : PairAt W b q r p B n v) (hb : Below W.heap.size W W') : PairAt W' b q r p B n v :=
  ⟨(hb.cell (p := ⟨b, 0, none⟩) h.lt).trans h.c0, (hb.cell (p := ⟨b, 1, none⟩) h.lt).trans h.c1, h.sh.below hb, h.ak.below hb, h.bk.of_block (hb.block p h.bk.lt) (Nat.lt_of_lt_of_le h.bk.lt hb.size)⟩

theorem fieldsCell4 : ((Try.prog.fieldsOf 105).toList.map fun f => (f.name, f.type, f.offset)) = [("OnHand", 3, 0), ("Held", 3, 1), ("Committed", 3, 2), ("Free", 3, 3)] := by kernel_rfl
theorem stoodCell : Try.prog.stoodInHeld 105 = false := by kernel_rfl
theorem guardCell : Try.prog.eqGuardType Try.prog.depth 105 = false := by kernel_rfl
theorem fieldsHold : ((Try.prog.fieldsOf 72).toList.map fun f => (f.name, f.type, f.offset)) = [("Cell", 3, 0), ("Count", 3, 1), ("Time", 3, 2)] := by kernel_rfl
theorem underHold : Try.prog.underlying 72 = some (.struct (Try.prog.fieldsOf 72)) := by kernel_rfl
theorem stoodHold : Try.prog.stoodInHeld 72 = false := by kernel_rfl
theorem guardHold : Try.prog.eqGuardType Try.prog.depth 72 = false := by kernel_rfl
theorem four2s {α : Type} {β : Type} {g : α → β} {l : List α} {a b c d : β} (h : l.map g = [a, b, c, d]) : ∃ x0 x1 x2 x3, l = [x0, x1, x2, x3] ∧ g x0 = a ∧ g x1 = b ∧ g x2 = c ∧ g x3 = d := by
  match l, h with
  | [x0, x1, x2, x3], h => simp at h; exact ⟨x0, x1, x2, x3, rfl, h⟩
theorem three2s {α : Type} {β : Type} {g : α → β} {l : List α} {a b c : β} (h : l.map g = [a, b, c]) : ∃ x0 x1 x2, l = [x0, x1, x2] ∧ g x0 = a ∧ g x1 = b ∧ g x2 = c := by
  match l, h with
  | [x0, x1, x2], h => simp at h; exact ⟨x0, x1, x2, rfl, h⟩
set_option maxRecDepth 100000 in
theorem equalCell (W : World) (a b c d : Int) :
    (Op.equalIn 10000 105 (.agg #[.int .i64 a, .int .i64 b, .int .i64 c, .int .i64 d]) (.agg #[.int .i64 a, .int .i64 b, .int .i64 c, .int .i64 d])).run Try.prog W = .ok true W := by
  rw [run_equalIn_struct W 9999 105 _ _ underCell stoodCell]
  obtain ⟨x0, x1, x2, x3, hl, k0, k1, k2, k3⟩ := four2s fieldsCell4
  rw [hl]
  simp only [Prod.mk.injEq] at k0 k1 k2 k3
  simp only [Op.eqFields, k0.1, k0.2.1, k0.2.2, k1.1, k1.2.1, k1.2.2, k2.1, k2.2.1, k2.2.2, k3.1, k3.2.1, k3.2.2]
  simp [go_sem]
set_option maxRecDepth 100000 in
theorem equalHold (W : World) (a b c : Int) :
    (Op.equalIn 10000 72 (.agg #[.int .i64 a, .int .i64 b, .int .i64 c]) (.agg #[.int .i64 a, .int .i64 b, .int .i64 c])).run Try.prog W = .ok true W := by
  rw [run_equalIn_struct W 9999 72 _ _ underHold stoodHold]
  obtain ⟨x0, x1, x2, hl, k0, k1, k2⟩ := three2s fieldsHold
  rw [hl]
  simp only [Prod.mk.injEq] at k0 k1 k2
  simp only [Op.eqFields, k0.1, k0.2.1, k0.2.2, k1.1, k1.2.1, k1.2.2, k2.1, k2.2.1, k2.2.2]
  simp [go_sem]

set_option maxRecDepth 100000 in
set_option maxHeartbeats 2000000 in
theorem askedClock_any (b q r p : Nat) (B : Md.Bk) (n : Nat) (v : Value) (w : World) (h : PairAt w b q r p B n v) :
    Calls Try.prog 24 #[.pointer (some ⟨b, 0, none⟩), .int .i64 2, .int .i64 0] w fun e w' => e = .returned (.bool true) ∧ Below w.heap.size w w' := by
  have c0 := h.c0
  have c1 := h.c1
  have hl := h.lt
  have hs := sClock_any q B n w h.sh
  have hr := shopClock_any r p B v false w h.ak h.bk
  unfold two2 at hs hr
  clear h
  go_enter Try.func24, Try.ntmps24
  go_wp2_with fail
  refine hs.mono ?_
  rintro e W ⟨rfl, rfl⟩
  go_wp2_with fail
  refine hr.mono ?_
  rintro e W ⟨rfl, rfl⟩
  go_wp2
  go_ret
  exact ⟨rfl, Below.refl _ _⟩
set_option maxRecDepth 100000 in
set_option maxHeartbeats 2000000 in
theorem askedCount_any (b q r p : Nat) (B : Md.Bk) (n : Nat) (v : Value) (w : World) (h : PairAt w b q r p B n v) :
    Calls Try.prog 24 #[.pointer (some ⟨b, 0, none⟩), .int .i64 3, .int .i64 0] w fun e w' => e = .returned (.bool true) ∧ Below w.heap.size w w' := by
  have c0 := h.c0
  have c1 := h.c1
  have hl := h.lt
  have hs := sCount_any q B n w h.sh
  have hr := shopCount_any r p B v false w h.ak h.bk
  unfold two2 at hs hr
  clear h
  go_enter Try.func24, Try.ntmps24
  go_wp2_with fail
  refine hs.mono ?_
  rintro e W ⟨rfl, rfl⟩
  go_wp2_with fail
  refine hr.mono ?_
  rintro e W ⟨rfl, rfl⟩
  go_wp2
  go_ret
  exact ⟨rfl, Below.refl _ _⟩

set_option maxRecDepth 100000 in
set_option maxHeartbeats 2000000 in
theorem askedCell_any (b q r p : Nat) (B : Md.Bk) (n : Nat) (v : Value) (i : Int) (w : World) (h : PairAt w b q r p B n v) (hI : Md.Inv B n) :
    Calls Try.prog 24 #[.pointer (some ⟨b, 0, none⟩), .int .i64 0, .int .i64 i] w fun e w' => e = .returned (.bool true) ∧ Below w.heap.size w w' := by
  have c0 := h.c0
  have c1 := h.c1
  have hl := h.lt
  have hs := sCell_any q B n i w h.sh hI.small hI.l0
  have hr := fun W (hp : PairAt W b q r p B n v) => shopCell_any r p B v false i W hp.ak hp.bk hI.small
  unfold cell2 at hs hr
  obtain ⟨⟨⟨a0, a1, a2, a3⟩, a4⟩, hA⟩ : ∃ A, Md.askCell B false i = A := ⟨_, rfl⟩
  rw [hA] at hs hr
  dsimp only at hs hr
  have heq := fun W => equalCell W a0 a1 a2 a3
  have hgd := guardCell
  have H := hide h
  clear hA h
  go_enter Try.func24, Try.ntmps24
  go_wp2_with fail
  refine hs.mono ?_
  rintro e W1 ⟨rfl, hb1⟩
  have hX : Below w.heap.size w (W1.alloc (.cells #[.int .i64 a0, .int .i64 a1, .int .i64 a2, .int .i64 a3] 105)) := hb1.alloc hb1.size _
  have y0 : (W1.alloc (.cells #[.int .i64 a0, .int .i64 a1, .int .i64 a2, .int .i64 a3] 105)).cell? ⟨W1.heap.size, 0, none⟩ = some (.int .i64 a0) := by simp [go_sem]
  have y1 : (W1.alloc (.cells #[.int .i64 a0, .int .i64 a1, .int .i64 a2, .int .i64 a3] 105)).cell? ⟨W1.heap.size, 1, none⟩ = some (.int .i64 a1) := by simp [go_sem]
  have y2 : (W1.alloc (.cells #[.int .i64 a0, .int .i64 a1, .int .i64 a2, .int .i64 a3] 105)).cell? ⟨W1.heap.size, 2, none⟩ = some (.int .i64 a2) := by simp [go_sem]
  have y3 : (W1.alloc (.cells #[.int .i64 a0, .int .i64 a1, .int .i64 a2, .int .i64 a3] 105)).cell? ⟨W1.heap.size, 3, none⟩ = some (.int .i64 a3) := by simp [go_sem]
  have yl : W1.heap.size < (W1.alloc (.cells #[.int .i64 a0, .int .i64 a1, .int .i64 a2, .int .i64 a3] 105)).heap.size := by simp
  have hPX := H.out.below hX
  have c1X := hPX.c1
  have hlX := hPX.lt
  clear hs hb1
  go_wp2_with fail
  generalize W1.alloc (.cells #[.int .i64 a0, .int .i64 a1, .int .i64 a2, .int .i64 a3] 105) = X at hX y0 y1 y2 y3 yl hPX c1X hlX ⊢
  refine (hr X hPX).mono ?_
  rintro e W2 ⟨rfl, hb2⟩
  replace y0 := (hb2.cell (p := ⟨W1.heap.size, 0, none⟩) yl).trans y0
  replace y1 := (hb2.cell (p := ⟨W1.heap.size, 1, none⟩) yl).trans y1
  replace y2 := (hb2.cell (p := ⟨W1.heap.size, 2, none⟩) yl).trans y2
  replace y3 := (hb2.cell (p := ⟨W1.heap.size, 3, none⟩) yl).trans y3
  replace yl := Nat.lt_of_lt_of_le yl hb2.size
  have hF := (hX.trans (hb2.mono hX.size)).alloc (hX.trans (hb2.mono hX.size)).size (.cells #[.int .i64 a0, .int .i64 a1, .int .i64 a2, .int .i64 a3] 105)
  have HF := hide hF
  clear hr hb2 hX hF hPX
  go_wp2
  go_ret
  exact ⟨rfl, HF.out⟩

set_option maxRecDepth 100000 in
set_option maxHeartbeats 2000000 in
theorem askedHold_any (b q r p : Nat) (B : Md.Bk) (n : Nat) (v : Value) (i : Int) (w : World) (h : PairAt w b q r p B n v) (hI : Md.Inv B n) :
    Calls Try.prog 24 #[.pointer (some ⟨b, 0, none⟩), .int .i64 1, .int .i64 i] w fun e w' => e = .returned (.bool true) ∧ Below w.heap.size w w' := by
  have c0 := h.c0
  have c1 := h.c1
  have hl := h.lt
  have hs := sHold_any q B n i w h.sh (fun k hk hlv => (hI.lv k hk hlv).1)
  have hr := fun W (hp : PairAt W b q r p B n v) => shopHold_any r p B v false i W hp.ak hp.bk
  unfold hold2 at hs hr
  obtain ⟨⟨⟨a0, a1, a2⟩, a4⟩, hA⟩ : ∃ A, Md.askHold B false i = A := ⟨_, rfl⟩
  rw [hA] at hs hr
  dsimp only at hs hr
  have heq := fun W => equalHold W a0 a1 a2
  have hgd := guardHold
  have H := hide h
  clear hA h
  go_enter Try.func24, Try.ntmps24
  go_wp2_with fail
  refine hs.mono ?_
  rintro e W1 ⟨rfl, hb1⟩
  have hX : Below w.heap.size w (W1.alloc (.cells #[.int .i64 a0, .int .i64 a1, .int .i64 a2] 72)) := hb1.alloc hb1.size _
  have y0 : (W1.alloc (.cells #[.int .i64 a0, .int .i64 a1, .int .i64 a2] 72)).cell? ⟨W1.heap.size, 0, none⟩ = some (.int .i64 a0) := by simp [go_sem]
  have y1 : (W1.alloc (.cells #[.int .i64 a0, .int .i64 a1, .int .i64 a2] 72)).cell? ⟨W1.heap.size, 1, none⟩ = some (.int .i64 a1) := by simp [go_sem]
  have y2 : (W1.alloc (.cells #[.int .i64 a0, .int .i64 a1, .int .i64 a2] 72)).cell? ⟨W1.heap.size, 2, none⟩ = some (.int .i64 a2) := by simp [go_sem]
  have yl : W1.heap.size < (W1.alloc (.cells #[.int .i64 a0, .int .i64 a1, .int .i64 a2] 72)).heap.size := by simp
  have hPX := H.out.below hX
  have c1X := hPX.c1
  have hlX := hPX.lt
  clear hs hb1
  go_wp2_with fail
  generalize W1.alloc (.cells #[.int .i64 a0, .int .i64 a1, .int .i64 a2] 72) = X at hX y0 y1 y2 yl hPX c1X hlX ⊢
  refine (hr X hPX).mono ?_
  rintro e W2 ⟨rfl, hb2⟩
  replace y0 := (hb2.cell (p := ⟨W1.heap.size, 0, none⟩) yl).trans y0
  replace y1 := (hb2.cell (p := ⟨W1.heap.size, 1, none⟩) yl).trans y1
  replace y2 := (hb2.cell (p := ⟨W1.heap.size, 2, none⟩) yl).trans y2
  replace yl := Nat.lt_of_lt_of_le yl hb2.size
  have hF := (hX.trans (hb2.mono hX.size)).alloc (hX.trans (hb2.mono hX.size)).size (.cells #[.int .i64 a0, .int .i64 a1, .int .i64 a2] 72)
  have HF := hide hF
  clear hr hb2 hX hF hPX
  go_wp2
  go_ret
  exact ⟨rfl, HF.out⟩
end Go.Proofs.Ytidacihlalbohaa
