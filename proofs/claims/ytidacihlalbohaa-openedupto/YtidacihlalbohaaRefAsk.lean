/- What the document's own shop answers when it is asked. -/
import Derived.Test.YtidacihlalbohaaRefPut
namespace Go.Proofs.Ytidacihlalbohaa
open Go.RowKit

/-- What a shop's answers hang on: is the power gone, where its book lies. -/
structure AskAt (W : World) (q p : Nat) (down : Bool) : Prop where
  dn : W.cell? ⟨q, 12, none⟩ = some (.bool down)
  bk : W.cell? ⟨q, 3, none⟩ = some (.pointer (some ⟨p, 0, none⟩))
  lt : q < W.heap.size

namespace Md
def askClock (B : Bk) (down : Bool) : Int × Int := if down then (0, 7) else (B.clock, 0)
def askCount (B : Bk) (down : Bool) : Int × Int := if down then (0, 7) else (B.count, 0)
def askHold (B : Bk) (down : Bool) (h : Int) : (Int × Int × Int) × Int :=
  if down then ((0, 0, 0), 7) else if h < 1 ∨ 50 < h then ((0, 0, 0), 5) else if B.live h.toNat then ((B.hc h.toNat, B.hn h.toNat, B.ht h.toNat), 0) else ((0, 0, 0), 6)
def askCell (B : Bk) (down : Bool) (i : Int) : (Int × Int × Int × Int) × Int :=
  if down then ((0, 0, 0, 0), 7) else if i < 0 ∨ 7 < i then ((0, 0, 0, 0), 5) else ((B.onHand i.toNat, held B i.toNat, B.committed i.toNat, free B i.toNat), 0)
end Md

def two2 (x : Int × Int) : Value := .tuple #[.int .i64 x.1, .int .i64 x.2]
def hold2 (x : (Int × Int × Int) × Int) : Value := .tuple #[.agg #[.int .i64 x.1.1, .int .i64 x.1.2.1, .int .i64 x.1.2.2], .int .i64 x.2]
def cell2 (x : (Int × Int × Int × Int) × Int) : Value := .tuple #[.agg #[.int .i64 x.1.1, .int .i64 x.1.2.1, .int .i64 x.1.2.2.1, .int .i64 x.1.2.2.2], .int .i64 x.2]

theorem shopClock_any (q p : Nat) (B : Md.Bk) (v : Value) (down : Bool) (w : World) (ha : AskAt w q p down) (hb : BookAt w p B v) :
    Calls Try.prog 48 #[.pointer (some ⟨q, 0, none⟩)] w fun e w' => e = .returned (two2 (Md.askClock B down)) ∧ w' = w := by
  have h1 := ha.dn
  have h2 := ha.bk
  have h3 := hb.cl
  clear ha hb
  cases down
  all_goals
    go_enter Try.func48, Try.ntmps48
    go_wp2
    go_ret2
    exact ⟨rfl, rfl⟩

theorem shopCount_any (q p : Nat) (B : Md.Bk) (v : Value) (down : Bool) (w : World) (ha : AskAt w q p down) (hb : BookAt w p B v) :
    Calls Try.prog 50 #[.pointer (some ⟨q, 0, none⟩)] w fun e w' => e = .returned (two2 (Md.askCount B down)) ∧ w' = w := by
  have h1 := ha.dn
  have h2 := ha.bk
  have h3 := hb.cn
  clear ha hb
  cases down
  all_goals
    go_enter Try.func50, Try.ntmps50
    go_wp2
    go_ret2
    exact ⟨rfl, rfl⟩

set_option maxHeartbeats 1000000 in
theorem shopHold_any (q p : Nat) (B : Md.Bk) (v : Value) (down : Bool) (h : Int) (w : World) (ha : AskAt w q p down) (hb : BookAt w p B v) :
    Calls Try.prog 46 #[.pointer (some ⟨q, 0, none⟩), .int .i64 h] w fun e w' => e = .returned (hold2 (Md.askHold B down h)) ∧ Below w.heap.size w w' := by
  have h1 := ha.dn
  have h2 := ha.bk
  have hq := ha.lt
  have hp := hb.lt
  cases down with
  | true =>
    clear ha hb
    go_enter Try.func46, Try.ntmps46
    go_wp2
    refine bodyPost_ret (v := hold2 ((0, 0, 0), 7)) (by simp [results, Try.results46, go_sem, hold2]) rfl ⟨rfl, ?_⟩
    exact (Below.refl _ _).alloc (Nat.le_refl _) _
  | false =>
    by_cases hlo : h < 1
    · have hm : Md.askHold B false h = ((0, 0, 0), 5) := by unfold Md.askHold; rw [if_neg (by decide), if_pos (.inl hlo)]
      rw [hm]
      clear ha hb hm
      go_enter Try.func46, Try.ntmps46
      go_wp2
      exact bodyPost_ret (v := hold2 ((0, 0, 0), 5)) (by simp [results, Try.results46, go_sem, hold2]) rfl ⟨rfl, (Below.refl _ _).alloc (Nat.le_refl _) _⟩
    by_cases hhi : 50 < h
    · have hm : Md.askHold B false h = ((0, 0, 0), 5) := by unfold Md.askHold; rw [if_neg (by decide), if_pos (.inr hhi)]
      rw [hm]
      clear ha hb hm
      go_enter Try.func46, Try.ntmps46
      go_wp2
      exact bodyPost_ret (v := hold2 ((0, 0, 0), 5)) (by simp [results, Try.results46, go_sem, hold2]) rfl ⟨rfl, (Below.refl _ _).alloc (Nat.le_refl _) _⟩
    obtain ⟨k, rfl⟩ : ∃ k : Nat, h = k := ⟨h.toNat, by omega⟩
    have hm : Md.askHold B false (k : Int) = if B.live k then ((B.hc k, B.hn k, B.ht k), 0) else ((0, 0, 0), 6) := by unfold Md.askHold; rw [if_neg (by decide), if_neg (by omega)]; rfl
    have l1 := hb.li k (by omega)
    have e1 := hb.hc k (by omega)
    have e2 := hb.hn k (by omega)
    have e3 := hb.ht k (by omega)
    rw [hm]
    clear ha hb hm
    cases hl : B.live k with
    | false =>
      rw [hl] at l1
      go_enter Try.func46, Try.ntmps46
      go_wp2
      exact bodyPost_ret (v := hold2 ((0, 0, 0), 6)) (by simp [results, Try.results46, go_sem, hold2]) rfl ⟨rfl, (Below.refl _ _).alloc (Nat.le_refl _) _⟩
    | true =>
      rw [hl] at l1
      go_enter Try.func46, Try.ntmps46
      go_wp2
      exact bodyPost_ret (v := hold2 ((B.hc k, B.hn k, B.ht k), 0)) (by simp [results, Try.results46, go_sem, hold2]) rfl ⟨rfl, (Below.refl _ _).alloc (Nat.le_refl _) _⟩

set_option maxHeartbeats 1000000 in
theorem shopCell_any (q p : Nat) (B : Md.Bk) (v : Value) (down : Bool) (i : Int) (w : World) (ha : AskAt w q p down) (hb : BookAt w p B v) (hs : Md.Small B) :
    Calls Try.prog 44 #[.pointer (some ⟨q, 0, none⟩), .int .i64 i] w fun e w' => e = .returned (cell2 (Md.askCell B down i)) ∧ Below w.heap.size w w' := by
  have h1 := ha.dn
  have h2 := ha.bk
  have hq := ha.lt
  have hp := hb.lt
  cases down with
  | true =>
    clear ha hb
    go_enter Try.func44, Try.ntmps44
    go_wp2
    exact bodyPost_ret (v := cell2 ((0, 0, 0, 0), 7)) (by simp [results, Try.results44, go_sem, cell2]) rfl ⟨rfl, (Below.refl _ _).alloc (Nat.le_refl _) _⟩
  | false =>
    by_cases hlo : i < 0
    · have hm : Md.askCell B false i = ((0, 0, 0, 0), 5) := by unfold Md.askCell; rw [if_neg (by decide), if_pos (.inl hlo)]
      rw [hm]
      clear ha hb hm
      go_enter Try.func44, Try.ntmps44
      go_wp2
      exact bodyPost_ret (v := cell2 ((0, 0, 0, 0), 5)) (by simp [results, Try.results44, go_sem, cell2]) rfl ⟨rfl, (Below.refl _ _).alloc (Nat.le_refl _) _⟩
    by_cases hhi : 7 < i
    · have hm : Md.askCell B false i = ((0, 0, 0, 0), 5) := by unfold Md.askCell; rw [if_neg (by decide), if_pos (.inr hhi)]
      rw [hm]
      clear ha hb hm
      go_enter Try.func44, Try.ntmps44
      go_wp2
      exact bodyPost_ret (v := cell2 ((0, 0, 0, 0), 5)) (by simp [results, Try.results44, go_sem, cell2]) rfl ⟨rfl, (Below.refl _ _).alloc (Nat.le_refl _) _⟩
    obtain ⟨k, rfl⟩ : ∃ k : Nat, i = k := ⟨i.toNat, by omega⟩
    have hm : Md.askCell B false (k : Int) = ((B.onHand k, Md.held B k, B.committed k, Md.free B k), 0) := by unfold Md.askCell; rw [if_neg (by decide), if_neg (by omega)]; rfl
    rw [hm]
    have hk : k < 8 := by omega
    have hcl := fun W (hB : Below w.heap.size w W) => bookCell_any p B v (k : Int) k W rfl hk (hb.below hB) hs
    unfold cellA at hcl
    have Hcl := hide hcl
    clear ha hb hm hcl
    go_enter Try.func44, Try.ntmps44
    go_wp2_with fail
    have hB : Below w.heap.size w (w.alloc (.cells #[.int .i64 0, .int .i64 0, .int .i64 0, .int .i64 0] 105)) := (Below.refl _ _).alloc (Nat.le_refl _) _
    have hz : (w.alloc (.cells #[.int .i64 0, .int .i64 0, .int .i64 0, .int .i64 0] 105)).heap.size = w.heap.size + 1 := by simp
    have g0 : (w.alloc (.cells #[.int .i64 0, .int .i64 0, .int .i64 0, .int .i64 0] 105)).cell? ⟨w.heap.size, 0, none⟩ = some (.int .i64 0) := by simp
    have g1 : (w.alloc (.cells #[.int .i64 0, .int .i64 0, .int .i64 0, .int .i64 0] 105)).cell? ⟨w.heap.size, 1, none⟩ = some (.int .i64 0) := by simp
    have g2 : (w.alloc (.cells #[.int .i64 0, .int .i64 0, .int .i64 0, .int .i64 0] 105)).cell? ⟨w.heap.size, 2, none⟩ = some (.int .i64 0) := by simp
    have g3 : (w.alloc (.cells #[.int .i64 0, .int .i64 0, .int .i64 0, .int .i64 0] 105)).cell? ⟨w.heap.size, 3, none⟩ = some (.int .i64 0) := by simp
    have gf : ∀ o, (w.alloc (.cells #[.int .i64 0, .int .i64 0, .int .i64 0, .int .i64 0] 105)).frozen? ⟨w.heap.size, o, none⟩ = false := fun o => by simp [go_sem]
    generalize (w.alloc (.cells #[.int .i64 0, .int .i64 0, .int .i64 0, .int .i64 0] 105)) = W at *
    refine (Hcl.out _ hB).mono ?_
    rintro e w2 ⟨rfl, hb2⟩
    have hlt : w.heap.size < W.heap.size := by omega
    replace g0 := (hb2.cell (p := ⟨w.heap.size, 0, none⟩) hlt).trans g0
    replace g1 := (hb2.cell (p := ⟨w.heap.size, 1, none⟩) hlt).trans g1
    replace g2 := (hb2.cell (p := ⟨w.heap.size, 2, none⟩) hlt).trans g2
    replace g3 := (hb2.cell (p := ⟨w.heap.size, 3, none⟩) hlt).trans g3
    replace gf := fun o => (hb2.frozen (p := ⟨w.heap.size, o, none⟩) hlt).trans (gf o)
    have HB := hide (hB.trans (hb2.mono hB.size))
    clear hb2 hB hz
    go_wp2
    exact bodyPost_ret (v := cell2 ((B.onHand k, Md.held B k, B.committed k, Md.free B k), 0)) (by simp [results, Try.results44, go_sem, cell2, g0, g1, g2, g3]) rfl ⟨rfl,
      (((HB.out.setCell (p := ⟨w.heap.size, 0, none⟩) (Nat.le_refl _) _).setCell (p := ⟨w.heap.size, 1, none⟩) (Nat.le_refl _) _).setCell (p := ⟨w.heap.size, 2, none⟩) (Nat.le_refl _) _).setCell (p := ⟨w.heap.size, 3, none⟩) (Nat.le_refl _) _⟩
end Go.Proofs.Ytidacihlalbohaa
