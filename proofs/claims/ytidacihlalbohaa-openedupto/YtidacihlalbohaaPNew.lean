/- A new book; is a cell overdrawn. -/
import Derived.Test.YtidacihlalbohaaPForget
namespace Go.Proofs.Ytidacihlalbohaa
open Go.RowKit

theorem zeroP_size : Try.zeroCells82.size = 333 := by kernel_rfl
theorem zeroP : Try.zeroCells82.toList = List.replicate 333 (.int .i64 0) := by kernel_rfl

/-- The cells of a new book. -/
noncomputable def newC : List Value := Try.zeroCells82.toList.set 171 (.int .i64 20)
theorem newC_len : newC.length = 333 := by unfold newC; rw [List.length_set, Array.length_toList, zeroP_size]
theorem newC_at (o : Nat) (h : o < 333) : newC[o]? = some (if o = 171 then .int .i64 20 else .int .i64 0) := by
  unfold newC
  rw [List.getElem?_set, zeroP, List.length_replicate, List.getElem?_replicate, if_pos h]
  by_cases e : 171 = o
  · rw [if_pos e, if_pos (by omega), if_pos e.symm]
  · rw [if_neg e, if_neg (by omega)]
theorem newC_one : ∀ v ∈ newC, v.oneCell' = true := by
  intro v hv
  obtain ⟨i, hi⟩ := List.mem_iff_getElem?.1 hv
  have h := (List.getElem?_eq_some_iff.1 hi).1
  rw [newC_len] at h
  rw [newC_at i h] at hi
  cases hi
  split <;> rfl
theorem infoBook : (Try.prog.info? 82).map (·.size) = some newC.length := by rw [newC_len]; kernel_rfl

/-- Cells that lie so are a new book. -/
theorem PBook.new {W : World} {p : Nat} (h : W.rangeAt p 0 newC) (hf : ∀ o, W.frozen? ⟨p, o, none⟩ = false) (hl : p < W.heap.size) : PBook W p Md.bk0 20 := by
  have g : ∀ o, o < 333 → W.cell? ⟨p, o, none⟩ = some (if o = 171 then .int .i64 20 else .int .i64 0) := fun o ho => by
    have := h o _ (newC_at o ho)
    rwa [Nat.zero_add] at this
  refine ⟨fun i hi => ?_, fun i hi => ?_, fun i hi => ?_, fun i hi => ?_, fun i hi => ?_, ?_, ?_, ?_, fun k hk o ho => ?_, ?_, hf, hl⟩
  · rw [g _ (by omega), if_neg (by omega)]; rfl
  · rw [g _ (by omega), if_neg (by omega)]; rfl
  · rw [g _ (by omega), if_neg (by omega)]; rfl
  · rw [g _ (by omega), if_neg (by omega)]; rfl
  · rw [g _ (by omega), if_neg (by omega)]; rfl
  · rw [g _ (by omega), if_neg (by omega)]; rfl
  · rw [g _ (by omega), if_neg (by omega)]; rfl
  · rw [g _ (by omega), if_pos rfl]; rfl
  · rw [g _ (by omega), if_neg (by omega)]
    show some _ = some ((List.replicate 8 (Value.int .i64 0)).getD o (.int .i64 0))
    rw [List.getD_eq_getElem?_getD, List.getElem?_replicate, if_pos ho]; rfl
  · rw [g _ (by omega), if_neg (by omega)]; rfl

set_option maxRecDepth 100000 in
set_option maxHeartbeats 2000000 in
theorem pNew_any (w : World) : Calls Try.prog 55 #[] w fun e w' => e = .returned (.agg newC.toArray) ∧ Below w.heap.size w w' := by
  have hz : ∀ j, j < newC.length → ((w.alloc (.cells Try.zeroCells82 82)).cell? ⟨w.heap.size, 0 + j, none⟩).isSome = true := fun j hj => by
    rw [Nat.zero_add, show (w.alloc (.cells Try.zeroCells82 82)).cell? ⟨w.heap.size, j, none⟩ = Try.zeroCells82[j]? from World.cell?_alloc_mark w _ 82 (0, 0) j]
    rw [newC_len] at hj
    rw [← Array.getElem?_toList, zeroP, List.getElem?_replicate, if_pos hj]; rfl
  have hfz : ∀ o, (w.alloc (.cells Try.zeroCells82 82)).frozen? ⟨w.heap.size, o, none⟩ = false := fun o => by simp [go_sem]
  have hst := run_storeCells_cells (P := Try.prog) w.heap.size 0 newC 0 (w.alloc (.cells Try.zeroCells82 82)) (by simpa using hz) (fun j _ => hfz _) newC_one
  have hB : Below w.heap.size w (w.alloc (.cells Try.zeroCells82 82)) := (Below.refl _ _).alloc (Nat.le_refl _) _
  have hra : ((w.alloc (.cells Try.zeroCells82 82)).setCells w.heap.size 0 newC).rangeAt w.heap.size 0 newC := fun j v hv => by
    obtain ⟨h1, h2⟩ := List.getElem?_eq_some_iff.1 hv
    rw [World.cell?_setCells_in w.heap.size newC 0 _ hz j h1, h2]
  have hgr := grown_setCells w.heap.size newC 0 (w.alloc (.cells Try.zeroCells82 82))
  have hBF : Below w.heap.size w ((w.alloc (.cells Try.zeroCells82 82)).setCells w.heap.size 0 newC) :=
    ⟨hgr.os.trans hB.os, hgr.tape.trans hB.tape, hgr.output.trans hB.output, Nat.le_trans hB.size hgr.size, fun k hk => (hgr.block k (Nat.lt_of_lt_of_le hk hB.size) (fun e => by cases e; omega)).trans (hB.block k hk)⟩
  have hld := run_loadVar_mid (P := Try.prog) _ w.heap.size 0 82 newC _ hra Try.underlying82 rfl infoBook
  unfold newC at hst
  change Sem.run Try.prog _ _ = Result.ok () ((w.alloc (.cells Try.zeroCells82 82)).setCells w.heap.size 0 newC) at hst
  generalize (w.alloc (.cells Try.zeroCells82 82)).setCells w.heap.size 0 newC = F at hst hBF hld
  clear hz hfz hra hgr
  go_enter Try.func55, Try.ntmps55
  go_wp2
  refine bodyPost_ret (v := .agg newC.toArray) ?_ rfl ⟨rfl, hBF⟩
  simp [results, Try.results55, asAddr, hld]

namespace Md
def over (B : Bk) : Nat → Bool
  | 0 => false
  | k + 1 => over B k || decide (free B k < 0)
theorem over_less {B : Bk} {k n : Nat} (h : k < n) (hk : free B k < 0) : over B n = true := by
  induction n with
  | zero => omega
  | succ n ih =>
    by_cases e : k = n
    · subst e; rw [over, decide_eq_true hk]; simp
    · rw [over, ih (by omega)]; rfl
theorem over_iff (B : Bk) : ∀ k, over B k = false ↔ ∀ i, i < k → 0 ≤ free B i := by
  intro k
  induction k with
  | zero => simp [over]
  | succ k ih =>
    rw [over, Bool.or_eq_false_iff, ih]
    constructor
    · rintro ⟨h1, h2⟩ i hi
      by_cases e : i = k
      · subst e; have := of_decide_eq_false h2; omega
      · exact h1 i (by omega)
    · intro h
      exact ⟨fun i hi => h i (by omega), decide_eq_false (by have := h k (by omega); omega)⟩
end Md

set_option maxRecDepth 100000 in
set_option maxHeartbeats 2000000 in
theorem pOver_any (p : Nat) (B : Md.Bk) (n : Nat) (w : World) (hb : PBook w p B n) (hs : Md.Small B) (h0 : B.live 0 = false) :
    Calls Try.prog 87 #[.pointer (some ⟨p, 0, none⟩)] w fun e w' => e = .returned (.bool (Md.over B 8)) ∧ Below w.heap.size w w' := by
  have Hb := hide hb
  have Hs := hide hs
  have hlt := hb.lt
  generalize hO : Md.over B 8 = O
  have HO := hide hO
  clear hb hs hO
  go_enter Try.func87, Try.ntmps87
  go_wp2
  go_loopw [4] (fun i wr => ∃ k : Nat, k ≤ 8 ∧ i = .int .i64 k ∧ Hid (Md.over B k = false) ∧ Below w.heap.size w wr) (fun i _ => 8 - (intOf i).toNat)
  case atStart => exact ⟨0, by omega, rfl, hide rfl, Below.refl _ _⟩
  case round =>
    obtain ⟨k, hk, rfl, hov, hB⟩ := hrel
    by_cases h8 : k < 8
    · have hcl := pCell_any p B n (k : Int) k wr rfl h8 (Hb.out.below hB) Hs.out h0
      have h8' : (k : Int) < 8 := by omega
      go_wp2_with fail
      refine hcl.mono ?_
      rintro e W ⟨rfl, hb1⟩
      unfold cellA
      have hfd := fun a b c d => run_free a b c d W
      have hBW := hB.trans (hb1.mono hB.size)
      clear hcl
      cases g : decide (Md.free B k < 0) with
      | true =>
        have hso : O = true := by rw [← HO.out]; exact Md.over_less h8 (of_decide_eq_true g)
        have Hso := hide hso
        clear hso
        go_wp2
        go_ret
        exact ⟨by rw [Hso.out]; rfl, hBW⟩
      | false =>
        have hn : Md.over B (k + 1) = false := by rw [Md.over, hov.out, g]; rfl
        have Hn := hide hn
        clear hn
        go_wp2
        go_roundw
        case rel => exact ⟨k + 1, by omega, by go_num, Hn, hBW⟩
        case measure => simp [intOf]; omega
    · obtain rfl : k = 8 := by omega
      have hso : O = false := by rw [← HO.out]; exact hov.out
      have Hso := hide hso
      clear hso
      go_wp2
      go_ret
      exact ⟨by rw [Hso.out]; rfl, hB⟩
end Go.Proofs.Ytidacihlalbohaa
