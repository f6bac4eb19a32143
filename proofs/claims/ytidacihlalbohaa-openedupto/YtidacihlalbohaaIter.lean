/- What the iterator over a text's frames hands over. -/
import Derived.RangeFuncNested
import Derived.RangeFuncBound
import Derived.RangeFuncCalls
import Derived.RangeFuncLeaves
import Derived.RangeFuncBox
import Derived.Shelf.Abstract
import Derived.Shelf.RegionOpen
import Derived.WalkKit
import Derived.OwnWalkIn
import Derived.TacticsInMore
import Derived.LoopNIn
import Derived.LoopIn
import Derived.Maps.AppendAt
import Derived.WalkMore
import Derived.Test.YtidacihlalbohaaFirst
namespace Go.Proofs.Ytidacihlalbohaa
open Go.RowKit Go.Shelf
attribute [local go_sem] Oper.semAt_some

/-- What a round that goes on keeps for the iterator: the text that it goes through. -/
def KeepsAt (b : Nat) (A B : World) : Prop := ∀ v, A.cell? ⟨b, 0, none⟩ = some v → B.cell? ⟨b, 0, none⟩ = some v
theorem keepsAt_t {b : Nat} {A B C : World} (h : KeepsAt b A B) (k : KeepsAt b B C) : KeepsAt b A C := fun v hv => k v (h v hv)
theorem keepsAt_b {b : Nat} {w : World} (W : World) (l : Nat) (o o' : Obj) (_ : w.heap.size ≤ l) (hl : W.heap[l]? = some o) (hc : o.isCells = false) (_ : o.isWalk = false) : KeepsAt b W (W.putObj l o') :=
  fun _ hv => cell_kept hv (grownBy_putObj' W l o') (fun r e => by cases e; exact ⟨o, hl, hc⟩)

abbrev encs (x : Fr.Pay × Nat) : Array Value := #[.string ⟨x.1.1.toArray⟩, .int .i64 x.2]

set_option maxRecDepth 100000 in
set_option maxHeartbeats 1000000 in
theorem all1_in (n : Nat) (hn : 1 ≤ n) (l Bn : Nat) (t : ByteArray) (hm : t.size ≤ 4611686018427387904) (J Jx : List (Fr.Pay × Nat) → World → Prop)
    (hJa : ∀ pre W k, J pre W → J pre (W.drewN k))
    (hY : ∀ pre x W, J pre W → pre.length < (Fr.all t.data.toList).length → YieldAt Fence.wide (n - 1) Try.prog l (encs x) W fun e W' =>
      (e = .returned (.bool true) ∧ J (pre ++ [x]) W' ∧ KeepsAt Bn W W') ∨ (e = .returned (.bool false) ∧ Jx (pre ++ [x]) W'))
    (W : World) (hBn : W.cell? ⟨Bn, 0, none⟩ = some (.string t)) (h0 : J [] W) :
    CallsIn Fence.wide n Try.prog 51 #[.func (.yield l) #[] #[], .pointer (some ⟨Bn, 0, none⟩)] W fun e W' => (∃ v, e = .returned v) ∧
      ((∃ ys, ys = Fr.all t.data.toList ∧ J ys W') ∨ (∃ pre, pre <+: Fr.all t.data.toList ∧ Jx pre W')) := by
  refine callsIn_of_wp Try.func51 rfl trivial ?_ rfl
  simp only [Try.ntmps51, List.size_toArray, List.length_cons, List.length_nil, Nat.reduceAdd, Nat.reduceSub, Array.replicate_succ, Array.replicate_zero, List.push_toArray, List.append_toArray, List.nil_append, List.cons_append]
  refine wpIn_wide.2 (wp_scope_straight ((wpIn_wide (n := n)).1 ?_))
  gi_wp2
  refine wpIn_label ?_
  gi_wp2
  gi_loopw [3] (fun p wr => ∃ (pre : List (Fr.Pay × Nat)) (a f : Nat), p = .int .i64 a ∧ a ≤ t.size ∧ t.size ≤ a + f ∧ Fr.all t.data.toList = pre ++ Fr.items f t.data.toList a ∧ wr.cell? ⟨Bn, 0, none⟩ = some (.string t) ∧ J pre wr)
    (fun p _ => t.size - (intOf p).toNat)
  case atStart =>
    exact ⟨[], 0, t.size, rfl, Nat.zero_le _, by omega, by simp [Fr.all], hBn, h0⟩
  case round =>
    obtain ⟨pre, a, f, rfl, ha, hf, hx, hc, hJs⟩ := hrel
    have hfst := first_any (t.extract a t.size) wr (by rw [ByteArray.size_extract]; unfold maxLen; omega)
    have hdr : (t.extract a t.size).data.toList = t.data.toList.drop a := by
      rw [Fr.extract_list, List.take_of_length_le (by rw [List.length_drop, Fr.size_list]; exact Nat.le_refl _)]
    rw [hdr] at hfst
    have Hf := hide hfst
    have Hx := hide hx
    clear hfst hx hdr
    cases hfl : Fr.firstL (t.data.toList.drop a) with
    | none =>
      rw [hfl] at Hf
      have hi : Fr.items f t.data.toList a = [] := Fr.items_none hfl
      clear hfl
      gi_wp2_with fail
      refine ⟨trivial, ?_⟩
      refine (callsIn_wide.2 Hf.out).mono ?_
      rintro e w1 ⟨rfl, k, rfl⟩
      unfold firstV
      gi_wp2
      rw [Exit.noGoto_normal]
      go_end0
      exact ⟨⟨_, rfl⟩, .inl ⟨pre, by rw [Hx.out, hi, List.append_nil], hJa _ _ _ hJs⟩⟩
    | some p =>
      rw [hfl] at Hf
      obtain ⟨hp1, hp2⟩ := Fr.firstL_len hfl
      obtain ⟨g, hg, hgf, hga, hit⟩ := Fr.items_some (f := f) (by rw [Fr.size_list]; omega) hfl
      rw [Fr.size_list] at hgf hga
      have Hit := hide hit
      have Hg := hide hg
      clear hfl hit hg
      gi_wp2_with fail
      refine ⟨trivial, ?_⟩
      refine (callsIn_wide.2 Hf.out).mono ?_
      rintro e w1 ⟨rfl, k, hw1⟩
      have hJ1 : J pre w1 := by rw [hw1]; exact hJa _ _ _ hJs
      have hc1 : w1.cell? ⟨Bn, 0, none⟩ = some (.string t) := by rw [hw1]; exact hc
      clear hw1 hJs hc
      obtain ⟨fn, tmps, assign, body, hy, hR⟩ := hY pre (Fr.clip p, a + (4 + p.length)) w1 hJ1 (by rw [Hx.out, Hit.out]; simp)
      dsimp only [encs] at hy
      rw [Fr.clip_val hp1, show (((a + (4 + p.length) : Nat)) : Int) = (a : Int) + (4 + (p.length : Int)) from by omega] at hy
      unfold firstV
      gi_wp2
      refine hR.mono ?_
      rintro e W3 (⟨rfl, hJ3, hk3⟩ | ⟨rfl, hJx3⟩)
      · have hc3 : W3.cell? ⟨Bn, 0, none⟩ = some (.string t) := hk3 _ hc1
        gi_wp2
        go_roundw
        case rel => exact ⟨_, a + (4 + p.length), g, by go_num, hga, hgf, by rw [Hx.out, Hit.out]; simp, hc3, hJ3⟩
        case measure => simp [intOf]; omega
      · gi_wp2
        rw [Exit.noGoto_normal]
        go_end0
        exact ⟨⟨_, rfl⟩, .inr ⟨_, ⟨Fr.items g t.data.toList (a + (4 + p.length)), by rw [Hx.out, Hit.out]; simp⟩, hJx3⟩⟩

set_option maxHeartbeats 400000 in
theorem allMade_in (n : Nat) (t : ByteArray) (w : World) :
    CallsIn Fence.wide n Try.prog 25 #[.string t] w fun e w' => e = .returned (.func (.func 51) #[] #[.pointer (some ⟨w.heap.size, 0, none⟩)]) ∧ w' = w.alloc (.cells #[.string t] 9) := by
  refine callsIn_of_wp Try.func25 rfl trivial ?_ rfl
  simp only [Try.ntmps25, List.size_toArray, List.length_cons, List.length_nil, Nat.reduceAdd, Nat.reduceSub, Array.replicate_succ, Array.replicate_zero, List.push_toArray, List.append_toArray, List.nil_append, List.cons_append]
  gi_wp2
  go_ret
  exact ⟨rfl, rfl⟩

theorem all_stops (n : Nat) (hn : 1 ≤ n) (Bn : Nat) (t : ByteArray) (hm : t.size ≤ 4611686018427387904) (w : World) (hBn : Bn < w.heap.size) (hc : w.cell? ⟨Bn, 0, none⟩ = some (.string t)) :
    SeqStopsK Fence.wide n Try.prog 51 #[.pointer (some ⟨Bn, 0, none⟩)] encs (KeepsAt Bn) (fun ys => ys = Fr.all t.data.toList) (fun pre => pre <+: Fr.all t.data.toList) (Fr.all t.data.toList).length w := fun l J Jx W hW hJ _ hY h0 =>
  all1_in n hn l Bn t hm J Jx (fun pre W k h => hJ pre W (W.drewN k) none h ⟨rfl, rfl, rfl, Nat.le_refl _, fun _ _ _ => rfl⟩ (fun r e => by cases e)) hY W ((hW.cell (p := ⟨Bn, 0, none⟩) hBn).trans hc) h0
end Go.Proofs.Ytidacihlalbohaa
