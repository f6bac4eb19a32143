/- What the document's own OfSnapshot returns. -/
import Derived.Test.YtidacihlalbohaaRefSound
import Derived.Test.YtidacihlalbohaaRefDo
import Derived.Test.YtidacihlalbohaaSnapMath
import Derived.Test.YtidacihlalbohaaRefFiles
import Derived.Deep.RegionWith
namespace Go.Proofs.Ytidacihlalbohaa
open Go.RowKit

namespace Md
def cells0 (s : List UInt8) (k : Nat) : Bk := ⟨fun i => if i < k then numAt s (2 + 2 * i) else 0, fun i => if i < k then numAt s (3 + 2 * i) else 0, fun _ => 0, fun _ => 0, fun _ => 0, fun _ => false, numAt s 1, numAt s 0, []⟩
end Md

theorem BookAt.like {W : World} {p : Nat} {B C : Md.Bk} {v : Value} (h : BookAt W p B v) (h1 : ∀ i, i < 8 → C.onHand i = B.onHand i) (h2 : ∀ i, i < 8 → C.committed i = B.committed i) (h3 : ∀ i, i < 51 → C.hc i = B.hc i) (h4 : ∀ i, i < 51 → C.hn i = B.hn i) (h5 : ∀ i, i < 51 → C.ht i = B.ht i) (h6 : ∀ i, i < 51 → C.live i = B.live i) (h7 : C.clock = B.clock) (h8 : C.count = B.count) : BookAt W p C v :=
  ⟨fun i hi => by rw [h1 i hi]; exact h.on i hi, fun i hi => by rw [h2 i hi]; exact h.co i hi, fun i hi => by rw [h3 i hi]; exact h.hc i hi, fun i hi => by rw [h4 i hi]; exact h.hn i hi, fun i hi => by rw [h5 i hi]; exact h.ht i hi, fun i hi => by rw [h6 i hi]; exact h.li i hi, by rw [h7]; exact h.cl, by rw [h8]; exact h.cn, h.pa, h.fz, h.lt⟩

/-- A new book's cells. -/
theorem zeroBook : Try.zeroCells97.toList = List.replicate 169 (.int .i64 0) ++ List.replicate 51 (.bool false) ++ [.int .i64 0, .int .i64 0, .slice none 0 0] := by kernel_rfl
theorem zeroBook_size : Try.zeroCells97.size = 223 := by kernel_rfl
theorem zeroBook_int (i : Nat) (h : i < 169) : Try.zeroCells97[i]? = some (.int .i64 0) := by
  rw [← Array.getElem?_toList, zeroBook, List.getElem?_append_left (by rw [List.length_append, List.length_replicate, List.length_replicate]; omega), List.getElem?_append_left (by rw [List.length_replicate]; omega), List.getElem?_replicate, if_pos h]
theorem zeroBook_bool (i : Nat) (h : i < 51) : Try.zeroCells97[169 + i]? = some (.bool false) := by
  rw [← Array.getElem?_toList, zeroBook, List.getElem?_append_left (by rw [List.length_append, List.length_replicate, List.length_replicate]; omega), List.getElem?_append_right (by rw [List.length_replicate]; omega), List.getElem?_replicate, if_pos (by rw [List.length_replicate]; omega)]
theorem newBook (W : World) (c n : Int) : BookAt (W.alloc (.cells ((Try.zeroCells97.setIfInBounds 221 (.int .i64 n)).setIfInBounds 220 (.int .i64 c)) 97)) W.heap.size ⟨fun _ => 0, fun _ => 0, fun _ => 0, fun _ => 0, fun _ => 0, fun _ => false, c, n, []⟩ (.slice none 0 0) := by
  have g : ∀ o, (W.alloc (.cells ((Try.zeroCells97.setIfInBounds 221 (.int .i64 n)).setIfInBounds 220 (.int .i64 c)) 97)).cell? ⟨W.heap.size, o, none⟩ = if o = 220 then some (.int .i64 c) else if o = 221 then some (.int .i64 n) else Try.zeroCells97[o]? := by
    intro o
    refine (World.cell?_alloc_mark W _ 97 (0, 0) o).trans ?_
    rw [Array.getElem?_setIfInBounds, Array.getElem?_setIfInBounds]
    simp only [Array.size_setIfInBounds, zeroBook_size]
    by_cases h1 : o = 220
    · subst h1; simp
    · rw [if_neg (by omega), if_neg h1]
      by_cases h2 : o = 221
      · subst h2; simp
      · rw [if_neg (by omega), if_neg h2]
  refine ⟨fun i hi => ?_, fun i hi => ?_, fun i hi => ?_, fun i hi => ?_, fun i hi => ?_, fun i hi => ?_, ?_, ?_, ?_, fun o => by simp [go_sem], by simp⟩
  · rw [g, if_neg (by omega), if_neg (by omega)]; exact zeroBook_int i (by omega)
  · rw [g, if_neg (by omega), if_neg (by omega)]; exact zeroBook_int _ (by omega)
  · rw [g, if_neg (by omega), if_neg (by omega)]; exact zeroBook_int _ (by omega)
  · rw [g, if_neg (by omega), if_neg (by omega)]; exact zeroBook_int _ (by omega)
  · rw [g, if_neg (by omega), if_neg (by omega)]; exact zeroBook_int _ (by omega)
  · rw [g, if_neg (by omega), if_neg (by omega)]; exact zeroBook_bool i hi
  · rw [g, if_pos rfl]
  · rw [g, if_neg (by omega), if_pos rfl]
  · rw [g, if_neg (by omega), if_neg (by omega), ← Array.getElem?_toList, zeroBook, List.getElem?_append_right (by rw [List.length_append, List.length_replicate, List.length_replicate]; omega), List.length_append, List.length_replicate, List.length_replicate]
    rfl

theorem cells0_on (S : List UInt8) (k : Nat) : ∀ i, i < 8 → (Md.cells0 S (k + 1)).onHand i = Md.upd (Md.cells0 S k).onHand k (Md.numAt S (2 + 2 * k)) i := by
  intro i _
  show (if i < k + 1 then Md.numAt S (2 + 2 * i) else 0) = (if i = k then Md.numAt S (2 + 2 * k) else if i < k then Md.numAt S (2 + 2 * i) else 0)
  by_cases h : i = k
  · subst h; simp
  · rw [if_neg h]; by_cases h2 : i < k
    · rw [if_pos h2, if_pos (by omega)]
    · rw [if_neg h2, if_neg (by omega)]
theorem cells0_co (S : List UInt8) (k : Nat) : ∀ i, i < 8 → (Md.cells0 S (k + 1)).committed i = Md.upd (Md.cells0 S k).committed k (Md.numAt S (3 + 2 * k)) i := by
  intro i _
  show (if i < k + 1 then Md.numAt S (3 + 2 * i) else 0) = (if i = k then Md.numAt S (3 + 2 * k) else if i < k then Md.numAt S (3 + 2 * i) else 0)
  by_cases h : i = k
  · subst h; simp
  · rw [if_neg h]; by_cases h2 : i < k
    · rw [if_pos h2, if_pos (by omega)]
    · rw [if_neg h2, if_neg (by omega)]

def OfPost (w w' : World) (e : Ending) : Option Md.Bk → Prop
  | some B => ∃ p v, e = .returned (.tuple #[.pointer (some ⟨p, 0, none⟩), .bool true]) ∧ w.heap.size ≤ p ∧ BookAt w' p B v ∧ w'.ownsRow w.heap.size 143 8 v B.past.length (pastsC B.past) ∧ v.ownBlock ≠ some p
  | none => ∃ u, e = .returned (.tuple #[u, .bool false])
theorem OfPost.no {w w' : World} {e : Ending} {o : Option Md.Bk} (h : o = none) {u : Value} (he : e = .returned (.tuple #[u, .bool false])) : OfPost w w' e o := by subst h; exact ⟨u, he⟩

set_option maxRecDepth 100000 in
set_option maxHeartbeats 4000000 in
theorem ofSnapshot_any (s : ByteArray) (w : World) :
    Calls Try.prog 39 #[.string s] w fun e w' => Below w.heap.size w w' ∧ OfPost w w' e (Md.ofSnap s.data.toList) := by
  obtain ⟨S, hS⟩ : ∃ S, s.data.toList = S := ⟨_, rfl⟩
  have hnum := fun k i W => refNumber_any s k i W
  have hreq := fun k i W => requestAt_any s k i W
  rw [hS] at hnum hreq ⊢
  have hcmp : ∀ l : List UInt8, (l == s.toList) = decide (l = S) := by
    intro l
    rw [ByteArray.toList_eq, hS]
    by_cases e : l = S
    · rw [decide_eq_true e, e]; simp
    · rw [decide_eq_false e]; simpa using e
  have Hnum := hide hnum
  have Hreq := hide hreq
  have Hcmp := hide hcmp
  clear hnum hS hreq hcmp
  have hbd := fun i => Md.numAt_bd S i
  go_enter Try.func39, Try.ntmps39
  go_wp2_with fail
  refine (Hnum.out _ 0 _ rfl (by omega)).mono ?_
  rintro e W ⟨rfl, n1, rfl⟩
  go_wp2_with fail
  refine (Hnum.out _ 1 _ rfl (by omega)).mono ?_
  rintro e W ⟨rfl, n2, rfl⟩
  go_wp2_with fail
  have hb0 := newBook (w.drewN (n1 + n2)) (Md.numAt S 1) (Md.numAt S 0)
  have hB0 : Below w.heap.size w ((w.drewN (n1 + n2)).alloc (.cells ((Try.zeroCells97.setIfInBounds 221 (.int .i64 (Md.numAt S 0))).setIfInBounds 220 (.int .i64 (Md.numAt S 1))) 97)) := (below_drewN' (Below.refl _ _) _).alloc (Nat.le_refl _) _
  generalize ((w.drewN (n1 + n2)).alloc (.cells ((Try.zeroCells97.setIfInBounds 221 (.int .i64 (Md.numAt S 0))).setIfInBounds 220 (.int .i64 (Md.numAt S 1))) 97)) = W0 at hb0 hB0 ⊢
  have hb1 : BookAt W0 w.heap.size (Md.cells0 S 0) (.slice none 0 0) := hb0
  have Hb1 := hide hb1
  clear hb0 hb1
  go_loopw [5] (fun i wr => ∃ k : Nat, k ≤ 8 ∧ i = .int .i64 k ∧ Hid (BookAt wr w.heap.size (Md.cells0 S k) (.slice none 0 0)) ∧ Below w.heap.size w wr) (fun i _ => 8 - (intOf i).toNat)
  case atStart => exact ⟨0, by omega, rfl, Hb1, hB0⟩
  case round =>
    clear Hb1 hB0
    obtain ⟨k, hk, rfl, hbk, hB⟩ := hrel
    by_cases h8 : k < 8
    · have h8' : (k : Int) < 8 := by omega
      have o1 := hbk.out.on k h8
      have o2 := hbk.out.co k h8
      have fz := hbk.out.fz
      have hlt := hbk.out.lt
      have w1 : IntKind.i64.wrap (2 * (k : Int)) = 2 * k := by rw [IntKind.wrap_i64]; omega
      have w2 : IntKind.i64.wrap (2 + 2 * (k : Int)) = 2 + 2 * k := by rw [IntKind.wrap_i64]; omega
      have w3 : IntKind.i64.wrap (3 + 2 * (k : Int)) = 3 + 2 * k := by rw [IntKind.wrap_i64]; omega
      go_wp2_with fail
      go_region_with (go_at_call 68; refine (Hnum.out _ (2 + 2 * k) _ (by omega) (by omega)).mono ?_; rintro e W ⟨rfl, n3, rfl⟩)
      all_goals
        have hbX := (hbk.out.drewN (1 + n3)).setOn h8 (Md.numAt S (2 + 2 * k))
        have hBX : Below w.heap.size w ((wr.drewN (1 + n3)).setCell ⟨w.heap.size, k, none⟩ (.int .i64 (Md.numAt S (2 + 2 * k)))) := (below_drewN' hB _).setCell (p := ⟨w.heap.size, k, none⟩) (Nat.le_refl _) _
        generalize (wr.drewN (1 + n3)).setCell ⟨w.heap.size, k, none⟩ (.int .i64 (Md.numAt S (2 + 2 * k))) = X at hbX hBX ⊢
        clear o1 o2 fz hlt
        have o2 := hbX.co k h8
        have fz := hbX.fz
        have hlt := hbX.lt
        have HbX := hide hbX
        clear hbX
        go_wp2_with fail
        go_region_with (go_at_call 68; refine (Hnum.out _ (3 + 2 * k) _ (by omega) (by omega)).mono ?_; rintro e W ⟨rfl, n4, rfl⟩)
        all_goals
          have hbY := (HbX.out.drewN (1 + n4)).setCo h8 (Md.numAt S (3 + 2 * k))
          have hBY : Below w.heap.size w ((X.drewN (1 + n4)).setCell ⟨w.heap.size, 8 + k, none⟩ (.int .i64 (Md.numAt S (3 + 2 * k)))) := (below_drewN' hBX _).setCell (p := ⟨w.heap.size, 8 + k, none⟩) (Nat.le_refl _) _
          generalize (X.drewN (1 + n4)).setCell ⟨w.heap.size, 8 + k, none⟩ (.int .i64 (Md.numAt S (3 + 2 * k))) = Y at hbY hBY ⊢
          have HbY := hide hbY
          clear hbY
          go_wp2
          go_roundw
          case rel => exact ⟨k + 1, by omega, by go_num, hide (HbY.out.like (cells0_on S k) (cells0_co S k) (fun _ _ => rfl) (fun _ _ => rfl) (fun _ _ => rfl) (fun _ _ => rfl) rfl rfl), hBY⟩
          case measure => simp [intOf]; omega
    · obtain rfl : k = 8 := by omega
      have hbk2 : BookAt wr w.heap.size (Md.rHolds S 0) (.slice none 0 0) := hbk.out.like (fun i hi => (if_pos hi).symm) (fun i hi => (if_pos hi).symm) (fun _ _ => rfl) (fun _ _ => rfl) (fun _ _ => rfl) (fun _ _ => rfl) rfl rfl
      have Hbk2 := hide hbk2
      clear hbk hbk2 h8
      go_wp2_with fail
      refine (Hnum.out _ 18 _ rfl (by omega)).mono ?_
      rintro e W ⟨rfl, n3, rfl⟩
      go_wp2
      go_loopw [6, 8] (fun u i wr => ∃ k : Nat, k ≤ 50 ∧ (k : Int) ≤ Md.numAt S 18 ∧ i = .int .i64 k ∧ u = .int .i64 (19 + 4 * (k : Int)) ∧ Hid (Md.holdsGood S k = true) ∧ Hid (BookAt wr w.heap.size (Md.rHolds S k) (.slice none 0 0)) ∧ Below w.heap.size w wr) (fun _ i _ => 50 - (intOf i).toNat)
      case atStart => exact ⟨0, by omega, (hbd 18).1, rfl, rfl, hide rfl, hide (Hbk2.out.drewN n3), below_drewN' hB n3⟩
      case round =>
        clear Hbk2 hB
        obtain ⟨k, hk, hkN, rfl, rfl, hgd, hbk, hB⟩ := hrel
        by_cases hc : (k : Int) < Md.numAt S 18 ∧ k < 50
        · obtain ⟨hc1, hc2⟩ := hc
          have hc2' : (k : Int) < 50 := by omega
          have w1 : IntKind.i64.wrap (19 + 4 * (k : Int) + 1) = 19 + 4 * (k : Int) + 1 := by rw [IntKind.wrap_i64]; omega
          have w2 : IntKind.i64.wrap (19 + 4 * (k : Int) + 2) = 19 + 4 * (k : Int) + 2 := by rw [IntKind.wrap_i64]; omega
          have w3 : IntKind.i64.wrap (19 + 4 * (k : Int) + 3) = 19 + 4 * (k : Int) + 3 := by rw [IntKind.wrap_i64]; omega
          go_wp2_with fail
          refine (Hnum.out _ (19 + 4 * k) _ (by omega) (by omega)).mono ?_
          rintro e W ⟨rfl, m0, rfl⟩
          go_wp2_with fail
          refine (Hnum.out _ (19 + 4 * k + 1) _ (by omega) (by omega)).mono ?_
          rintro e W ⟨rfl, m1, rfl⟩
          go_wp2_with fail
          refine (Hnum.out _ (19 + 4 * k + 2) _ (by omega) (by omega)).mono ?_
          rintro e W ⟨rfl, m2, rfl⟩
          go_wp2_with fail
          refine (Hnum.out _ (19 + 4 * k + 3) _ (by omega) (by omega)).mono ?_
          rintro e W ⟨rfl, m3, hW⟩
          have hbW : BookAt W w.heap.size (Md.rHolds S k) (.slice none 0 0) := hW ▸ ((hbk.out.drewN _).drewN _)
          have hBW : Below w.heap.size w W := hW ▸ below_drewN' (below_drewN' hB _) _
          have HbW := hide hbW
          have hlt := hbW.lt
          clear hW hbW hbk hB
          go_wp2_with fail
          have hb2 := HbW.out.below ((Below.refl W.heap.size W).alloc (Nat.le_refl _) (.cells #[.int .i64 (Md.numAt S (19 + 4 * k + 1)), .int .i64 (Md.numAt S (19 + 4 * k + 2)), .int .i64 (Md.numAt S (19 + 4 * k + 3))] 72))
          have hB2 := hBW.alloc hBW.size (.cells #[.int .i64 (Md.numAt S (19 + 4 * k + 1)), .int .i64 (Md.numAt S (19 + 4 * k + 2)), .int .i64 (Md.numAt S (19 + 4 * k + 3))] 72)
          have x0 : (W.alloc (.cells #[.int .i64 (Md.numAt S (19 + 4 * k + 1)), .int .i64 (Md.numAt S (19 + 4 * k + 2)), .int .i64 (Md.numAt S (19 + 4 * k + 3))] 72)).cell? ⟨W.heap.size, 0, none⟩ = some (.int .i64 (Md.hCell S k)) := by simp [go_sem]; rfl
          have x1 : (W.alloc (.cells #[.int .i64 (Md.numAt S (19 + 4 * k + 1)), .int .i64 (Md.numAt S (19 + 4 * k + 2)), .int .i64 (Md.numAt S (19 + 4 * k + 3))] 72)).cell? ⟨W.heap.size, 1, none⟩ = some (.int .i64 (Md.hCount S k)) := by simp [go_sem]; rfl
          have x2 : (W.alloc (.cells #[.int .i64 (Md.numAt S (19 + 4 * k + 1)), .int .i64 (Md.numAt S (19 + 4 * k + 2)), .int .i64 (Md.numAt S (19 + 4 * k + 3))] 72)).cell? ⟨W.heap.size, 2, none⟩ = some (.int .i64 (Md.hTime S k)) := by simp [go_sem]; rfl
          have hgood := fun W => good_any ⟨1, 1, Md.hCell S k, Md.hNo S k, Md.hCount S k, Md.hTime S k⟩ W
          unfold reqA at hgood
          have hz2 : W.heap.size < (W.alloc (.cells #[.int .i64 (Md.numAt S (19 + 4 * k + 1)), .int .i64 (Md.numAt S (19 + 4 * k + 2)), .int .i64 (Md.numAt S (19 + 4 * k + 3))] 72)).heap.size := by simp
          generalize (W.alloc (.cells #[.int .i64 (Md.numAt S (19 + 4 * k + 1)), .int .i64 (Md.numAt S (19 + 4 * k + 2)), .int .i64 (Md.numAt S (19 + 4 * k + 3))] 72)) = W2 at hb2 hB2 x0 x1 x2 hz2 ⊢
          refine (hgood W2).mono ?_
          rintro e W3 ⟨rfl, hb3⟩
          have y0 := (hb3.cell (p := ⟨W.heap.size, 0, none⟩) hz2).trans x0
          have y1 := (hb3.cell (p := ⟨W.heap.size, 1, none⟩) hz2).trans x1
          have y2 := (hb3.cell (p := ⟨W.heap.size, 2, none⟩) hz2).trans x2
          have hbk3 := hb2.below hb3
          have hB3 : Below w.heap.size w W3 := hB2.trans (hb3.mono hB2.size)
          have hcl := hbk3.cl
          rw [(Md.rHolds_keep S k).2.2.1] at hcl
          have Hbk3 := hide hbk3
          have hW3 : W.heap.size < W3.heap.size := Nat.lt_of_lt_of_le hz2 hb3.size
          have hp3 : w.heap.size < W.heap.size := hlt
          clear hgood hb2 hbk3 x0 x1 x2 hb3 hB2 hz2 HbW hlt
          cases hg : Md.good ⟨1, 1, Md.hCell S k, Md.hNo S k, Md.hCount S k, Md.hTime S k⟩ with
          | false =>
            have hno : Md.ofSnap S = none := Md.ofSnap_hold (k := k) (by unfold Md.nH; omega) (by rw [Md.holdGood, hg]; rfl)
            have Hno := hide hno
            clear hno
            go_wp2_with fail
            go_quiet (fail)
            go_wp2
            go_ret2
            exact ⟨below_drewN' hB3 _, OfPost.no Hno.out rfl⟩
          | true =>
            cases ht : decide (Md.hTime S k ≤ Md.numAt S 1) with
            | true =>
              have hno : Md.ofSnap S = none := Md.ofSnap_hold (k := k) (by unfold Md.nH; omega) (by
                have := of_decide_eq_true ht
                rw [Md.holdGood, hg, decide_eq_false (by omega)]; rfl)
              have Hno := hide hno
              clear hno
              go_wp2_with fail
              go_quiet (fail)
              go_wp2
              go_ret2
              exact ⟨below_drewN' hB3 _, OfPost.no Hno.out rfl⟩
            | false =>
              have hgo : Md.holdGood S k = true := by
                have := of_decide_eq_false ht
                rw [Md.holdGood, hg, decide_eq_true (by omega)]; rfl
              have hgi := (Md.holdGood_iff S k).1 hgo
              have hgn : Md.holdsGood S (k + 1) = true := by rw [Md.holdsGood, hgd.out, hgo]; rfl
              obtain ⟨h, hh⟩ : ∃ h : Nat, Md.numAt S (19 + 4 * k) = h := ⟨(Md.numAt S (19 + 4 * k)).toNat, by have := hbd (19 + 4 * k); omega⟩
              have hh2 : Md.hNo S k = h := hh
              have hl1 : 1 ≤ h := by have := hgi.1; omega
              have hl2 : h ≤ 50 := by have := hgi.2.1; omega
              have hl3 : (h : Int) < 51 := by omega
              have hnext : Md.rHolds S (k + 1) = Md.putHold (Md.rHolds S k) h (Md.hCell S k) (Md.hCount S k) (Md.hTime S k) := by rw [Md.rHolds, hh2]; rfl
              have lv := Hbk3.out.li h (by omega)
              have fz := Hbk3.out.fz
              have Hnext := hide hnext
              have Hgn := hide hgn
              rw [hh]
              clear hgo hgi hgn hnext hh2 hh
              go_wp2_with fail
              go_quiet (fail)
              go_wp2_with fail
              have hb4 := (Hbk3.out.drewN nq).setLive (show h < 51 by omega) true
              have hB4 : Below w.heap.size w ((W3.drewN nq).setCell ⟨w.heap.size, 169 + h, none⟩ (.bool true)) := (below_drewN' hB3 _).setCell (p := ⟨w.heap.size, 169 + h, none⟩) (Nat.le_refl _) _
              have z0 : ((W3.drewN nq).setCell ⟨w.heap.size, 169 + h, none⟩ (.bool true)).cell? ⟨W.heap.size, 0, none⟩ = some (.int .i64 (Md.hCell S k)) := (World.cell?_setCell_other _ _ _ _ (fun e => by have := congrArg Addr.block e; simp at this; omega)).trans y0
              have z1 : ((W3.drewN nq).setCell ⟨w.heap.size, 169 + h, none⟩ (.bool true)).cell? ⟨W.heap.size, 1, none⟩ = some (.int .i64 (Md.hCount S k)) := (World.cell?_setCell_other _ _ _ _ (fun e => by have := congrArg Addr.block e; simp at this; omega)).trans y1
              have z2 : ((W3.drewN nq).setCell ⟨w.heap.size, 169 + h, none⟩ (.bool true)).cell? ⟨W.heap.size, 2, none⟩ = some (.int .i64 (Md.hTime S k)) := (World.cell?_setCell_other _ _ _ _ (fun e => by have := congrArg Addr.block e; simp at this; omega)).trans y2
              generalize (W3.drewN nq).setCell ⟨w.heap.size, 169 + h, none⟩ (.bool true) = W4 at hb4 hB4 z0 z1 z2 ⊢
              have g0 := hb4.hc h (by omega)
              have g1 := hb4.hn h (by omega)
              have g2 := hb4.ht h (by omega)
              have fz4 := hb4.fz
              have hlt4 := hb4.lt
              have Hb4 := hide hb4
              clear hb4 y0 y1 y2 lv fz hcl Hbk3 hB3
              go_region
              have hb5 := ((((Hb4.out).setHc (show h < 51 by omega) (Md.hCell S k)).setHn (show h < 51 by omega) (Md.hCount S k)).setHt (show h < 51 by omega) (Md.hTime S k)).drew
              have hB5 : Below w.heap.size w (((W4.setCell ⟨w.heap.size, 16 + h * 3, none⟩ (.int .i64 (Md.hCell S k))).setCell ⟨w.heap.size, 16 + h * 3 + 1, none⟩ (.int .i64 (Md.hCount S k))).setCell ⟨w.heap.size, 16 + h * 3 + 2, none⟩ (.int .i64 (Md.hTime S k))).drew :=
                (((hB4.setCell (p := ⟨w.heap.size, 16 + h * 3, none⟩) (Nat.le_refl _) _).setCell (p := ⟨w.heap.size, 16 + h * 3 + 1, none⟩) (Nat.le_refl _) _).setCell (p := ⟨w.heap.size, 16 + h * 3 + 2, none⟩) (Nat.le_refl _) _).drew
              generalize (((W4.setCell ⟨w.heap.size, 16 + h * 3, none⟩ (.int .i64 (Md.hCell S k))).setCell ⟨w.heap.size, 16 + h * 3 + 1, none⟩ (.int .i64 (Md.hCount S k))).setCell ⟨w.heap.size, 16 + h * 3 + 2, none⟩ (.int .i64 (Md.hTime S k))).drew = W5 at hb5 hB5 ⊢
              have hb6 : BookAt W5 w.heap.size (Md.rHolds S (k + 1)) (.slice none 0 0) := by rw [Hnext.out]; exact hb5
              have Hb6 := hide hb6
              clear hb5 hb6
              go_wp2
              go_roundw
              case rel => exact ⟨k + 1, by omega, by omega, by go_num, by go_num, Hgn, Hb6, hB5⟩
              case measure => simp [intOf]; omega
        · have hkH : k = Md.nH S := by have := hbd 18; unfold Md.nH; omega
          have HkH := hide hkH
          have hk19 : 19 + 4 * (k : Int) < 4294967296 := by omega
          have hgH : Md.holdsGood S (Md.nH S) = true := by rw [← hkH]; exact hgd.out
          have HgH := hide hgH
          have hcs : decide ((k : Int) < Md.numAt S 18) = false ∨ (decide ((k : Int) < Md.numAt S 18) = true ∧ decide ((k : Int) < 50) = false) := by
            by_cases hx : (k : Int) < Md.numAt S 18
            · right; exact ⟨decide_eq_true hx, decide_eq_false (by omega)⟩
            · left; exact decide_eq_false hx
          clear hkH hgH hgd hc hkN
          rcases hcs with hcs | ⟨hcs, hk50⟩
          all_goals
            go_wp2_with fail
            refine (Hnum.out _ (19 + 4 * k) _ (by omega) (by omega)).mono ?_
            rintro e W ⟨rfl, n4, hW⟩
            have hbW : BookAt W w.heap.size (Md.rHolds S k) (.slice none 0 0) := hW ▸ (hbk.out.drewN _)
            have hBW : Below w.heap.size w W := hW ▸ below_drewN' hB _
            have HbW := hide hbW
            clear hW hbW hbk hB
            obtain ⟨a, ha⟩ : ∃ a : Nat, a = 20 + 4 * k := ⟨_, rfl⟩
            have hab : a ≤ 220 := by omega
            have w0 : IntKind.i64.wrap (19 + 4 * (k : Int) + 1) = (a : Int) := by rw [IntKind.wrap_i64]; omega
            have Ha := hide ha
            obtain ⟨N, hN⟩ : ∃ N, Md.numAt S (19 + 4 * k) = N := ⟨_, rfl⟩
            have hN0 : 0 ≤ N := by have := (hbd (19 + 4 * k)).1; omega
            rw [hN]
            have HN := hide hN
            clear ha hN
            obtain ⟨i0, hi, hz0, hz1, hz2⟩ := info_parts infoPast
            go_wp2
            go_loopw [6, 12] (fun u i wr => ∃ (m : Nat) (v : Value), m ≤ 20 ∧ (m : Int) ≤ N ∧ i = .int .i64 m ∧ u = .int .i64 ((a : Int) + 8 * (m : Int)) ∧ Hid (BookAt wr w.heap.size (Md.rHolds S k) v) ∧ wr.ownsRow (w.heap.size + 1) 143 8 v m (pastsC (Md.pastsRd S a m)) ∧ Below w.heap.size w wr) (fun _ i _ => 20 - (intOf i).toNat)
            case atStart => exact ⟨0, .slice none 0 0, by omega, hN0, rfl, by simp, HbW, ⟨by simp [pastsC, Md.pastsRd], .inl ⟨rfl, rfl⟩⟩, hBW⟩
            case round =>
              clear HbW hBW
              obtain ⟨m, v, hm, hmN, rfl, rfl, hbk, hrow, hB⟩ := hrel
              by_cases hc : (m : Int) < N ∧ m < 20
              · obtain ⟨hc1, hc2⟩ := hc
                have hc2' : (m : Int) < 20 := by omega
                have w6 : IntKind.i64.wrap ((a : Int) + 8 * (m : Int) + 6) = (a : Int) + 8 * (m : Int) + 6 := by rw [IntKind.wrap_i64]; omega
                have w7 : IntKind.i64.wrap ((a : Int) + 8 * (m : Int) + 7) = (a : Int) + 8 * (m : Int) + 7 := by rw [IntKind.wrap_i64]; omega
                go_wp2_with fail
                refine (Hreq.out _ (a + 8 * m) _ (by omega) (by omega)).mono ?_
                rintro e W ⟨rfl, hb1⟩
                go_wp2_with fail
                refine (Hnum.out _ (a + 8 * m + 6) _ (by omega) (by omega)).mono ?_
                rintro e W1 ⟨rfl, m6, hW1⟩
                have hb2 : Below wr.heap.size wr W1 := hW1 ▸ below_drewN' hb1 _
                clear hW1 hb1
                go_wp2_with fail
                refine (Hnum.out _ (a + 8 * m + 7) _ (by omega) (by omega)).mono ?_
                rintro e W2 ⟨rfl, m7, hW2⟩
                have hb3 : Below wr.heap.size wr W2 := hW2 ▸ below_drewN' hb2 _
                clear hW2 hb2
                obtain ⟨x, hx⟩ : ∃ x, Md.pastRd S a m = x := ⟨_, rfl⟩
                have hx6 : Md.numAt S (a + 8 * m + 6) = x.rep.code := by rw [← hx]; rfl
                have hx7 : Md.numAt S (a + 8 * m + 7) = x.rep.count := by rw [← hx]; rfl
                have hxr : Md.reqAt S (a + 8 * m) = x.req := by rw [← hx]; rfl
                rw [hx6, hx7, hxr]
                unfold reqA
                have Hx := hide hx
                clear hx hx6 hx7 hxr
                go_wp2_with fail
                have hbX := (hbk.out.below hb3).below ((Below.refl W2.heap.size W2).alloc (Nat.le_refl _) (.cells (pastC x).toArray 143))
                have hB2 : Below w.heap.size w W2 := hB.trans (hb3.mono hB.size)
                have hBX := hB2.alloc hB2.size (.cells (pastC x).toArray 143)
                have hrX : (W2.alloc (.cells (pastC x).toArray 143)).ownsRow (w.heap.size + 1) 143 8 v m (pastsC (Md.pastsRd S a m)) := (hrow.kept (grown_of_below hb3) (by cases v.ownBlock <;> simp)).alloc _
                have hcx := cells_new W2 (pastC x).toArray (pastC x) 143 rfl
                have hzX : W2.heap.size < (W2.alloc (.cells (pastC x).toArray 143)).heap.size := by simp
                have hvl : ∀ j, v.ownBlock = some j → w.heap.size + 1 ≤ j ∧ j < wr.heap.size := fun j e => hrow.lt j e
                have hzz : wr.heap.size ≤ W2.heap.size := hb3.size
                change Code.wp Try.prog _ _ _ (W2.alloc (.cells (pastC x).toArray 143))
                generalize W2.alloc (.cells (pastC x).toArray 143) = X at hbX hBX hrX hcx hzX ⊢
                have e0 : X.cell? ⟨W2.heap.size, 0, none⟩ = some (.int .i64 x.req.id) := by have := hcx 0 _ rfl; rwa [add_plain] at this
                have e1 : X.cell? ⟨W2.heap.size, 1, none⟩ = some (.int .i64 x.req.kind) := by have := hcx 1 _ rfl; rwa [add_plain] at this
                have e2 : X.cell? ⟨W2.heap.size, 2, none⟩ = some (.int .i64 x.req.cell) := by have := hcx 2 _ rfl; rwa [add_plain] at this
                have e3 : X.cell? ⟨W2.heap.size, 3, none⟩ = some (.int .i64 x.req.hold) := by have := hcx 3 _ rfl; rwa [add_plain] at this
                have e4 : X.cell? ⟨W2.heap.size, 4, none⟩ = some (.int .i64 x.req.count) := by have := hcx 4 _ rfl; rwa [add_plain] at this
                have e5 : X.cell? ⟨W2.heap.size, 5, none⟩ = some (.int .i64 x.req.time) := by have := hcx 5 _ rfl; rwa [add_plain] at this
                have e6 : X.cell? ⟨W2.heap.size, 6, none⟩ = some (.int .i64 x.rep.code) := by have := hcx 6 _ rfl; rwa [add_plain] at this
                have e7 : X.cell? ⟨W2.heap.size, 7, none⟩ = some (.int .i64 x.rep.count) := by have := hcx 7 _ rfl; rwa [add_plain] at this
                have pa := hbX.pa
                have fp := hbX.fz 222
                have hpX := hbX.lt
                have hpv : v.ownBlock ≠ some w.heap.size := fun e => by have := (hvl _ e).1; omega
                have HbX := hide hbX
                have HrX := hide hrX
                have Hrow := hide hrow
                clear hbX hrX hcx hbk hrow hb3 hB hB2 w6 w7
                go_region_law (first
                  | (refine step_append_own rfl (.tmp 136) (.tmp 138) 95 rfl (w.heap.size + 1) 143 i0 (.agg #[.int .i64 0, .int .i64 0, .int .i64 0, .int .i64 0, .int .i64 0, .int .i64 0, .int .i64 0, .int .i64 0]) 8 64 Try.underlying95 hi hz0 hz1 hz2 rfl (by decide) v m (pastsC (Md.pastsRd S a m)) rfl (World.ownsRow.alloc (w := X.drew) HrX.out _) ⟨X.heap.size, 0, none⟩ 1 1 (pastC x) rfl rfl (cells_new _ _ _ _ rfl) (by simp [pastC, Value.oneCell']) (by unfold maxLen; omega) (by omega) (by simp; omega) ?_
                     intro v' w3 hown hgrow
                     obtain ⟨a4, cap4, rfl, _⟩ := row_form hown
                     have pa' := (World.cell?_of_block (after_row hgrow (Below.refl _ _) (k := w.heap.size) hpX hpv)).trans pa
                     have fp' := (World.frozen?_of_block (after_row hgrow (Below.refl _ _) (k := w.heap.size) hpX hpv)).trans fp
                     have hz4 : X.heap.size ≤ w3.heap.size := after_size hgrow (Below.refl _ _)))
                all_goals
                  have q1 : BookAt (w3.setCell ⟨w.heap.size, 222, none⟩ (.slice a4 (m + 1) cap4)) w.heap.size (Md.rHolds S k) (.slice a4 (m + 1) cap4) := (HbX.out.of_block (after_row hgrow (Below.refl _ _) hpX hpv) (by omega)).setPast _
                  have q2 : (w3.setCell ⟨w.heap.size, 222, none⟩ (.slice a4 (m + 1) cap4)).ownsRow (w.heap.size + 1) 143 8 (.slice a4 (m + 1) cap4) (m + 1) (pastsC (Md.pastsRd S a (m + 1))) := by
                    have : Md.pastsRd S a (m + 1) = Md.pastsRd S a m ++ [x] := by rw [← Hx.out]; simp [Md.pastsRd, List.range_succ]
                    rw [this, pastsC_snoc]
                    exact hown.kept (grown_put w3 w.heap.size 222 _) (.inr (fun e => by have := (hown.lt _ e).1; omega))
                  have q3 : Below w.heap.size w (w3.setCell ⟨w.heap.size, 222, none⟩ (.slice a4 (m + 1) cap4)) := ((hBX.drew.alloc (by have := hBX.size; simpa using this) _).grown hgrow (by have := hBX.size; simp; omega) (fun j e => by have := (hvl j e).1; omega)).setCell (p := ⟨w.heap.size, 222, none⟩) (Nat.le_refl _) _
                  generalize w3.setCell ⟨w.heap.size, 222, none⟩ (.slice a4 (m + 1) cap4) = F at q1 q2 q3 ⊢
                  have Q1 := hide q1
                  have Q2 := hide q2
                  clear q1 q2
                  go_wp2
                  go_roundw
                  case rel => exact ⟨m + 1, _, by omega, by omega, by go_num, by go_num, Q1, Q2.out, q3⟩
                  case measure => simp [intOf]; omega
              · have hkm : m = Md.nP S k := by unfold Md.nP; rw [HN.out]; omega
                have hBk : BookAt wr w.heap.size (Md.rBook S k m) v := by
                  have := hbk.out.past (Md.pastsRd S (20 + 4 * k) m)
                  exact this
                have hrw2 : wr.ownsRow (w.heap.size + 1) 143 8 v (Md.rBook S k m).past.length (pastsC (Md.rBook S k m).past) := by
                  have e : (Md.rBook S k m).past = Md.pastsRd S a m := by rw [Ha.out]; rfl
                  rw [e, Md.pastsRd_len]; exact hrow
                have hof : Md.ofSnap S = if Md.sound (Md.rBook S k m) = true ∧ Md.snap (Md.rBook S k m) = S then some (Md.rBook S k m) else none := by
                  unfold Md.ofSnap
                  rw [← HkH.out, ← hkm]
                  by_cases hx : Md.sound (Md.rBook S k m) = true ∧ Md.snap (Md.rBook S k m) = S
                  · rw [if_pos hx, if_pos ⟨by rw [HkH.out]; exact HgH.out, hx⟩]
                  · rw [if_neg hx, if_neg (fun h => hx h.2)]
                have hsm := Md.rBook_small S k m
                have hlen : (Md.rBook S k m).past.length ≤ 1048576 := by
                  show (Md.pastsRd S (20 + 4 * k) m).length ≤ _
                  rw [Md.pastsRd_len]; omega
                generalize Md.rBook S k m = B at hBk hrw2 hof hsm hlen
                have hbd2 : w.heap.size + 1 ≤ wr.heap.size := hBk.lt
                have HBk := hide hBk
                have Hrw := hide hrw2
                have Hof := hide hof
                have hcs2 : decide ((m : Int) < N) = false ∨ (decide ((m : Int) < N) = true ∧ decide ((m : Int) < 20) = false) := by
                  by_cases hx : (m : Int) < N
                  · right; exact ⟨decide_eq_true hx, decide_eq_false (by omega)⟩
                  · left; exact decide_eq_false hx
                have hsn := fun W hW => sound_any w.heap.size B v W (HBk.out.below hW) ((pastAt_of_row Hrw.out).below hW) hsm hlen
                have hss := fun W hW => snapshot_any w.heap.size B v W (HBk.out.below hW) ((pastAt_of_row Hrw.out).below hW) hlen
                have Hsn := hide hsn
                have Hss := hide hss
                clear hBk hrw2 hof hbk hrow hkm hc hsn hss hsm
                rcases hcs2 with hcs2 | ⟨hcs2, hcs3⟩
                all_goals
                  go_wp2_with fail
                  refine (Hsn.out _ (Below.refl _ _)).mono ?_
                  rintro e W1 ⟨rfl, hb1⟩
                  have hBW1 : Below w.heap.size w W1 := hB.trans (hb1.mono hB.size)
                  cases hsd : Md.sound B with
                  | false =>
                    have hno : Md.ofSnap S = none := by rw [Hof.out, hsd, if_neg (by simp)]
                    have Hno := hide hno
                    clear hno
                    go_wp2
                    go_ret2
                    exact ⟨hBW1, OfPost.no Hno.out rfl⟩
                  | true =>
                    go_wp2_with fail
                    refine (Hss.out _ hb1).mono ?_
                    rintro e W2 ⟨rfl, hb2⟩
                    have hBW2 : Below w.heap.size w W2 := hBW1.trans (hb2.mono hBW1.size)
                    have hq := Hcmp.out (Md.snap B)
                    cases hd : decide (Md.snap B = S) with
                    | false =>
                      rw [hd] at hq
                      have hno : Md.ofSnap S = none := by rw [Hof.out, if_neg (fun h => of_decide_eq_false hd h.2)]
                      have Hno := hide hno
                      clear hno
                      go_wp2
                      go_ret2
                      exact ⟨hBW2, OfPost.no Hno.out rfl⟩
                    | true =>
                      rw [hd] at hq
                      have hyes : Md.ofSnap S = some B := by rw [Hof.out, if_pos ⟨hsd, of_decide_eq_true hd⟩]
                      have Hyes := hide hyes
                      clear hyes
                      go_wp2
                      go_ret2
                      refine ⟨hBW2, ?_⟩
                      rw [Hyes.out]
                      refine ⟨w.heap.size, v, rfl, Nat.le_refl _, (HBk.out.below hb1).below hb2, row_le ((Hrw.out.kept (grown_of_below hb1) (by cases v.ownBlock <;> simp)).kept (grown_of_below hb2) (by cases v.ownBlock <;> simp)) (by omega), fun e => ?_⟩
                      have := (Hrw.out.lt _ e).1
                      omega
end Go.Proofs.Ytidacihlalbohaa
