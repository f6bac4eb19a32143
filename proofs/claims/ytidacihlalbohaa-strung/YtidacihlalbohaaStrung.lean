/- Strung, walked: framed payloads with dirt behind are scanned as they were, for as many payloads as fit into memory. -/
import Derived.Test.YtidacihlalbohaaScanWalk
import Derived.Test.YtidacihlalbohaaJunk
import Derived.Test.YtidacihlalbohaaStrMath
import Derived.Test.YtidacihlalbohaaSame
namespace Go.Proofs.Ytidacihlalbohaa
open Go.RowKit

/-- A text's bytes. -/
def dl (s : ByteArray) : List UInt8 := s.data.toList
theorem dl_len (s : ByteArray) : (dl s).length = s.size := Fr.size_list s
theorem text_of (A B : List UInt8) : (⟨A.toArray⟩ : ByteArray) ++ ⟨B.toArray⟩ = ⟨(A ++ B).toArray⟩ := by
  apply ByteArray.ext; simp [ByteArray.data_append]
theorem size_text (A : List UInt8) : (⟨A.toArray⟩ : ByteArray).size = A.length := by simp [ByteArray.size]
theorem junk_len (zs : List Int) : (junkL zs).length ≤ 42 := by unfold junkL; simp; omega

/-- A row of texts that came in: where its elements lie. -/
def StrsAt (w : World) (a : Option Addr) (ss : List ByteArray) : Prop :=
  ss = [] ∨ ∃ b off, a = some ⟨b, off, none⟩ ∧ b < w.heap.size ∧ ∀ i, i < ss.length → w.cell? ⟨b, off + i, none⟩ = some (.string (ss.getD i ByteArray.empty))
theorem IntsAt.below {w w' : World} {a : Option Addr} {zs : List Int} (h : IntsAt w a zs) (hb : Below w.heap.size w w') : IntsAt w' a zs := by
  rcases h with h | ⟨b, off, rfl, hlt, hc⟩
  · exact .inl h
  · exact .inr ⟨b, off, rfl, Nat.lt_of_lt_of_le hlt hb.size, fun i hi => (hb.cell (p := ⟨b, off + i, none⟩) hlt).trans (hc i hi)⟩

theorem take_snoc_getD {ss : List ByteArray} {k : Nat} (h : k < ss.length) : ss.take (k + 1) = ss.take k ++ [ss.getD k ByteArray.empty] := by
  rw [List.take_succ_eq_append_getElem h, List.getD_eq_getElem?_getD, List.getElem?_eq_getElem h]; rfl

theorem below_drewN2 {B : Nat} {w W : World} (h : Below B w W) (n : Nat) : Below B w (W.drewN n) := ⟨h.os, h.tape, h.output, h.size, h.block⟩

/-- The frames of the first k texts, joined. -/
def catK (ss : List ByteArray) (k : Nat) : List UInt8 := Fr.cat ((ss.take k).map dl)

theorem catK_le (ss : List ByteArray) : ∀ k, (∀ s ∈ ss.take k, s.size ≤ 4000) → (catK ss k).length ≤ 4004 * k := by
  induction ss with
  | nil => intro k _; simp [catK, Fr.cat]
  | cons s ss ih =>
    intro k h
    cases k with
    | zero => simp [catK, Fr.cat]
    | succ k =>
      have h1 := ih k (fun x hx => h x (by simp [hx]))
      have h2 : s.size ≤ 4000 := h s (by simp)
      have e : catK (s :: ss) (k + 1) = Fr.frameL (dl s) ++ catK ss k := rfl
      rw [e, List.length_append, Fr.frameL_length, dl_len]
      omega

set_option maxHeartbeats 2000000 in
theorem Strung_walk (a : Option Addr) (cap : Nat) (ss : List ByteArray) (a1 : Option Addr) (cap1 : Nat) (zs : List Int) (w : World)
    (hS : StrsAt w a ss) (hI : IntsAt w a1 zs) (hsl : ss.length ≤ 8796093022208) (hlc : ss.length ≤ cap) :
    Calls Try.prog 6 #[.slice a ss.length cap, .slice a1 zs.length cap1] w fun e w' => e = .returned (.bool true) ∧ Below w.heap.size w w' := by
  generalize hL : ss.length = len at hsl hlc ⊢
  have HL := hide hL
  have HI := hide hI
  have HS := hide hS
  clear hL hI hS
  go_enter Try.func6, Try.ntmps6
  go_wp2
  go_loopw [0, 5, 6] (fun s0 tx i wr => ∃ k : Nat, k ≤ len ∧ s0 = .slice a len cap ∧ i = .int .i64 k ∧ tx = .string ⟨(catK ss k).toArray⟩ ∧ (∀ s ∈ ss.take k, s.size ≤ 4000) ∧ Below w.heap.size w wr) (fun _ _ i _ => len - (intOf i).toNat)
  case atStart => exact ⟨0, Nat.zero_le _, rfl, rfl, rfl, by simp, Below.refl _ _⟩
  case round =>
    obtain ⟨k, hk, rfl, rfl, rfl, hsm, hB⟩ := hrel
    have hck := catK_le ss k hsm
    have hjl := junk_len zs
    have hps : ∀ p ∈ (ss.take k).map dl, p.length ≤ 4000 := fun p hp => by
      obtain ⟨s, hs, rfl⟩ := List.mem_map.1 hp
      rw [dl_len]; exact hsm s hs
    by_cases hlt : k < len
    · rcases HS.out with h0 | ⟨b, off, rfl, hb, hcell⟩
      · have := HL.out; rw [h0] at this; simp at this; omega
      have hlt' : (k : Int) < (len : Int) := by omega
      have hkl : k < ss.length := by have := HL.out; omega
      have hc0 : wr.cell? ⟨b, off + k, none⟩ = some (.string (ss.getD k ByteArray.empty)) := (hB.cell (p := ⟨b, off + k, none⟩) hb).trans (hcell k hkl)
      have hts : ss.take (k + 1) = ss.take k ++ [ss.getD k ByteArray.empty] := take_snoc_getD hkl
      by_cases h4 : (ss.getD k ByteArray.empty).size ≤ 4000
      · have hf := Frame_short (ss.getD k ByteArray.empty) wr h4
        have hfl : (Fr.frameL (dl (ss.getD k ByteArray.empty))).length = (ss.getD k ByteArray.empty).size + 4 := by rw [Fr.frameL_length, dl_len]; omega
        have hcs : catK ss (k + 1) = catK ss k ++ Fr.frameL (dl (ss.getD k ByteArray.empty)) := by
          unfold catK
          rw [hts, List.map_append, List.map_cons, List.map_nil, Fr.cat_snoc]
        have hsm' : ∀ s ∈ ss.take (k + 1), s.size ≤ 4000 := fun s hs => by
          rw [hts] at hs
          rcases List.mem_append.1 hs with h | h
          · exact hsm s h
          · rw [List.mem_singleton] at h; rw [h]; exact h4
        change Calls _ _ _ _ (fun e w' => e = .returned (.tuple #[.string ⟨(Fr.frameL (dl (ss.getD k ByteArray.empty))).toArray⟩, .int .i64 0]) ∧ _) at hf
        generalize ss.getD k ByteArray.empty = s at hc0 h4 hf hfl hcs
        have Hf := hide hf
        have Hcs := hide hcs
        have Hsm := hide hsm'
        have HcE := hide hcell
        clear hf hcs hsm' hts hsm hps hcell
        generalize Fr.frameL (dl s) = F at hfl Hf Hcs
        generalize catK ss k = T at hck Hcs
        go_wp2_with fail
        refine Hf.out.mono ?_
        rintro e w1 ⟨rfl, hb1⟩
        have hc1 : w1.cell? ⟨b, off + k, none⟩ = some (.string s) := (hb1.cell (p := ⟨b, off + k, none⟩) (Nat.lt_of_lt_of_le hb hB.size)).trans hc0
        go_wp2
        go_roundw
        case rel => exact ⟨k + 1, by omega, rfl, by go_num, by rw [Hcs.out, text_of], Hsm.out, hB.trans (hb1.mono hB.size)⟩
        case measure => simp [intOf]; omega
      · have hcg : k = 0 ∨ ∃ b' off', some (⟨b, off, none⟩ : Addr) = some ⟨b', off', none⟩ ∧ b' < w.heap.size ∧ ∀ i, i < k → w.cell? ⟨b', off' + i, none⟩ = some (.string (ss.getD i ByteArray.empty)) := .inr ⟨b, off, rfl, hb, fun i hi => hcell i (by omega)⟩
        have h4' : 4000 < (ss.getD k ByteArray.empty).size := by omega
        have HcG := hide hcg
        have Hps := hide hps
        clear hcell hcg hts hsm hps
        generalize ss.getD k ByteArray.empty = s at hc0 h4 h4'
        generalize hT : catK ss k = T at hck
        have HT := hide hT
        clear hT
        go_wp2_with fail
        have hjl := junk_len zs
        refine (junk_any a1 cap1 zs _ (HI.out.below hB)).mono ?_
        rintro e w1 ⟨rfl, hb1⟩
        generalize hJ : junkL zs = J at hjl ⊢
        have HJ := hide hJ
        clear hJ
        go_wp2_with fail
        rw [text_of]
        have hall : Fr.all (⟨(T ++ J).toArray⟩ : ByteArray).data.toList = Fr.placed 0 ((ss.take k).map dl) := by
          rw [← HT.out, ← HJ.out]; exact Fr.all_cat (Fr.first_dirt _) _ Hps.out
        have hbh : Fr.behind (Fr.placed 0 ((ss.take k).map dl)) = T.length := by rw [Fr.behind_cat, ← HT.out]; rfl
        have hpl : (Fr.placed 0 ((ss.take k).map dl)).length = k := by rw [Fr.placed_length, List.length_map, List.length_take]; omega
        refine (Scan_any _ _ (by rw [size_text, List.length_append]; omega) (by rw [hall, hpl]; omega)).mono ?_
        rintro e w2 ⟨v, rfl, hrow, _, hb2⟩
        rw [hall] at hrow ⊢
        rw [hbh]
        rw [hpl] at hrow
        have hBw : Below w.heap.size w w2 := (hB.trans (hb1.mono hB.size)).trans (hb2.mono (Nat.le_trans hB.size hb1.size))
        obtain ⟨av, cv, rfl, _⟩ := row_form hrow
        have HA : Hid (k = 0 ∨ ∃ g b2 off2, av = some ⟨g, 0, none⟩ ∧ some (⟨b, off, none⟩ : Addr) = some ⟨b2, off2, none⟩ ∧ ∀ i, i < k → w2.cell? ⟨g, i, none⟩ = some (.string (ss.getD i ByteArray.empty)) ∧ w2.cell? ⟨b2, off2 + i, none⟩ = some (.string (ss.getD i ByteArray.empty))) := by
          rcases HcG.out with h | ⟨b3, off3, ha, hb3, hc⟩
          · exact .inl h
          by_cases h0 : k = 0
          · exact .inl h0
          obtain ⟨g, c2, hv, _⟩ := row_form_pos hrow (by omega)
          cases hv
          refine .inr ⟨g, b3, off3, rfl, ha, fun i hi => ⟨?_, (hBw.cell (p := ⟨b3, off3 + i, none⟩) hb3).trans (hc i hi)⟩⟩
          rw [hrow.cellAt i (by omega), List.getElem?_map]
          obtain ⟨q, h1, h2⟩ := Fr.placed_getD (ps := (ss.take k).map dl) 0 i Hps.out (by rw [List.length_map, List.length_take]; omega)
          rw [h1]
          have e : (ss.getD i ByteArray.empty) = ⟨q.1.1.toArray⟩ := by
            rw [h2, List.getElem_map, List.getElem_take, List.getD_eq_getElem?_getD, List.getElem?_eq_getElem (by omega)]
            exact (Fr.of_list _).symm
          rw [e]; rfl
        have HB := hide hBw
        clear hall hbh hpl hrow hb1 hb2 hB hBw hck hjl
        go_wp2
        go_loopw [11] (fun i wr2 => ∃ j d : Nat, j ≤ k ∧ i = .int .i64 j ∧ wr2 = w2.drewN d) (fun i _ => k - (intOf i).toNat)
        case atStart => exact ⟨0, 0, Nat.zero_le _, rfl, rfl⟩
        case round =>
          obtain ⟨j, d, hj, rfl, rfl⟩ := hrel
          by_cases hjk : j < k
          · rcases HA.out with h0 | ⟨g, b2, off2, rfl, hae, hcs⟩
            · omega
            obtain ⟨c1, c2⟩ := hcs j hjk
            have hjk' : (j : Int) < (k : Int) := by omega
            clear hcs
            cases hae
            go_wp2_with fail
            go_quiet (fail)
            go_wp2
            go_roundw
            case rel => exact ⟨j + 1, _, by omega, by go_num, rfl⟩
            case measure => simp [intOf]; omega
          · go_wp2
            go_ret
            exact ⟨rfl, below_drewN2 HB.out _⟩
    · obtain rfl : k = len := by omega
      have hcg : k = 0 ∨ ∃ b off, a = some ⟨b, off, none⟩ ∧ b < w.heap.size ∧ ∀ i, i < k → w.cell? ⟨b, off + i, none⟩ = some (.string (ss.getD i ByteArray.empty)) := by
        rcases HS.out with h0 | ⟨b, off, ha, hb, hcell⟩
        · exact .inl (by rw [← HL.out, h0]; rfl)
        · exact .inr ⟨b, off, ha, hb, fun i hi => hcell i (by rw [HL.out]; exact hi)⟩
      have hkl : k ≤ ss.length := by rw [HL.out]; omega
      have HcG := hide hcg
      have Hps := hide hps
      clear hcg hsm hps hlc
      generalize hT : catK ss k = T at hck
      have HT := hide hT
      clear hT
      go_wp2_with fail
      have hjl := junk_len zs
      refine (junk_any a1 cap1 zs _ (HI.out.below hB)).mono ?_
      rintro e w1 ⟨rfl, hb1⟩
      generalize hJ : junkL zs = J at hjl ⊢
      have HJ := hide hJ
      clear hJ
      go_wp2_with fail
      rw [text_of]
      have hall : Fr.all (⟨(T ++ J).toArray⟩ : ByteArray).data.toList = Fr.placed 0 ((ss.take k).map dl) := by
        rw [← HT.out, ← HJ.out]; exact Fr.all_cat (Fr.first_dirt _) _ Hps.out
      have hbh : Fr.behind (Fr.placed 0 ((ss.take k).map dl)) = T.length := by rw [Fr.behind_cat, ← HT.out]; rfl
      have hpl : (Fr.placed 0 ((ss.take k).map dl)).length = k := by rw [Fr.placed_length, List.length_map, List.length_take]; omega
      refine (Scan_any _ _ (by rw [size_text, List.length_append]; omega) (by rw [hall, hpl]; omega)).mono ?_
      rintro e w2 ⟨v, rfl, hrow, _, hb2⟩
      rw [hall] at hrow ⊢
      rw [hbh]
      rw [hpl] at hrow
      have hBw : Below w.heap.size w w2 := (hB.trans (hb1.mono hB.size)).trans (hb2.mono (Nat.le_trans hB.size hb1.size))
      obtain ⟨av, cv, rfl, _⟩ := row_form hrow
      have HA : Hid (k = 0 ∨ ∃ g b2 off2, av = some ⟨g, 0, none⟩ ∧ a = some ⟨b2, off2, none⟩ ∧ ∀ i, i < k → w2.cell? ⟨g, i, none⟩ = some (.string (ss.getD i ByteArray.empty)) ∧ w2.cell? ⟨b2, off2 + i, none⟩ = some (.string (ss.getD i ByteArray.empty))) := by
        rcases HcG.out with h | ⟨b3, off3, ha, hb3, hc⟩
        · exact .inl h
        by_cases h0 : k = 0
        · exact .inl h0
        obtain ⟨g, c2, hv, _⟩ := row_form_pos hrow (by omega)
        cases hv
        refine .inr ⟨g, b3, off3, rfl, ha, fun i hi => ⟨?_, (hBw.cell (p := ⟨b3, off3 + i, none⟩) hb3).trans (hc i hi)⟩⟩
        rw [hrow.cellAt i (by omega), List.getElem?_map]
        obtain ⟨q, h1, h2⟩ := Fr.placed_getD (ps := (ss.take k).map dl) 0 i Hps.out (by rw [List.length_map, List.length_take]; omega)
        rw [h1]
        have e : (ss.getD i ByteArray.empty) = ⟨q.1.1.toArray⟩ := by
          rw [h2, List.getElem_map, List.getElem_take, List.getD_eq_getElem?_getD, List.getElem?_eq_getElem (by omega)]
          exact (Fr.of_list _).symm
        rw [e]; rfl
      have HB := hide hBw
      clear hall hbh hpl hrow hb1 hb2 hB hBw hck hjl
      go_wp2
      go_loopw [11] (fun i wr2 => ∃ j d : Nat, j ≤ k ∧ i = .int .i64 j ∧ wr2 = w2.drewN d) (fun i _ => k - (intOf i).toNat)
      case atStart => exact ⟨0, 0, Nat.zero_le _, rfl, rfl⟩
      case round =>
        obtain ⟨j, d, hj, rfl, rfl⟩ := hrel
        by_cases hjk : j < k
        · rcases HA.out with h0 | ⟨g, b2, off2, rfl, hae, hcs⟩
          · omega
          obtain ⟨c1, c2⟩ := hcs j hjk
          have hjk' : (j : Int) < (k : Int) := by omega
          clear hcs
          subst hae
          go_wp2_with fail
          go_quiet (fail)
          go_wp2
          go_roundw
          case rel => exact ⟨j + 1, _, by omega, by go_num, rfl⟩
          case measure => simp [intOf]; omega
        · go_wp2
          go_ret
          exact ⟨rfl, below_drewN2 HB.out _⟩
end Go.Proofs.Ytidacihlalbohaa
