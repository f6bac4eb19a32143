/- What the statement's own junk is: two bytes 255, then at most forty bytes. -/
import Derived.Test.YtidacihlalbohaaScan
namespace Go.Proofs.Ytidacihlalbohaa
open Go.RowKit

def byteOf (n : Int) : UInt8 := UInt8.ofNat (n % 256).toNat
theorem byteOf_toNat (n : Int) : ((byteOf n).toNat : Int) = n % 256 := by unfold byteOf; simp; omega
def junkL (zs : List Int) : List UInt8 := 255 :: 255 :: (zs.take 40).map byteOf
def bv (b : UInt8) : Value := .int .u8 (b.toNat : Int)

/-- A row of numbers that came in: where its elements lie. -/
def IntsAt (w : World) (a : Option Addr) (zs : List Int) : Prop :=
  zs = [] ∨ ∃ b off, a = some ⟨b, off, none⟩ ∧ b < w.heap.size ∧ ∀ i, i < zs.length → w.cell? ⟨b, off + i, none⟩ = some (.int .i64 (zs.getD i 0))

theorem junk_at (zs : List Int) (k : Nat) (hc : ¬ (k < zs.length ∧ k < 40)) (hk : k ≤ zs.length) (hk4 : k ≤ 40) : 255 :: 255 :: (zs.take k).map byteOf = junkL zs := by
  unfold junkL
  have e : zs.take k = zs.take 40 := by
    by_cases h : k < 40
    · rw [List.take_of_length_le (by omega), List.take_of_length_le (by omega)]
    · rw [show k = 40 from by omega]
  rw [e]
set_option maxHeartbeats 1000000 in
theorem junk_any (a : Option Addr) (cap : Nat) (zs : List Int) (w : World) (h : IntsAt w a zs) :
    Calls Try.prog 13 #[.slice a zs.length cap] w fun e w' => e = .returned (.string ⟨(junkL zs).toArray⟩) ∧ Below w.heap.size w w' := by
  obtain ⟨i0, hi, hz0, hz1, hz2⟩ := info_parts (show (Try.prog.info? 5).map (fun i => (i.zero, i.size, i.bytes)) = some (some (.int .u8 0), 1, 1) by kernel_rfl)
  go_enter Try.func13, Try.ntmps13
  go_wp2
  go_loopw [3, 4] (fun v i wr => ∃ k : Nat, k ≤ zs.length ∧ k ≤ 40 ∧ i = .int .i64 k ∧ wr.ownsRow w.heap.size 5 1 v (k + 2) ((255 :: 255 :: (zs.take k).map byteOf).map bv) ∧ Below w.heap.size w wr) (fun _ i _ => 40 - (intOf i).toNat)
  case atStart =>
    refine ⟨0, Nat.zero_le _, by omega, rfl, ?_, (Below.refl _ _).alloc (Nat.le_refl _) _⟩
    exact World.ownsRow_lit w _ 2 (Nat.le_refl _) (by unfold maxLen; omega) rfl
  case round =>
    obtain ⟨k, hk, hk4, rfl, hrow, hB⟩ := hrel
    by_cases hc : k < zs.length ∧ k < 40
    · obtain ⟨hlt, h40⟩ := hc
      have hl' : (k : Int) < (zs.length : Int) := by omega
      have h40' : (k : Int) < 40 := by omega
      rcases h with h0 | ⟨b, off, rfl, hb, hcell⟩
      · rw [h0] at hlt; simp at hlt
      have hck : wr.cell? ⟨b, off + k, none⟩ = some (.int .i64 (zs.getD k 0)) := (hB.cell (p := ⟨b, off + k, none⟩) hb).trans (hcell k hlt)
      have hbt : bv (byteOf (zs.getD k 0)) = .int .u8 (zs.getD k 0 % 256) := by unfold bv; rw [byteOf_toNat]
      have hts : zs.take (k + 1) = zs.take k ++ [zs.getD k 0] := by
        rw [List.take_succ_eq_append_getElem hlt, List.getD_eq_getElem?_getD, List.getElem?_eq_getElem hlt]; rfl
      generalize zs.getD k 0 = z at hck hbt hts
      have Hts := hide hts
      have Hbt := hide hbt
      clear hcell hts hbt
      go_wp2_with (at_builtin; refine wpList_append_own _ rfl _ _ 63 rfl w.heap.size 5 i0 (.int .u8 0) 1 1 Try.underlying63 hi hz0 hz1 hz2 rfl (by decide) _ _ _ rfl (hrow.alloc _) ⟨wr.heap.size, 0, none⟩ 1 1 [.int .u8 (z % 256)] rfl rfl (cell_one_new _ _ _) (by simp [Value.oneCell']) (by unfold maxLen; omega) (by omega) (by have := hB.size; simp; omega) ?_; intro v' w2 hown hgrow _)
      go_roundw
      case rel =>
        refine ⟨k + 1, by omega, by omega, by go_num, ?_, ?_⟩
        · rw [Hts.out]
          simp only [List.map_append, List.map_cons, List.map_nil, Hbt.out] at hown ⊢
          simpa using hown
        · exact (hB.alloc hB.size _).grown hgrow (by have := hB.size; simp; omega) (fun j e => (hrow.lt j e).1)
      case measure => simp [intOf]; omega
    · obtain ⟨g, cp, rfl, _⟩ := row_form_pos hrow (by omega)
      have hcv := run_convert_bytes_back (P := Try.prog) (l := 255 :: 255 :: (zs.take k).map byteOf) wr 63 9 5 ⟨g, 0, none⟩ cp Try.underlying63 Try.underlying5 Try.underlying9 (fun j hj => by
        have h1 := hrow.cellAt j (by simp at hj ⊢; omega)
        rw [show (⟨g, 0, none⟩ : Addr).add j = ⟨g, j, none⟩ from by simp [Addr.add]; exact fun h => h.symm, h1, List.getElem?_map, List.getElem?_eq_getElem hj]
        rfl)
      have hlen : (255 :: 255 :: (zs.take k).map byteOf).length = k + 2 := by simp; omega
      rw [hlen, junk_at zs k hc hk hk4] at hcv
      by_cases hlt : k < zs.length
      · have hl' : (k : Int) < (zs.length : Int) := by omega
        have h40 : ¬ (k : Int) < 40 := by omega
        clear hc hlen
        go_wp2
        go_ret
        exact ⟨rfl, hB⟩
      · have hl' : ¬ (k : Int) < (zs.length : Int) := by omega
        clear hc hlen
        go_wp2
        go_ret
        exact ⟨rfl, hB⟩
end Go.Proofs.Ytidacihlalbohaa
