/- Open: a shop out of files. -/
import Derived.Test.YtidacihlalbohaaPAsOf
import Derived.Test.YtidacihlalbohaaPReplay
import Derived.Test.YtidacihlalbohaaPDisk
import Derived.Test.YtidacihlalbohaaPDown
import Derived.Deep.RegionHeld
namespace Go.Proofs.Ytidacihlalbohaa
open Go.RowKit

namespace Md
theorem snapBook_fine {l : List Fl} {Bs : Bk} (h : snapBook l = some Bs) (n : Nat) : Inv (lastN Bs n) n ∧ (0 ≤ (lastN Bs n).count ∧ (lastN Bs n).count ≤ 1000000000) ∧ Bs.past.length ≤ 20 := by
  unfold snapBook at h
  cases hd : dataOf l sSnap with
  | none =>
    rw [hd] at h
    cases h
    rw [lastN0]
    exact ⟨inv0 n, by show (0 : Int) ≤ 0 ∧ (0 : Int) ≤ 1000000000; omega, Nat.zero_le _⟩
  | some d =>
    rw [hd] at h
    dsimp only at h
    split at h
    · rename_i x hx
      split at h
      · obtain ⟨n', m', hokay, hBs⟩ := ofSnap_some h
        have hinv : Inv (lastN Bs n) n := by subst hBs; exact hokay.inv n
        have hcnt : (lastN Bs n).count = numAt x.1.1 0 := by subst hBs; exact (rHolds_keep _ n').2.2.2
        refine ⟨hinv, ?_, ?_⟩
        · rw [hcnt]
          exact ⟨(numAt_bd _ _).1, hokay.head.1⟩
        · subst hBs
          show (pastsRd _ _ m').length ≤ 20
          rw [pastsRd_len]; exact hokay.np.2.1
      · cases h
    · cases h
theorem finP_le (n : Nat) (had : Int) (M : Nat) : ∀ (l : List (Fr.Pay × Nat)) (s : RSt), (∀ x ∈ l, x.2 ≤ M) → s.2.2 ≤ M → (finP n had l s).2.2 ≤ M
  | [], s, _, hs => hs
  | x :: l, s, hl, hs => by
    show (match stepP n had s x with | none => s | some s' => finP n had l s').2.2 ≤ M
    cases hst : stepP n had s x with
    | none => exact hs
    | some s' =>
      refine finP_le n had M l s' (fun y hy => hl y (List.mem_cons_of_mem _ hy)) ?_
      have hx := hl x (List.mem_cons_self ..)
      unfold stepP at hst
      split at hst
      · split at hst
        · cases hst; exact hx
        · split at hst
          · cases hst; exact hx
          · cases hst
      · cases hst
theorem items_le (l : List UInt8) : ∀ (f a : Nat) (x : Fr.Pay × Nat), x ∈ Fr.items f l a → x.2 ≤ l.length := by
  intro f
  induction f with
  | zero => intro a x h; cases h
  | succ f ih =>
    intro a x h
    unfold Fr.items at h
    cases hp : Fr.firstL (l.drop a) with
    | none => rw [hp] at h; cases h
    | some p =>
      rw [hp] at h
      rcases List.mem_cons.1 h with rfl | h
      · have := (Fr.firstL_len hp).2
        rw [List.length_drop] at this
        show a + (4 + p.length) ≤ l.length
        omega
      · exact ih _ x h
theorem opens_fin {n : Nat} {Bs : Bk} {lg : ByteArray} (had : Int) : (replayL n had (payL lg) true 0 Bs []).1 = (finP n had (Fr.all lg.data.toList) (0, Bs, 0)).2.1 :=
  (finP_replay n had (Fr.all lg.data.toList) 0 Bs 0 [] (strings_all _) rfl (Int.le_refl 0) (fun _x _ => (numAt_bd _ _).1)).1
end Md

theorem dataV_get (o : Option ByteArray) : ∃ b, dataV o = .tuple #[.string (o.getD ⟨#[]⟩), .bool b] := by
  cases o with
  | none => exact ⟨false, rfl⟩
  | some d => exact ⟨true, rfl⟩

theorem iteP {c t e : Prop} [Decidable c] (hc : c) (h : t) : if c then t else e := by rw [if_pos hc]; exact h

def SOpenPost (w w' : World) (e : Ending) (n : Nat) : Int × Option Md.Bk → Prop
  | (c, none) => e = .returned (.tuple #[.pointer none, .int .i64 c])
  | (c, some B) => ∃ q, e = .returned (.tuple #[.pointer (some ⟨q, 0, none⟩), .int .i64 c]) ∧ w.heap.size ≤ q ∧ ShopAt w' q B n ∧ ∀ g W'', g < w.heap.size → w'.grownBy W'' (some g) → ShopAt W'' q B n

set_option maxRecDepth 100000 in
set_option maxHeartbeats 4000000 in
theorem sOpen_any (a : Option Addr) (cap : Nat) (l : List Md.Fl) (c : Md.Cf) (w : World) (hf : FilesAt w (.slice a l.length cap) l) (hcap : l.length ≤ cap) (hz : ∀ x ∈ l, x.data.size ≤ 1099511627776) :
    Calls Try.prog 20 #[.slice a l.length cap, .agg (cfA c)] w fun e w' => Below w.heap.size w w' ∧ SOpenPost w w' e c.window.toNat (Md.opens l c) := by
  obtain ⟨OO, hOO⟩ : ∃ OO, Md.opens l c = OO := ⟨_, rfl⟩
  rw [hOO]
  have HOO := hide hOO
  clear hOO
  obtain ⟨wi, gr, ro⟩ := c
  have hcf := fun W => isConfig_any ⟨wi, gr, ro⟩ W
  unfold cfA at hcf ⊢
  dsimp only at hcf ⊢
  have Hcf := hide hcf
  have Hf := hide hf
  clear hcf
  go_enter Try.func20, Try.ntmps20
  go_wp2_with fail
  refine (Hcf.out _).mono ?_
  rintro e W1 ⟨rfl, hb1⟩
  have hbx := (Below.refl w.heap.size w).alloc (Nat.le_refl _) (.cells #[.int .i64 wi, .int .i64 gr, .int .i64 ro] 32)
  have x0 : (w.alloc (.cells #[.int .i64 wi, .int .i64 gr, .int .i64 ro] 32)).cell? ⟨w.heap.size, 0, none⟩ = some (.int .i64 wi) := by simp [go_sem]
  have x1 : (w.alloc (.cells #[.int .i64 wi, .int .i64 gr, .int .i64 ro] 32)).cell? ⟨w.heap.size, 1, none⟩ = some (.int .i64 gr) := by simp [go_sem]
  have x2 : (w.alloc (.cells #[.int .i64 wi, .int .i64 gr, .int .i64 ro] 32)).cell? ⟨w.heap.size, 2, none⟩ = some (.int .i64 ro) := by simp [go_sem]
  have hxl : w.heap.size < (w.alloc (.cells #[.int .i64 wi, .int .i64 gr, .int .i64 ro] 32)).heap.size := by simp
  generalize w.alloc (.cells #[.int .i64 wi, .int .i64 gr, .int .i64 ro] 32) = W0 at hb1 hbx x0 x1 x2 hxl
  have hB1 : Below w.heap.size w W1 := hbx.trans (hb1.mono hbx.size)
  replace x0 := (hb1.cell (p := ⟨w.heap.size, 0, none⟩) hxl).trans x0
  replace x1 := (hb1.cell (p := ⟨w.heap.size, 1, none⟩) hxl).trans x1
  replace x2 := (hb1.cell (p := ⟨w.heap.size, 2, none⟩) hxl).trans x2
  have hxl1 : w.heap.size < W1.heap.size := Nat.lt_of_lt_of_le hxl hb1.size
  clear hb1 hbx hxl hf
  cases hfi : (⟨wi, gr, ro⟩ : Md.Cf).fine with
  | false =>
    have ho : OO = (2, none) := by rw [← HOO.out]; unfold Md.opens; rw [hfi]; rfl
    have Ho := hide ho
    clear ho
    go_wp2
    go_ret2
    exact ⟨hB1, by rw [Ho.out]; rfl⟩
  | true =>
    have hwi : 1 ≤ wi ∧ wi ≤ 20 := by
      unfold Md.Cf.fine at hfi
      simp only [Bool.and_eq_true, Md.inR_true] at hfi
      exact hfi.1.1
    obtain ⟨wi1, wi2⟩ := hwi
    obtain ⟨n, rfl⟩ : ∃ n : Nat, wi = n := ⟨wi.toNat, by omega⟩
    go_wp2_with fail
    refine (areFiles_any a cap l W1 (Hf.out.below hB1) hcap).mono ?_
    rintro e W2 ⟨rfl, hb2⟩
    have hB2 : Below w.heap.size w W2 := hB1.trans (hb2.mono hB1.size)
    replace x0 := (hb2.cell (p := ⟨w.heap.size, 0, none⟩) hxl1).trans x0
    replace x1 := (hb2.cell (p := ⟨w.heap.size, 1, none⟩) hxl1).trans x1
    replace x2 := (hb2.cell (p := ⟨w.heap.size, 2, none⟩) hxl1).trans x2
    have hxl2 : w.heap.size < W2.heap.size := Nat.lt_of_lt_of_le hxl1 hb2.size
    clear hb2 hB1 hxl1
    cases hnm : Md.named l with
    | false =>
      have ho : OO = (3, none) := by rw [← HOO.out]; unfold Md.opens; rw [hfi, hnm]; rfl
      have Ho := hide ho
      clear ho
      go_wp2
      go_ret2
      exact ⟨hB2, by rw [Ho.out]; rfl⟩
    | true =>
      have ho : OO = (match Md.snapBook l with | none => (4, none) | some B => (0, some (Md.replayL n B.count (payL (Md.logOf l)) true 0 (Md.lastN B n) []).1)) := by rw [← HOO.out]; unfold Md.opens; rw [hfi, hnm]; rfl
      have Ho := hide ho
      clear ho HOO hnm hfi
      go_wp2_with fail
      refine (bookAsOf_any _ l W2 (Hf.out.below hB2) hz).mono ?_
      rintro e W3 ⟨⟨cs, hlen, hone, hor⟩, hb3⟩
      have hB3 : Below w.heap.size w W3 := hB2.trans (hb3.mono hB2.size)
      replace x0 := (hb3.cell (p := ⟨w.heap.size, 0, none⟩) hxl2).trans x0
      replace x1 := (hb3.cell (p := ⟨w.heap.size, 1, none⟩) hxl2).trans x1
      replace x2 := (hb3.cell (p := ⟨w.heap.size, 2, none⟩) hxl2).trans x2
      have hxl3 : w.heap.size < W3.heap.size := Nat.lt_of_lt_of_le hxl2 hb3.size
      clear hb3 hB2 hxl2
      have hBn := (Below.refl W3.heap.size W3).alloc (Nat.le_refl _) (.cells Try.zeroCells82 82)
      have hrm := Room.new W3
      have hst := store_run (W := W3.alloc (.cells Try.zeroCells82 82)) (b := W3.heap.size) (cs := cs) (by rw [hlen]; exact hrm.th) hone
      have hBX : Below w.heap.size w ((W3.alloc (.cells Try.zeroCells82 82)).setCells W3.heap.size 0 cs) := below_setCells (hB3.alloc hB3.size _) cs hB3.size
      rcases hor with ⟨Bs, hBs, rfl, hcs⟩ | ⟨hBs, rfl⟩
      · have hbX : PBook ((W3.alloc (.cells Try.zeroCells82 82)).setCells W3.heap.size 0 cs) W3.heap.size Bs 20 := by rw [hcs]; exact PBook.stored Bs 20 hrm.th hrm.fz
        have hblk : ((W3.alloc (.cells Try.zeroCells82 82)).setCells W3.heap.size 0 cs).heap[w.heap.size]? = W3.heap[w.heap.size]? := (setCells_block cs (by simp; omega) (by omega)).trans (hBn.block w.heap.size hxl3)
        replace x0 := (World.cell?_of_block (a := ⟨w.heap.size, 0, none⟩) hblk).trans x0
        replace x1 := (World.cell?_of_block (a := ⟨w.heap.size, 1, none⟩) hblk).trans x1
        replace x2 := (World.cell?_of_block (a := ⟨w.heap.size, 2, none⟩) hblk).trans x2
        obtain ⟨hinv, hcnt, hpl⟩ := Md.snapBook_fine hBs n
        have hoo : OO = (0, some (Md.replayL n (Md.lastN Bs n).count (payL (Md.logOf l)) true 0 (Md.lastN Bs n) []).1) := by rw [Ho.out, hBs]; rfl
        have Hoo := hide hoo
        clear hcs hoo hBs Ho hBn hrm hblk hone
        go_wp2_with fail
        generalize (W3.alloc (.cells Try.zeroCells82 82)).setCells W3.heap.size 0 cs = X at hBX hbX x0 x1 x2 ⊢
        obtain ⟨pb, hpb⟩ : ∃ pb, W3.heap.size = pb := ⟨_, rfl⟩
        rw [hpb] at hbX hxl3 ⊢
        have hpbw : w.heap.size ≤ pb := by omega
        clear hst hpb hB3
        refine (pKeep_any pb Bs 20 n X hbX hpl (by omega) (by omega)).mono ?_
        rintro e X1 ⟨rfl, hbX1, hg1⟩
        have gB : ∀ {Y Y' : World}, Below w.heap.size w Y → Y.grownBy Y' (some pb) → Below w.heap.size w Y' := fun h g => ⟨g.os.trans h.os, g.tape.trans h.tape, g.output.trans h.output, Nat.le_trans h.size g.size, fun k hk => (g.block k (Nat.lt_of_lt_of_le hk h.size) (fun e => by injection e with e; omega)).trans (h.block k hk)⟩
        have hB1 := gB hBX hg1
        have hx1 : w.heap.size < X1.heap.size := Nat.lt_of_lt_of_le (World.block_lt_of_cell? X ⟨w.heap.size, 0, none⟩ x0) hg1.size
        have hblk1 := hg1.block w.heap.size (World.block_lt_of_cell? X ⟨w.heap.size, 0, none⟩ x0) (fun e => by injection e with e; omega)
        replace x1 := (World.cell?_of_block (a := ⟨w.heap.size, 1, none⟩) hblk1).trans x1
        replace x2 := (World.cell?_of_block (a := ⟨w.heap.size, 2, none⟩) hblk1).trans x2
        change PBook X1 pb (Md.lastN Bs n) n at hbX1
        clear hg1 hblk1 x0 hbX hBX
        obtain ⟨lg, hlg⟩ : ∃ lg, Md.logOf l = lg := ⟨_, rfl⟩
        have hlgz : lg.size ≤ 1099511627776 := by
          rw [← hlg]; unfold Md.logOf
          cases hd : Md.dataOf l Md.sLog with
          | none => show (0 : Nat) ≤ _; omega
          | some d => obtain ⟨x, h1, h2⟩ := dataOf_mem hd; show d.size ≤ _; rw [← h2]; exact hz x h1
        obtain ⟨sn, hsn⟩ : ∃ sn, (Md.dataOf l Md.sSnap).getD ⟨#[]⟩ = sn := ⟨_, rfl⟩
        have hsnz : sn.size ≤ 1099511627776 := by
          rw [← hsn]
          cases hd : Md.dataOf l Md.sSnap with
          | none => show (0 : Nat) ≤ _; omega
          | some d => obtain ⟨x, h1, h2⟩ := dataOf_mem hd; show d.size ≤ _; rw [← h2]; exact hz x h1
        obtain ⟨hasL, hdl⟩ := dataV_get (Md.dataOf l Md.sLog)
        obtain ⟨hasS, hds⟩ := dataV_get (Md.dataOf l Md.sSnap)
        rw [show (Md.dataOf l Md.sLog).getD ⟨#[]⟩ = lg from hlg] at hdl
        rw [hsn] at hds
        rw [hlg] at Hoo
        clear hlg hsn
        have hl1 := pData_any _ l Md.sLog X1 (Hf.out.below hB1)
        rw [hdl] at hl1
        unfold Md.sLog at hl1
        go_wp2_with fail
        refine hl1.mono ?_
        rintro e X2 ⟨rfl, hb2⟩
        have hB2 := hB1.trans (hb2.mono hB1.size)
        have hbX2 := hbX1.below hb2
        replace x1 := (hb2.cell (p := ⟨w.heap.size, 1, none⟩) hx1).trans x1
        replace x2 := (hb2.cell (p := ⟨w.heap.size, 2, none⟩) hx1).trans x2
        have hx2 := Nat.lt_of_lt_of_le hx1 hb2.size
        clear hl1 hb2 hB1 hbX1 hx1 hdl
        have hl2 := pData_any _ l Md.sSnap X2 (Hf.out.below hB2)
        rw [hds] at hl2
        unfold Md.sSnap at hl2
        go_wp2_with fail
        refine hl2.mono ?_
        rintro e X3 ⟨rfl, hb3⟩
        have hB3 := hB2.trans (hb3.mono hB2.size)
        have hbX3 := hbX2.below hb3
        replace x1 := (hb3.cell (p := ⟨w.heap.size, 1, none⟩) hx2).trans x1
        replace x2 := (hb3.cell (p := ⟨w.heap.size, 2, none⟩) hx2).trans x2
        have hx3 := Nat.lt_of_lt_of_le hx2 hb3.size
        clear hl2 hb3 hB2 hbX2 hx2 hds
        have hrp := pReplay_any pb (Md.lastN Bs n) n lg X3 hbX3 hinv (by omega) hcnt hlgz
        have hen : (Md.finP n (Md.lastN Bs n).count (Fr.all lg.data.toList) (0, Md.lastN Bs n, 0)).2.2 ≤ lg.size := by
          have := Md.finP_le n (Md.lastN Bs n).count lg.data.toList.length (Fr.all lg.data.toList) (0, Md.lastN Bs n, 0) (fun x hx => Md.items_le _ _ _ x hx) (Nat.zero_le _)
          rwa [Fr.size_list] at this
        rw [Md.opens_fin] at Hoo
        obtain ⟨⟨ea, eB, en⟩, hE⟩ : ∃ E, Md.finP n (Md.lastN Bs n).count (Fr.all lg.data.toList) (0, Md.lastN Bs n, 0) = E := ⟨_, rfl⟩
        rw [hE] at hrp hen Hoo
        dsimp only at hrp hen Hoo
        clear hE
        go_wp2_with fail
        refine hrp.mono ?_
        rintro e X4 ⟨rfl, hbX4, hg4⟩
        have hB4 := gB hB3 hg4
        have hblk4 := hg4.block w.heap.size hx3 (fun e => by injection e with e; omega)
        replace x1 := (World.cell?_of_block (a := ⟨w.heap.size, 1, none⟩) hblk4).trans x1
        replace x2 := (World.cell?_of_block (a := ⟨w.heap.size, 2, none⟩) hblk4).trans x2
        have hx4 := Nat.lt_of_lt_of_le hx3 hg4.size
        clear hrp hg4 hblk4 hB3 hbX3 hx3
        go_wp2_with fail
        refine wp_region_held_drew (S := fun W => Below X4.heap.size X4 W) (by kernel_rfl) (Below.refl _ _).drew (fun hH => ?_)
        refine wpAnyH_take (i := 0) (v := .agg (bookL eB n).toArray) rfl (by kernel_rfl) (by kernel_rfl) (by kernel_rfl) (fun _ _ _ h => h) (yieldsIf_load_mid rfl 82 (.tmp 6) rfl pb 0 rfl (bookL eB n) _ (fun W hW => (hbX4.below hW).range) Try.underlying82 rfl (infoBook' eB n)) hH ?_
        simp only [Act.put, List.setIfInBounds_toArray]
        refine wpAnyH_take (i := 1) (v := .pointer (some ⟨w.heap.size, 1, none⟩)) rfl (by kernel_rfl) (by kernel_rfl) (by kernel_rfl) (fun _ _ _ h => h) (.inl ⟨rfl, fun W hW => by go_simp⟩) hH ?_
        simp only [Act.put]
        refine wpAnyH_take (i := 2) (v := .int .i64 gr) rfl (by kernel_rfl) (by kernel_rfl) (by kernel_rfl) (fun _ _ _ h => h) (.inl ⟨rfl, fun W hW => by have := (hW.cell (p := ⟨w.heap.size, 1, none⟩) hx4).trans x1; go_simp⟩) hH ?_
        simp only [Act.put]
        refine wpAnyH_take (i := 3) (v := .pointer (some ⟨w.heap.size, 2, none⟩)) rfl (by kernel_rfl) (by kernel_rfl) (by kernel_rfl) (fun _ _ _ h => h) (.inl ⟨rfl, fun W hW => by go_simp⟩) hH ?_
        simp only [Act.put]
        refine wpAnyH_take (i := 4) (v := .int .i64 ro) rfl (by kernel_rfl) (by kernel_rfl) (by kernel_rfl) (fun _ _ _ h => h) (.inl ⟨rfl, fun W hW => by have := (hW.cell (p := ⟨w.heap.size, 2, none⟩) hx4).trans x2; go_simp⟩) hH ?_
        simp only [Act.put]
        refine wpAnyH_take (i := 5) (v := .string lg) rfl (by kernel_rfl) (by kernel_rfl) (by kernel_rfl) (fun _ _ _ h => h) (.inl ⟨rfl, fun W hW => by go_simp⟩) hH ?_
        simp only [Act.put]
        refine wpAnyH_take (i := 6) (v := .int .i64 en) rfl (by kernel_rfl) (by kernel_rfl) (by kernel_rfl) (fun _ _ _ h => h) (.inl ⟨rfl, fun W hW => by go_simp⟩) hH ?_
        simp only [Act.put]
        refine wpAnyH_take (i := 7) (v := .string (lg.extract 0 en)) rfl (by kernel_rfl) (by kernel_rfl) (by kernel_rfl) (fun _ _ _ h => h) (.inl ⟨rfl, fun W hW => by go_simp⟩) hH ?_
        simp only [Act.put]
        refine wpAnyH_take (i := 8) (v := .string sn) rfl (by kernel_rfl) (by kernel_rfl) (by kernel_rfl) (fun _ _ _ h => h) (.inl ⟨rfl, fun W hW => by go_simp⟩) hH ?_
        simp only [Act.put]
        refine wpAnyH_ready (rs := [9]) (by kernel_rfl) (by simp) ?_
        refine AllReadyH.cons rfl (fun K hK => ?_) AllReadyH.nil
        go_simp
        refine (diskOf_any (lg.extract 0 en) sn X4.drew (by rw [ByteArray.size_extract]; omega) (by omega)).mono ?_
        rintro e X5 ⟨d, cc, rfl, hd, hcc, hD, hb5⟩
        have hB5 : Below X4.heap.size X4 X5 := ⟨hb5.os, hb5.tape, hb5.output, hb5.size, hb5.block⟩
        refine hK.out _ _ hB5 (fun hH5 => ?_)
        clear hK K hb5
        obtain ⟨C, hC, hCs, hC1, hC2, hC3, hC4⟩ := builtShop (bookL eB n) (bookL_len eB n) (.int .i64 gr) (.int .i64 ro) (.pointer (some ⟨d, 0, none⟩)) rfl rfl rfl
        refine wpAnyH_ready (rs := [10]) (by kernel_rfl) (by simp) ?_
        refine AllReadyH.cons rfl (fun K hK => ?_) AllReadyH.nil
        refine iteP rfl ?_
        refine wp_build' 91 _ rfl _ (by simp only [List.map_toArray, List.map_cons, List.map_nil]; rfl) C hC ?_
        refine hK.out _ _ hB5 (fun hH5 => ?_)
        clear hK K
        simp only [List.getElem_toArray, List.getElem_cons_succ, List.getElem_cons_zero, Act.put, List.setIfInBounds_toArray, List.set_cons_zero, List.set_cons_succ]
        have HC1 := hide hC1
        have HC4 := hide hC4
        clear hC hH hC1 hC2 hC3 hC4
        generalize (bookL eB n).toArray = LA
        refine wpAnyH_ready (rs := [11]) (by kernel_rfl) (by simp) ?_
        refine AllReadyH.cons rfl (fun K hK => ?_) AllReadyH.nil
        go_simp
        refine hK.out _ _ (hB5.alloc hB5.size _) (fun hH6 => ?_)
        clear hK K
        refine wpAnyH_ready (rs := [12]) (by kernel_rfl) (by simp) ?_
        refine AllReadyH.cons rfl (fun K hK => ?_) AllReadyH.nil
        go_simp
        refine hK.out _ _ hH6 (fun hH7 => ?_)
        clear hK K
        refine wpAnyH_ready (rs := [13]) (by kernel_rfl) (by simp) ?_
        refine AllReadyH.cons rfl (fun K hK => ?_) AllReadyH.nil
        go_simp
        refine hK.out _ _ hH6 (fun hH7 => ?_)
        clear hK K
        refine wpAnyH_done (by kernel_rfl) ?_ _
        have hB6 : Below w.heap.size w (X5.alloc (.cells C 91)) := hB4.trans (hH6.mono hB4.size)
        have hcel : ∀ o, (X5.alloc (.cells C 91)).cell? ⟨X5.heap.size, o, none⟩ = C[o]? := fun o => World.cell?_alloc_mark X5 C 91 (0, 0) o
        have hSh : ShopAt (X5.alloc (.cells C 91)) X5.heap.size eB n := by
          refine ⟨PBook.ofCells (fun o ho => ?_) (fun o => by simp [go_sem]) (by simp), d, cc, 0, 0, 0, false, ?_, ?_, ?_⟩
          · rw [hcel, HC1.out o ho, bookL_at eB n o ho]
          · rw [hcel, HC4.out]
          · exact (hD.below ((Below.refl _ _).alloc (Nat.le_refl _) _)).c0
          · exact (hD.below ((Below.refl _ _).alloc (Nat.le_refl _) _)).ch
        have hSh2 : ∀ g W'', g < w.heap.size → (X5.alloc (.cells C 91)).grownBy W'' (some g) → ShopAt W'' X5.heap.size eB n := by
          intro g W'' hgw hgr
          have hdl := (hD.below ((Below.refl X5.heap.size X5).alloc (Nat.le_refl _) (.cells C 91)))
          have hX4 : X4.drew.heap.size = X4.heap.size := rfl
          have h4 := hB4.size
          have h5 := hB5.size
          have hblk : ∀ k, w.heap.size ≤ k → k < (X5.alloc (.cells C 91)).heap.size → W''.heap[k]? = (X5.alloc (.cells C 91)).heap[k]? := fun k h1 h2 => hgr.block k h2 (fun e => by injection e with e; omega)
          have hdd := hdl.of_block (W' := W'') (hblk d (by omega) hdl.lt) (hblk cc (by omega) (Array.getElem?_eq_some_iff.1 hdl.ch).1)
          have hq := hblk X5.heap.size (by omega) (by simp)
          refine ⟨hSh.bk.of_block hq (Nat.lt_of_lt_of_le hSh.bk.lt hgr.size), d, cc, 0, 0, 0, false, ?_, hdd.c0, hdd.ch⟩
          rw [World.cell?_of_block hq, hcel, HC4.out]
        have HB6 := hide hB6
        have HSh2 := hide hSh2
        have HSh := hide hSh
        have hql : w.heap.size ≤ X5.heap.size := Nat.le_trans hB4.size hB5.size
        clear hB6 hSh hSh2 hcel HC1 HC4 hD hH6 hH7 hH5 hB5 hbX4 x1 x2
        go_wp2
        go_ret2
        refine ⟨HB6.out, ?_⟩
        rw [Hoo.out]
        exact ⟨_, rfl, hql, HSh.out, HSh2.out⟩
      · have ho : OO = (4, none) := by rw [Ho.out, hBs]
        have Ho2 := hide ho
        clear ho hBs
        go_wp2
        go_ret2
        exact ⟨hBX, by rw [Ho2.out]; rfl⟩
end Go.Proofs.Ytidacihlalbohaa
