/- The law's own all, opened and Opened. -/
import Derived.Test.YtidacihlalbohaaLawAsk
import Derived.Test.YtidacihlalbohaaLawFiles
import Derived.Test.YtidacihlalbohaaPOpen
import Derived.Test.YtidacihlalbohaaRefOpen
namespace Go.Proofs.Ytidacihlalbohaa
open Go.RowKit

set_option maxRecDepth 100000 in
set_option maxHeartbeats 2000000 in
theorem all_any (b q r p : Nat) (B : Md.Bk) (n : Nat) (v : Value) (w : World) (h : PairAt w b q r p B n v) (hI : Md.Inv B n) :
    Calls Try.prog 11 #[.pointer (some ⟨b, 0, none⟩)] w fun e w' => e = .returned (.bool true) ∧ Below w.heap.size w w' := by
  have H := hide h
  have HI := hide hI
  clear h hI
  go_enter Try.func11, Try.ntmps11
  go_wp2
  go_loopw [3] (fun i wr => ∃ k : Int, -1 ≤ k ∧ k ≤ 52 ∧ i = .int .i64 k ∧ Below w.heap.size w wr) (fun i _ => (52 - intOf i).toNat)
  case atStart => exact ⟨-1, by omega, by omega, rfl, Below.refl _ _⟩
  case round =>
    obtain ⟨k, hk1, hk2, rfl, hB⟩ := hrel
    by_cases hk : k ≤ 51
    · go_wp2_with fail
      refine (askedCell_any b q r p B n v k wr (H.out.below hB) HI.out).mono ?_
      rintro e W1 ⟨rfl, hb1⟩
      have hB1 := hB.trans (hb1.mono hB.size)
      clear hb1
      go_wp2_with fail
      refine (askedHold_any b q r p B n v k W1 (H.out.below hB1) HI.out).mono ?_
      rintro e W2 ⟨rfl, hb2⟩
      have hB2 := hB1.trans (hb2.mono hB1.size)
      clear hb2 hB1
      go_wp2
      go_roundw
      case rel => exact ⟨k + 1, by omega, by omega, by go_num, hB2⟩
      case measure => simp [intOf]; omega
    · go_wp2_with fail
      refine (askedClock_any b q r p B n v wr (H.out.below hB)).mono ?_
      rintro e W1 ⟨rfl, hb1⟩
      have hB1 := hB.trans (hb1.mono hB.size)
      clear hb1
      go_wp2_with fail
      refine (askedCount_any b q r p B n v W1 (H.out.below hB1)).mono ?_
      rintro e W2 ⟨rfl, hb2⟩
      have hB2 := hB1.trans (hb2.mono hB1.size)
      clear hb2 hB1
      go_wp2
      go_ret
      exact ⟨rfl, hB2⟩


namespace Md
theorem replayL_inv (n : Nat) (had : Int) : ∀ (l : List (List UInt8)) (f : Bool) (a : Int) (C : Bk) (out : List UInt8), Inv C n → Inv (replayL n had l f a C out).1 n
  | [], _, _, _, _, h => h
  | s :: l, f, a, C, out, h => by
    rw [replayL]
    split
    · split
      · split
        · rename_i hn
          unfold isNew at hn
          rw [Bool.and_eq_true] at hn
          exact replayL_inv n had l _ _ _ _ (h.doReq hn.2)
        · exact h
      · exact replayL_inv n had l _ _ _ _ h
    · exact h
theorem opens_form (l : List Fl) (c : Cf) : (∃ k, opens l c = (k, none) ∧ k ≠ 0) ∨ (∃ B, opens l c = (0, some B) ∧ Inv B c.window.toNat) := by
  unfold opens
  split
  · split
    · cases h : snapBook l with
      | none => exact .inl ⟨4, rfl, by omega⟩
      | some B => exact .inr ⟨_, rfl, replayL_inv _ _ _ _ _ _ _ (snapBook_fine h _).1⟩
    · exact .inl ⟨3, rfl, by omega⟩
  · exact .inl ⟨2, rfl, by omega⟩
end Md

/-- The files that were handed over may be written over. -/
structure HandFree (W : World) (g len : Nat) : Prop where
  ce : ∀ i, i < len * 2 → ∃ s : ByteArray, W.cell? ⟨g, i, none⟩ = some (.string s)
  fz : ∀ o, W.frozen? ⟨g, o, none⟩ = false
  lt : g < W.heap.size
theorem HandFree.of_block {W W' : World} {g len : Nat} (h : HandFree W g len) (hb : W'.heap[g]? = W.heap[g]?) (hl : g < W'.heap.size) : HandFree W' g len :=
  ⟨fun i hi => by obtain ⟨s, hs⟩ := h.ce i hi; exact ⟨s, (World.cell?_of_block hb).trans hs⟩, fun o => (World.frozen?_of_block hb).trans (h.fz o), hl⟩
theorem HandFree.below {W W' : World} {g len : Nat} (h : HandFree W g len) (hb : Below W.heap.size W W') : HandFree W' g len := h.of_block (hb.block g h.lt) (Nat.lt_of_lt_of_le h.lt hb.size)
theorem HandFree.put {W : World} {g len : Nat} (h : HandFree W g len) (o : Nat) (s : ByteArray) : HandFree (W.setCell ⟨g, o, none⟩ (.string s)) g len :=
  ⟨fun i hi => by
    obtain ⟨t, ht⟩ := h.ce i hi
    by_cases e : i = o
    · subst e; exact ⟨s, put_same ht⟩
    · exact ⟨t, put_other ht e⟩, fun o' => (World.frozen?_setCell _ _ _ _).trans (h.fz o'), by rw [size_put]; exact h.lt⟩
theorem HandAt.free {W : World} {g : Nat} {k c : Nat} {l : List Md.Fl} (h : HandAt W (.slice (some ⟨g, 0, none⟩) k c) l) (hg : g < W.heap.size) : HandFree W g l.length ∧ k = l.length ∧ c = l.length + 8 ∧ l.length + 8 ≤ maxLen := by
  obtain ⟨g', e, hm, hc, _, hf⟩ := h.fl
  cases e
  refine ⟨⟨fun i hi => ?_, hf, hg⟩, rfl, rfl, hm⟩
  have hk : i / 2 < l.length := by omega
  obtain ⟨c1, c2⟩ := hc (i / 2) l[i / 2] (List.getElem?_eq_getElem hk)
  by_cases e : i % 2 = 0
  · have e2 : (⟨g, i, none⟩ : Addr) = ⟨g, i / 2 * 2, none⟩ := by rw [show i / 2 * 2 = i by omega]
    exact ⟨_, by rw [e2]; exact c1⟩
  · have e2 : (⟨g, i, none⟩ : Addr) = ⟨g, i / 2 * 2 + 1, none⟩ := by rw [show i / 2 * 2 + 1 = i by omega]
    exact ⟨_, by rw [e2]; exact c2⟩
theorem HandAt.below {W W' : World} {v : Value} {l : List Md.Fl} (h : HandAt W v l) (hg : ∀ g k c, v = .slice (some ⟨g, 0, none⟩) k c → g < W.heap.size) (hb : Below W.heap.size W W') : HandAt W' v l := by
  obtain ⟨g, e, hm, hc, hk, hf⟩ := h.fl
  have hl := hg g _ _ e
  refine ⟨g, e, hm, fun k x hx => ?_, fun j hj => ?_, fun o => (hb.frozen (p := ⟨g, o, none⟩) hl).trans (hf o)⟩
  · obtain ⟨c1, c2⟩ := hc k x hx
    exact ⟨(hb.cell (p := ⟨g, k * 2, none⟩) hl).trans c1, (hb.cell (p := ⟨g, k * 2 + 1, none⟩) hl).trans c2⟩
  · obtain ⟨c1, c2⟩ := hk j hj
    exact ⟨(hb.cell (p := ⟨g, (l.length + j) * 2, none⟩) hl).trans c1, (hb.cell (p := ⟨g, (l.length + j) * 2 + 1, none⟩) hl).trans c2⟩

def OpenedPost (w' : World) (e : Ending) (n : Nat) : Option Md.Bk → Prop
  | none => e = .returned (.tuple #[.pointer none, .bool true])
  | some B => ∃ b q r p v, e = .returned (.tuple #[.pointer (some ⟨b, 0, none⟩), .bool true]) ∧ PairAt w' b q r p B n v

set_option maxRecDepth 100000 in
set_option maxHeartbeats 4000000 in
theorem opened_any (va : Value) (l : List Md.Fl) (c : Md.Cf) (w : World) (hf : FilesAt w va l) (hz : ∀ x ∈ l, x.data.size ≤ 1099511627776) (hl : l.length ≤ 1099511627776) :
    Calls Try.prog 10 #[va, .agg (cfA c)] w fun e w' => Below w.heap.size w w' ∧ OpenedPost w' e c.window.toNat (Md.opens l c).2 := by
  have hform := Md.opens_form l c
  obtain ⟨wi, gr, ro⟩ := c
  have hpo := fun a cap W (hf : FilesAt W (.slice a l.length cap) l) (hcap : l.length ≤ cap) => sOpen_any a cap l ⟨wi, gr, ro⟩ W hf hcap hz
  have hro := fun W (hf : FilesAt W va l) => refOpen_any va l ⟨wi, gr, ro⟩ W hf hz
  obtain ⟨n, hn⟩ : ∃ n, wi.toNat = n := ⟨_, rfl⟩
  obtain ⟨OO, hOO⟩ : ∃ OO, Md.opens l ⟨wi, gr, ro⟩ = OO := ⟨_, rfl⟩
  dsimp only at hform
  rw [hOO] at hform ⊢
  simp only [hOO] at hpo hro
  unfold cfA at hpo hro ⊢
  dsimp only at hpo hro ⊢
  rw [hn] at hform ⊢
  simp only [hn] at hpo
  have Hpo := hide hpo
  have Hro := hide hro
  have Hform := hide hform
  have Hf := hide hf
  clear hOO hform hn hpo hro
  go_enter Try.func10, Try.ntmps10
  have hbx := (Below.refl w.heap.size w).alloc (Nat.le_refl _) (.cells #[.int .i64 wi, .int .i64 gr, .int .i64 ro] 32)
  have x0 : (w.alloc (.cells #[.int .i64 wi, .int .i64 gr, .int .i64 ro] 32)).cell? ⟨w.heap.size, 0, none⟩ = some (.int .i64 wi) := by simp [go_sem]
  have x1 : (w.alloc (.cells #[.int .i64 wi, .int .i64 gr, .int .i64 ro] 32)).cell? ⟨w.heap.size, 1, none⟩ = some (.int .i64 gr) := by simp [go_sem]
  have x2 : (w.alloc (.cells #[.int .i64 wi, .int .i64 gr, .int .i64 ro] 32)).cell? ⟨w.heap.size, 2, none⟩ = some (.int .i64 ro) := by simp [go_sem]
  have hxl : w.heap.size < (w.alloc (.cells #[.int .i64 wi, .int .i64 gr, .int .i64 ro] 32)).heap.size := by simp
  go_wp2_with fail
  generalize w.alloc (.cells #[.int .i64 wi, .int .i64 gr, .int .i64 ro] 32) = W0 at hbx x0 x1 x2 hxl ⊢
  refine (filesOf_any va l W0 (Hf.out.below hbx) hl).mono ?_
  rintro e W1 ⟨vo, rfl, hH1, hgv, hb1⟩
  have hB1 : Below w.heap.size w W1 := hbx.trans (hb1.mono hbx.size)
  replace x0 := (hb1.cell (p := ⟨w.heap.size, 0, none⟩) hxl).trans x0
  replace x1 := (hb1.cell (p := ⟨w.heap.size, 1, none⟩) hxl).trans x1
  replace x2 := (hb1.cell (p := ⟨w.heap.size, 2, none⟩) hxl).trans x2
  have hxl1 : w.heap.size < W1.heap.size := Nat.lt_of_lt_of_le hxl hb1.size
  obtain ⟨g, cap, hvo, hgl⟩ : ∃ g cap, vo = .slice (some ⟨g, 0, none⟩) l.length cap ∧ g < W1.heap.size := by
    obtain ⟨g, e, hm, hc, hk, _⟩ := hH1.fl
    exact ⟨g, _, e, World.block_lt_of_cell? W1 ⟨g, (l.length + 0) * 2, none⟩ (hk 0 (by omega)).1⟩
  subst hvo
  have hgw := hgv g _ _ rfl
  have hgw : w.heap.size ≤ g := Nat.le_trans hbx.size hgw
  obtain ⟨hF1, _, hcap, hml⟩ := hH1.free hgl
  subst hcap
  have hFl := hide hH1.files
  have HH1 := hide hH1
  clear hgv hb1 hbx hH1 hf
  go_wp2_with fail
  refine (Hpo.out _ _ W1 hFl.out (by omega)).mono ?_
  rintro e W2 ⟨hb2, hpost⟩
  have hB2 : Below w.heap.size w W2 := hB1.trans (hb2.mono hB1.size)
  replace x0 := (hb2.cell (p := ⟨w.heap.size, 0, none⟩) hxl1).trans x0
  replace x1 := (hb2.cell (p := ⟨w.heap.size, 1, none⟩) hxl1).trans x1
  replace x2 := (hb2.cell (p := ⟨w.heap.size, 2, none⟩) hxl1).trans x2
  have hxl2 : w.heap.size < W2.heap.size := Nat.lt_of_lt_of_le hxl1 hb2.size
  have hH2 := HH1.out.below (fun g' k c e => by cases e; exact hgl) hb2
  have hgl2 := Nat.lt_of_lt_of_le hgl hb2.size
  have hF2 := hF1.below hb2
  have HH2 := hide hH2
  clear hH2 HH1 hFl hF1 hB1
  have Hpost := hide hpost
  rcases Hform.out with ⟨k, rfl, hk⟩ | ⟨B, rfl, hI⟩
  · have hp2 : e = .returned (.tuple #[.pointer none, .int .i64 k]) := Hpost.out
    subst hp2
    have hkb : (k != 0) = true := by simp [hk]
    clear Hpost hpost hb2 hxl1 hgl
    go_wp2_with fail
    refine (Hro.out W2 (Hf.out.below hB2)).mono ?_
    rintro e W3 ⟨hb3, hpr⟩
    have hB3 : Below w.heap.size w W3 := hB2.trans (hb3.mono hB2.size)
    have hH3 := HH2.out.below (fun g' k c e => by cases e; exact hgl2) hb3
    have hgl3 := Nat.lt_of_lt_of_le hgl2 hb3.size
    have hF3 := hF2.below hb3
    have HH3 := hide hH3
    clear hH3 HH2 hF2
    have hp3 : e = .returned (.tuple #[.pointer none, .int .i64 k]) := hpr
    subst hp3
    clear hpr hb3
    go_wp2_with fail
    refine (stillFiles_any _ va l W3 HH3.out (Hf.out.below hB3)).mono ?_
    rintro e W4 ⟨rfl, hb4⟩
    have hB4 : Below w.heap.size w W4 := hB3.trans (hb4.mono hB3.size)
    have hF4 := hF3.below hb4
    clear hF3 HH3 x0 x1 x2 hxl2
    obtain ⟨len, hlen⟩ : ∃ len, l.length = len := ⟨_, rfl⟩
    rw [hlen] at hF4 hl hml ⊢
    have hlm : (len : Int) ≤ 9223372036854775807 := by omega
    clear hb4 hB2 hB3 hgl3
    go_wp2
    go_loopw [12] (fun i wr => ∃ j : Nat, j ≤ len ∧ i = .int .i64 j ∧ W4.grownBy wr (some g) ∧ Hid (HandFree wr g len)) (fun i _ => len - (intOf i).toNat)
    case atStart => exact ⟨0, Nat.zero_le _, rfl, grown_refl _ _, hide hF4⟩
    case round =>
      obtain ⟨j, hj, rfl, hgr, hFr⟩ := hrel
      by_cases hjl : j < len
      · have hjl' : (j : Int) < (len : Int) := by omega
        go_wp2_with fail
        refine (markFile_any wr).mono ?_
        rintro e X ⟨rfl, hbx⟩
        have hF5 := hFr.out.below hbx
        obtain ⟨s1, e1⟩ := hF5.ce (j * 2) (by omega)
        obtain ⟨s2, e2⟩ := hF5.ce (j * 2 + 1) (by omega)
        have ef := hF5.fz
        have el := hF5.lt
        have HF5 := hide hF5
        have hg5 : W4.grownBy X (some g) := grown_trans hgr (grown_below hbx)
        clear hF5 hbx hFr hgr
        go_wp2
        go_roundw
        case rel => exact ⟨j + 1, by omega, by go_num, grown_trans (grown_trans hg5 (grown_put _ _ _ _)) (grown_put _ _ _ _), hide ((HF5.out.put _ _).put _ _)⟩
        case measure => simp [intOf]; omega
      · obtain rfl : j = len := by omega
        go_wp2
        go_ret2
        refine ⟨?_, rfl⟩
        exact ⟨hgr.os.trans hB4.os, hgr.tape.trans hB4.tape, hgr.output.trans hB4.output, Nat.le_trans hB4.size hgr.size, fun k hk => (hgr.block k (Nat.lt_of_lt_of_le hk hB4.size) (fun e => by injection e with e; omega)).trans (hB4.block k hk)⟩
  · obtain ⟨q, hp2, hqw, hsh, hshk⟩ := Hpost.out
    subst hp2
    have Hshk := hide hshk
    clear Hpost hpost hsh hshk
    go_wp2_with fail
    refine (Hro.out W2 (Hf.out.below hB2)).mono ?_
    rintro e W3 ⟨hb3, hpr⟩
    have hB3 : Below w.heap.size w W3 := hB2.trans (hb3.mono hB2.size)
    have hH3 := HH2.out.below (fun g' k c e => by cases e; exact hgl2) hb3
    have hgl3 := Nat.lt_of_lt_of_le hgl2 hb3.size
    have hF3 := hF2.below hb3
    have HH3 := hide hH3
    clear hH3 HH2 hF2
    obtain ⟨r, p, v, hp3, hrw, hpw, hak, hbk⟩ := hpr
    subst hp3
    go_wp2_with fail
    refine (stillFiles_any _ va l W3 HH3.out (Hf.out.below hB3)).mono ?_
    rintro e W4 ⟨rfl, hb4⟩
    have hB4 : Below w.heap.size w W4 := hB3.trans (hb4.mono hB3.size)
    have hF4 := hF3.below hb4
    clear hF3 HH3 x0 x1 x2 hxl2
    obtain ⟨len, hlen⟩ : ∃ len, l.length = len := ⟨_, rfl⟩
    rw [hlen] at hF4 hl hml ⊢
    have hlm : (len : Int) ≤ 9223372036854775807 := by omega
    have hak4 := hak.below hb4
    have hbk4 := hbk.of_block (W' := W4) (hb4.block p hbk.lt) (Nat.lt_of_lt_of_le hbk.lt hb4.size)
    have h24 : W2.grownBy W4 (some g) := grown_trans (grown_below hb3) (grown_below hb4)
    have hrg : r ≠ g := by omega
    have hpg : p ≠ g := by omega
    have Hak := hide hak4
    have Hbk := hide hbk4
    have H24 := hide h24
    clear hak hbk hak4 hbk4 h24 hb4 hb3 hb2 hB2 hB3
    go_wp2
    go_loopw [12] (fun i wr => ∃ j : Nat, j ≤ len ∧ i = .int .i64 j ∧ W4.grownBy wr (some g) ∧ Hid (HandFree wr g len)) (fun i _ => len - (intOf i).toNat)
    case atStart => exact ⟨0, Nat.zero_le _, rfl, grown_refl _ _, hide hF4⟩
    case round =>
      obtain ⟨j, hj, rfl, hgr, hFr⟩ := hrel
      by_cases hjl : j < len
      · have hjl' : (j : Int) < (len : Int) := by omega
        go_wp2_with fail
        refine (markFile_any wr).mono ?_
        rintro e X ⟨rfl, hbx⟩
        have hF5 := hFr.out.below hbx
        obtain ⟨s1, e1⟩ := hF5.ce (j * 2) (by omega)
        obtain ⟨s2, e2⟩ := hF5.ce (j * 2 + 1) (by omega)
        have ef := hF5.fz
        have el := hF5.lt
        have HF5 := hide hF5
        have hg5 : W4.grownBy X (some g) := grown_trans hgr (grown_below hbx)
        clear hF5 hbx hFr hgr
        go_wp2
        go_roundw
        case rel => exact ⟨j + 1, by omega, by go_num, grown_trans (grown_trans hg5 (grown_put _ _ _ _)) (grown_put _ _ _ _), hide ((HF5.out.put _ _).put _ _)⟩
        case measure => simp [intOf]; omega
      · obtain rfl : j = len := by omega
        have hak5 : AskAt wr r p false := by
          have hb := hgr.block r Hak.out.lt (fun e => by injection e with e; exact hrg e)
          exact ⟨(World.cell?_of_block hb).trans Hak.out.dn, (World.cell?_of_block hb).trans Hak.out.bk, Nat.lt_of_lt_of_le Hak.out.lt hgr.size⟩
        have hbk5 : BookAt wr p B v := Hbk.out.of_block (hgr.block p Hbk.out.lt (fun e => by injection e with e; exact hpg e)) (Nat.lt_of_lt_of_le Hbk.out.lt hgr.size)
        have hsh5 : ShopAt wr q B n := Hshk.out g wr hgl (grown_trans H24.out hgr)
        have hB5 : Below w.heap.size w wr := ⟨hgr.os.trans hB4.os, hgr.tape.trans hB4.tape, hgr.output.trans hB4.output, Nat.le_trans hB4.size hgr.size, fun k hk => (hgr.block k (Nat.lt_of_lt_of_le hk hB4.size) (fun e => by injection e with e; omega)).trans (hB4.block k hk)⟩
        have Hak5 := hide hak5
        have Hbk5 := hide hbk5
        have Hsh5 := hide hsh5
        clear hak5 hbk5 hsh5 Hak Hbk H24 Hshk hFr
        go_wp2
        go_ret2
        refine ⟨hB5.alloc hB5.size _, wr.heap.size, q, r, p, v, rfl, ?_⟩
        have hA := (Below.refl wr.heap.size wr).alloc (Nat.le_refl _) (.cells #[.pointer (some ⟨q, 0, none⟩), .pointer (some ⟨r, 0, none⟩)] 58)
        exact ⟨by simp [go_sem], by simp [go_sem], Hsh5.out.below hA, Hak5.out.below hA, Hbk5.out.of_block (hA.block p Hbk5.out.lt) (Nat.lt_of_lt_of_le Hbk5.out.lt hA.size)⟩
end Go.Proofs.Ytidacihlalbohaa
