/- The program reads the holds of a snapshot. -/
import Derived.Test.YtidacihlalbohaaPNew
import Derived.Deep.RegionWith
namespace Go.Proofs.Ytidacihlalbohaa
open Go.RowKit

namespace Md
def hOk (s : List UInt8) (clock : Int) (j : Nat) : Prop := inR (hNo s j) (prevNo s j + 1) 50 = true ∧ inR (hCell s j) 0 7 = true ∧ inR (hCount s j) 1 1000000 = true ∧ inR (hTime s j) (clock + 1) 1000000000 = true
/-- Holds put into a book one behind the other. -/
def hFold (s : List UInt8) (B : Bk) : Nat → Bk
  | 0 => B
  | k + 1 => putHold (hFold s B k) (hNo s k).toNat (hCell s k) (hCount s k) (hTime s k)
theorem bound_in {n lo hi : Int} (h : inR n lo hi = true) : bound n lo hi = n := by unfold bound; rw [h]; rfl
theorem bound_bd {n lo hi : Int} (h1 : 0 ≤ lo) (h2 : 0 ≤ hi) : 0 ≤ bound n lo hi ∧ bound n lo hi ≤ hi := by
  unfold bound
  split
  · rename_i h; rw [inR_true] at h; omega
  · omega
end Md

/-- What the reader and the book are like when j holds are read. -/
structure HSt (W : World) (p q : Nat) (s : ByteArray) (B : Md.Bk) (n : Nat) (bad1 : Bool) (j : Nat) (num : Int) (bad : Bool) (B' : Md.Bk) : Prop where
  rd : RdAt W q s (19 + 4 * j) bad
  bk : PBook W p B' n
  nm : 0 ≤ num ∧ num ≤ 50
  on : B'.onHand = B.onHand
  co : B'.committed = B.committed
  cl : B'.clock = B.clock
  cn : B'.count = B.count
  pa : B'.past = B.past
  good : bad = false → bad1 = false ∧ (∀ i, i < j → Md.hOk s.data.toList B.clock i) ∧ B' = Md.hFold s.data.toList B j ∧ num = Md.prevNo s.data.toList j ∧ Md.lack s (19 + 4 * j) = false
  fine : bad1 = false → (∀ i, i < j → Md.hOk s.data.toList B.clock i) → Md.lack s (19 + 4 * j) = false → bad = false

theorem lack_mono {s : ByteArray} {a b : Nat} (h : Md.lack s b = false) (hab : a ≤ b) : Md.lack s a = false := by
  unfold Md.lack at h ⊢
  have := of_decide_eq_false h
  exact decide_eq_false (by omega)
theorem kept_q {p q : Nat} {a b c : World} (h : Kept2 p (some q) a b) (g : b.grownBy c (some q)) : Kept2 p (some q) a c :=
  ⟨g.os.trans h.os, g.tape.trans h.tape, g.output.trans h.output, Nat.le_trans h.size g.size, fun k hk hp hr => (g.block k (Nat.lt_of_lt_of_le hk h.size) hr).trans (h.block k hk hp hr)⟩
theorem kept_p {p q : Nat} {a b c : World} (h : Kept2 p (some q) a b) (g : b.grownBy c (some p)) : Kept2 p (some q) a c :=
  ⟨g.os.trans h.os, g.tape.trans h.tape, g.output.trans h.output, Nat.le_trans h.size g.size, fun k hk hp hr => (g.block k (Nat.lt_of_lt_of_le hk h.size) (fun e => by cases e; exact hp rfl)).trans (h.block k hk hp hr)⟩
theorem kept_refl (p q : Nat) (a : World) : Kept2 p (some q) a a := ⟨rfl, rfl, rfl, Nat.le_refl _, fun _ _ _ _ => rfl⟩
theorem RdAt.drew {W : World} {q : Nat} {s : ByteArray} {i : Nat} {bad : Bool} (hr : RdAt W q s i bad) : RdAt W.drew q s i bad := ⟨hr.le, hr.ba, hr.fz, hr.lt⟩

set_option maxRecDepth 100000 in
set_option maxHeartbeats 4000000 in
theorem readHolds_any (p q : Nat) (s : ByteArray) (B : Md.Bk) (n : Nat) (bad : Bool) (w : World) (hr : RdAt w q s 18 bad) (hb : PBook w p B n) (hpq : p ≠ q) (hck : 0 ≤ B.clock ∧ B.clock ≤ 1000000000) :
    Calls Try.prog 84 #[.pointer (some ⟨p, 0, none⟩), .pointer (some ⟨q, 0, none⟩)] w fun e w' => e = .returned (.tuple #[]) ∧
      (∃ num bad' B', HSt w' p q s B n (bad || Md.lack s 19 || !Md.inR (Md.numAt s.data.toList 18) 0 50) (Md.bound (Md.numAt s.data.toList 18) 0 50).toNat num bad' B') ∧ Kept2 p (some q) w w' := by
  obtain ⟨k1, k2⟩ := hck
  have hwi := within_any q s 18 bad 0 50 w hr
  have hlt := hb.lt
  have hql := hr.lt
  obtain ⟨LV, hLV⟩ : ∃ LV, Md.bound (Md.numAt s.data.toList 18) 0 50 = LV := ⟨_, rfl⟩
  have hLb := Md.bound_bd (n := Md.numAt s.data.toList 18) (lo := 0) (hi := 50) (by omega) (by omega)
  rw [hLV] at hwi hLb ⊢
  obtain ⟨bad1, hb1⟩ : ∃ b, (bad || Md.lack s (18 + 1) || !Md.inR (Md.numAt s.data.toList 18) 0 50) = b := ⟨_, rfl⟩
  rw [hb1] at hwi
  have hb1' : (bad || Md.lack s 19 || !Md.inR (Md.numAt s.data.toList 18) 0 50) = bad1 := hb1
  rw [hb1']
  obtain ⟨lv, rfl⟩ := Int.eq_ofNat_of_zero_le hLb.1
  have Hb := hide hb
  have Hb1 := hide hb1'
  clear hb hb1 hb1' hLV
  go_enter Try.func84, Try.ntmps84
  go_wp2_with fail
  refine hwi.mono ?_
  rintro e W ⟨rfl, hr1, hg1⟩
  have hbW := Hb.out.of_block (W' := W) (hg1.block p hlt (fun e => by cases e; exact hpq rfl)) (Nat.lt_of_lt_of_le hlt hg1.size)
  have hst0 : HSt W p q s B n bad1 0 0 bad1 B := by
    refine ⟨hr1, hbW, by omega, rfl, rfl, rfl, rfl, rfl, fun h => ⟨h, fun i hi => by omega, rfl, rfl, ?_⟩, fun h _ _ => h⟩
    have := Hb1.out
    rw [h, Bool.or_eq_false_iff, Bool.or_eq_false_iff] at this
    exact this.1.2
  have Hst0 := hide hst0
  have hk0 := kept_q (kept_refl p q w) hg1
  clear hwi hr1 hbW hst0 Hb hg1 hr
  go_wp2
  go_loopw [5, 9] (fun a i wr => ∃ (j : Nat) (num : Int) (bad' : Bool) (B' : Md.Bk), j ≤ lv ∧ i = .int .i64 j ∧ a = .int .i64 num ∧ Hid (HSt wr p q s B n bad1 j num bad' B') ∧ Kept2 p (some q) w wr) (fun _ i _ => lv - (intOf i).toNat)
  case atStart => exact ⟨0, 0, bad1, B, Nat.zero_le _, rfl, rfl, Hst0, hk0⟩
  case round =>
    clear Hst0 hk0
    obtain ⟨j, num, bad', B', hj, rfl, rfl, hst, hk⟩ := hrel
    by_cases hjl : j < lv
    · have hjl' : (j : Int) < (lv : Int) := by omega
      obtain ⟨n1, n2⟩ := hst.out.nm
      have w1 := within_any q s (19 + 4 * j) bad' (num + 1) 50 wr hst.out.rd
      have hpr := hst.out.bk.lt
      have hqr := hst.out.rd.lt
      go_wp2_with fail
      refine w1.mono ?_
      rintro e W1 ⟨rfl, r1, g1⟩
      clear w1
      have hb1 := hst.out.bk.of_block (W' := W1) (g1.block p hpr (fun e => by cases e; exact hpq rfl)) (Nat.lt_of_lt_of_le hpr g1.size)
      have hcb := Md.bound_bd (n := Md.numAt s.data.toList (19 + 4 * j)) (lo := num + 1) (hi := 50) (by omega) (by omega)
      obtain ⟨N1, hN1⟩ : ∃ N1, Md.bound (Md.numAt s.data.toList (19 + 4 * j)) (num + 1) 50 = N1 := ⟨_, rfl⟩
      rw [hN1] at hcb ⊢
      obtain ⟨h, rfl⟩ := Int.eq_ofNat_of_zero_le hcb.1
      have hh : h < 51 := by omega
      have hh' : (h : Int) < 51 := by omega
      have hcl := hb1.cl
      rw [hst.out.cl] at hcl
      have hpl1 := hb1.lt
      have d0 := hb1.hc h hh
      have d1 := hb1.hn h hh
      have d2 := hb1.ht h hh
      have df := hb1.fz
      have r1d := r1.drew
      have Hbk := hide hb1.drew
      have Hgt : Hid (W1.grownBy W1.drew (some q)) := hide (grown_drew (grown_below (Below.refl _ _)))
      have HN1 := hide hN1
      have wc : IntKind.i64.wrap (B.clock + 1) = B.clock + 1 := by rw [IntKind.wrap_i64]; omega
      clear hb1 hN1 hcb
      go_wp2_with fail
      go_region_with (go_at_call 83; refine (within_any q s _ _ _ _ _ (by assumption)).mono ?_; rintro e W ⟨rfl, rr, gg⟩; have Hbk := hide (Hbk.out.of_block (W' := W) (gg.block p hpl1 (fun e => by cases e; exact hpq rfl)) (Nat.lt_of_lt_of_le hpl1 gg.size)); have Hgt := hide (grown_trans Hgt.out gg); have hcl := (World.cell?_of_block (a := ⟨p, 169, none⟩) (gg.block p hpl1 (fun e => by cases e; exact hpq rfl))).trans hcl; have d0 := (World.cell?_of_block (a := ⟨p, 16 + h * 3, none⟩) (gg.block p hpl1 (fun e => by cases e; exact hpq rfl))).trans d0; have d1 := (World.cell?_of_block (a := ⟨p, 16 + h * 3 + 1, none⟩) (gg.block p hpl1 (fun e => by cases e; exact hpq rfl))).trans d1; have d2 := (World.cell?_of_block (a := ⟨p, 16 + h * 3 + 2, none⟩) (gg.block p hpl1 (fun e => by cases e; exact hpq rfl))).trans d2; have df := fun o => (World.frozen?_of_block (a := ⟨p, o, none⟩) (gg.block p hpl1 (fun e => by cases e; exact hpq rfl))).trans (df o); have hpl1 := Nat.lt_of_lt_of_le hpl1 gg.size)
      all_goals
        have hbF := Hbk.out.putHold hh (Md.bound (Md.numAt s.data.toList (19 + 4 * j + 1)) 0 7) (Md.bound (Md.numAt s.data.toList (19 + 4 * j + 1 + 1)) 1 1000000) (Md.bound (Md.numAt s.data.toList (19 + 4 * j + 1 + 1 + 1)) (B.clock + 1) 1000000000)
        have hrF : RdAt (((W.setCell ⟨p, 16 + h * 3, none⟩ (.int .i64 (Md.bound (Md.numAt s.data.toList (19 + 4 * j + 1)) 0 7))).setCell ⟨p, 16 + h * 3 + 1, none⟩ (.int .i64 (Md.bound (Md.numAt s.data.toList (19 + 4 * j + 1 + 1)) 1 1000000))).setCell ⟨p, 16 + h * 3 + 2, none⟩ (.int .i64 (Md.bound (Md.numAt s.data.toList (19 + 4 * j + 1 + 1 + 1)) (B.clock + 1) 1000000000))) q s (19 + 4 * j + 1 + 1 + 1 + 1) _ := rr.of_block ((put_block _ _ (Ne.symm hpq)).trans ((put_block _ _ (Ne.symm hpq)).trans (put_block _ _ (Ne.symm hpq)))) (by rw [size_put, size_put, size_put]; exact rr.lt)
        have hkF : Kept2 p (some q) w (((W.setCell ⟨p, 16 + h * 3, none⟩ (.int .i64 (Md.bound (Md.numAt s.data.toList (19 + 4 * j + 1)) 0 7))).setCell ⟨p, 16 + h * 3 + 1, none⟩ (.int .i64 (Md.bound (Md.numAt s.data.toList (19 + 4 * j + 1 + 1)) 1 1000000))).setCell ⟨p, 16 + h * 3 + 2, none⟩ (.int .i64 (Md.bound (Md.numAt s.data.toList (19 + 4 * j + 1 + 1 + 1)) (B.clock + 1) 1000000000))) := kept_p (kept_q (kept_q hk g1) Hgt.out) (grown_trans (grown_put W p _ _) (grown_trans (grown_put _ p _ _) (grown_put _ p _ _)))
        generalize ((W.setCell ⟨p, 16 + h * 3, none⟩ (.int .i64 (Md.bound (Md.numAt s.data.toList (19 + 4 * j + 1)) 0 7))).setCell ⟨p, 16 + h * 3 + 1, none⟩ (.int .i64 (Md.bound (Md.numAt s.data.toList (19 + 4 * j + 1 + 1)) 1 1000000))).setCell ⟨p, 16 + h * 3 + 2, none⟩ (.int .i64 (Md.bound (Md.numAt s.data.toList (19 + 4 * j + 1 + 1 + 1)) (B.clock + 1) 1000000000)) = F at hbF hrF hkF ⊢
        generalize hbb : (bad' || Md.lack s (19 + 4 * j + 1) || !Md.inR (Md.numAt s.data.toList (19 + 4 * j)) (num + 1) 50 || Md.lack s (19 + 4 * j + 1 + 1) || !Md.inR (Md.numAt s.data.toList (19 + 4 * j + 1)) 0 7 || Md.lack s (19 + 4 * j + 1 + 1 + 1) || !Md.inR (Md.numAt s.data.toList (19 + 4 * j + 1 + 1)) 1 1000000 || Md.lack s (19 + 4 * j + 1 + 1 + 1 + 1) || !Md.inR (Md.numAt s.data.toList (19 + 4 * j + 1 + 1 + 1)) (B.clock + 1) 1000000000) = bb at hrF
        have hnext : HSt F p q s B n bad1 (j + 1) h bb (Md.putHold B' h (Md.bound (Md.numAt s.data.toList (19 + 4 * j + 1)) 0 7) (Md.bound (Md.numAt s.data.toList (19 + 4 * j + 1 + 1)) 1 1000000) (Md.bound (Md.numAt s.data.toList (19 + 4 * j + 1 + 1 + 1)) (B.clock + 1) 1000000000)) := by
          have e4 : 19 + 4 * j + 1 + 1 + 1 + 1 = 19 + 4 * (j + 1) := by omega
          rw [e4] at hrF hbb
          refine ⟨hrF, hbF, by omega, hst.out.on, hst.out.co, hst.out.cl, hst.out.cn, hst.out.pa, fun hf => ?_, fun h1 h2 h3 => ?_⟩
          · rw [hf] at hbb
            simp only [Bool.or_eq_false_iff, Bool.not_eq_false'] at hbb
            obtain ⟨⟨⟨⟨⟨⟨⟨⟨x0, x1⟩, x2⟩, x3⟩, x4⟩, x5⟩, x6⟩, x7⟩, x8⟩ := hbb
            obtain ⟨y1, y2, y3, y4, y5⟩ := hst.out.good x0
            have ok : Md.hOk s.data.toList B.clock j := ⟨by rw [← y4]; exact x2, x4, x6, x8⟩
            have hh2 := HN1.out
            rw [Md.bound_in x2] at hh2
            have hno : Md.hNo s.data.toList j = h := hh2
            refine ⟨y1, fun i hi => ?_, ?_, ?_, x7⟩
            · by_cases e : i = j
              · subst e; exact ok
              · exact y2 i (by omega)
            · rw [Md.bound_in x4, Md.bound_in x6, Md.bound_in x8, y3, Md.hFold, hno]; rfl
            · show (h : Int) = Md.hNo s.data.toList j; rw [hno]
          · have ok := h2 j (by omega)
            have z0 := hst.out.fine h1 (fun i hi => h2 i (by omega)) (lack_mono h3 (by omega))
            obtain ⟨_, _, _, y4, _⟩ := hst.out.good z0
            have o1 := ok.1
            rw [← y4] at o1
            have o2 : Md.inR (Md.numAt s.data.toList (19 + 4 * j)) (num + 1) 50 = true := o1
            have o3 : Md.inR (Md.numAt s.data.toList (19 + 4 * j + 1)) 0 7 = true := ok.2.1
            have o4 : Md.inR (Md.numAt s.data.toList (19 + 4 * j + 1 + 1)) 1 1000000 = true := ok.2.2.1
            have o5 : Md.inR (Md.numAt s.data.toList (19 + 4 * j + 1 + 1 + 1)) (B.clock + 1) 1000000000 = true := ok.2.2.2
            rw [← hbb, z0, o2, o3, o4, o5, lack_mono (a := 19 + 4 * j + 1) h3 (by omega), lack_mono (a := 19 + 4 * j + 1 + 1) h3 (by omega), lack_mono (a := 19 + 4 * j + 1 + 1 + 1) h3 (by omega), h3]; rfl
        have Hnext := hide hnext
        clear hnext hbF hrF hbb
        go_wp2
        go_roundw
        case rel => exact ⟨j + 1, h, bb, _, by omega, by go_num, rfl, Hnext, hkF⟩
        case measure => simp [intOf]; omega
    · obtain rfl : j = lv := by omega
      go_wp2
      exact bodyPost_end (v := .tuple #[]) (by simp [results, Try.results84, go_sem]) rfl ⟨rfl, ⟨num, bad', B', by simpa using hst.out⟩, hk⟩
end Go.Proofs.Ytidacihlalbohaa
