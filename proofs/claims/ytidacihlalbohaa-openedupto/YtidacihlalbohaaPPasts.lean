/- The program reads what a snapshot remembers. -/
import Derived.Test.YtidacihlalbohaaPHolds
import Derived.Test.YtidacihlalbohaaPRecall
import Derived.Test.YtidacihlalbohaaPPast
import Derived.Test.YtidacihlalbohaaPReq
import Derived.Test.YtidacihlalbohaaPDo
namespace Go.Proofs.Ytidacihlalbohaa
open Go.RowKit

/-- What the reader and the book are like when k remembered requests are read. -/
structure PSt (W : World) (p q : Nat) (s : ByteArray) (B : Md.Bk) (a : Nat) (bad1 : Bool) (k : Nat) (bad : Bool) (l : List Md.Past) : Prop where
  rd : RdAt W q s (a + 8 * k) bad
  bk : PBook W p { B with past := l } 20
  ll : l.length = k
  good : bad = false → bad1 = false ∧ Md.okPasts s.data.toList a k ∧ l = Md.pastsRd s.data.toList a k ∧ Md.lack s (a + 8 * k) = false
  fine : bad1 = false → Md.okPasts s.data.toList a k → Md.lack s (a + 8 * k) = false → bad = false

theorem past_step {s : List UInt8} {a k : Nat} {l : List Md.Past} (hl : l = Md.pastsRd s a k) (h1 : Md.inR (Md.numAt s (a + 8 * k + 6)) 0 1 = true) (h2 : Md.inR (Md.numAt s (a + 8 * k + 7)) 0 1000000000 = true) :
    Md.okPast s a k ↔ (!Md.good (Md.reqAt s (a + 8 * k)) || (Md.find l (Md.reqAt s (a + 8 * k)).id).isSome || (Md.numAt s (a + 8 * k + 6) == 1 && Md.numAt s (a + 8 * k + 7) != 0)) = false := by
  rw [Md.inR_true] at h1 h2
  unfold Md.okPast Md.pastFine Md.pastRd Md.repFine
  dsimp only
  rw [Md.newId_find, ← hl, decide_eq_false (show ¬ Md.numAt s (a + 8 * k + 6) > 1 by omega), decide_eq_false (show ¬ Md.numAt s (a + 8 * k + 7) > 1000000000 by omega)]
  cases Md.good (Md.reqAt s (a + 8 * k)) <;> cases Md.find l (Md.reqAt s (a + 8 * k)).id <;> cases (Md.numAt s (a + 8 * k + 6) == 1 && Md.numAt s (a + 8 * k + 7) != 0) <;> simp
theorem findV_cells (o : Option Md.Past) : ∃ n0 n1 n2 n3 n4 n5 n6 n7 : Int, findV o = .tuple #[.agg #[.int .i64 n0, .int .i64 n1, .int .i64 n2, .int .i64 n3, .int .i64 n4, .int .i64 n5, .int .i64 n6, .int .i64 n7], .bool o.isSome] := by
  cases o with
  | none => exact ⟨0, 0, 0, 0, 0, 0, 0, 0, rfl⟩
  | some x => exact ⟨_, _, _, _, _, _, _, _, rfl⟩
theorem okPasts_succ {s : List UInt8} {a k : Nat} : Md.okPasts s a (k + 1) ↔ Md.okPasts s a k ∧ Md.okPast s a k := by
  constructor
  · intro h; exact ⟨fun j hj => h j (by omega), h k (by omega)⟩
  · rintro ⟨h1, h2⟩ j hj
    by_cases e : j = k
    · subst e; exact h2
    · exact h1 j (by omega)

theorem past_in {s : List UInt8} {a k : Nat} (h : Md.okPast s a k) : Md.inR (Md.numAt s (a + 8 * k + 6)) 0 1 = true ∧ Md.inR (Md.numAt s (a + 8 * k + 7)) 0 1000000000 = true := by
  unfold Md.okPast Md.pastFine Md.repFine Md.pastRd at h
  dsimp only at h
  simp only [Bool.and_eq_true, Bool.not_eq_true', Bool.or_eq_false_iff, decide_eq_false_iff_not] at h
  have b1 := (Md.numAt_bd s (a + 8 * k + 6)).1
  have b2 := (Md.numAt_bd s (a + 8 * k + 7)).1
  rw [Md.inR_true, Md.inR_true]
  omega
/-- The condition that spoils. -/
def Md.spoils (l : List Md.Past) (r : Md.Req) (c d : Int) : Bool := !Md.good r || (Md.find l r.id).isSome || (c == 1 && d != 0)
theorem pst_bad {W : World} {p q : Nat} {s : ByteArray} {B : Md.Bk} {a k : Nat} {bad1 bad' : Bool} {l : List Md.Past} {c d : Int} (hst : PSt W p q s B a bad1 k bad' l)
    (hc : Md.bound (Md.numAt s.data.toList (a + 8 * k + 6)) 0 1 = c) (hd : Md.bound (Md.numAt s.data.toList (a + 8 * k + 7)) 0 1000000000 = d) (hsp : Md.spoils l (Md.reqAt s.data.toList (a + 8 * k)) c d = true)
    (h1 : bad1 = false) (h2 : Md.okPasts s.data.toList a (k + 1)) (h3 : Md.lack s (a + 8 * (k + 1)) = false) : False := by
  obtain ⟨o1, o2⟩ := okPasts_succ.1 h2
  have z := hst.fine h1 o1 (lack_mono h3 (by omega))
  obtain ⟨_, _, hl, _⟩ := hst.good z
  obtain ⟨i1, i2⟩ := past_in o2
  have := (past_step hl i1 i2).1 o2
  rw [Md.bound_in i1] at hc
  rw [Md.bound_in i2] at hd
  unfold Md.spoils at hsp
  rw [← hc, ← hd, this] at hsp
  cases hsp
theorem pst_ok {W F : World} {p q : Nat} {s : ByteArray} {B : Md.Bk} {a k : Nat} {bad1 bad' bb : Bool} {l : List Md.Past} {c d : Int} (hst : PSt W p q s B a bad1 k bad' l)
    (hc : Md.bound (Md.numAt s.data.toList (a + 8 * k + 6)) 0 1 = c) (hd : Md.bound (Md.numAt s.data.toList (a + 8 * k + 7)) 0 1000000000 = d) (hsp : Md.spoils l (Md.reqAt s.data.toList (a + 8 * k)) c d = false)
    (hbb : (bad' || Md.lack s (a + 8 * k + 6) || Md.lack s (a + 8 * k + 6 + 1) || !Md.inR (Md.numAt s.data.toList (a + 8 * k + 6)) 0 1 || Md.lack s (a + 8 * k + 6 + 1 + 1) || !Md.inR (Md.numAt s.data.toList (a + 8 * k + 6 + 1)) 0 1000000000) = bb)
    (hr : RdAt F q s (a + 8 * k + 6 + 1 + 1) bb) (hb : PBook F p { B with past := l ++ [⟨Md.reqAt s.data.toList (a + 8 * k), ⟨c, d⟩⟩] } 20) : PSt F p q s B a bad1 (k + 1) bb (l ++ [⟨Md.reqAt s.data.toList (a + 8 * k), ⟨c, d⟩⟩]) := by
  have e8 : a + 8 * k + 6 + 1 + 1 = a + 8 * (k + 1) := by omega
  rw [e8] at hr hbb
  refine ⟨hr, hb, by rw [List.length_append, hst.ll]; rfl, fun hf => ?_, fun h1 h2 h3 => ?_⟩
  · rw [hf] at hbb
    simp only [Bool.or_eq_false_iff, Bool.not_eq_false'] at hbb
    obtain ⟨⟨⟨⟨⟨x0, x1⟩, x2⟩, x3⟩, x4⟩, x5⟩ := hbb
    obtain ⟨y1, y2, y3, _⟩ := hst.good x0
    rw [Md.bound_in x3] at hc
    rw [Md.bound_in x5] at hd
    have ok : Md.okPast s.data.toList a k := (past_step y3 x3 x5).2 (by unfold Md.spoils at hsp; rw [← hc, ← hd] at hsp; exact hsp)
    refine ⟨y1, okPasts_succ.2 ⟨y2, ok⟩, ?_, x4⟩
    rw [y3, ← hc, ← hd]
    simp [Md.pastsRd, List.range_succ, Md.pastRd]
  · obtain ⟨o1, o2⟩ := okPasts_succ.1 h2
    have z := hst.fine h1 o1 (lack_mono h3 (by omega))
    obtain ⟨i1, i2⟩ := past_in o2
    have i2' : Md.inR (Md.numAt s.data.toList (a + 8 * k + 6 + 1)) 0 1000000000 = true := i2
    rw [← hbb, z, i1, i2', lack_mono (a := a + 8 * k + 6) h3 (by omega), lack_mono (a := a + 8 * k + 6 + 1) h3 (by omega), h3]; rfl

set_option maxRecDepth 100000 in
set_option maxHeartbeats 8000000 in
theorem readPast_any (p q : Nat) (s : ByteArray) (B : Md.Bk) (bad : Bool) (i : Nat) (w : World) (hr : RdAt w q s i bad) (hb : PBook w p B 20) (hpq : p ≠ q) (hp0 : B.past = []) (hc : 0 ≤ B.count ∧ B.count ≤ 1000000000) :
    Calls Try.prog 85 #[.pointer (some ⟨p, 0, none⟩), .pointer (some ⟨q, 0, none⟩)] w fun e w' => e = .returned (.tuple #[]) ∧
      (∃ bad' l, PSt w' p q s B (i + 1) (bad || Md.lack s (i + 1) || !Md.inR (Md.numAt s.data.toList i) 0 (min 20 B.count)) (Md.bound (Md.numAt s.data.toList i) 0 (min 20 B.count)).toNat bad' l) ∧ Kept2 p (some q) w w' := by
  obtain ⟨c1, c2⟩ := hc
  have hwi := within_any q s i bad 0 (min 20 B.count) w hr
  have hlt := hb.lt
  have hql := hr.lt
  have hcn := hb.cn
  have hLb := Md.bound_bd (n := Md.numAt s.data.toList i) (lo := 0) (hi := min 20 B.count) (by omega) (by omega)
  obtain ⟨LV, hLV⟩ : ∃ LV, Md.bound (Md.numAt s.data.toList i) 0 (min 20 B.count) = LV := ⟨_, rfl⟩
  rw [hLV] at hwi hLb ⊢
  obtain ⟨bad1, hb1⟩ : ∃ b, (bad || Md.lack s (i + 1) || !Md.inR (Md.numAt s.data.toList i) 0 (min 20 B.count)) = b := ⟨_, rfl⟩
  rw [hb1] at hwi ⊢
  obtain ⟨lv, rfl⟩ := Int.eq_ofNat_of_zero_le hLb.1
  have hlv : lv ≤ 20 := by omega
  have hwi2 : ∀ v : Int, v = min 20 B.count → Calls Try.prog 83 #[.pointer (some ⟨q, 0, none⟩), .int .i64 0, .int .i64 v] w fun e w' => e = .returned (.int .i64 lv) ∧ RdAt w' q s (i + 1) bad1 ∧ w.grownBy w' (some q) := fun v hv => by rw [hv]; exact hwi
  have Hwi := hide hwi2
  have Hb := hide hb
  have Hb1 := hide hb1
  clear hb hb1 hLV hwi hwi2 hLb
  go_enter Try.func85, Try.ntmps85
  go_wp2_with fail
  all_goals
    refine (Hwi.out _ (by omega)).mono ?_
    rintro e W ⟨rfl, hr1, hg1⟩
    have hbW := Hb.out.of_block (W' := W) (hg1.block p hlt (fun e => by cases e; exact hpq rfl)) (Nat.lt_of_lt_of_le hlt hg1.size)
    have hst0 : PSt W p q s B (i + 1) bad1 0 bad1 [] := by
      refine ⟨hr1, ?_, rfl, fun h => ⟨h, fun j hj => by omega, rfl, ?_⟩, fun h _ _ => h⟩
      · rw [← hp0]; exact hbW
      · have := Hb1.out
        rw [h, Bool.or_eq_false_iff, Bool.or_eq_false_iff] at this
        exact this.1.2
    have Hst0 := hide hst0
    have hk0 := kept_q (kept_refl p q w) hg1
    clear hr1 hbW hst0 hg1
    go_wp2
    go_loopw [17] (fun ix wr => ∃ (k : Nat) (bad' : Bool) (l : List Md.Past), k ≤ lv ∧ ix = .int .i64 k ∧ Hid (PSt wr p q s B (i + 1) bad1 k bad' l) ∧ Kept2 p (some q) w wr) (fun ix _ => lv - (intOf ix).toNat)
    case atStart => exact ⟨0, bad1, [], Nat.zero_le _, rfl, Hst0, hk0⟩
    case round =>
      clear Hst0 hk0
      obtain ⟨k, bad', l, hk, rfl, hst, hkk⟩ := hrel
      by_cases hkl : k < lv
      · have hkl' : (k : Int) < (lv : Int) := by omega
        have hpr := hst.out.bk.lt
        have hqr := hst.out.rd.lt
        have hrq := request_any q s (i + 1 + 8 * k) bad' wr hst.out.rd
        obtain ⟨r, hrr⟩ : ∃ r, Md.reqAt s.data.toList (i + 1 + 8 * k) = r := ⟨_, rfl⟩
        rw [hrr] at hrq
        unfold reqA at hrq
        have Hrr := hide hrr
        clear hrr
        go_wp2_with fail
        refine hrq.mono ?_
        rintro e W1 ⟨rfl, r1, g1⟩
        clear hrq
        have hbk1 := hst.out.bk.of_block (W' := W1) (g1.block p hpr (fun e => by cases e; exact hpq rfl)) (Nat.lt_of_lt_of_le hpr g1.size)
        have bB := (Below.refl W1.heap.size W1).alloc (Nat.le_refl _) (.cells #[.int .i64 r.id, .int .i64 r.kind, .int .i64 r.cell, .int .i64 r.hold, .int .i64 r.count, .int .i64 r.time] 75)
        have hq2 := Req6.new W1 r
        have r2 := r1.below bB
        have hbk2 := hbk1.below bB
        have hk2 : Kept2 p (some q) w (W1.alloc (.cells #[.int .i64 r.id, .int .i64 r.kind, .int .i64 r.cell, .int .i64 r.hold, .int .i64 r.count, .int .i64 r.time] 75)) := kept_q (kept_q hkk g1) (grown_below bB)
        have hz1 := g1.size
        clear hbk1 r1 g1
        go_wp2_with fail
        generalize W1.alloc (.cells #[.int .i64 r.id, .int .i64 r.kind, .int .i64 r.cell, .int .i64 r.hold, .int .i64 r.count, .int .i64 r.time] 75) = X at bB hq2 r2 hbk2 hk2 ⊢
        have hbl : W1.heap.size < X.heap.size := hq2.lt
        have hne : W1.heap.size ≠ q := by have := hkk.size; omega
        have w1 := within_any q s (i + 1 + 8 * k + 6) _ 0 1 X r2
        refine w1.mono ?_
        rintro e W2 ⟨rfl, r3, g3⟩
        have hq3 := hq2.of_block (W' := W2) (g3.block W1.heap.size hbl (fun e => by cases e; exact hne rfl)) (Nat.lt_of_lt_of_le hbl g3.size)
        have hbk3 := hbk2.of_block (W' := W2) (g3.block p hbk2.lt (fun e => by cases e; exact hpq rfl)) (Nat.lt_of_lt_of_le hbk2.lt g3.size)
        have hk3 := kept_q hk2 g3
        obtain ⟨c, hcc⟩ : ∃ c, Md.bound (Md.numAt s.data.toList (i + 1 + 8 * k + 6)) 0 1 = c := ⟨_, rfl⟩
        rw [hcc]
        have Hcc := hide hcc
        clear w1 hq2 hbk2 hk2 r2 hcc
        go_wp2_with fail
        have w2 := within_any q s (i + 1 + 8 * k + 6 + 1) _ 0 1000000000 W2 r3
        refine w2.mono ?_
        rintro e W3 ⟨rfl, r4, g4⟩
        have hq4 := hq3.of_block (W' := W3) (g4.block W1.heap.size hq3.lt (fun e => by cases e; exact hne rfl)) (Nat.lt_of_lt_of_le hq3.lt g4.size)
        have hbk4 := hbk3.of_block (W' := W3) (g4.block p hbk3.lt (fun e => by cases e; exact hpq rfl)) (Nat.lt_of_lt_of_le hbk3.lt g4.size)
        have hk4 := kept_q hk3 g4
        obtain ⟨d, hdd⟩ : ∃ d, Md.bound (Md.numAt s.data.toList (i + 1 + 8 * k + 6 + 1)) 0 1000000000 = d := ⟨_, rfl⟩
        rw [hdd]
        have Hdd := hide hdd
        have hne3q : W3.heap.size ≠ q := by have e1 := g3.size; have e2 := g4.size; omega
        clear w2 hq3 hbk3 hk3 r3 hdd g3 g4
        generalize hbb : (bad' || Md.lack s (i + 1 + 8 * k + 6) || Md.lack s (i + 1 + 8 * k + 6 + 1) || !Md.inR (Md.numAt s.data.toList (i + 1 + 8 * k + 6)) 0 1 || Md.lack s (i + 1 + 8 * k + 6 + 1 + 1) || !Md.inR (Md.numAt s.data.toList (i + 1 + 8 * k + 6 + 1)) 0 1000000000) = bb at r4
        have Hbb := hide hbb
        have cB := (Below.refl W3.heap.size W3).alloc (Nat.le_refl _) (.cells #[.int .i64 c, .int .i64 d] 77)
        have hq5 := hq4.below cB
        have hbk5 := hbk4.below cB
        have hk5 : Kept2 p (some q) w (W3.alloc (.cells #[.int .i64 c, .int .i64 d] 77)) := kept_q hk4 (grown_below cB)
        have r5 := r4.below cB
        have u0 : (W3.alloc (.cells #[.int .i64 c, .int .i64 d] 77)).cell? ⟨W3.heap.size, 0, none⟩ = some (.int .i64 c) := by simp [go_sem]
        have u1 : (W3.alloc (.cells #[.int .i64 c, .int .i64 d] 77)).cell? ⟨W3.heap.size, 1, none⟩ = some (.int .i64 d) := by simp [go_sem]
        have ul : W3.heap.size < (W3.alloc (.cells #[.int .i64 c, .int .i64 d] 77)).heap.size := by simp
        obtain ⟨a0, a1, a2, a3, a4, a5, al⟩ := hq4
        clear hbk4 hk4 r4 hbb
        go_wp2_with fail
        generalize W3.alloc (.cells #[.int .i64 c, .int .i64 d] 77) = Y at cB hq5 hbk5 hk5 r5 u0 u1 ul ⊢
        clear a0 a1 a2 a3 a4 a5 al
        have hrec := pRecall_any p _ 20 r.id Y hbk5 (by show l.length ≤ 20; rw [hst.out.ll]; omega)
        dsimp only at hrec
        obtain ⟨n0, n1, n2, n3, n4, n5, n6, n7, hfv⟩ := findV_cells (Md.find l r.id)
        rw [hfv] at hrec
        clear hfv
        refine hrec.mono ?_
        rintro e W4 ⟨rfl, hb4⟩
        have dB := (Below.refl W4.heap.size W4).alloc (Nat.le_refl _) (.cells #[.int .i64 n0, .int .i64 n1, .int .i64 n2, .int .i64 n3, .int .i64 n4, .int .i64 n5, .int .i64 n6, .int .i64 n7] 79)
        have eB : Below Y.heap.size Y (W4.alloc (.cells #[.int .i64 n0, .int .i64 n1, .int .i64 n2, .int .i64 n3, .int .i64 n4, .int .i64 n5, .int .i64 n6, .int .i64 n7] 79)) := hb4.trans (dB.mono hb4.size)
        have hq6 := hq5.below eB
        have hbk6 := hbk5.below eB
        have hk6 := kept_q hk5 (grown_below (r := some q) eB)
        have r6 := r5.below eB
        have v0 := (eB.cell (p := ⟨W3.heap.size, 0, none⟩) ul).trans u0
        have v1 := (eB.cell (p := ⟨W3.heap.size, 1, none⟩) ul).trans u1
        have vl : W3.heap.size < (W4.alloc (.cells #[.int .i64 n0, .int .i64 n1, .int .i64 n2, .int .i64 n3, .int .i64 n4, .int .i64 n5, .int .i64 n6, .int .i64 n7] 79)).heap.size := Nat.lt_of_lt_of_le ul eB.size
        have hgood := fun W => isRequest_any r W
        unfold reqA at hgood
        have Hgood := hide hgood
        obtain ⟨f0, f1, f2, f3, f4, f5, fl⟩ := hq5.below hb4
        clear hrec hq5 hbk5 hk5 r5 u0 u1 ul hgood hb4
        go_wp2_with fail
        generalize W4.alloc (.cells #[.int .i64 n0, .int .i64 n1, .int .i64 n2, .int .i64 n3, .int .i64 n4, .int .i64 n5, .int .i64 n6, .int .i64 n7] 79) = Z at dB eB hq6 hbk6 hk6 r6 v0 v1 vl ⊢
        clear f0 f1 f2 f3 f4 f5 fl
        refine (Hgood.out Z).mono ?_
        rintro e W5 ⟨rfl, hb5⟩
        have hq7 := hq6.below hb5
        have hbk7 := hbk6.below hb5
        have hk7 := kept_q hk6 (grown_below (r := some q) hb5)
        have r7 := r6.below hb5
        have x0 := (hb5.cell (p := ⟨W3.heap.size, 0, none⟩) vl).trans v0
        have x1 := (hb5.cell (p := ⟨W3.heap.size, 1, none⟩) vl).trans v1
        have xl : W3.heap.size < W5.heap.size := Nat.lt_of_lt_of_le vl hb5.size
        have rb := r7.ba
        have rfz := r7.fz
        clear hq6 hbk6 hk6 r6 v0 v1 vl hb5 dB eB cB bB
        have hne3' : W3.heap.size ≠ q := hne3q
        cases hgd : Md.good r with
        | false =>
          have hsp : Md.spoils l r c d = true := by unfold Md.spoils; rw [hgd]; rfl
          have Hsp := hide hsp
          have HbkU := hide (hbk7.of_block (W' := (W5.setCell ⟨q, 1, none⟩ (.bool true))) (put_block 1 _ hpq) (by rw [size_put]; exact hbk7.lt))
          have hqU := hq7.put (q := q) (o := 1) (x := .bool true) hne
          have rU := r7.spoil
          have hkU := kept_q hk7 (grown_put W5 q 1 (.bool true))
          have hne3 : W3.heap.size ≠ q := hne3'
          have xx0 := (World.cell?_of_block (a := ⟨W3.heap.size, 0, none⟩) (put_block (W := W5) 1 (.bool true) hne3)).trans x0
          have xx1 := (World.cell?_of_block (a := ⟨W3.heap.size, 1, none⟩) (put_block (W := W5) 1 (.bool true) hne3)).trans x1
          have xxl : W3.heap.size < (W5.setCell ⟨q, 1, none⟩ (.bool true)).heap.size := by rw [size_put]; exact xl
          obtain ⟨m0, m1, m2, m3, m4, m5, ml⟩ := hqU
          obtain ⟨s0, s1, s2, s3, s4, s5, sl⟩ := hq7
          clear hsp hbk7 hk7
          go_wp2_with fail
          have hrm := pRemember_any p _ 20 ⟨r, ⟨c, d⟩⟩ (W5.setCell ⟨q, 1, none⟩ (.bool true)) HbkU.out (by omega) (by show l.length ≤ 20; rw [hst.out.ll]; omega)
          unfold pastC at hrm
          refine hrm.mono ?_
          rintro e W6 ⟨rfl, hb6, hg6⟩
          have hpe : (l ++ [(⟨r, ⟨c, d⟩⟩ : Md.Past)]).drop ((l ++ [(⟨r, ⟨c, d⟩⟩ : Md.Past)]).length - 20) = l ++ [⟨r, ⟨c, d⟩⟩] := by
            have := hst.out.ll
            rw [List.length_append, this, show k + [(⟨r, ⟨c, d⟩⟩ : Md.Past)].length - 20 = 0 by simp; omega]; rfl
          dsimp only at hb6
          rw [hpe] at hb6
          have r8 := rU.of_block (W' := W6) (hg6.block q rU.lt (fun e => by cases e; exact hpq rfl)) (Nat.lt_of_lt_of_le rU.lt hg6.size)
          have hk8 := kept_p hkU hg6
          have hnx : PSt W6 p q s B (i + 1) bad1 (k + 1) true (l ++ [⟨r, ⟨c, d⟩⟩]) :=
            ⟨by have := r8; rwa [show i + 1 + 8 * k + 6 + 1 + 1 = i + 1 + 8 * (k + 1) by omega] at this, hb6, by rw [List.length_append, hst.out.ll]; rfl, fun h => (by cases h), fun h1 h2 h3 => (pst_bad hst.out Hcc.out Hdd.out (by rw [Hrr.out]; exact Hsp.out) h1 h2 h3).elim⟩
          have Hnx := hide hnx
          clear hnx hb6 r8 hrm
          go_wp2
          go_roundw
          case rel => exact ⟨k + 1, _, _, by omega, by go_num, Hnx, hk8⟩
          case measure => simp [intOf]; omega
        | true =>
          cases htw : (Md.find l r.id).isSome with
          | true =>
            have hsp : Md.spoils l r c d = true := by unfold Md.spoils; rw [hgd, htw]; rfl
            have Hsp := hide hsp
            have HbkU := hide (hbk7.of_block (W' := (W5.setCell ⟨q, 1, none⟩ (.bool true))) (put_block 1 _ hpq) (by rw [size_put]; exact hbk7.lt))
            have hqU := hq7.put (q := q) (o := 1) (x := .bool true) hne
            have rU := r7.spoil
            have hkU := kept_q hk7 (grown_put W5 q 1 (.bool true))
            have hne3 : W3.heap.size ≠ q := hne3'
            have xx0 := (World.cell?_of_block (a := ⟨W3.heap.size, 0, none⟩) (put_block (W := W5) 1 (.bool true) hne3)).trans x0
            have xx1 := (World.cell?_of_block (a := ⟨W3.heap.size, 1, none⟩) (put_block (W := W5) 1 (.bool true) hne3)).trans x1
            have xxl : W3.heap.size < (W5.setCell ⟨q, 1, none⟩ (.bool true)).heap.size := by rw [size_put]; exact xl
            obtain ⟨m0, m1, m2, m3, m4, m5, ml⟩ := hqU
            obtain ⟨s0, s1, s2, s3, s4, s5, sl⟩ := hq7
            clear hsp hbk7 hk7
            go_wp2_with fail
            have hrm := pRemember_any p _ 20 ⟨r, ⟨c, d⟩⟩ (W5.setCell ⟨q, 1, none⟩ (.bool true)) HbkU.out (by omega) (by show l.length ≤ 20; rw [hst.out.ll]; omega)
            unfold pastC at hrm
            refine hrm.mono ?_
            rintro e W6 ⟨rfl, hb6, hg6⟩
            have hpe : (l ++ [(⟨r, ⟨c, d⟩⟩ : Md.Past)]).drop ((l ++ [(⟨r, ⟨c, d⟩⟩ : Md.Past)]).length - 20) = l ++ [⟨r, ⟨c, d⟩⟩] := by
              have := hst.out.ll
              rw [List.length_append, this, show k + [(⟨r, ⟨c, d⟩⟩ : Md.Past)].length - 20 = 0 by simp; omega]; rfl
            dsimp only at hb6
            rw [hpe] at hb6
            have r8 := rU.of_block (W' := W6) (hg6.block q rU.lt (fun e => by cases e; exact hpq rfl)) (Nat.lt_of_lt_of_le rU.lt hg6.size)
            have hk8 := kept_p hkU hg6
            have hnx : PSt W6 p q s B (i + 1) bad1 (k + 1) true (l ++ [⟨r, ⟨c, d⟩⟩]) :=
              ⟨by have := r8; rwa [show i + 1 + 8 * k + 6 + 1 + 1 = i + 1 + 8 * (k + 1) by omega] at this, hb6, by rw [List.length_append, hst.out.ll]; rfl, fun h => (by cases h), fun h1 h2 h3 => (pst_bad hst.out Hcc.out Hdd.out (by rw [Hrr.out]; exact Hsp.out) h1 h2 h3).elim⟩
            have Hnx := hide hnx
            clear hnx hb6 r8 hrm
            go_wp2
            go_roundw
            case rel => exact ⟨k + 1, _, _, by omega, by go_num, Hnx, hk8⟩
            case measure => simp [intOf]; omega
          | false =>
            by_cases hc1 : c = 1
            · by_cases hd0 : d = 0
              · have hc2 : (c == 1) = true := by simpa using hc1
                have hd1 : (d != 0) = false := by simp [hd0]
                have hd2 : (d == 0) = true := by simpa using hd0
                have hsp : Md.spoils l r c d = false := by unfold Md.spoils; rw [hgd, htw, hd1]; simp
                clear hc1 hd0
                have Hsp := hide hsp
                have HbkU := hide hbk7
                have hkU := hk7
                obtain ⟨m0, m1, m2, m3, m4, m5, ml⟩ := hq7
                clear hsp hbk7 hk7
                go_wp2_with fail
                have hrm := pRemember_any p _ 20 ⟨r, ⟨c, d⟩⟩ W5 HbkU.out (by omega) (by show l.length ≤ 20; rw [hst.out.ll]; omega)
                unfold pastC at hrm
                refine hrm.mono ?_
                rintro e W6 ⟨rfl, hb6, hg6⟩
                have hpe : (l ++ [(⟨r, ⟨c, d⟩⟩ : Md.Past)]).drop ((l ++ [(⟨r, ⟨c, d⟩⟩ : Md.Past)]).length - 20) = l ++ [⟨r, ⟨c, d⟩⟩] := by
                  have := hst.out.ll
                  rw [List.length_append, this, show k + [(⟨r, ⟨c, d⟩⟩ : Md.Past)].length - 20 = 0 by simp; omega]; rfl
                dsimp only at hb6
                rw [hpe] at hb6
                have r8 := r7.of_block (W' := W6) (hg6.block q r7.lt (fun e => by cases e; exact hpq rfl)) (Nat.lt_of_lt_of_le r7.lt hg6.size)
                have hk8 := kept_p hkU hg6
                have hnx := pst_ok (F := W6) hst.out Hcc.out Hdd.out (by rw [Hrr.out]; exact Hsp.out) Hbb.out r8 (by rw [Hrr.out]; exact hb6)
                rw [Hrr.out] at hnx
                have Hnx := hide hnx
                clear hnx hb6 r8 hrm
                go_wp2
                go_roundw
                case rel => exact ⟨k + 1, _, _, by omega, by go_num, Hnx, hk8⟩
                case measure => simp [intOf]; omega
              · have hc2 : (c == 1) = true := by simpa using hc1
                have hd1 : (d != 0) = true := by simpa using hd0
                have hd2 : (d == 0) = false := by simpa using hd0
                have hsp : Md.spoils l r c d = true := by unfold Md.spoils; rw [hgd, htw, hd1, hc2]; simp
                clear hc1 hd0
                have Hsp := hide hsp
                have HbkU := hide (hbk7.of_block (W' := (W5.setCell ⟨q, 1, none⟩ (.bool true))) (put_block 1 _ hpq) (by rw [size_put]; exact hbk7.lt))
                have hqU := hq7.put (q := q) (o := 1) (x := .bool true) hne
                have rU := r7.spoil
                have hkU := kept_q hk7 (grown_put W5 q 1 (.bool true))
                have hne3 : W3.heap.size ≠ q := hne3'
                have xx0 := (World.cell?_of_block (a := ⟨W3.heap.size, 0, none⟩) (put_block (W := W5) 1 (.bool true) hne3)).trans x0
                have xx1 := (World.cell?_of_block (a := ⟨W3.heap.size, 1, none⟩) (put_block (W := W5) 1 (.bool true) hne3)).trans x1
                have xxl : W3.heap.size < (W5.setCell ⟨q, 1, none⟩ (.bool true)).heap.size := by rw [size_put]; exact xl
                obtain ⟨m0, m1, m2, m3, m4, m5, ml⟩ := hqU
                obtain ⟨s0, s1, s2, s3, s4, s5, sl⟩ := hq7
                clear hsp hbk7 hk7
                go_wp2_with fail
                have hrm := pRemember_any p _ 20 ⟨r, ⟨c, d⟩⟩ (W5.setCell ⟨q, 1, none⟩ (.bool true)) HbkU.out (by omega) (by show l.length ≤ 20; rw [hst.out.ll]; omega)
                unfold pastC at hrm
                refine hrm.mono ?_
                rintro e W6 ⟨rfl, hb6, hg6⟩
                have hpe : (l ++ [(⟨r, ⟨c, d⟩⟩ : Md.Past)]).drop ((l ++ [(⟨r, ⟨c, d⟩⟩ : Md.Past)]).length - 20) = l ++ [⟨r, ⟨c, d⟩⟩] := by
                  have := hst.out.ll
                  rw [List.length_append, this, show k + [(⟨r, ⟨c, d⟩⟩ : Md.Past)].length - 20 = 0 by simp; omega]; rfl
                dsimp only at hb6
                rw [hpe] at hb6
                have r8 := rU.of_block (W' := W6) (hg6.block q rU.lt (fun e => by cases e; exact hpq rfl)) (Nat.lt_of_lt_of_le rU.lt hg6.size)
                have hk8 := kept_p hkU hg6
                have hnx : PSt W6 p q s B (i + 1) bad1 (k + 1) true (l ++ [⟨r, ⟨c, d⟩⟩]) :=
                  ⟨by have := r8; rwa [show i + 1 + 8 * k + 6 + 1 + 1 = i + 1 + 8 * (k + 1) by omega] at this, hb6, by rw [List.length_append, hst.out.ll]; rfl, fun h => (by cases h), fun h1 h2 h3 => (pst_bad hst.out Hcc.out Hdd.out (by rw [Hrr.out]; exact Hsp.out) h1 h2 h3).elim⟩
                have Hnx := hide hnx
                clear hnx hb6 r8 hrm
                go_wp2
                go_roundw
                case rel => exact ⟨k + 1, _, _, by omega, by go_num, Hnx, hk8⟩
                case measure => simp [intOf]; omega
            · have hc2 : (c == 1) = false := by simpa using hc1
              have hsp : Md.spoils l r c d = false := by unfold Md.spoils; rw [hgd, htw, hc2]; rfl
              have Hsp := hide hsp
              have HbkU := hide hbk7
              have hkU := hk7
              obtain ⟨m0, m1, m2, m3, m4, m5, ml⟩ := hq7
              clear hsp hbk7 hk7
              go_wp2_with fail
              have hrm := pRemember_any p _ 20 ⟨r, ⟨c, d⟩⟩ W5 HbkU.out (by omega) (by show l.length ≤ 20; rw [hst.out.ll]; omega)
              unfold pastC at hrm
              refine hrm.mono ?_
              rintro e W6 ⟨rfl, hb6, hg6⟩
              have hpe : (l ++ [(⟨r, ⟨c, d⟩⟩ : Md.Past)]).drop ((l ++ [(⟨r, ⟨c, d⟩⟩ : Md.Past)]).length - 20) = l ++ [⟨r, ⟨c, d⟩⟩] := by
                have := hst.out.ll
                rw [List.length_append, this, show k + [(⟨r, ⟨c, d⟩⟩ : Md.Past)].length - 20 = 0 by simp; omega]; rfl
              dsimp only at hb6
              rw [hpe] at hb6
              have r8 := r7.of_block (W' := W6) (hg6.block q r7.lt (fun e => by cases e; exact hpq rfl)) (Nat.lt_of_lt_of_le r7.lt hg6.size)
              have hk8 := kept_p hkU hg6
              have hnx := pst_ok (F := W6) hst.out Hcc.out Hdd.out (by rw [Hrr.out]; exact Hsp.out) Hbb.out r8 (by rw [Hrr.out]; exact hb6)
              rw [Hrr.out] at hnx
              have Hnx := hide hnx
              clear hnx hb6 r8 hrm
              go_wp2
              go_roundw
              case rel => exact ⟨k + 1, _, _, by omega, by go_num, Hnx, hk8⟩
              case measure => simp [intOf]; omega
      · obtain rfl : k = lv := by omega
        go_wp2
        exact bodyPost_end (v := .tuple #[]) (by simp [results, Try.results85, go_sem]) rfl ⟨rfl, ⟨bad', l, by simpa using hst.out⟩, hkk⟩
end Go.Proofs.Ytidacihlalbohaa
