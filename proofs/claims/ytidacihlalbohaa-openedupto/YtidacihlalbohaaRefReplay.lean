/- What the document's own Replay does to the book, and what it returns. -/
import Derived.Test.YtidacihlalbohaaRefOf
import Derived.Test.YtidacihlalbohaaRefScan
import Derived.Test.YtidacihlalbohaaInvMath
namespace Go.Proofs.Ytidacihlalbohaa
open Go.RowKit

theorem Md.Inv.fit {B : Md.Bk} {n : Nat} (h : Md.Inv B n) : Md.Fit B :=
  ⟨h.small, fun i hi => (h.on i hi).2, fun i hi => h.comm i hi, fun j hj => (h.hn j hj).2, fun j hj hl => (h.lv j hj hl).2⟩

theorem frameL_len (S : List UInt8) : (Fr.frameL S).length = 4 + S.length := by
  unfold Fr.frameL
  rw [List.length_append, List.length_append]; rfl

/-- The payloads of a log. -/
def payL (t : ByteArray) : List (List UInt8) := (Fr.all t.data.toList).map fun x => x.1.1

/-- The book while a log is gone through: where it lies, what else has changed since w. -/
structure RSt (p : Nat) (v : Value) (w : World) (n : Nat) (W : World) (C : Md.Bk) (u : Value) : Prop where
  bk : BookAt W p C u
  row : ∃ bs, W.ownsRow bs 143 8 u C.past.length (pastsC C.past) ∧ bs ≤ W.heap.size
  np : u.ownBlock ≠ some p
  come : ∀ b, u.ownBlock = some b → v.ownBlock = some b ∨ w.heap.size ≤ b
  kept : Kept2 p v.ownBlock w W
  inv : Md.Inv C n
theorem RSt.below {p : Nat} {v : Value} {w : World} {n : Nat} {W W' : World} {C : Md.Bk} {u : Value} (h : RSt p v w n W C u) (hb : Below W.heap.size W W') : RSt p v w n W' C u := by
  obtain ⟨bs, h1, h2⟩ := h.row
  exact ⟨h.bk.below hb, ⟨bs, h1.kept (grown_of_below hb) (by cases u.ownBlock <;> simp), Nat.le_trans h2 hb.size⟩, h.np, h.come,
    ⟨hb.os.trans h.kept.os, hb.tape.trans h.kept.tape, hb.output.trans h.kept.output, Nat.le_trans h.kept.size hb.size, fun k hk hp hr => (hb.block k (Nat.lt_of_lt_of_le hk h.kept.size)).trans (h.kept.block k hk hp hr)⟩, h.inv⟩
theorem RSt.done {p : Nat} {v : Value} {w : World} {n : Nat} {W W' : World} {C D : Md.Bk} {u u' : Value} (h : RSt p v w n W C u) (hb : BookAt W' p D u') (hrow : W'.ownsRow W.heap.size 143 8 u' D.past.length (pastsC D.past)) (hk : Kept2 p u.ownBlock W W') (hi : Md.Inv D n) (hp : p < w.heap.size) : RSt p v w n W' D u' := by
  have hs := h.kept.size
  refine ⟨hb, ⟨_, hrow, hk.size⟩, fun e => by have := (hrow.lt _ e).1; omega, fun b e => .inr (by have := (hrow.lt _ e).1; omega), ⟨hk.os.trans h.kept.os, hk.tape.trans h.kept.tape, hk.output.trans h.kept.output, Nat.le_trans hs hk.size, fun k hlt hkp hkr => ?_⟩, hi⟩
  refine (hk.block k (Nat.lt_of_lt_of_le hlt hs) hkp (fun e => ?_)).trans (h.kept.block k hlt hkp hkr)
  rcases h.come k e.symm with h1 | h1
  · exact hkr h1.symm
  · omega

/-- The payloads, as the loop reads them. -/
def Pays (a0 : Option Addr) (A : List (Fr.Pay × Nat)) (w W : World) (u : Value) : Prop :=
  ∀ j x, A[j]? = some x → ∃ g, a0 = some ⟨g, 0, none⟩ ∧ w.heap.size ≤ g ∧ g < W.heap.size ∧ u.ownBlock ≠ some g ∧ W.cell? ⟨g, j, none⟩ = some (.string ⟨x.1.1.toArray⟩)
theorem Pays.below {a0 : Option Addr} {A : List (Fr.Pay × Nat)} {w W W' : World} {u : Value} (h : Pays a0 A w W u) (hb : Below W.heap.size W W') : Pays a0 A w W' u := by
  intro j x hx
  obtain ⟨g, h1, h2, h3, h4, h5⟩ := h j x hx
  exact ⟨g, h1, h2, Nat.lt_of_lt_of_le h3 hb.size, h4, (hb.cell (p := ⟨g, j, none⟩) h3).trans h5⟩
theorem Pays.done {a0 : Option Addr} {A : List (Fr.Pay × Nat)} {w W W' : World} {u u' : Value} {p : Nat} (h : Pays a0 A w W u) (hp : p < w.heap.size) (hk : Kept2 p u.ownBlock W W') (hu : ∀ b, u'.ownBlock = some b → W.heap.size ≤ b) : Pays a0 A w W' u' := by
  intro j x hx
  obtain ⟨g, h1, h2, h3, h4, h5⟩ := h j x hx
  exact ⟨g, h1, h2, Nat.lt_of_lt_of_le h3 hk.size, fun e => by have := hu g e; omega, (World.cell?_of_block (hk.block g h3 (by omega) (fun e => h4 e.symm))).trans h5⟩

/-- A request lies in block b. -/
structure Req6 (W : World) (b : Nat) (r : Md.Req) : Prop where
  c0 : W.cell? ⟨b, 0, none⟩ = some (.int .i64 r.id)
  c1 : W.cell? ⟨b, 1, none⟩ = some (.int .i64 r.kind)
  c2 : W.cell? ⟨b, 2, none⟩ = some (.int .i64 r.cell)
  c3 : W.cell? ⟨b, 3, none⟩ = some (.int .i64 r.hold)
  c4 : W.cell? ⟨b, 4, none⟩ = some (.int .i64 r.count)
  c5 : W.cell? ⟨b, 5, none⟩ = some (.int .i64 r.time)
  lt : b < W.heap.size
theorem Req6.below {W W' : World} {b : Nat} {r : Md.Req} (h : Req6 W b r) (hb : Below W.heap.size W W') : Req6 W' b r :=
  have c : ∀ o, W'.cell? ⟨b, o, none⟩ = W.cell? ⟨b, o, none⟩ := fun o => hb.cell (p := ⟨b, o, none⟩) h.lt
  ⟨(c _).trans h.c0, (c _).trans h.c1, (c _).trans h.c2, (c _).trans h.c3, (c _).trans h.c4, (c _).trans h.c5, Nat.lt_of_lt_of_le h.lt hb.size⟩
theorem Req6.new (W : World) (r : Md.Req) : Req6 (W.alloc (.cells #[.int .i64 r.id, .int .i64 r.kind, .int .i64 r.cell, .int .i64 r.hold, .int .i64 r.count, .int .i64 r.time] 75)) W.heap.size r := by
  obtain ⟨h0, h1, h2, h3, h4, h5⟩ := box6 W (.int .i64 r.id) (.int .i64 r.kind) (.int .i64 r.cell) (.int .i64 r.hold) (.int .i64 r.count) (.int .i64 r.time) 75
  exact ⟨h0, h1, h2, h3, h4, h5, by simp⟩

def ReplayPost (p : Nat) (v : Value) (w : World) (n : Nat) (res : Md.Bk × List UInt8) (e : Ending) (w' : World) : Prop := ∃ u out, e = .returned (.string out) ∧ out.data.toList = res.2 ∧ RSt p v w n w' res.1 u

set_option maxRecDepth 100000 in
set_option maxHeartbeats 4000000 in
theorem refReplay_any (p base : Nat) (B : Md.Bk) (v : Value) (t : ByteArray) (n : Nat) (w : World) (hb : BookAt w p B v) (hrow : w.ownsRow base 143 8 v B.past.length (pastsC B.past)) (hpv : v.ownBlock ≠ some p) (hbase : base ≤ w.heap.size)
    (hinv : Md.Inv B n) (hn : n ≤ 20) (hcnt : 0 ≤ B.count ∧ B.count ≤ 1000000000) (hm : t.size ≤ 1099511627776) :
    Calls Try.prog 41 #[.pointer (some ⟨p, 0, none⟩), .string t, .int .i64 n] w fun e w' => ReplayPost p v w n (Md.replayL n B.count (payL t) true 0 B []) e w' := by
  have hp := hb.lt
  have hst0 : RSt p v w n w B v := ⟨hb, ⟨base, hrow, hbase⟩, hpv, fun b e => .inl e, ⟨rfl, rfl, rfl, Nat.le_refl _, fun _ _ _ _ => rfl⟩, hinv⟩
  have hvl : ∀ k, v.ownBlock = some k → k < w.heap.size := fun k e => (hrow.lt k e).2
  have hscan := refScan_any t w hm
  have hal : (Fr.all t.data.toList).length ≤ t.size := by have := Fr.items_length t.data.toList.length t.data.toList 0; rw [Fr.size_list] at this; exact this
  obtain ⟨res, hres⟩ : ∃ res, Md.replayL n B.count (payL t) true 0 B [] = res := ⟨_, rfl⟩
  rw [hres]
  obtain ⟨A, hA⟩ : ∃ A, Fr.all t.data.toList = A := ⟨_, rfl⟩
  have hL : payL t = A.map fun x => x.1.1 := by unfold payL; rw [hA]
  rw [hA] at hscan hal
  rw [hL] at hres
  obtain ⟨had, hhad⟩ : ∃ had, B.count = had := ⟨_, rfl⟩
  have hcn := hb.cn
  rw [hhad] at hres hcnt hcn
  obtain ⟨c0, c1⟩ := hcnt
  have Hres := hide hres
  have Hst0 := hide hst0
  have HvL := hide hvl
  have Hhad := hide hhad
  clear hres hst0 hb hrow hinv hA hL hvl hhad
  go_enter Try.func41, Try.ntmps41
  go_wp2_with fail
  refine hscan.mono ?_
  rintro e W ⟨v0, rfl, hown, hB⟩
  obtain ⟨len, hlen⟩ : ∃ len, A.length = len := ⟨_, rfl⟩
  rw [hlen] at hown hal
  obtain ⟨a0, cap0, rfl, _⟩ := row_form hown
  have hlist : ∀ k x, A[k]? = some x → ∃ g, a0 = some ⟨g, 0, none⟩ ∧ w.heap.size ≤ g ∧ g < W.heap.size ∧ W.cell? ⟨g, k, none⟩ = some (.string ⟨x.1.1.toArray⟩) := by
    intro k x hk
    have hkl : k < len := by rw [← hlen]; exact (List.getElem?_eq_some_iff.1 hk).1
    obtain ⟨g, cap, hgv, _⟩ := row_form_pos hown (by omega)
    injection hgv with h1 _ _
    subst h1
    have hlt := hown.lt g rfl
    refine ⟨g, rfl, hlt.1, hlt.2, ?_⟩
    rw [hown.cellAt k (by omega)]
    simp [hk, pv]
  have hcW := (hB.cell (p := ⟨p, 221, none⟩) hp).trans hcn
  have Hlist := hide hlist
  have Hlen := hide hlen
  have hst1 := Hst0.out.below hB
  have Hst1 := hide hst1
  have HB := hide hB
  clear hlist hlen hst1 hscan hown Hst0 hcn hB
  go_wp2
  go_loopw [10, 11, 12] (fun so sa si wr => ∃ (k : Nat) (C : Md.Bk) (u : Value) (O : ByteArray) (ah : Int), k ≤ len ∧ si = .int .i64 k ∧ so = .string O ∧ sa = .int .i64 ah ∧ O.size ≤ 4004 * k ∧ (k = 0 → ah = 0) ∧ (0 < k → 1 ≤ ah) ∧ 0 ≤ ah ∧ ah ≤ 1000000000 ∧ C.count = max had ah ∧
    Hid (Md.replayL n had ((A.map fun x => x.1.1).drop k) (decide (k = 0)) ah C O.data.toList = res) ∧ Hid (RSt p v w n wr C u) ∧ Hid (Pays a0 A w wr u)) (fun _ _ si _ => len - (intOf si).toNat)
  case atStart =>
    refine ⟨0, B, v, ⟨#[]⟩, 0, Nat.zero_le _, rfl, rfl, rfl, by decide, fun _ => rfl, fun h => by omega, by omega, by omega, by rw [Hhad.out]; omega, Hres, Hst1, hide ?_⟩
    intro j x hx
    obtain ⟨g, h1, h2, h3, h4⟩ := Hlist.out j x hx
    exact ⟨g, h1, h2, h3, fun e => by have := HvL.out g e; omega, h4⟩
  case round =>
    clear Hst1 Hlist HB hcW
    obtain ⟨k, C, u, O, ah, hk, rfl, rfl, rfl, hOz, hk0, hk1, ah0, ah1, hcc, hE, hst, hpay⟩ := hrel
    by_cases hkl : k < len
    · have hkA : k < A.length := by rw [Hlen.out]; exact hkl
      have hxx : A[k]? = some A[k] := List.getElem?_eq_getElem hkA
      generalize A[k] = x at hxx
      have hdr : (A.map fun x => x.1.1).drop k = x.1.1 :: (A.map fun x => x.1.1).drop (k + 1) := by
        have h1 : (A.map fun x => x.1.1)[k]? = some x.1.1 := by rw [List.getElem?_map, hxx]; rfl
        obtain ⟨h2, h3⟩ := List.getElem?_eq_some_iff.1 h1
        rw [← h3]; exact List.drop_eq_getElem_cons h2
      obtain ⟨g, rfl, hg1, hg2, hg3, hg4⟩ := hpay.out k x hxx
      obtain ⟨S, hS⟩ : ∃ S, x.1.1 = S := ⟨_, rfl⟩
      have hS4 : S.length ≤ 4000 := by rw [← hS]; exact x.1.2
      rw [hS] at hg4 hdr
      obtain ⟨T, hT⟩ : ∃ T : ByteArray, (⟨S.toArray⟩ : ByteArray) = T := ⟨_, rfl⟩
      have hTd : T.data.toList = S := by rw [← hT]
      have hTz : T.size = S.length := by rw [← hTd, Fr.size_list]
      rw [hT] at hg4
      have hE2 := hE.out
      rw [hdr] at hE2
      have hofr := fun W => ofRecord_any T W
      have hfra := fun W => refFrame_any T W (by omega)
      rw [hTd] at hofr hfra
      unfold reqA at hofr
      obtain ⟨m, hm2⟩ : ∃ m, Md.numAt S 0 = m := ⟨_, rfl⟩
      obtain ⟨r, hr⟩ : ∃ r, Md.reqAt S 1 = r := ⟨_, rfl⟩
      rw [hm2, hr] at hofr
      have hkl' : (k : Int) < (len : Int) := by omega
      have Hofr := hide hofr
      have Hfra := hide hfra
      have HE2 := hide hE2
      have HS := hide hS
      have HT := hide hT
      have Hxx := hide hxx
      have HTd := hide hTd
      have Hm2 := hide hm2
      have Hr := hide hr
      have hret : Md.recOk had ah (decide (k = 0)) S = false → res = (C, O.data.toList) := fun h => by
        rw [← HE2.out, Md.replayL, h]; rfl
      have Hret := hide hret
      have hsz : T.size < 4611686018427387904 := by omega
      have hOz2 : O.size ≤ 4404019211862016 := by omega
      clear hE2 hofr hfra hS hT hTd hdr hxx hm2 hr hE hret
      go_wp2_with fail
      refine (Hofr.out wr).mono ?_
      rintro e W1 ⟨rfl, hb1⟩
      have hst1 := hst.out.below hb1
      have hpay1 := hpay.out.below hb1
      have Hst1 := hide hst1
      have Hpay1 := hide hpay1
      have hg4' := (hb1.cell (p := ⟨g, k, none⟩) hg2).trans hg4
      clear hst1 hpay1 hst hpay Hofr hg4
      cases h28 : decide (T.size = 28) with
      | false =>
        have hret2 : res = (C, O.data.toList) := Hret.out (by have := of_decide_eq_false h28; unfold Md.recOk; rw [decide_eq_false (show ¬ S.length = 28 by omega)]; rfl)
        have Hret2 := hide hret2
        clear hret2
        go_wp2
        go_ret
        exact ⟨u, O, rfl, by rw [Hret2.out], by rw [Hret2.out]; exact Hst1.out.below ((Below.refl _ _).alloc (Nat.le_refl _) _)⟩
      | true =>
        have h28' : S.length = 28 := by have := of_decide_eq_true h28; omega
        by_cases g1 : m < 1
        · have hret2 : res = (C, O.data.toList) := Hret.out (by unfold Md.recOk; rw [Hm2.out, decide_eq_false (show ¬ 1 ≤ m by omega)]; simp)
          have Hret2 := hide hret2
          clear hret2
          go_wp2
          go_ret
          exact ⟨u, O, rfl, by rw [Hret2.out], by rw [Hret2.out]; exact Hst1.out.below ((Below.refl _ _).alloc (Nat.le_refl _) _)⟩
        by_cases g2 : 1000000000 < m
        · have g1' : 1 ≤ m := by omega
          have hret2 : res = (C, O.data.toList) := Hret.out (by unfold Md.recOk; rw [Hm2.out, decide_eq_false (show ¬ m ≤ 1000000000 by omega)]; simp)
          have Hret2 := hide hret2
          clear hret2
          go_wp2
          go_ret
          exact ⟨u, O, rfl, by rw [Hret2.out], by rw [Hret2.out]; exact Hst1.out.below ((Below.refl _ _).alloc (Nat.le_refl _) _)⟩
        have g1' : 1 ≤ m := by omega
        have g2' : m ≤ 1000000000 := by omega
        have hfz : (Fr.frameL S).length = 4 + S.length := frameL_len S
        have hfl : (Fr.frameL S).length ≤ 4004 := by omega
        have Hfz : Hid ((⟨(Fr.frameL S).toArray⟩ : ByteArray).size = 4 + S.length) := hide hfz
        clear g1 g2 hfz
        by_cases hkz : k = 0
        · subst hkz
          have hah : ah = 0 := hk0 rfl
          subst hah
          by_cases g3 : had + 1 < m
          · have hret2 : res = (C, O.data.toList) := Hret.out (by unfold Md.recOk; rw [Hm2.out, decide_eq_false (show ¬ m ≤ had + 1 by omega)]; simp)
            have Hret2 := hide hret2
            clear hret2
            go_wp2
            go_ret
            exact ⟨u, O, rfl, by rw [Hret2.out], by rw [Hret2.out]; exact Hst1.out.below ((Below.refl _ _).alloc (Nat.le_refl _) _)⟩
          have g3' : m ≤ had + 1 := by omega
          have hok : Md.recOk had 0 (decide ((0 : Nat) = 0)) S = true := by unfold Md.recOk; rw [Hm2.out, decide_eq_true h28', decide_eq_true g1', decide_eq_true g2', decide_eq_true g3']; simp
          clear g3
          have hb2 := (Below.refl W1.heap.size W1).alloc (Nat.le_refl _) (.cells #[.int .i64 r.id, .int .i64 r.kind, .int .i64 r.cell, .int .i64 r.hold, .int .i64 r.count, .int .i64 r.time] 75)
          have hq2 := Req6.new W1 r
          have hst2 := Hst1.out.below hb2
          have hpay2 := Hpay1.out.below hb2
          by_cases hgt : had < m
          · go_wp2_with fail
            generalize W1.alloc (.cells #[.int .i64 r.id, .int .i64 r.kind, .int .i64 r.cell, .int .i64 r.hold, .int .i64 r.count, .int .i64 r.time] 75) = W2 at hb2 hq2 hst2 hpay2 ⊢
            obtain ⟨bs, hrw, hbs⟩ := hst2.row
            have hkno := known_any p C u r W2 hst2.bk (pastAt_of_row hrw)
            unfold reqA at hkno
            have Hq2 := hide hq2
            have Hst2 := hide hst2
            have Hpay2 := hide hpay2
            have hgood := fun W => good_any r W
            unfold reqA at hgood
            have Hgood := hide hgood
            clear hst2 hpay2 hrw hq2 hgood Hst1 Hpay1
            refine hkno.mono ?_
            rintro e W3 ⟨rfl, hb3⟩
            clear hkno
            cases hkn : Md.known C.past r with
            | some rep =>
              unfold knownV repA
              have hret2 : res = (C, O.data.toList) := by
                rw [← HE2.out, Md.replayL, Hm2.out, Hr.out, if_pos hok, if_pos hgt, if_neg (by unfold Md.isNew; rw [hkn]; simp)]
              have Hret2 := hide hret2
              have hq3 := Hq2.out.below hb3
              have hst3 := Hst2.out.below hb3
              obtain ⟨y0, y1, y2, y3, y4, y5, yl⟩ := hq3
              have Hst3 := hide hst3
              clear hret2 hst3
              go_wp2_with fail
              refine (Hgood.out _).mono ?_
              rintro e W4 ⟨rfl, hb4⟩
              have hst4 := (Hst3.out.below ((Below.refl _ _).alloc (Nat.le_refl _) _)).below hb4
              have Hst4 := hide hst4
              clear hst4 hb4
              go_wp2
              go_ret
              exact ⟨u, O, rfl, by rw [Hret2.out], by rw [Hret2.out]; exact Hst4.out⟩
            | none =>
              unfold knownV
              have hq3 := Hq2.out.below hb3
              have Hst3 := hide (Hst2.out.below hb3)
              have Hpay3 := hide (Hpay2.out.below hb3)
              have Hq3 := hide hq3
              obtain ⟨y0, y1, y2, y3, y4, y5, yl⟩ := hq3
              go_wp2_with fail
              refine (Hgood.out _).mono ?_
              rintro e W4 ⟨rfl, hb4⟩
              have Hst4 := hide ((Hst3.out.below ((Below.refl _ _).alloc (Nat.le_refl _) _)).below hb4)
              have Hpay4 := hide ((Hpay3.out.below ((Below.refl _ _).alloc (Nat.le_refl _) _)).below hb4)
              have hq4 := (Hq3.out.below ((Below.refl _ _).alloc (Nat.le_refl _) _)).below hb4
              clear hb4 hb3 y0 y1 y2 y3 y4 y5 yl
              cases hgd : Md.good r with
              | false =>
                have hret2 : res = (C, O.data.toList) := by
                  rw [← HE2.out, Md.replayL, Hm2.out, Hr.out, if_pos hok, if_pos hgt, if_neg (by unfold Md.isNew; rw [hgd]; simp)]
                have Hret2 := hide hret2
                clear hret2 hq4
                go_wp2
                go_ret
                exact ⟨u, O, rfl, by rw [Hret2.out], by rw [Hret2.out]; exact Hst4.out⟩
              | true =>
                have hnx : Md.replayL n had ((A.map fun x => x.1.1).drop (0 + 1)) false m (Md.doReq C r n).1 (O.data.toList ++ Fr.frameL S) = res := by
                  rw [← HE2.out, Md.replayL, Hm2.out, Hr.out, if_pos hok, if_pos hgt, if_pos (by unfold Md.isNew; rw [hkn, hgd]; rfl)]
                have Hnx := hide hnx
                obtain ⟨bs4, hrw4, hbs4⟩ := Hst4.out.row
                have hdo := do_any p bs4 C u r n W4 hgd Hst4.out.bk Hst4.out.inv.fit hrw4 Hst4.out.np hbs4 (by have := Hst4.out.inv.pl; omega) (by omega) (by omega)
                unfold reqA at hdo
                obtain ⟨y0, y1, y2, y3, y4, y5, yl⟩ := hq4
                have hinv := Hst4.out.inv.doReq hgd
                have hcnt := Md.doReq_count C r n
                obtain ⟨D, hD⟩ : ∃ D, Md.doReq C r n = D := ⟨_, rfl⟩
                rw [hD] at hdo hinv hcnt hnx
                have Hnx := hide hnx
                clear hnx hrw4 hD
                go_wp2_with fail
                refine hdo.mono ?_
                rintro e W5 ⟨u5, rfl, hbk5, hrw5, hk5⟩
                have Hst5 := hide (Hst4.out.done hbk5 hrw5 hk5 hinv hp)
                have Hpay5 := hide (Hpay4.out.done hp hk5 (fun b e => (hrw5.lt b e).1))
                have hg5 : W5.cell? ⟨g, 0, none⟩ = some (.string T) := by
                  obtain ⟨g', h1, _, _, _, h5⟩ := Hpay5.out 0 x Hxx.out
                  cases h1
                  rw [HS.out, HT.out] at h5; exact h5
                clear hbk5 hrw5 hk5 hinv Hst4 Hpay4 hdo y0 y1 y2 y3 y4 y5 yl
                unfold repA
                go_wp2_with fail
                refine (Hfra.out W5).mono ?_
                rintro e W6 ⟨rfl, hb6⟩
                have Hst6 := hide (Hst5.out.below hb6)
                have Hpay6 := hide (Hpay5.out.below hb6)
                clear hb6 hg5
                go_wp2
                refine ⟨?_, ?_⟩
                · exact ⟨0 + 1, D.1, u5, _, m, by omega, by go_num, rfl, rfl, by rw [ByteArray.size_append, Hfz.out]; omega, fun h => by omega, fun _ => by omega, by omega, by omega, by omega, hide (by rw [ByteArray.data_append, Array.toList_append]; exact Hnx.out), Hst6, Hpay6⟩
                · simp [intOf]; omega
          · have hnx : Md.replayL n had ((A.map fun x => x.1.1).drop (0 + 1)) false m C (O.data.toList ++ Fr.frameL S) = res := by
              rw [← HE2.out, Md.replayL, Hm2.out, Hr.out, if_pos hok, if_neg hgt]
            have Hnx := hide hnx
            have Hst2 := hide hst2
            have Hpay2 := hide hpay2
            have hgl : g < W1.heap.size := Nat.lt_of_lt_of_le hg2 hb1.size
            clear hnx hst2 hpay2 hb2 hq2
            go_wp2_with fail
            refine (Hfra.out _).mono ?_
            rintro e W6 ⟨rfl, hb6⟩
            have Hst6 := hide (Hst2.out.below hb6)
            have Hpay6 := hide (Hpay2.out.below hb6)
            clear hb6
            go_wp2
            refine ⟨?_, ?_⟩
            · exact ⟨0 + 1, C, u, _, m, by omega, by go_num, rfl, rfl, by rw [ByteArray.size_append, Hfz.out]; omega, fun h => by omega, fun _ => by omega, by omega, by omega, by omega, hide (by rw [ByteArray.data_append, Array.toList_append]; exact Hnx.out), Hst6, Hpay6⟩
            · simp [intOf]; omega
        · have hkp : 0 < (k : Int) := by omega
          have hkn0 : ¬ (k : Int) = 0 := by omega
          have hdk : decide (k = 0) = false := decide_eq_false hkz
          by_cases g3 : m = ah + 1
          · have hok : Md.recOk had ah (decide (k = 0)) S = true := by unfold Md.recOk; rw [Hm2.out, decide_eq_true h28', decide_eq_true g1', decide_eq_true g2', hdk, decide_eq_true g3]; simp
            have hb2 := (Below.refl W1.heap.size W1).alloc (Nat.le_refl _) (.cells #[.int .i64 r.id, .int .i64 r.kind, .int .i64 r.cell, .int .i64 r.hold, .int .i64 r.count, .int .i64 r.time] 75)
            have hq2 := Req6.new W1 r
            have hst2 := Hst1.out.below hb2
            have hpay2 := Hpay1.out.below hb2
            by_cases hgt : had < m
            · go_wp2_with fail
              generalize W1.alloc (.cells #[.int .i64 r.id, .int .i64 r.kind, .int .i64 r.cell, .int .i64 r.hold, .int .i64 r.count, .int .i64 r.time] 75) = W2 at hb2 hq2 hst2 hpay2 ⊢
              obtain ⟨bs, hrw, hbs⟩ := hst2.row
              have hkno := known_any p C u r W2 hst2.bk (pastAt_of_row hrw)
              unfold reqA at hkno
              have Hq2 := hide hq2
              have Hst2 := hide hst2
              have Hpay2 := hide hpay2
              have hgood := fun W => good_any r W
              unfold reqA at hgood
              have Hgood := hide hgood
              clear hst2 hpay2 hrw hq2 hgood Hst1 Hpay1
              refine hkno.mono ?_
              rintro e W3 ⟨rfl, hb3⟩
              clear hkno
              cases hkn : Md.known C.past r with
              | some rep =>
                unfold knownV repA
                have hret2 : res = (C, O.data.toList) := by
                  rw [← HE2.out, Md.replayL, Hm2.out, Hr.out, if_pos hok, if_pos hgt, if_neg (by unfold Md.isNew; rw [hkn]; simp)]
                have Hret2 := hide hret2
                have hq3 := Hq2.out.below hb3
                have hst3 := Hst2.out.below hb3
                obtain ⟨y0, y1, y2, y3, y4, y5, yl⟩ := hq3
                have Hst3 := hide hst3
                clear hret2 hst3
                go_wp2_with fail
                refine (Hgood.out _).mono ?_
                rintro e W4 ⟨rfl, hb4⟩
                have hst4 := (Hst3.out.below ((Below.refl _ _).alloc (Nat.le_refl _) _)).below hb4
                have Hst4 := hide hst4
                clear hst4 hb4
                go_wp2
                go_ret
                exact ⟨u, O, rfl, by rw [Hret2.out], by rw [Hret2.out]; exact Hst4.out⟩
              | none =>
                unfold knownV
                have hq3 := Hq2.out.below hb3
                have Hst3 := hide (Hst2.out.below hb3)
                have Hpay3 := hide (Hpay2.out.below hb3)
                have Hq3 := hide hq3
                obtain ⟨y0, y1, y2, y3, y4, y5, yl⟩ := hq3
                go_wp2_with fail
                refine (Hgood.out _).mono ?_
                rintro e W4 ⟨rfl, hb4⟩
                have Hst4 := hide ((Hst3.out.below ((Below.refl _ _).alloc (Nat.le_refl _) _)).below hb4)
                have Hpay4 := hide ((Hpay3.out.below ((Below.refl _ _).alloc (Nat.le_refl _) _)).below hb4)
                have hq4 := (Hq3.out.below ((Below.refl _ _).alloc (Nat.le_refl _) _)).below hb4
                clear hb4 hb3 y0 y1 y2 y3 y4 y5 yl
                cases hgd : Md.good r with
                | false =>
                  have hret2 : res = (C, O.data.toList) := by
                    rw [← HE2.out, Md.replayL, Hm2.out, Hr.out, if_pos hok, if_pos hgt, if_neg (by unfold Md.isNew; rw [hgd]; simp)]
                  have Hret2 := hide hret2
                  clear hret2 hq4
                  go_wp2
                  go_ret
                  exact ⟨u, O, rfl, by rw [Hret2.out], by rw [Hret2.out]; exact Hst4.out⟩
                | true =>
                  have hnx : Md.replayL n had ((A.map fun x => x.1.1).drop (k + 1)) false m (Md.doReq C r n).1 (O.data.toList ++ Fr.frameL S) = res := by
                    rw [← HE2.out, Md.replayL, Hm2.out, Hr.out, if_pos hok, if_pos hgt, if_pos (by unfold Md.isNew; rw [hkn, hgd]; rfl)]
                  have Hnx := hide hnx
                  obtain ⟨bs4, hrw4, hbs4⟩ := Hst4.out.row
                  have hdo := do_any p bs4 C u r n W4 hgd Hst4.out.bk Hst4.out.inv.fit hrw4 Hst4.out.np hbs4 (by have := Hst4.out.inv.pl; omega) (by omega) (by omega)
                  unfold reqA at hdo
                  obtain ⟨y0, y1, y2, y3, y4, y5, yl⟩ := hq4
                  have hinv := Hst4.out.inv.doReq hgd
                  have hcnt := Md.doReq_count C r n
                  obtain ⟨D, hD⟩ : ∃ D, Md.doReq C r n = D := ⟨_, rfl⟩
                  rw [hD] at hdo hinv hcnt hnx
                  have Hnx := hide hnx
                  clear hnx hrw4 hD
                  go_wp2_with fail
                  refine hdo.mono ?_
                  rintro e W5 ⟨u5, rfl, hbk5, hrw5, hk5⟩
                  have Hst5 := hide (Hst4.out.done hbk5 hrw5 hk5 hinv hp)
                  have Hpay5 := hide (Hpay4.out.done hp hk5 (fun b e => (hrw5.lt b e).1))
                  have hg5 : W5.cell? ⟨g, k, none⟩ = some (.string T) := by
                    obtain ⟨g', h1, _, _, _, h5⟩ := Hpay5.out k x Hxx.out
                    cases h1
                    rw [HS.out, HT.out] at h5; exact h5
                  clear hbk5 hrw5 hk5 hinv Hst4 Hpay4 hdo y0 y1 y2 y3 y4 y5 yl
                  unfold repA
                  go_wp2_with fail
                  refine (Hfra.out W5).mono ?_
                  rintro e W6 ⟨rfl, hb6⟩
                  have Hst6 := hide (Hst5.out.below hb6)
                  have Hpay6 := hide (Hpay5.out.below hb6)
                  clear hb6 hg5
                  go_wp2
                  refine ⟨?_, ?_⟩
                  · exact ⟨k + 1, D.1, u5, _, m, by omega, by go_num, rfl, by rw [g3], by rw [ByteArray.size_append, Hfz.out]; omega, fun h => by omega, fun _ => by omega, by omega, by omega, by omega, hide (by rw [ByteArray.data_append, Array.toList_append]; exact Hnx.out), Hst6, Hpay6⟩
                  · simp [intOf]; omega
            · have hnx : Md.replayL n had ((A.map fun x => x.1.1).drop (k + 1)) false m C (O.data.toList ++ Fr.frameL S) = res := by
                rw [← HE2.out, Md.replayL, Hm2.out, Hr.out, if_pos hok, if_neg hgt]
              have Hnx := hide hnx
              have Hst2 := hide hst2
              have Hpay2 := hide hpay2
              have hgl : g < W1.heap.size := Nat.lt_of_lt_of_le hg2 hb1.size
              clear hnx hst2 hpay2 hb2 hq2
              go_wp2_with fail
              refine (Hfra.out _).mono ?_
              rintro e W6 ⟨rfl, hb6⟩
              have Hst6 := hide (Hst2.out.below hb6)
              have Hpay6 := hide (Hpay2.out.below hb6)
              clear hb6
              go_wp2
              refine ⟨?_, ?_⟩
              · exact ⟨k + 1, C, u, _, m, by omega, by go_num, rfl, by rw [g3], by rw [ByteArray.size_append, Hfz.out]; omega, fun h => by omega, fun _ => by omega, by omega, by omega, by omega, hide (by rw [ByteArray.data_append, Array.toList_append]; exact Hnx.out), Hst6, Hpay6⟩
              · simp [intOf]; omega
          · have hret2 : res = (C, O.data.toList) := Hret.out (by unfold Md.recOk; rw [Hm2.out, hdk, decide_eq_false g3]; simp)
            have hne : (m != ah + 1) = true := by simpa using g3
            have Hret2 := hide hret2
            clear hret2
            go_wp2
            go_ret
            exact ⟨u, O, rfl, by rw [Hret2.out], by rw [Hret2.out]; exact Hst1.out.below ((Below.refl _ _).alloc (Nat.le_refl _) _)⟩
    · obtain rfl : k = len := by omega
      have hret2 : res = (C, O.data.toList) := by
        rw [← hE.out, List.drop_of_length_le (by rw [List.length_map, Hlen.out]; exact Nat.le_refl _)]; rfl
      have Hret2 := hide hret2
      clear hret2
      go_wp2
      go_ret
      exact ⟨u, O, rfl, by rw [Hret2.out], by rw [Hret2.out]; exact hst.out⟩
end Go.Proofs.Ytidacihlalbohaa
