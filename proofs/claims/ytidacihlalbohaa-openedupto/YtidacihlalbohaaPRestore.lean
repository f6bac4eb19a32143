/- Restore: a book out of a snapshot's payload. -/
import Derived.Test.YtidacihlalbohaaPVal
import Derived.Deep.MidRow
namespace Go.Proofs.Ytidacihlalbohaa
open Go.RowKit

/-- 333 cells that may be written. -/
structure Room (W : World) (b : Nat) : Prop where
  th : W.there b 0 333
  fz : ∀ o, W.frozen? ⟨b, o, none⟩ = false
  lt : b < W.heap.size
theorem Room.of_block {W W' : World} {b : Nat} (h : Room W b) (hb : W'.heap[b]? = W.heap[b]?) (hl : b < W'.heap.size) : Room W' b :=
  ⟨fun j hj => by rw [World.cell?_of_block hb, World.frozen?_of_block hb]; exact h.th j hj, fun o => (World.frozen?_of_block hb).trans (h.fz o), hl⟩
theorem Room.below {W W' : World} {b : Nat} (h : Room W b) (hb : Below W.heap.size W W') : Room W' b := h.of_block (hb.block b h.lt) (Nat.lt_of_lt_of_le h.lt hb.size)
theorem Room.new (W : World) : Room (W.alloc (.cells Try.zeroCells82 82)) W.heap.size := by
  have hf : ∀ o, (W.alloc (.cells Try.zeroCells82 82)).frozen? ⟨W.heap.size, o, none⟩ = false := fun o => by simp [go_sem]
  refine ⟨fun j hj => ⟨?_, hf _⟩, hf, by simp⟩
  rw [Nat.zero_add, show (W.alloc (.cells Try.zeroCells82 82)).cell? ⟨W.heap.size, j, none⟩ = Try.zeroCells82[j]? from World.cell?_alloc_mark W _ 82 (0, 0) j, ← Array.getElem?_toList, zeroP, List.getElem?_replicate, if_pos hj]; rfl

theorem store_run {W : World} {b : Nat} {cs : List Value} (h : W.there b 0 cs.length) (h1 : ∀ v ∈ cs, v.oneCell' = true) : Sem.run Try.prog (storeCells ⟨b, 0, none⟩ cs) W = .ok () (W.setCells b 0 cs) :=
  run_storeCells_cells (P := Try.prog) b 0 cs 0 W (fun j hj => by simpa using (h j (by simpa using hj)).1) (fun j hj => by simpa using (h j (by simpa using hj)).2) h1
theorem setCells_block {W : World} {b k : Nat} (cs : List Value) (hk : k < W.heap.size) (hne : k ≠ b) : (W.setCells b 0 cs).heap[k]? = W.heap[k]? :=
  (grown_setCells b cs 0 W).block k hk (fun e => by injection e with e; exact hne e)
theorem below_setCells {w W : World} {b : Nat} (h : Below w.heap.size w W) (cs : List Value) (hb : w.heap.size ≤ b) : Below w.heap.size w (W.setCells b 0 cs) :=
  have g := grown_setCells b cs 0 W
  ⟨g.os.trans h.os, g.tape.trans h.tape, g.output.trans h.output, Nat.le_trans h.size g.size, fun k hk => (g.block k (Nat.lt_of_lt_of_le hk h.size) (fun e => by injection e with e; omega)).trans (h.block k hk)⟩
theorem Room.setBook {W : World} {b : Nat} (h : Room W b) : PBook (W.setCells b 0 newC) b Md.bk0 20 := by
  refine PBook.new (fun j v hv => ?_) (fun o => (World.frozen?_setCells b newC 0 W _).trans (h.fz o)) (by rw [size_setCells]; exact h.lt)
  obtain ⟨h1, h2⟩ := List.getElem?_eq_some_iff.1 hv
  rw [World.cell?_setCells_in b newC 0 W (fun j hj => (h.th j (by rwa [newC_len] at hj)).1) j h1, h2]

/-- Restore's memory on its way. -/
structure RMem (w W : World) (p : Nat) (s : ByteArray) (i : Nat) (bad : Bool) (B : Md.Bk) : Prop where
  rm : Room W w.heap.size
  rd : RdAt W (w.heap.size + 1) s i bad
  bk : PBook W p B 20
  bl : Below w.heap.size w W
  lt : w.heap.size + 1 < p
theorem RMem.read {w W W' : World} {p : Nat} {s : ByteArray} {i i' : Nat} {bad bad' : Bool} {B : Md.Bk} (h : RMem w W p s i bad B) (hr : RdAt W' (w.heap.size + 1) s i' bad') (g : W.grownBy W' (some (w.heap.size + 1))) : RMem w W' p s i' bad' B :=
  ⟨h.rm.of_block (g.block _ h.rm.lt (fun e => by injection e with e; omega)) (Nat.lt_of_lt_of_le h.rm.lt g.size), hr,
    h.bk.of_block (g.block p h.bk.lt (fun e => by injection e with e; have := h.lt; omega)) (Nat.lt_of_lt_of_le h.bk.lt g.size),
    ⟨g.os.trans h.bl.os, g.tape.trans h.bl.tape, g.output.trans h.bl.output, Nat.le_trans h.bl.size g.size, fun k hk => (g.block k (Nat.lt_of_lt_of_le hk h.bl.size) (fun e => by injection e with e; omega)).trans (h.bl.block k hk)⟩, h.lt⟩
theorem RMem.write {w W : World} {p : Nat} {s : ByteArray} {i : Nat} {bad : Bool} {B B' : Md.Bk} (h : RMem w W p s i bad B) {o : Nat} {x : Value} (hb : PBook (W.setCell ⟨p, o, none⟩ x) p B' 20) : RMem w (W.setCell ⟨p, o, none⟩ x) p s i bad B' :=
  have hl := h.lt
  ⟨h.rm.of_block (put_block o x (by omega)) (by rw [size_put]; exact h.rm.lt), h.rd.of_block (put_block o x (by omega)) (by rw [size_put]; exact h.rd.lt), hb, h.bl.setCell (p := ⟨p, o, none⟩) (by show w.heap.size ≤ p; omega) x, hl⟩
theorem RMem.kept {w W W' : World} {p : Nat} {s : ByteArray} {i i' : Nat} {bad bad' : Bool} {B B' : Md.Bk} (h : RMem w W p s i bad B) (hr : RdAt W' (w.heap.size + 1) s i' bad') (hb : PBook W' p B' 20) (g : Kept2 p (some (w.heap.size + 1)) W W') : RMem w W' p s i' bad' B' :=
  have hl := h.lt
  ⟨h.rm.of_block (g.block _ h.rm.lt (by omega) (fun e => by injection e with e; omega)) (Nat.lt_of_lt_of_le h.rm.lt g.size), hr, hb,
    ⟨g.os.trans h.bl.os, g.tape.trans h.bl.tape, g.output.trans h.bl.output, Nat.le_trans h.bl.size g.size, fun k hk => (g.block k (Nat.lt_of_lt_of_le hk h.bl.size) (by omega) (fun e => by injection e with e; omega)).trans (h.bl.block k hk)⟩, hl⟩
theorem RMem.below {w W W' : World} {p : Nat} {s : ByteArray} {i : Nat} {bad : Bool} {B : Md.Bk} (h : RMem w W p s i bad B) (hb : Below W.heap.size W W') : RMem w W' p s i bad B :=
  ⟨h.rm.below hb, h.rd.below hb, h.bk.below hb, h.bl.trans (hb.mono h.bl.size), h.lt⟩

theorem Room.range {W : World} {b : Nat} {cs : List Value} (h : Room W b) (hl : cs.length = 333) : (W.setCells b 0 cs).rangeAt b 0 cs := fun j v hv => by
  obtain ⟨h1, h2⟩ := List.getElem?_eq_some_iff.1 hv
  rw [World.cell?_setCells_in b cs 0 W (fun j hj => (h.th j (by rwa [hl] at hj)).1) j h1, h2]
theorem infoB {cs : List Value} (hl : cs.length = 333) : (Try.prog.info? 82).map (·.size) = some cs.length := by rw [hl]; kernel_rfl
theorem zeroL_len : Try.zeroCells82.toList.length = 333 := by rw [zeroP, List.length_replicate]
theorem zeroL_one : ∀ v ∈ Try.zeroCells82.toList, v.oneCell' = true := by rw [zeroP]; intro v hv; rw [List.eq_of_mem_replicate hv]; rfl

def RestPost (s : ByteArray) (e : Ending) : Prop := ∃ cs : List Value, cs.length = 333 ∧ (∀ v ∈ cs, v.oneCell' = true) ∧
  ((∃ B, Md.ofSnap s.data.toList = some B ∧ e = .returned (.tuple #[.agg cs.toArray, .bool true]) ∧ cs = bookL B 20) ∨ (Md.ofSnap s.data.toList = none ∧ e = .returned (.tuple #[.agg cs.toArray, .bool false])))

set_option maxRecDepth 100000 in
set_option maxHeartbeats 4000000 in
theorem restore_any (s : ByteArray) (w : World) :
    Calls Try.prog 57 #[.string s] w fun e w' => RestPost s e ∧ Below w.heap.size w w' := by
  obtain ⟨V0, hV0⟩ : ∃ V0, (w.alloc (.cells Try.zeroCells82 82)).alloc (.cells #[.string s, .bool false] 156) = V0 := ⟨_, rfl⟩
  have hd0 : Room V0 w.heap.size := by rw [← hV0]; exact (Room.new w).below ((Below.refl _ _).alloc (Nat.le_refl _) _)
  have hB0 : Below w.heap.size w V0 := by rw [← hV0]; exact ((Below.refl _ _).alloc (Nat.le_refl _) _).alloc (by simp) _
  have hr0 : RdAt V0 (w.heap.size + 1) s 0 false := by
    refine ⟨?_, ?_, ?_, ?_⟩
    · have h0 : s.extract (4 * 0) s.size = s := by apply ByteArray.ext; simp
      rw [h0, ← hV0]; simp [go_sem]
    · rw [← hV0]; simp [go_sem]
    · intro o; rw [← hV0]; simp [go_sem]
    · rw [← hV0]; simp
  have hnew := pNew_any V0
  go_enter Try.func57, Try.ntmps57
  go_wp2_with fail
  clear hV0
  refine hnew.mono ?_
  rintro e W1 ⟨rfl, hb1⟩
  clear hnew
  have hd1 := hd0.below hb1
  have hr1 := hr0.below hb1
  have hB1 : Below w.heap.size w W1 := hB0.trans (hb1.mono hB0.size)
  clear hd0 hr0 hb1 hB0
  have hbA := (Below.refl W1.heap.size W1).alloc (Nat.le_refl _) (.cells Try.zeroCells82 82)
  have hdA := hd1.below hbA
  have hrA := hr1.below hbA
  have hp := Room.new W1
  have hBA := hB1.trans (hbA.mono hB1.size)
  have hst := store_run (W := W1.alloc (.cells Try.zeroCells82 82)) (b := W1.heap.size) (cs := newC) (by rw [newC_len]; exact hp.th) newC_one
  have hb0 := hp.setBook
  have hneq : w.heap.size + 1 < W1.heap.size := hr1.lt
  have hdB := hdA.of_block (setCells_block newC hdA.lt (show w.heap.size ≠ W1.heap.size by omega)) (by rw [size_setCells]; exact hdA.lt)
  have hrB := hrA.of_block (setCells_block newC hrA.lt (show w.heap.size + 1 ≠ W1.heap.size by omega)) (by rw [size_setCells]; exact hrA.lt)
  have hBB := below_setCells hBA newC (show w.heap.size ≤ W1.heap.size by omega)
  generalize (W1.alloc (.cells Try.zeroCells82 82)).setCells W1.heap.size 0 newC = X0 at hst hb0 hdB hrB hBB
  have hwi := within_any (w.heap.size + 1) s 0 false 0 1000000000 X0 hrB
  clear hdA hrA hp hbA hBA hd1 hr1 hB1
  go_wp2_with fail
  clear hst
  generalize W1.heap.size = p at *
  have hm0 : RMem w X0 p s 0 false Md.bk0 := ⟨hdB, hrB, hb0, hBB, hneq⟩
  clear hdB hrB hb0 hBB hneq
  refine hwi.mono ?_
  rintro e W2 ⟨rfl, r2, g2⟩
  have hm2 := hm0.read r2 g2
  have c2 := hm2.bk.cn
  have f2 := hm2.bk.fz 170
  have l2 := hm2.bk.lt
  have hm3 := hm2.write (hm2.bk.setCount (Md.bound (Md.numAt s.data.toList 0) 0 1000000000))
  have hwi2 := within_any (w.heap.size + 1) s 1 _ 0 1000000000 _ hm3.rd
  clear hwi r2 g2 hm0
  go_wp2_with fail
  refine hwi2.mono ?_
  rintro e W4 ⟨rfl, r4, g4⟩
  have hm4 := hm3.read r4 g4
  have c4 := hm4.bk.cl
  have f4 := hm4.bk.fz 169
  have l4 := hm4.bk.lt
  have hm5 := hm4.write (hm4.bk.setClock (Md.bound (Md.numAt s.data.toList 1) 0 1000000000))
  have hm6 : RMem w (W4.setCell ⟨p, 169, none⟩ (.int .i64 (Md.bound (Md.numAt s.data.toList 1) 0 1000000000))) p s (2 + 2 * 0) (Md.badC s 0) (Md.cFold s.data.toList 0) := hm5
  have Hm6 := hide hm6
  clear hm6 hm5 hm4 hm3 hm2 hwi2 r4 g4 c2 f2 l2
  go_wp2
  generalize W4.setCell ⟨p, 169, none⟩ (.int .i64 (Md.bound (Md.numAt s.data.toList 1) 0 1000000000)) = X6 at Hm6 ⊢
  clear c4 f4 l4
  go_loopw [17] (fun i wr => ∃ j : Nat, j ≤ 8 ∧ i = .int .i64 j ∧ Hid (RMem w wr p s (2 + 2 * j) (Md.badC s j) (Md.cFold s.data.toList j))) (fun i _ => 8 - (intOf i).toNat)
  case atStart => exact ⟨0, by omega, rfl, Hm6⟩
  case round =>
    clear Hm6
    obtain ⟨j, hj, rfl, hst⟩ := hrel
    by_cases hj8 : j < 8
    · have hj8' : (j : Int) < 8 := by omega
      have w1 := within_any (w.heap.size + 1) s (2 + 2 * j) (Md.badC s j) 0 1000000000 wr hst.out.rd
      go_wp2_with fail
      refine w1.mono ?_
      rintro e W5 ⟨rfl, r5, g5⟩
      obtain ⟨b1, hb1⟩ : ∃ b1, (Md.badC s j || Md.lack s (2 + 2 * j + 1) || !Md.inR (Md.numAt s.data.toList (2 + 2 * j)) 0 1000000000) = b1 := ⟨_, rfl⟩
      rw [hb1] at r5
      have r5' : RdAt W5 (w.heap.size + 1) s (3 + 2 * j) b1 := by rwa [show 2 + 2 * j + 1 = 3 + 2 * j by omega] at r5
      have hm5 := hst.out.read r5' g5
      have Hb1 := hide hb1
      clear w1 r5 r5' g5 hb1
      have w2 := within_any (w.heap.size + 1) s (3 + 2 * j) b1 0 1000000000 W5 hm5.rd
      go_wp2_with fail
      refine w2.mono ?_
      rintro e W6 ⟨rfl, r6, g6⟩
      have hm6 := hm5.read r6 g6
      have o1 := hm6.bk.on j hj8
      have o2 := hm6.bk.co j hj8
      have of := hm6.bk.fz
      have ol := hm6.bk.lt
      have hm7 := hm6.write (hm6.bk.setOn hj8 (Md.bound (Md.numAt s.data.toList (2 + 2 * j)) 0 1000000000))
      have hm8 := hm7.write (hm7.bk.setCo hj8 (Md.bound (Md.numAt s.data.toList (3 + 2 * j)) 0 1000000000))
      have hm9 : RMem w ((W6.setCell ⟨p, j * 2, none⟩ (.int .i64 (Md.bound (Md.numAt s.data.toList (2 + 2 * j)) 0 1000000000))).setCell ⟨p, j * 2 + 1, none⟩ (.int .i64 (Md.bound (Md.numAt s.data.toList (3 + 2 * j)) 0 1000000000))) p s (2 + 2 * (j + 1)) (Md.badC s (j + 1)) (Md.cFold s.data.toList (j + 1)) := by
        have h := hm8
        rw [← Hb1.out, show 3 + 2 * j + 1 = 2 + 2 * (j + 1) by omega] at h
        rw [Md.badC, show 3 + 2 * j + 1 = 2 + 2 * (j + 1) by omega]
        exact h
      have Hm9 := hide hm9
      clear hm9 hm8 hm7 hm6 hm5 w2 r6 g6
      go_wp2
      go_roundw
      case rel => exact ⟨j + 1, by omega, by go_num, Hm9⟩
      case measure => simp [intOf]; omega
    · obtain rfl : j = 8 := by omega
      have hpl := hst.out.bk.lt
      obtain ⟨k1, k2, k3, k4, k5, k6, k7⟩ := Md.cFold_keep s.data.toList 8
      have hck : 0 ≤ (Md.cFold s.data.toList 8).clock ∧ (Md.cFold s.data.toList 8).clock ≤ 1000000000 := by rw [k7]; exact Md.bound_bd (by omega) (by omega)
      have hcc : 0 ≤ (Md.cFold s.data.toList 8).count ∧ (Md.cFold s.data.toList 8).count ≤ 1000000000 := by rw [k6]; exact Md.bound_bd (by omega) (by omega)
      have hpq : p ≠ w.heap.size + 1 := by have := hst.out.lt; omega
      have hrh := readHolds_any p (w.heap.size + 1) s (Md.cFold s.data.toList 8) 20 (Md.badC s 8) wr hst.out.rd hst.out.bk hpq hck
      clear k1 k2 k3 k4 k6 k7 hck
      go_wp2_with fail
      refine hrh.mono ?_
      rintro e W7 ⟨rfl, ⟨num, badH, B', hH⟩, hk7⟩
      obtain ⟨n, hn⟩ : ∃ n, (Md.bound (Md.numAt s.data.toList 18) 0 50).toNat = n := ⟨_, rfl⟩
      rw [hn] at hH
      have hm7 := hst.out.kept hH.rd hH.bk hk7
      have hrp := readPast_any p (w.heap.size + 1) s B' badH (19 + 4 * n) W7 hH.rd hH.bk hpq (by rw [hH.pa]; exact k5) (by rw [hH.cn]; exact hcc)
      have Hn := hide hn
      have HH := hide hH
      clear hrh hk7 hn hH hst hcc
      go_wp2_with fail
      refine hrp.mono ?_
      rintro e W8 ⟨rfl, ⟨badP, l, hP⟩, hk8⟩
      obtain ⟨m, hm⟩ : ∃ m, (Md.bound (Md.numAt s.data.toList (19 + 4 * n)) 0 (min 20 B'.count)).toNat = m := ⟨_, rfl⟩
      rw [hm] at hP
      have hm8 := hm7.kept hP.rd hP.bk hk8
      have hen := ended_any (w.heap.size + 1) s _ badP W8 hP.rd
      have hgd := rest_good Hn.out HH.out hm hP
      have hfn : ∀ n' m', Md.Okay s.data.toList n' m' → n' = n ∧ m' = m ∧ badP = false := fun n' m' ho => rest_fine Hn.out HH.out hm hP ho
      have Hgd := hide hgd
      have Hfn := hide hfn
      clear hrp hk8 hm hP hm7 HH Hn hgd hfn
      obtain ⟨E, hE⟩ : ∃ E, (!badP && decide (s.size ≤ 4 * (19 + 4 * n + 1 + 8 * m))) = E := ⟨_, rfl⟩
      rw [hE] at hen
      have HE := hide hE
      clear hE
      go_wp2_with fail
      refine hen.mono ?_
      rintro e W9 ⟨rfl, rfl⟩
      cases E with
      | false =>
        have hno : Md.ofSnap s.data.toList = none := Md.ofSnap_none (fun n' m' ho => by
          obtain ⟨e1, e2, e3⟩ := Hfn.out n' m' ho
          subst e1 e2
          have hz : s.size = 4 * (20 + 4 * n' + 8 * m') := by have := ho.len; rwa [Fr.size_list] at this
          have := HE.out
          rw [e3, decide_eq_true (by omega)] at this
          cases this)
        have Hno := hide hno
        have hst := store_run (W := W9) (b := w.heap.size) (cs := Try.zeroCells82.toList) (by rw [zeroL_len]; exact hm8.rm.th) zeroL_one
        have hld := run_loadVar_mid (P := Try.prog) _ w.heap.size 0 82 _ _ (hm8.rm.range zeroL_len) Try.underlying82 rfl (infoB zeroL_len)
        clear hno
        go_wp2
        refine bodyPost_ret (v := .tuple #[.agg Try.zeroCells82.toList.toArray, .bool false]) ?_ rfl ⟨⟨_, zeroL_len, zeroL_one, .inr ⟨Hno.out, rfl⟩⟩, below_setCells hm8.bl _ (Nat.le_refl _)⟩
        simp only [Array.toArray_toList] at hld ⊢
        simp [results, Try.results57, asAddr, hld]
      | true =>
        have hbp : badP = false ∧ s.size ≤ 4 * (19 + 4 * n + 1 + 8 * m) := by
          have := HE.out
          rw [Bool.and_eq_true, Bool.not_eq_true', decide_eq_true_eq] at this
          exact this
        obtain ⟨y1, y2, y3, y4, y5, y6, y7, y8⟩ := Hgd.out hbp.1
        have hov := pOver_any p _ 20 W9 y8 (Md.rBook_small _ n m) (Md.rHolds_l0 n y4)
        obtain ⟨O, hO⟩ : ∃ O, Md.over (Md.rBook s.data.toList n m) 8 = O := ⟨_, rfl⟩
        rw [hO] at hov
        go_wp2_with fail
        refine hov.mono ?_
        rintro e W10 ⟨rfl, hb10⟩
        have hm10 := hm8.below hb10
        have hbk := y8.below hb10
        cases O with
        | true =>
          have hno : Md.ofSnap s.data.toList = none := Md.ofSnap_none (fun n' m' ho => by
            obtain ⟨e1, e2, e3⟩ := Hfn.out n' m' ho
            subst e1 e2
            rw [(Md.over_iff _ 8).2 ho.free] at hO
            cases hO)
          have Hno := hide hno
          have hst := store_run (W := W10) (b := w.heap.size) (cs := Try.zeroCells82.toList) (by rw [zeroL_len]; exact hm10.rm.th) zeroL_one
          have hld := run_loadVar_mid (P := Try.prog) _ w.heap.size 0 82 _ _ (hm10.rm.range zeroL_len) Try.underlying82 rfl (infoB zeroL_len)
          clear hno hov hbk hO y1 y2 y3 y4 y5 y6 y7 y8
          go_wp2
          refine bodyPost_ret (v := .tuple #[.agg Try.zeroCells82.toList.toArray, .bool false]) ?_ rfl ⟨⟨_, zeroL_len, zeroL_one, .inr ⟨Hno.out, rfl⟩⟩, below_setCells hm10.bl _ (Nat.le_refl _)⟩
          simp only [Array.toArray_toList] at hld ⊢
          simp [results, Try.results57, asAddr, hld]
        | false =>
          have hz : s.size = 4 * (20 + 4 * n + 8 * m) := by
            have := of_decide_eq_false y7
            omega
          have hok : Md.Okay s.data.toList n m := ⟨y1, y2, y3, y4, y5, y6, by rw [Fr.size_list]; exact hz, (Md.over_iff _ 8).1 hO⟩
          have hso := hok.ofSnap
          have Hso := hide hso
          obtain ⟨L, hL⟩ : ∃ L, bookL (Md.rBook s.data.toList n m) 20 = L := ⟨_, rfl⟩
          have hlen : L.length = 333 := by rw [← hL, bookL_len]
          have hone : ∀ v ∈ L, v.oneCell' = true := by rw [← hL]; exact bookL_one _ _
          have hrng := hbk.range
          rw [hL] at hrng
          have hst := store_run (W := W10) (b := w.heap.size) (cs := L) (by rw [hlen]; exact hm10.rm.th) hone
          have hld := run_loadVar_mid (P := Try.prog) _ w.heap.size 0 82 _ _ (hm10.rm.range hlen) Try.underlying82 rfl (infoB hlen)
          have HL := hide hL
          clear hov hbk hO y1 y2 y3 y4 y5 y6 y7 y8 hso hok hL hz
          go_wp2
          refine wp_load_mid 82 (.tmp 5) rfl p 0 rfl L _ hrng Try.underlying82 rfl (infoB hlen) ?_
          go_wp2
          refine bodyPost_ret (v := .tuple #[.agg L.toArray, .bool true]) ?_ rfl ⟨⟨L, hlen, hone, .inl ⟨_, Hso.out, rfl, HL.out.symm⟩⟩, below_setCells hm10.bl _ (Nat.le_refl _)⟩
          simp [results, Try.results57, asAddr, hld]
end Go.Proofs.Ytidacihlalbohaa
