/- How the program forgets and remembers. -/
import Derived.Test.YtidacihlalbohaaPAct
import Derived.Laws.IdiomCopy
import Derived.Deep.RegionLaw
namespace Go.Proofs.Ytidacihlalbohaa
open Go.RowKit

/-- A copy of elements of m cells each. -/
theorem run_copyN {P : Program} (w : World) (dT sT ty elem : TypeId) (b o dLen dCap : Nat) (a : Addr) (sLen sCap m k : Nat) (cs : List Value)
    (hu : P.underlying dT = some (.slice elem)) (hs : (P.info? elem).map (·.size) = some m) (hk : Nat.min sLen dLen = k) (hn : cs.length = k * m)
    (hsrc : ∀ j v, cs[j]? = some v → w.cell? (a.add j) = some v) (hc : ∀ j, j < cs.length → (w.cell? ⟨b, o + j, none⟩).isSome = true) (hf : ∀ j, j < cs.length → w.frozen? ⟨b, o + j, none⟩ = false) (h1 : ∀ v ∈ cs, v.oneCell' = true) :
    (Builtin.copy_ #[dT, sT] ty #[.slice (some ⟨b, o, none⟩) dLen dCap, .slice (some a) sLen sCap]).run P w = .ok (goInt k) (w.setCells b o cs) := by
  have hl := run_loadCells_list (P := P) w a cs hsrc
  rw [hn] at hl
  have hst := run_storeCells_cells (P := P) b o cs 0 w (by simpa using hc) (by simpa using hf) h1
  cases hq : P.info? elem with
  | none => simp [hq] at hs
  | some i =>
    have hi : i.size = m := by simpa [hq] using hs
    have hk2 : min sLen dLen = k := hk
    simp [Builtin.copy_, run_underlying hu, Builtin.lenOf, Builtin.firstCells, sizeOf, typeInfo, hq, hi, hk2, hl, hst]
theorem step_copyN {P : Program} {ops : Array Oper} {o : Oper} {a : Act} {w : World} {K : Act → World → Prop} {Q : Exit → Act → World → Prop} {E : Prop} (hgd : o.guard = none) (d s : Operand) (dT sT : TypeId)
    (ho : o.op = .call { callee := .builtin .copy, args := #[d, s], argTypes := #[dT, sT] }) (elem : TypeId) (hu : P.underlying dT = some (.slice elem)) (m : Nat) (hsz : (P.info? elem).map (·.size) = some m)
    (b off : Nat) (ad : Addr) (dLen dCap sLen sCap : Nat) (hd : a.eval d = .slice (some ⟨b, off, none⟩) dLen dCap) (hs : a.eval s = .slice (some ad) sLen sCap) (k : Nat) (hk : Nat.min sLen dLen = k) (cs : List Value) (hn : cs.length = k * m)
    (hsrc : ∀ j v, cs[j]? = some v → w.cell? (ad.add j) = some v) (hc : ∀ j, j < cs.length → (w.cell? ⟨b, off + j, none⟩).isSome = true) (hf : ∀ j, j < cs.length → w.frozen? ⟨b, off + j, none⟩ = false) (h1 : ∀ v ∈ cs, v.oneCell' = true)
    (h : K (a.put o.dst (goInt k)) (w.setCells b off cs)) :
    if Region.wanted o (yielded ops a.tmps) = true then Oper.wp P o a w K Q else E := by
  have hw : Region.wanted o (yielded ops a.tmps) = true := by simp [Region.wanted, hgd]
  rw [if_pos hw]
  have hrun := run_copyN (P := P) w dT sT o.type elem b off dLen dCap ad sLen sCap m k cs hu hsz hk hn hsrc hc hf h1
  unfold Oper.wp
  simp [execOp, ho, resolve, invoke, builtin, hd, hs, hrun, Result.andThen]
  exact h
/-- Elements of m cells each are cleared. -/
theorem run_clearN {P : Program} (w : World) (t ty elem : TypeId) (b o n cap : Nat) (i : TypeInfo) (z : Value) (hu : P.underlying t = some (.slice elem)) (hi : P.info? elem = some i) (hz : i.zero = some z)
    (hc : ∀ j, j < (Builtin.zeroCells z.cells n).toList.length → (w.cell? ⟨b, o + j, none⟩).isSome = true) (hf : ∀ j, j < (Builtin.zeroCells z.cells n).toList.length → w.frozen? ⟨b, o + j, none⟩ = false) (h1 : ∀ v ∈ (Builtin.zeroCells z.cells n).toList, v.oneCell' = true) :
    (Builtin.clear_ #[t] ty #[.slice (some ⟨b, o, none⟩) n cap]).run P w = .ok (.tuple #[]) (w.setCells b o (Builtin.zeroCells z.cells n).toList) := by
  cases n with
  | zero => simp [Builtin.clear_, run_underlying hu, Builtin.zeroCells, World.setCells]
  | succ n =>
    have hst := run_storeCells_cells (P := P) b o (Builtin.zeroCells z.cells (n + 1)).toList 0 w (by simpa using hc) (by simpa using hf) h1
    simp [Builtin.clear_, run_underlying hu, zeroValue, typeInfo, hi, hz, hst]
theorem step_clearN {P : Program} {ops : Array Oper} {op : Oper} {a : Act} {w : World} {K : Act → World → Prop} {Q : Exit → Act → World → Prop} {E : Prop} (hgd : op.guard = none) (x : Operand) (t : TypeId)
    (ho : op.op = .call { callee := .builtin .clear, args := #[x], argTypes := #[t] }) (elem : TypeId) (hu : P.underlying t = some (.slice elem)) (i : TypeInfo) (z : Value) (hi : P.info? elem = some i) (hz : i.zero = some z)
    (b o n cap : Nat) (hx : a.eval x = .slice (some ⟨b, o, none⟩) n cap)
    (hc : ∀ j, j < (Builtin.zeroCells z.cells n).toList.length → (w.cell? ⟨b, o + j, none⟩).isSome = true) (hf : ∀ j, j < (Builtin.zeroCells z.cells n).toList.length → w.frozen? ⟨b, o + j, none⟩ = false) (h1 : ∀ v ∈ (Builtin.zeroCells z.cells n).toList, v.oneCell' = true)
    (h : K (a.put op.dst (.tuple #[])) (w.setCells b o (Builtin.zeroCells z.cells n).toList)) :
    if Region.wanted op (yielded ops a.tmps) = true then Oper.wp P op a w K Q else E := by
  have hw : Region.wanted op (yielded ops a.tmps) = true := by simp [Region.wanted, hgd]
  rw [if_pos hw]
  have hrun := run_clearN (P := P) w t op.type elem b o n cap i z hu hi hz hc hf h1
  unfold Oper.wp
  simp [execOp, ho, resolve, invoke, builtin, hx, hrun, Result.andThen]
  exact h

theorem pastC_one (x : Md.Past) : ∀ v ∈ pastC x, v.oneCell' = true := by
  intro v hv
  simp only [pastC, List.mem_cons, List.not_mem_nil, or_false] at hv
  rcases hv with rfl | rfl | rfl | rfl | rfl | rfl | rfl | rfl <;> rfl
theorem pastsC_one (l : List Md.Past) : ∀ v ∈ pastsC l, v.oneCell' = true := by
  intro v hv
  unfold pastsC at hv
  rw [List.mem_flatMap] at hv
  obtain ⟨x, _, h⟩ := hv
  exact pastC_one x v h
theorem PBook.paAt {W : World} {p : Nat} {B : Md.Bk} {n : Nat} (h : PBook W p B n) (k : Nat) (x : Md.Past) (hx : B.past[k]? = some x) (hk : k < 20) (o : Nat) (v : Value) (hv : (pastC x)[o]? = some v) : W.cell? ⟨p, 172 + k * 8 + o, none⟩ = some v := by
  have ho : o < 8 := (List.getElem?_eq_some_iff.1 hv).1
  rw [h.pa k hk o ho, hx]
  simp [List.getD_eq_getElem?_getD, hv]
theorem PBook.paSome {W : World} {p : Nat} {B : Md.Bk} {n : Nat} (h : PBook W p B n) (j : Nat) (hj : j < 160) : (W.cell? ⟨p, 172 + j, none⟩).isSome = true := by
  have := h.pa (j / 8) (by omega) (j % 8) (by omega)
  rw [show 172 + j / 8 * 8 + j % 8 = 172 + j by omega] at this
  rw [this]; rfl

/-- The zeros that a clearing writes. -/
theorem zeros8 (M : Nat) : (Builtin.zeroCells (Value.agg #[.int .i64 0, .int .i64 0, .int .i64 0, .int .i64 0, .int .i64 0, .int .i64 0, .int .i64 0, .int .i64 0]).cells M).toList = List.replicate (M * 8) (.int .i64 0) := by
  unfold Builtin.zeroCells
  apply List.eq_replicate_iff.2
  refine ⟨by simp [Value.cells], fun v hv => ?_⟩
  simp only [Array.toList_map, List.mem_map] at hv
  obtain ⟨i, _, rfl⟩ := hv
  have h8 : i % 8 < 8 := Nat.mod_lt _ (by omega)
  show (#[(.int .i64 0 : Value), .int .i64 0, .int .i64 0, .int .i64 0, .int .i64 0, .int .i64 0, .int .i64 0, .int .i64 0])[i % 8]! = _
  have : i % 8 = 0 ∨ i % 8 = 1 ∨ i % 8 = 2 ∨ i % 8 = 3 ∨ i % 8 = 4 ∨ i % 8 = 5 ∨ i % 8 = 6 ∨ i % 8 = 7 := by omega
  rcases this with h | h | h | h | h | h | h | h <;> rw [h] <;> rfl

theorem infoAns : (Try.prog.info? 79).map (fun i => (i.zero, i.size, i.bytes)) = some (some (.agg #[.int .i64 0, .int .i64 0, .int .i64 0, .int .i64 0, .int .i64 0, .int .i64 0, .int .i64 0, .int .i64 0]), 8, 64) := by kernel_rfl
theorem sizeAns : (Try.prog.info? 79).map (·.size) = some 8 := by kernel_rfl

/-- A book read off: what is remembered anew, all else as it was. -/
theorem PBook.repast {W F : World} {p : Nat} {B : Md.Bk} {n : Nat} (h : PBook W p B n) (l : List Md.Past) (_hl : l.length ≤ 20)
    (hlo : ∀ o, o < 172 → F.cell? ⟨p, o, none⟩ = W.cell? ⟨p, o, none⟩) (hin : ∀ j v, (pastsC l)[j]? = some v → F.cell? ⟨p, 172 + j, none⟩ = some v) (hze : ∀ j, l.length * 8 ≤ j → j < 160 → F.cell? ⟨p, 172 + j, none⟩ = some (.int .i64 0))
    (hre : F.cell? ⟨p, 332, none⟩ = some (.int .i64 l.length)) (hfz : ∀ o, F.frozen? ⟨p, o, none⟩ = W.frozen? ⟨p, o, none⟩) (hs : W.heap.size ≤ F.heap.size) : PBook F p { B with past := l } n := by
  refine h.of_cells (fun i hi => ?_) (fun i hi => ?_) (fun i hi => ?_) (fun i hi => ?_) (fun i hi => ?_) ?_ ?_ ?_ (fun k hk o ho => ?_) hre hfz hs
  · rw [hlo _ (by omega)]; exact h.on i hi
  · rw [hlo _ (by omega)]; exact h.co i hi
  · rw [hlo _ (by omega)]; exact h.hc i hi
  · rw [hlo _ (by omega)]; exact h.hn i hi
  · rw [hlo _ (by omega)]; exact h.ht i hi
  · rw [hlo _ (by omega)]; exact h.cl
  · rw [hlo _ (by omega)]; exact h.cn
  · rw [hlo _ (by omega)]; exact h.wi
  · unfold pastAt
    dsimp only
    by_cases hkl : k < l.length
    · have e := pastsC_at l k o hkl ho
      have hx : l[k]? = some l[k] := List.getElem?_eq_getElem hkl
      have hv : (pastC l[k])[o]? = some ((pastC l[k]).getD o (.int .i64 0)) := by
        have h8 : o < (pastC l[k]).length := ho
        rw [List.getD_eq_getElem?_getD, List.getElem?_eq_getElem h8]; rfl
      have := hin (k * 8 + o) _ (e.trans hv)
      rw [Nat.add_assoc, this, hx]
      rfl
    · have hx : l[k]? = none := List.getElem?_eq_none (by omega)
      rw [hx, Nat.add_assoc, hze (k * 8 + o) (by omega) (by omega)]
      show some _ = some ((List.replicate 8 (Value.int .i64 0)).getD o (.int .i64 0))
      rw [List.getD_eq_getElem?_getD, List.getElem?_replicate, if_pos ho]; rfl
theorem grown_setCells (p : Nat) : ∀ (cs : List Value) (o : Nat) (w : World), w.grownBy (w.setCells p o cs) (some p) := by
  intro cs
  induction cs with
  | nil => intro o w; exact ⟨rfl, rfl, rfl, Nat.le_refl _, fun _ _ _ => rfl⟩
  | cons v cs ih => intro o w; exact grown_trans (grown_put w p o v) (ih (o + 1) _)
theorem size_setCells (p : Nat) : ∀ (cs : List Value) (o : Nat) (w : World), (w.setCells p o cs).heap.size = w.heap.size := by
  intro cs
  induction cs with
  | nil => intro o w; rfl
  | cons v cs ih => intro o w; exact (ih (o + 1) _).trans (size_put _ _ _)

set_option maxRecDepth 100000 in
set_option maxHeartbeats 2000000 in
theorem pForget_any (p : Nat) (B : Md.Bk) (n k : Nat) (w : World) (hb : PBook w p B n) (hk : k < 20) (hL : B.past.length ≤ 20) (hkL : k ≤ B.past.length) :
    Calls Try.prog 58 #[.pointer (some ⟨p, 0, none⟩), .int .i64 k] w fun e w' => e = .returned (.tuple #[]) ∧ PBook w' p { B with past := B.past.drop k } n ∧ w.grownBy w' (some p) := by
  obtain ⟨L, hLe⟩ : ∃ L, B.past.length = L := ⟨_, rfl⟩
  have re := hb.re
  have fz := hb.fz
  have hlt := hb.lt
  rw [hLe] at re hL hkL
  obtain ⟨l, hl⟩ : ∃ l, B.past.drop k = l := ⟨_, rfl⟩
  have hll : l.length = L - k := by rw [← hl, List.length_drop, hLe]
  have hcl : (pastsC l).length = (L - k) * 8 := by rw [pastsC_len, hll]
  have hsrc : ∀ j v, (pastsC l)[j]? = some v → w.drew.cell? ((⟨p, 172 + k * 8, none⟩ : Addr).add j) = some v := by
    intro j v hv
    have hj : j < (L - k) * 8 := by rw [← hcl]; exact (List.getElem?_eq_some_iff.1 hv).1
    have e := pastsC_at l (j / 8) (j % 8) (by omega) (Nat.mod_lt _ (by omega))
    rw [show j / 8 * 8 + j % 8 = j by omega] at e
    have hx : B.past[k + j / 8]? = some (l[j / 8]'(by omega)) := by
      have h1 : l[j / 8]? = some (l[j / 8]'(by omega)) := List.getElem?_eq_getElem (by omega)
      rw [← h1, ← hl, List.getElem?_drop]
    have := hb.paAt (k + j / 8) _ hx (by omega) (j % 8) v (e.symm.trans hv)
    rw [add_plain, show 172 + k * 8 + j = 172 + (k + j / 8) * 8 + j % 8 by omega]
    exact this
  have hcs : ∀ j, j < (pastsC l).length → (w.drew.cell? ⟨p, 172 + j, none⟩).isSome = true := fun j hj => hb.paSome j (by omega)
  have hfs : ∀ j, j < (pastsC l).length → w.drew.frozen? ⟨p, 172 + j, none⟩ = false := fun j _ => fz _
  have hone := pastsC_one l
  have hmin : Nat.min (L - k) 20 = L - k := Nat.min_eq_left (by omega)
  have y332 : (w.drew.setCells p 172 (pastsC l)).cell? ⟨p, 332, none⟩ = some (.int .i64 L) := (World.cell?_setCells_out p (pastsC l) 172 w.drew ⟨p, 332, none⟩ (fun _ _ => .inr (by show 172 + (pastsC l).length ≤ 332; omega))).trans re
  have yfz : ∀ o, (w.drew.setCells p 172 (pastsC l)).frozen? ⟨p, o, none⟩ = false := fun o => (World.frozen?_setCells p (pastsC l) 172 w.drew _).trans (fz o)
  have ylo : ∀ o, o < 172 → (w.drew.setCells p 172 (pastsC l)).cell? ⟨p, o, none⟩ = w.cell? ⟨p, o, none⟩ := fun o ho => World.cell?_setCells_out p (pastsC l) 172 w.drew ⟨p, o, none⟩ (fun _ _ => .inl ho)
  have yin : ∀ j v, (pastsC l)[j]? = some v → (w.drew.setCells p 172 (pastsC l)).cell? ⟨p, 172 + j, none⟩ = some v := by
    intro j v hv
    obtain ⟨h1, h2⟩ := List.getElem?_eq_some_iff.1 hv
    rw [World.cell?_setCells_in p (pastsC l) 172 w.drew hcs j h1, h2]
  have yso : ∀ j, j < 160 → ((w.drew.setCells p 172 (pastsC l)).cell? ⟨p, 172 + j, none⟩).isSome = true := by
    intro j hj
    by_cases hjl : j < (pastsC l).length
    · rw [World.cell?_setCells_in p (pastsC l) 172 w.drew hcs j hjl]; rfl
    · rw [World.cell?_setCells_out p (pastsC l) 172 w.drew ⟨p, 172 + j, none⟩ (fun _ _ => .inr (by show 172 + (pastsC l).length ≤ 172 + j; omega))]
      exact hb.paSome j hj
  have yg : w.grownBy (w.drew.setCells p 172 (pastsC l)) (some p) := grown_trans (grown_drew (grown_below (Below.refl _ _))) (grown_setCells p _ _ _)
  have yl : p < (w.drew.setCells p 172 (pastsC l)).heap.size := by rw [size_setCells]; exact hlt
  generalize hY : w.drew.setCells p 172 (pastsC l) = Y at y332 yfz ylo yin yso yg yl
  have hk' : (k : Int) ≤ (L : Int) := by omega
  have hL' : (L : Int) ≤ 20 := by omega
  have hk20 : ¬ 20 = k := by omega
  have Hb := hide hb
  have Hl := hide hl
  have HY := hide hY
  have Hylo := hide ylo
  have Hyin := hide yin
  have Hyso := hide yso
  clear hb hl hY ylo yin yso
  go_enter Try.func58, Try.ntmps58
  go_wp2_with fail
  go_region_law (refine step_copyN rfl (.tmp 8) (.tmp 17) 159 159 rfl 79 Try.underlying159 8 sizeAns p 172 ⟨p, 172 + k * 8, none⟩ 20 20 (L - k) (20 - k) rfl rfl (L - k) hmin (pastsC l) hcl hsrc hcs hfs hone ?_; rw [HY.out])
  all_goals
    obtain ⟨M, hM⟩ : ∃ M, L - k = M := ⟨_, rfl⟩
    rw [hM] at hll hcl ⊢
    have hM20 : M ≤ 20 := by omega
    have hM' : (M : Int) ≤ 20 := by omega
    have z332 : (Y.setCell ⟨p, 332, none⟩ (.int .i64 M)).cell? ⟨p, 332, none⟩ = some (.int .i64 M) := put_same y332
    have zfz : ∀ o, (Y.setCell ⟨p, 332, none⟩ (.int .i64 M)).frozen? ⟨p, o, none⟩ = false := fun o => (World.frozen?_setCell _ _ _ _).trans (yfz o)
    have zlo : ∀ o, o < 172 → (Y.setCell ⟨p, 332, none⟩ (.int .i64 M)).cell? ⟨p, o, none⟩ = w.cell? ⟨p, o, none⟩ := fun o ho => (World.cell?_setCell_other _ _ _ _ (fun e => by cases e; omega)).trans (Hylo.out o ho)
    have zin : ∀ j v, (pastsC l)[j]? = some v → (Y.setCell ⟨p, 332, none⟩ (.int .i64 M)).cell? ⟨p, 172 + j, none⟩ = some v := fun j v hv => by
      have hj : j < (pastsC l).length := (List.getElem?_eq_some_iff.1 hv).1
      exact (World.cell?_setCell_other _ _ _ _ (fun e => by have := congrArg Addr.off e; simp at this; omega)).trans (Hyin.out j v hv)
    have zso : ∀ j, j < 160 → ((Y.setCell ⟨p, 332, none⟩ (.int .i64 M)).cell? ⟨p, 172 + j, none⟩).isSome = true := fun j hj => by
      rw [World.cell?_setCell_other _ _ _ _ (fun e => by have := congrArg Addr.off e; simp at this; omega)]; exact Hyso.out j hj
    have zg : w.grownBy (Y.setCell ⟨p, 332, none⟩ (.int .i64 M)) (some p) := grown_trans yg (grown_put Y p 332 _)
    have zl : p < (Y.setCell ⟨p, 332, none⟩ (.int .i64 M)).heap.size := by rw [size_put]; exact yl
    generalize Y.setCell ⟨p, 332, none⟩ (.int .i64 M) = Z at z332 zfz zlo zin zso zg zl ⊢
    obtain ⟨i0, hi, hz0, _, _⟩ := info_parts infoAns
    clear y332 yfz yg yl Hylo Hyin Hyso HY hsrc hcs hfs hone hmin
    have Hzlo := hide zlo
    have Hzin := hide zin
    clear zlo zin
    by_cases hMe : M = 20
    · have hbF : PBook Z p { B with past := B.past.drop k } n := by
        rw [Hl.out]
        exact Hb.out.repast l (by omega) Hzlo.out Hzin.out (fun j h1 h2 => by omega) (by rw [hll]; exact z332) (fun o => (zfz o).trans (fz o).symm) zg.size
      have HbF := hide hbF
      have HF0 : Hid (Z.drew.setCells p 172 (Builtin.zeroCells (Value.agg #[.int .i64 0, .int .i64 0, .int .i64 0, .int .i64 0, .int .i64 0, .int .i64 0, .int .i64 0, .int .i64 0]).cells 0).toList = Z.drew) := hide (by rw [zeros8]; rfl)
      subst hMe
      clear hbF
      go_wp2_with fail
      go_region_law (refine step_clearN rfl (.tmp 28) 159 rfl 79 Try.underlying159 i0 _ hi hz0 p 172 0 0 rfl (fun j hj => by simp [Builtin.zeroCells] at hj) (fun j hj => by simp [Builtin.zeroCells] at hj) (fun v hv => by simp [Builtin.zeroCells] at hv) ?_; rw [HF0.out])
      all_goals
        go_wp2
        exact bodyPost_end (v := .tuple #[]) (by simp [results, Try.results58, go_sem]) rfl ⟨rfl, HbF.out.drew, grown_drew zg⟩
    · have hMn : ¬ 20 = M := by omega
      have hzl : (Builtin.zeroCells (Value.agg #[.int .i64 0, .int .i64 0, .int .i64 0, .int .i64 0, .int .i64 0, .int .i64 0, .int .i64 0, .int .i64 0]).cells (20 - M)).toList.length = (20 - M) * 8 := by rw [zeros8, List.length_replicate]
      have hcz : ∀ j, j < (20 - M) * 8 → (Z.drew.cell? ⟨p, 172 + M * 8 + j, none⟩).isSome = true := fun j hj => by
        have := zso (M * 8 + j) (by omega)
        rwa [← Nat.add_assoc] at this
      have f332 : (Z.drew.setCells p (172 + M * 8) (List.replicate ((20 - M) * 8) (.int .i64 0))).cell? ⟨p, 332, none⟩ = some (.int .i64 M) := (World.cell?_setCells_out p _ _ Z.drew ⟨p, 332, none⟩ (fun _ _ => .inr (by show 172 + M * 8 + _ ≤ 332; rw [List.length_replicate]; omega))).trans z332
      have flo : ∀ o, o < 172 → (Z.drew.setCells p (172 + M * 8) (List.replicate ((20 - M) * 8) (.int .i64 0))).cell? ⟨p, o, none⟩ = w.cell? ⟨p, o, none⟩ := fun o ho => (World.cell?_setCells_out p _ _ Z.drew ⟨p, o, none⟩ (fun _ _ => .inl (by show o < 172 + M * 8; omega))).trans (Hzlo.out o ho)
      have fin : ∀ j v, (pastsC l)[j]? = some v → (Z.drew.setCells p (172 + M * 8) (List.replicate ((20 - M) * 8) (.int .i64 0))).cell? ⟨p, 172 + j, none⟩ = some v := fun j v hv => by
        have hj : j < (pastsC l).length := (List.getElem?_eq_some_iff.1 hv).1
        exact (World.cell?_setCells_out p _ _ Z.drew ⟨p, 172 + j, none⟩ (fun _ _ => .inl (by show 172 + j < 172 + M * 8; omega))).trans (Hzin.out j v hv)
      have fze : ∀ j, l.length * 8 ≤ j → j < 160 → (Z.drew.setCells p (172 + M * 8) (List.replicate ((20 - M) * 8) (.int .i64 0))).cell? ⟨p, 172 + j, none⟩ = some (.int .i64 0) := fun j h1 h2 => by
        have := World.cell?_setCells_in p (List.replicate ((20 - M) * 8) (Value.int .i64 0)) (172 + M * 8) Z.drew (fun i hi => hcz i (by rw [List.length_replicate] at hi; exact hi)) (j - M * 8) (by rw [List.length_replicate]; omega)
        rw [show 172 + M * 8 + (j - M * 8) = 172 + j by omega] at this
        rw [this, List.getElem_replicate]
      have hbF : PBook (Z.drew.setCells p (172 + M * 8) (List.replicate ((20 - M) * 8) (.int .i64 0))) p { B with past := B.past.drop k } n := by
        rw [Hl.out]
        exact Hb.out.repast l (by omega) flo fin fze (by rw [hll]; exact f332) (fun o => (World.frozen?_setCells p _ _ Z.drew _).trans ((zfz o).trans (fz o).symm)) (by rw [size_setCells]; exact zg.size)
      have hgF : w.grownBy (Z.drew.setCells p (172 + M * 8) (List.replicate ((20 - M) * 8) (.int .i64 0))) (some p) := grown_trans (grown_drew zg) (grown_setCells p _ _ _)
      have hF : Z.drew.setCells p (172 + M * 8) (Builtin.zeroCells (Value.agg #[.int .i64 0, .int .i64 0, .int .i64 0, .int .i64 0, .int .i64 0, .int .i64 0, .int .i64 0, .int .i64 0]).cells (20 - M)).toList = Z.drew.setCells p (172 + M * 8) (List.replicate ((20 - M) * 8) (.int .i64 0)) := by rw [zeros8]
      generalize Z.drew.setCells p (172 + M * 8) (List.replicate ((20 - M) * 8) (.int .i64 0)) = F at hbF hgF hF
      have HbF := hide hbF
      have HF := hide hF
      clear hbF hF f332 flo fin fze Hzlo Hzin
      go_wp2_with fail
      go_region_law (refine step_clearN rfl (.tmp 28) 159 rfl 79 Try.underlying159 i0 _ hi hz0 p (172 + M * 8) (20 - M) (20 - M) rfl (fun j hj => hcz j (by rw [hzl] at hj; exact hj)) (fun j _ => zfz _) (fun v hv => by rw [zeros8] at hv; rw [List.eq_of_mem_replicate hv]; rfl) ?_; rw [HF.out])
      all_goals
        go_wp2
        exact bodyPost_end (v := .tuple #[]) (by simp [results, Try.results58, go_sem]) rfl ⟨rfl, HbF.out, hgF⟩
end Go.Proofs.Ytidacihlalbohaa
