/- bookAsOf: the book of the snapshot among the files. -/
import Derived.Test.YtidacihlalbohaaPRestore
import Derived.Test.YtidacihlalbohaaPOnly
import Derived.Test.YtidacihlalbohaaRefOpen
namespace Go.Proofs.Ytidacihlalbohaa
open Go.RowKit

theorem newC_book : newC = bookL Md.bk0 20 := by
  apply List.ext_getElem?
  intro o
  by_cases ho : o < 333
  · rw [newC_at o ho, bookL_at _ _ o ho]
    by_cases h : o = 171
    · subst h; rfl
    · rw [if_neg h]
      have hz : bookN Md.bk0 20 o = 0 := by
        unfold bookN
        split
        · split <;> rfl
        · split
          · split
            · rfl
            · split <;> rfl
          · split
            · rfl
            · split
              · rfl
              · split
                · have h8 : (o - 172) % 8 < 8 := Nat.mod_lt _ (by omega)
                  show intOf ((List.replicate 8 (Value.int .i64 0)).getD ((o - 172) % 8) (.int .i64 0)) = 0
                  rw [List.getD_eq_getElem?_getD, List.getElem?_replicate, if_pos h8]; rfl
                · rfl
      rw [hz]
  · rw [List.getElem?_eq_none (by rw [newC_len]; omega), List.getElem?_eq_none (by rw [bookL_len]; omega)]

theorem snap_only (d : ByteArray) : (match Fr.all d.data.toList with | [x] => if x.2 = d.size then Md.ofSnap x.1.1 else none | _ => none) = (match Fr.only d.data.toList with | some p => Md.ofSnap p | none => none) := by
  rw [← Fr.only_all, ← Fr.size_list]
  cases Fr.all d.data.toList with
  | nil => rfl
  | cons x l =>
    cases l with
    | nil =>
      dsimp only
      by_cases h : x.2 = d.data.toList.length
      · rw [if_pos h, if_pos h]
      · rw [if_neg h, if_neg h]
    | cons y l => rfl

def AsOfPost (o : Option Md.Bk) (e : Ending) : Prop := ∃ cs : List Value, cs.length = 333 ∧ (∀ v ∈ cs, v.oneCell' = true) ∧
  ((∃ B, o = some B ∧ e = .returned (.tuple #[.agg cs.toArray, .bool true]) ∧ cs = bookL B 20) ∨ (o = none ∧ e = .returned (.tuple #[.agg cs.toArray, .bool false])))

set_option maxRecDepth 100000 in
set_option maxHeartbeats 2000000 in
theorem bookAsOf_any (v : Value) (l : List Md.Fl) (w : World) (hf : FilesAt w v l) (hz : ∀ x ∈ l, x.data.size ≤ 1099511627776) :
    Calls Try.prog 31 #[v] w fun e w' => AsOfPost (Md.snapBook l) e ∧ Below w.heap.size w w' := by
  have hr0 := Room.new w
  have hB0 := (Below.refl w.heap.size w).alloc (Nat.le_refl _) (.cells Try.zeroCells82 82)
  have hdt := pData_any v l Md.sSnap _ (hf.kept hB0)
  have hsb : Md.snapBook l = (match Md.dataOf l Md.sSnap with | none => some Md.bk0 | some d => (match Fr.only d.data.toList with | some p => Md.ofSnap p | none => none)) := by
    unfold Md.snapBook
    cases Md.dataOf l Md.sSnap with
    | none => rfl
    | some d => exact snap_only d
  obtain ⟨DD, hDD⟩ : ∃ DD, Md.dataOf l Md.sSnap = DD := ⟨_, rfl⟩
  have hdz : ∀ d, DD = some d → d.size ≤ 1099511627776 := fun d h => by
    obtain ⟨x, hx, rfl⟩ := dataOf_mem (hDD.trans h)
    exact hz x hx
  rw [hDD] at hdt hsb
  obtain ⟨OO, hOO⟩ : ∃ OO, Md.snapBook l = OO := ⟨_, rfl⟩
  rw [hOO] at hsb ⊢
  clear hOO hDD hf hz
  unfold Md.sSnap at hdt
  cases DD with
  | none =>
    unfold dataV at hdt
    dsimp only at hsb
    have Hsb := hide hsb
    clear hsb
    go_enter Try.func31, Try.ntmps31
    go_wp2_with fail
    generalize w.alloc (.cells Try.zeroCells82 82) = V at hr0 hB0 hdt ⊢
    refine hdt.mono ?_
    rintro e W1 ⟨rfl, hb1⟩
    have hr1 := hr0.below hb1
    have hB1 := hB0.trans (hb1.mono hB0.size)
    clear hdt hb1 hr0 hB0
    go_wp2_with fail
    have hnw := pNew_any W1
    have hlen := newC_len
    have hone := newC_one
    have hbn := hide newC_book
    generalize newC = L at hnw hlen hone hbn
    refine hnw.mono ?_
    rintro e W2 ⟨rfl, hb2⟩
    clear hnw
    have hr2 := hr1.below hb2
    have hB2 := hB1.trans (hb2.mono hB1.size)
    clear hb2 hr1 hB1
    have hst := store_run (W := W2) (b := w.heap.size) (cs := L) (by rw [hlen]; exact hr2.th) hone
    have hld := run_loadVar_mid (P := Try.prog) _ w.heap.size 0 82 _ _ (hr2.range hlen) Try.underlying82 rfl (infoB hlen)
    go_wp2
    refine bodyPost_ret (v := .tuple #[.agg L.toArray, .bool true]) ?_ rfl ⟨⟨L, hlen, hone, .inl ⟨_, Hsb.out, rfl, hbn.out⟩⟩, below_setCells hB2 _ (Nat.le_refl _)⟩
    simp [results, Try.results31, asAddr, hld]
  | some d =>
    unfold dataV at hdt
    dsimp only at hsb
    have hon := fun W => only_any d W (hdz d rfl)
    clear hdz
    cases hop : Fr.only d.data.toList with
    | none =>
      rw [hop] at hon hsb
      unfold onlyV at hon
      dsimp only at hsb
      have Hsb := hide hsb
      clear hop hsb
      go_enter Try.func31, Try.ntmps31
      go_wp2_with fail
      generalize w.alloc (.cells Try.zeroCells82 82) = V at hr0 hB0 hdt ⊢
      refine hdt.mono ?_
      rintro e W1 ⟨rfl, hb1⟩
      have hr1 := hr0.below hb1
      have hB1 := hB0.trans (hb1.mono hB0.size)
      clear hdt hb1 hr0 hB0
      go_wp2_with fail
      refine (hon W1).mono ?_
      rintro e W2 ⟨rfl, hb2⟩
      have hr2 := hr1.below hb2
      have hB2 := hB1.trans (hb2.mono hB1.size)
      clear hb2 hr1 hB1 hon
      have hst := store_run (W := W2) (b := w.heap.size) (cs := Try.zeroCells82.toList) (by rw [zeroL_len]; exact hr2.th) zeroL_one
      have hld := run_loadVar_mid (P := Try.prog) _ w.heap.size 0 82 _ _ (hr2.range zeroL_len) Try.underlying82 rfl (infoB zeroL_len)
      go_wp2
      refine bodyPost_ret (v := .tuple #[.agg Try.zeroCells82.toList.toArray, .bool false]) ?_ rfl ⟨⟨_, zeroL_len, zeroL_one, .inr ⟨Hsb.out, rfl⟩⟩, below_setCells hB2 _ (Nat.le_refl _)⟩
      simp only [Array.toArray_toList] at hld ⊢
      simp [results, Try.results31, asAddr, hld]
    | some p =>
      rw [hop] at hon hsb
      unfold onlyV at hon
      dsimp only at hsb
      clear hop
      have hre := fun W => restore_any ⟨p.toArray⟩ W
      unfold RestPost at hre
      dsimp only [List.toList_toArray] at hre
      have Hre := hide hre
      clear hre
      rw [← hsb] at Hre
      clear hsb
      go_enter Try.func31, Try.ntmps31
      go_wp2_with fail
      generalize w.alloc (.cells Try.zeroCells82 82) = V at hr0 hB0 hdt ⊢
      refine hdt.mono ?_
      rintro e W1 ⟨rfl, hb1⟩
      have hr1 := hr0.below hb1
      have hB1 := hB0.trans (hb1.mono hB0.size)
      clear hdt hb1 hr0 hB0
      go_wp2_with fail
      refine (hon W1).mono ?_
      rintro e W2 ⟨rfl, hb2⟩
      have hr2 := hr1.below hb2
      have hB2 := hB1.trans (hb2.mono hB1.size)
      clear hb2 hr1 hB1 hon
      go_wp2_with fail
      refine (Hre.out W2).mono ?_
      rintro e W3 ⟨⟨cs, hl, ho, hor⟩, hb3⟩
      have hr3 := hr2.below hb3
      have hB3 := hB2.trans (hb3.mono hB2.size)
      clear hb3 hr2 hB2 Hre
      have hst := store_run (W := W3) (b := w.heap.size) (cs := cs) (by rw [hl]; exact hr3.th) ho
      have hld := run_loadVar_mid (P := Try.prog) _ w.heap.size 0 82 _ _ (hr3.range hl) Try.underlying82 rfl (infoB hl)
      rcases hor with ⟨B, hB, rfl, hcs⟩ | ⟨hB, rfl⟩
      · have HB := hide hB
        have Hcs := hide hcs
        clear hB hcs
        go_wp2
        refine bodyPost_ret (v := .tuple #[.agg cs.toArray, .bool true]) ?_ rfl ⟨⟨cs, hl, ho, .inl ⟨B, HB.out, rfl, Hcs.out⟩⟩, below_setCells hB3 _ (Nat.le_refl _)⟩
        simp [results, Try.results31, asAddr, hld]
      · have HB := hide hB
        clear hB
        go_wp2
        refine bodyPost_ret (v := .tuple #[.agg cs.toArray, .bool false]) ?_ rfl ⟨⟨cs, hl, ho, .inr ⟨HB.out, rfl⟩⟩, below_setCells hB3 _ (Nat.le_refl _)⟩
        simp [results, Try.results31, asAddr, hld]
end Go.Proofs.Ytidacihlalbohaa
