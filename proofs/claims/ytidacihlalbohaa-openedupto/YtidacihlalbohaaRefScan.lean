/- What the document's own Scan returns: the same payloads and the same place. -/
import Derived.Test.YtidacihlalbohaaRefLeafs
import Derived.Test.YtidacihlalbohaaKit
import Derived.Maps.AppendAt
import Derived.Test.YtidacihlalbohaaMath
import Derived.Deep.RegionWith
namespace Go.Proofs.Ytidacihlalbohaa
open Go.RowKit

theorem len_at (t : ByteArray) (a : Nat) (h : a + 1 < t.size) : Fr.lenL (t.data.toList.drop a) = (t[a].toNat : Int) + 256 * (t[a + 1].toNat : Int) := by
  have e : ((t.data.toList.drop a).take 2) = [t[a], t[a + 1]] := by
    rw [List.drop_eq_getElem_cons (by rw [Fr.size_list]; omega), List.drop_eq_getElem_cons (i := a + 1) (by rw [Fr.size_list]; omega)]
    rfl
  unfold Fr.lenL
  rw [e]
  simp only [Fr.numL, List.getD_cons_zero, List.getD_cons_succ]
  omega

set_option maxRecDepth 100000 in
set_option maxHeartbeats 1000000 in
theorem refScan_any (t : ByteArray) (w : World) (hm : t.size ≤ 1099511627776) :
    Calls Try.prog 17 #[.string t] w fun e W' => ∃ v, e = .returned (.tuple #[v, .int .i64 (Fr.behind (Fr.all t.data.toList))]) ∧
      W'.ownsRow w.heap.size 9 1 v (Fr.all t.data.toList).length ((Fr.all t.data.toList).map pv) ∧ Below w.heap.size w W' := by
  obtain ⟨i0, hi, hz0, hz1, hz2⟩ := info_parts info9
  have hal : (Fr.all t.data.toList).length ≤ t.size := by have := Fr.items_length t.data.toList.length t.data.toList 0; rw [Fr.size_list] at this; exact this
  go_enter Try.func17, Try.ntmps17
  go_wp2
  go_loopw [4, 5] (fun v p wr => ∃ (pre : List (Fr.Pay × Nat)) (a f : Nat), p = .int .i64 a ∧ a = Fr.behind pre ∧ a ≤ t.size ∧ t.size ≤ a + f ∧ Fr.all t.data.toList = pre ++ Fr.items f t.data.toList a ∧
      wr.ownsRow w.heap.size 9 1 v pre.length (pre.map pv) ∧ Below w.heap.size w wr)
    (fun _ p _ => t.size - (intOf p).toNat)
  case atStart =>
    exact ⟨[], 0, t.size, rfl, rfl, Nat.zero_le _, by omega, by simp [Fr.all], World.ownsRow_nil _ _ _ _, Below.refl _ _⟩
  case round =>
    obtain ⟨pre, a, f, rfl, hab, ha, hf, hx, hrow, hB⟩ := hrel
    have Hx := hide hx
    have Hab := hide hab
    clear hx hab
    by_cases h4 : a + 4 ≤ t.size
    · have p0 : a < t.size := by omega
      have p1 : a + 1 < t.size := by omega
      have q0 : (a : Int) < t.size := by omega
      have q1 : (a : Int) + 1 < t.size := by omega
      have h4' : (a : Int) + 4 ≤ t.size := by omega
      have b0 : (t[a].toNat : Int) < 256 := by have := t[a].toNat_lt; omega
      have b1 : (t[a + 1].toNat : Int) < 256 := by have := t[a + 1].toNat_lt; omega
      have w1 : IntKind.i64.wrap ((a : Int) + 1) = (a : Int) + 1 := by rw [IntKind.wrap_i64]; omega
      have w2 : IntKind.i64.wrap (t[a].toNat : Int) = t[a].toNat := by rw [IntKind.wrap_i64]; omega
      have w3 : IntKind.i64.wrap (t[a + 1].toNat : Int) = t[a + 1].toNat := by rw [IntKind.wrap_i64]; omega
      have w4 : IntKind.i64.wrap (256 * (t[a + 1].toNat : Int)) = 256 * t[a + 1].toNat := by rw [IntKind.wrap_i64]; omega
      have w5 : IntKind.i64.wrap ((t[a].toNat : Int) + 256 * (t[a + 1].toNat : Int)) = t[a].toNat + 256 * t[a + 1].toNat := by rw [IntKind.wrap_i64]; omega
      have r1 : ∀ W : World, (Instr.index 9 (.string t) (.int .i64 ((a : Int) + 1))).run Try.prog W = .ok (.int .u8 (t[a + 1].toNat : Int)) W := fun W => by
        rw [run_index_string W 9 t .i64 ((a : Int) + 1) Try.underlying9, dif_pos ⟨by omega, q1⟩]
        have e1 : ((a : Int) + 1).toNat = a + 1 := by omega
        simp only [e1]
      go_wp2_with fail
      go_quiet (fail)
      go_wp2_with fail
      have hl : Fr.lenL (t.data.toList.drop a) = (t[a].toNat : Int) + 256 * (t[a + 1].toNat : Int) := len_at t a p1
      clear r1 w1 w2 w3 w4 w5 b0 b1
      generalize (t[a].toNat : Int) + 256 * (t[a + 1].toNat : Int) = n at hl ⊢
      have hnb := Fr.numL_bd ((t.data.toList.drop a).take 2)
      change 0 ≤ Fr.lenL (t.data.toList.drop a) ∧ Fr.lenL (t.data.toList.drop a) ≤ 65535 at hnb
      rw [hl] at hnb
      obtain ⟨n0, n1⟩ := hnb
      have Hl := hide hl
      clear hl
      have hld : (t.data.toList.drop a).length = t.size - a := by rw [List.length_drop, Fr.size_list]
      have Hld := hide hld
      clear hld
      by_cases hn : 4000 < n
      · have hg : decide (4000 < n) = true := by simp [hn]
        have hno : Fr.firstL (t.data.toList.drop a) = none := Fr.firstL_none (fun _ h _ => by rw [Hl.out] at h; omega)
        have hit := Fr.items_none (f := f) hno
        have Hall : Hid (Fr.all t.data.toList = pre) := by rw [Hx.out, hit, List.append_nil]; exact rfl
        clear hno hit
        go_quiet (fail)
        go_wp2
        go_ret2
        exact ⟨u4, by rw [Hall.out, ← Hab.out]; rfl, by rw [Hall.out]; exact row_drewN (row_drewN hrow _) _, below_drewN' (below_drewN' hB _) _⟩
      have hg : decide (4000 < n) = false := by simp; omega
      by_cases he : (t.size : Int) < (a : Int) + 4 + n
      · have hg2 : decide ((t.size : Int) < (a : Int) + 4 + n) = true := by simp [he]
        have hno : Fr.firstL (t.data.toList.drop a) = none := Fr.firstL_none (fun _ _ h => by rw [Hl.out, Hld.out] at h; omega)
        have hit := Fr.items_none (f := f) hno
        have Hall : Hid (Fr.all t.data.toList = pre) := by rw [Hx.out, hit, List.append_nil]; exact rfl
        clear hno hit
        go_quiet (fail)
        go_wp2
        go_ret2
        exact ⟨u4, by rw [Hall.out, ← Hab.out]; rfl, by rw [Hall.out]; exact row_drewN hrow _, below_drewN' hB _⟩
      have hg2 : decide ((t.size : Int) < (a : Int) + 4 + n) = false := by simp; omega
      have hs1 : (0 : Int) ≤ (a : Int) + 4 := by omega
      have hs2 : (a : Int) + 4 ≤ (a : Int) + 4 + n := by omega
      have hs3 : (a : Int) + 4 + n ≤ t.size := by omega
      have hs4 : (a : Int) ≤ (a : Int) + 4 + n := by omega
      have hxt : t.extract (a + 4) ((a : Int) + 4 + n).toNat = ⟨(Fr.payL (t.data.toList.drop a)).toArray⟩ := by
        refine Fr.eq_of_list ?_
        rw [Fr.extract_list]
        unfold Fr.payL
        rw [Hl.out, List.drop_drop, show ((a : Int) + 4 + n).toNat - (a + 4) = n.toNat from by omega]
      have hxs : (t.extract (a + 4) ((a : Int) + 4 + n).toNat).size ≤ 4000 := by rw [ByteArray.size_extract]; omega
      have hte : (t.extract a ((a : Int) + 4 + n).toNat).data.toList = (t.data.toList.drop a).take (4 + n.toNat) := by
        rw [Fr.extract_list, show ((a : Int) + 4 + n).toNat - a = 4 + n.toNat from by omega]
      have hfd : (⟨(Fr.frameL (t.extract (a + 4) ((a : Int) + 4 + n).toNat).data.toList).toArray⟩ : ByteArray) = ⟨(Fr.frameL (Fr.payL (t.data.toList.drop a))).toArray⟩ := by rw [hxt]
      have Hxt := hide hxt
      have Hfd := hide hfd
      have Hte := hide (Fr.eq_of_list hte)
      clear hxt hfd hte
      by_cases hfe : Fr.frameL (Fr.payL (t.data.toList.drop a)) = (t.data.toList.drop a).take (4 + n.toNat)
      · have hsm : Fr.firstL (t.data.toList.drop a) = some (Fr.payL (t.data.toList.drop a)) := Fr.firstL_some (by rw [Hld.out]; omega) (by rw [Hl.out]; omega) (by rw [Hl.out, Hld.out]; omega) (by rw [Hl.out]; exact hfe)
        obtain ⟨g, hg', hgf, hga, hit⟩ := Fr.items_some (f := f) (by rw [Fr.size_list]; omega) hsm
        rw [Fr.size_list] at hgf hga
        have hpl : ((Fr.payL (t.data.toList.drop a)).length : Int) = n := by
          have h := Fr.payL_length (l := t.data.toList.drop a) (by rw [Hl.out, Hld.out]; omega)
          rw [Hl.out] at h; exact h
        have hp4 : (Fr.payL (t.data.toList.drop a)).length ≤ 4000 := (Fr.firstL_len hsm).1
        have hlen : pre.length < (Fr.all t.data.toList).length := by rw [Hx.out, hit]; simp
        have Hit := hide hit
        have Hpl := hide hpl
        have Hfe := hide hfe
        clear hfe hsm hg' hit hpl
        refine region_grows (w0 := wr) (by kernel_rfl) (by kernel_rfl) ⟨rfl, rfl, rfl, Nat.le_refl _, fun _ _ => rfl⟩ ?_
        iterate 14 (go_big_quiet_want; go_big_quiet_op; first | go_big_quiet_on | (refine ⟨_, fun _ _ => rfl, ?_⟩; go_big_quiet_on))
        go_big_quiet_want
        go_big_quiet_op
        refine ⟨_, fun w1 hw1 => (refFrame_any _ _ hxs).mono (fun e w'' h => ⟨h.1, hw1.trans (h.2.mono hw1.size)⟩), ?_⟩
        go_big_quiet_on
        rw [Hfd.out]
        iterate 4 (go_big_quiet_want; go_big_quiet_op; first | go_big_quiet_on | (refine ⟨_, fun _ _ => rfl, ?_⟩; go_big_quiet_on))
        rw [Hte.out]
        go_big_quiet_want
        go_big_quiet_op
        refine ⟨.bool false, fun _ _ => by rw [Hfe.out]; simp, ?_⟩
        go_big_quiet_on
        go_big_quiet_want
        go_big_quiet_op
        first | go_big_quiet_on | (refine ⟨_, fun _ _ => rfl, ?_⟩; go_big_quiet_on)
        refine wpQuiet_nil ?_
        intro w1 hw1
        have hrow1 : w1.ownsRow w.heap.size 9 1 u4 pre.length (pre.map pv) := hrow.kept (grown_of_below hw1) (by cases u4.ownBlock <;> simp)
        have hB1 : Below w.heap.size w w1 := hB.trans (hw1.mono hB.size)
        go_wp2_with (at_builtin; refine wpList_append_own _ rfl _ _ 27 rfl w.heap.size 9 i0 (.string ⟨#[]⟩) 1 16 Try.underlying27 hi hz0 hz1 hz2 rfl (by decide) _ _ _ rfl (hrow1.alloc _) ⟨w1.heap.size, 0, none⟩ 1 1 [.string (t.extract (a + 4) ((a : Int) + 4 + n).toNat)] rfl rfl (cell_one_new _ _ _) (by simp [Value.oneCell']) (by unfold maxLen; omega) (by omega) (by have := hB1.size; simp; omega) ?_; intro v' w2 hown hgrow _)
        go_roundw
        case rel =>
          refine ⟨pre ++ [(Fr.clip (Fr.payL (t.data.toList.drop a)), a + (4 + (Fr.payL (t.data.toList.drop a)).length))], _, g, ?_, (Fr.behind_snoc _ _).symm, hga, hgf, ?_, ?_, ?_⟩
          · rw [← Hpl.out]; congr 1; simp only []; omega
          · rw [Hx.out, Hit.out]; simp
          · rw [Hxt.out] at hown
            simpa [pv, Fr.clip_val hp4] using hown
          · exact (hB1.alloc hB1.size _).grown hgrow (by have := hB1.size; simp; omega) (fun j e => (hrow.lt j e).1)
        case measure => have := Hpl.out; simp [intOf]; omega
      · have hno : Fr.firstL (t.data.toList.drop a) = none := Fr.firstL_none (fun _ _ _ => by rw [Hl.out]; exact hfe)
        have hit := Fr.items_none (f := f) hno
        have Hall : Hid (Fr.all t.data.toList = pre) := by rw [Hx.out, hit, List.append_nil]; exact rfl
        have Hfe := hide hfe
        clear hfe hno hit
        refine region_grows (w0 := wr) (by kernel_rfl) (by kernel_rfl) ⟨rfl, rfl, rfl, Nat.le_refl _, fun _ _ => rfl⟩ ?_
        iterate 14 (go_big_quiet_want; go_big_quiet_op; first | go_big_quiet_on | (refine ⟨_, fun _ _ => rfl, ?_⟩; go_big_quiet_on))
        go_big_quiet_want
        go_big_quiet_op
        refine ⟨_, fun w1 hw1 => (refFrame_any _ _ hxs).mono (fun e w'' h => ⟨h.1, hw1.trans (h.2.mono hw1.size)⟩), ?_⟩
        go_big_quiet_on
        rw [Hfd.out]
        iterate 4 (go_big_quiet_want; go_big_quiet_op; first | go_big_quiet_on | (refine ⟨_, fun _ _ => rfl, ?_⟩; go_big_quiet_on))
        rw [Hte.out]
        go_big_quiet_want
        go_big_quiet_op
        refine ⟨.bool true, fun _ _ => by simp [Hfe.out], ?_⟩
        go_big_quiet_on
        go_big_quiet_want
        go_big_quiet_op
        first | go_big_quiet_on | (refine ⟨_, fun _ _ => rfl, ?_⟩; go_big_quiet_on)
        refine wpQuiet_nil ?_
        intro w1 hw1
        go_wp2
        go_ret2
        exact ⟨u4, by rw [Hall.out, ← Hab.out]; rfl, by rw [Hall.out]; exact hrow.kept (grown_of_below hw1) (by cases u4.ownBlock <;> simp), hB.trans (hw1.mono hB.size)⟩
    · have hno : Fr.firstL (t.data.toList.drop a) = none := Fr.firstL_none (fun h _ _ => by rw [List.length_drop, Fr.size_list] at h; omega)
      have hit := Fr.items_none (f := f) hno
      have Hall : Hid (Fr.all t.data.toList = pre) := by rw [Hx.out, hit, List.append_nil]; exact rfl
      clear hno hit
      go_wp2
      go_ret2
      exact ⟨u4, by rw [Hall.out, ← Hab.out]; rfl, by rw [Hall.out]; exact hrow, hB⟩
end Go.Proofs.Ytidacihlalbohaa
