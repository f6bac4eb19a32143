/- What the document's own sound returns. -/
import Derived.Test.YtidacihlalbohaaRefSnap
import Derived.Test.YtidacihlalbohaaRefGood
namespace Go.Proofs.Ytidacihlalbohaa
open Go.RowKit

set_option maxRecDepth 100000 in
set_option maxHeartbeats 2000000 in
theorem sound_any (p : Nat) (B : Md.Bk) (v : Value) (w : World) (hb : BookAt w p B v) (hp : PastAt w v B.past) (hs : Md.Small B) (hl : B.past.length ≤ 1048576) :
    Calls Try.prog 71 #[.pointer (some ⟨p, 0, none⟩)] w fun e w' => e = .returned (.bool (Md.sound B)) ∧ Below w.heap.size w w' := by
  have Hb := hide hb
  have Hs := hide hs
  have hlt := hb.lt
  have cn0 := hb.cn
  have cl0 := hb.cl
  have pa0 := hb.pa
  obtain ⟨pa, pcap, rfl, hpl, hpc⟩ := hp
  obtain ⟨len, hL⟩ : ∃ len, B.past.length = len := ⟨_, rfl⟩
  rw [hL] at hpl pa0 hl
  have hhd : Md.headOk B = !(decide (B.count > 1000000000) || decide (B.clock > 1000000000) || decide ((len : Int) > B.count)) := by rw [Md.headOk, hL]
  have HL := hide hL
  have Hpc := hide hpc
  clear hpc hL hb hs
  go_enter Try.func71, Try.ntmps71
  cases h1 : decide (B.count > 1000000000) with
  | true =>
    have hso : Md.sound B = false := by rw [Md.sound, hhd, h1]; rfl
    have Hso := hide hso
    clear hhd hso
    go_wp2_with fail
    go_quiet (fail)
    go_wp2
    go_ret
    exact ⟨by rw [Hso.out]; rfl, below_drewN' (Below.refl _ _) _⟩
  | false =>
    cases h2 : decide (B.clock > 1000000000) with
    | true =>
      have hso : Md.sound B = false := by rw [Md.sound, hhd, h1, h2]; rfl
      have Hso := hide hso
      clear hhd hso
      go_wp2_with fail
      go_quiet (fail)
      go_wp2
      go_ret
      exact ⟨by rw [Hso.out]; rfl, below_drewN' (Below.refl _ _) _⟩
    | false =>
      cases h3 : decide ((len : Int) > B.count) with
      | true =>
        have hso : Md.sound B = false := by rw [Md.sound, hhd, h1, h2, h3]; rfl
        have Hso := hide hso
        clear hhd hso
        go_wp2_with fail
        go_quiet (fail)
        go_wp2
        go_ret
        exact ⟨by rw [Hso.out]; rfl, below_drewN' (Below.refl _ _) _⟩
      | false =>
        have Hhd : Hid (Md.headOk B = true) := hide (by rw [hhd, h1, h2, h3]; rfl)
        clear hhd
        go_wp2_with fail
        go_quiet (fail)
        go_wp2
        go_loopw [3] (fun i wr => ∃ (k : Nat), k ≤ 8 ∧ i = .int .i64 k ∧ Hid (Md.cellsFine B k = true) ∧ Below w.heap.size w wr) (fun i _ => 8 - (intOf i).toNat)
        case atStart => exact ⟨0, by omega, rfl, hide rfl, below_drewN' (Below.refl _ _) _⟩
        case round =>
          obtain ⟨k, hk, rfl, hfine, hB⟩ := hrel
          by_cases h8 : k < 8
          · have hcl := bookCell_any p B _ (k : Int) k wr rfl h8 (Hb.out.below hB) Hs.out
            have h8' : (k : Int) < 8 := by omega
            go_wp2_with fail
            refine hcl.mono ?_
            rintro e W ⟨rfl, hb1⟩
            unfold cellA
            have hBW := hB.trans (hb1.mono hB.size)
            clear hcl
            cases g1 : decide (B.onHand k > 1000000000) with
            | true =>
              have hso : Md.sound B = false := by
                rw [Md.sound, Md.cellsFine_less (k := k + 1) (n := 8) (by omega) (by rw [Md.cellsFine, Md.cellFine, g1]; simp)]; simp
              have Hso := hide hso
              clear hso
              go_wp2
              go_ret
              exact ⟨by rw [Hso.out]; rfl, hBW.alloc hBW.size _⟩
            | false =>
              cases g2 : decide (Md.free B k < 0) with
              | true =>
                have hso : Md.sound B = false := by
                  rw [Md.sound, Md.cellsFine_less (k := k + 1) (n := 8) (by omega) (by rw [Md.cellsFine, Md.cellFine, g2]; simp)]; simp
                have Hso := hide hso
                clear hso
                go_wp2
                go_ret
                exact ⟨by rw [Hso.out]; rfl, hBW.alloc hBW.size _⟩
              | false =>
                have hf2 : Md.cellsFine B (k + 1) = true := by rw [Md.cellsFine, hfine.out, Md.cellFine, g1, g2]; rfl
                have Hf2 := hide hf2
                clear hf2
                go_wp2
                go_roundw
                case rel => exact ⟨k + 1, by omega, by go_num, Hf2, hBW.alloc hBW.size _⟩
                case measure => simp [intOf]; omega
          · obtain rfl : k = 8 := by omega
            clear h8
            go_wp2
            go_loopw [5] (fun i wr => ∃ (k : Nat), k ≤ len ∧ i = .int .i64 k ∧ Hid (Md.pastsFine B.past k = true) ∧ Below w.heap.size w wr) (fun i _ => len - (intOf i).toNat)
            case atStart => exact ⟨0, by omega, rfl, hide rfl, hB⟩
            case round =>
              clear hB
              obtain ⟨k, hk, rfl, hpf, hB⟩ := hrel
              have p1 := hB.cell (p := ⟨p, 222, none⟩) hlt |>.trans pa0
              by_cases hkl : k < len
              · have hkb : k < B.past.length := by rw [HL.out]; exact hkl
                obtain ⟨g, rfl, hcell⟩ := Hpc.out (by omega)
                have hxx : B.past[k]? = some B.past[k] := List.getElem?_eq_getElem hkb
                have cc0 := hcell k hkb
                generalize hx : B.past[k] = x at hxx cc0
                have hg : g < w.heap.size := by
                  have h0 := cc0 0 (by omega)
                  exact World.block_lt_of_cell? w ⟨g, k * 8 + 0, none⟩ (h0.trans rfl)
                have cc : ∀ o, o < 8 → wr.cell? ⟨g, k * 8 + o, none⟩ = (pastC x)[o]? := fun o ho => (hB.cell (p := ⟨g, k * 8 + o, none⟩) hg).trans (cc0 o ho)
                have hpn : Md.pastsFine B.past (k + 1) = Md.pastFine (B.past.take k) x := by rw [Md.pastsFine, hpf.out, hxx]; rfl
                have f0 : wr.cell? ⟨g, k * 8, none⟩ = some (.int .i64 x.req.id) := cc 0 (by omega)
                have f1 : wr.cell? ⟨g, k * 8 + 1, none⟩ = some (.int .i64 x.req.kind) := cc 1 (by omega)
                have f2 : wr.cell? ⟨g, k * 8 + 2, none⟩ = some (.int .i64 x.req.cell) := cc 2 (by omega)
                have f3 : wr.cell? ⟨g, k * 8 + 3, none⟩ = some (.int .i64 x.req.hold) := cc 3 (by omega)
                have f4 : wr.cell? ⟨g, k * 8 + 4, none⟩ = some (.int .i64 x.req.count) := cc 4 (by omega)
                have f5 : wr.cell? ⟨g, k * 8 + 5, none⟩ = some (.int .i64 x.req.time) := cc 5 (by omega)
                have f6 : wr.cell? ⟨g, k * 8 + 6, none⟩ = some (.int .i64 x.rep.code) := cc 6 (by omega)
                have f7 : wr.cell? ⟨g, k * 8 + 7, none⟩ = some (.int .i64 x.rep.count) := cc 7 (by omega)
                have hkl' : (k : Int) < (len : Int) := by omega
                have hxid : w.cell? ⟨g, k * 8, none⟩ = some (.int .i64 x.req.id) := cc0 0 (by omega)
                have Hpn := hide hpn
                have Hcell := hide hcell
                have hgood := fun W => good_any x.req W
                unfold reqA at hgood
                have Hgood := hide hgood
                clear hpn cc cc0 hx hcell hxx hgood
                go_wp2_with fail
                refine (Hgood.out _).mono ?_
                rintro e W ⟨rfl, hb1⟩
                have hBW := hB.trans (hb1.mono hB.size)
                have hgr : g < wr.heap.size := Nat.lt_of_lt_of_le hg hB.size
                have f6' := (hb1.cell (p := ⟨g, k * 8 + 6, none⟩) hgr).trans f6
                have f7' := (hb1.cell (p := ⟨g, k * 8 + 7, none⟩) hgr).trans f7
                have p1' := (hb1.cell (p := ⟨p, 222, none⟩) (Nat.lt_of_lt_of_le hlt hB.size)).trans p1
                clear f0 f1 f2 f3 f4 f5 f6 f7 p1
                cases hgd : Md.good x.req with
                | false =>
                  have hso : Md.sound B = false := by
                    rw [Md.sound, HL.out, Md.pastsFine_less (k := k + 1) (n := len) (by omega) (by rw [Hpn.out, Md.pastFine, hgd]; simp)]; simp
                  have Hso := hide hso
                  clear hso
                  go_wp2
                  go_ret
                  exact ⟨by rw [Hso.out]; rfl, hBW.alloc hBW.size _⟩
                | true =>
                  cases c1 : decide (x.rep.code > 1) with
                  | true =>
                    have hso : Md.sound B = false := by
                      rw [Md.sound, HL.out, Md.pastsFine_less (k := k + 1) (n := len) (by omega) (by rw [Hpn.out, Md.pastFine, Md.repFine, c1]; simp)]; simp
                    have Hso := hide hso
                    clear hso
                    go_wp2
                    go_ret
                    exact ⟨by rw [Hso.out]; rfl, hBW.alloc hBW.size _⟩
                  | false =>
                    cases c2 : decide (x.rep.count > 1000000000) with
                    | true =>
                      have hso : Md.sound B = false := by
                        rw [Md.sound, HL.out, Md.pastsFine_less (k := k + 1) (n := len) (by omega) (by rw [Hpn.out, Md.pastFine, Md.repFine, c2]; simp)]; simp
                      have Hso := hide hso
                      clear hso
                      go_wp2
                      go_ret
                      exact ⟨by rw [Hso.out]; rfl, hBW.alloc hBW.size _⟩
                    | false =>
                      have hcc : (x.rep.code == 1 && x.rep.count != 0) = true ∨ (x.rep.code == 1 && x.rep.count != 0) = false := by cases (x.rep.code == 1 && x.rep.count != 0) <;> simp
                      rcases hcc with c3 | c3
                      · have c4 : (x.rep.code == 1) = true := by rw [Bool.and_eq_true] at c3; exact c3.1
                        have c5 : (x.rep.count != 0) = true := by rw [Bool.and_eq_true] at c3; exact c3.2
                        have c6 : x.rep.code = 1 := by simpa using c4
                        have c7 : ¬ x.rep.count = 0 := by simpa using c5
                        clear c4 c5
                        have hso : Md.sound B = false := by
                          rw [Md.sound, HL.out, Md.pastsFine_less (k := k + 1) (n := len) (by omega) (by rw [Hpn.out, Md.pastFine, Md.repFine, c3]; simp)]; simp
                        have Hso := hide hso
                        have C3 := hide c3
                        clear c3
                        clear hso
                        go_wp2
                        go_ret
                        exact ⟨by rw [Hso.out]; rfl, hBW.alloc hBW.size _⟩
                      · have Hrf : Hid (Md.repFine x.rep = true) := hide (by rw [Md.repFine, c1, c2, c3]; rfl)
                        have hcs : ¬ x.rep.code = 1 ∨ (x.rep.code = 1 ∧ x.rep.count = 0) := by
                          by_cases e : x.rep.code = 1
                          · right; refine ⟨e, ?_⟩; rw [e] at c3; simpa using c3
                          · exact .inl e
                        clear c3
                        have hxi : w.cell? ⟨g, k * 8, none⟩ = some (.int .i64 x.req.id) := hxid
                        rcases hcs with c3 | ⟨c3, c4⟩
                        all_goals
                          go_wp2
                          go_loopw [8] (fun m ws => ∃ (j : Nat), j ≤ k ∧ m = .int .i64 j ∧ Hid (Md.newId (B.past.take j) x.req.id = true) ∧ Below w.heap.size w ws) (fun m _ => k - (intOf m).toNat)
                          case atStart => exact ⟨0, by omega, rfl, hide rfl, hBW.alloc hBW.size _⟩
                          case round =>
                            obtain ⟨j, hj, rfl, hnew, hC⟩ := hrel
                            by_cases hjk : j < k
                            · have hjb : j < B.past.length := by omega
                              have hyy : B.past.take (j + 1) = B.past.take j ++ [B.past[j]] := (List.take_append_getElem hjb).symm
                              have t0 := Hcell.out j hjb 0 (by omega)
                              generalize hy : B.past[j] = y at hyy t0
                              have t1 : wr.cell? ⟨g, j * 8, none⟩ = some (.int .i64 y.req.id) := (hC.cell (p := ⟨g, j * 8, none⟩) hg).trans t0
                              have t2 := (hC.cell (p := ⟨g, k * 8, none⟩) hg).trans hxi
                              have t3 := (hC.cell (p := ⟨p, 222, none⟩) hlt).trans pa0
                              have hn1 : Md.newId (B.past.take (j + 1)) x.req.id = (y.req.id != x.req.id) := by
                                have h0 := hnew.out
                                unfold Md.newId at h0 ⊢
                                rw [hyy, List.all_append, h0]; simp
                              have Hn1 := hide hn1
                              have hjk' : (j : Int) < (k : Int) := by omega
                              have hjl : (j : Int) < (len : Int) := by omega
                              clear hn1 hyy t0 hy
                              by_cases heq : y.req.id = x.req.id
                              · have hso : Md.sound B = false := by
                                  have hnw : Md.newId (B.past.take k) x.req.id = false := by
                                    have h1 : Md.newId (B.past.take (j + 1)) x.req.id = false := by rw [Hn1.out, heq]; simp
                                    have h2 : B.past.take k = B.past.take (j + 1) ++ (B.past.take k).drop (j + 1) := by
                                      rw [show B.past.take (j + 1) = (B.past.take k).take (j + 1) by rw [List.take_take, Nat.min_eq_left (by omega)], List.take_append_drop]
                                    unfold Md.newId at h1 ⊢
                                    rw [h2, List.all_append, h1]; rfl
                                  rw [Md.sound, HL.out, Md.pastsFine_less (k := k + 1) (n := len) (by omega) (by rw [Hpn.out, Md.pastFine, hnw]; simp)]; simp
                                have Hso := hide hso
                                clear hso
                                go_wp2_with fail
                                go_quiet (fail)
                                go_wp2
                                go_ret
                                exact ⟨by rw [Hso.out]; rfl, below_drewN' hC _⟩
                              · have Hn2 : Hid (Md.newId (B.past.take (j + 1)) x.req.id = true) := hide (by rw [Hn1.out]; simpa using heq)
                                go_wp2_with fail
                                go_quiet (fail)
                                go_wp2
                                go_roundw
                                case rel => exact ⟨j + 1, by omega, by go_num, Hn2, below_drewN' hC _⟩
                                case measure => simp [intOf]; omega
                            · obtain rfl : j = k := by omega
                              have hpt : Md.pastsFine B.past (j + 1) = true := by rw [Hpn.out, Md.pastFine, hgd, Hrf.out, hnew.out]; rfl
                              have Hpt := hide hpt
                              clear hpt
                              go_wp2
                              go_roundw
                              case rel =>
                                repeat apply Exists.intro
                                exact ⟨⟨j + 1, by omega, by go_num, Hpt, hC⟩, rfl⟩
                              case measure => simp [intOf]; omega
              · obtain rfl : k = len := by omega
                have hso : Md.sound B = true := by rw [Md.sound, Hhd.out, hfine.out, HL.out, hpf.out]; rfl
                have Hso := hide hso
                clear hso
                go_wp2
                go_ret
                exact ⟨by rw [Hso.out]; rfl, hB⟩
end Go.Proofs.Ytidacihlalbohaa
