/- What the document's own Snapshot returns. -/
import Derived.Test.YtidacihlalbohaaRefBook
import Derived.Test.YtidacihlalbohaaModel
namespace Go.Proofs.Ytidacihlalbohaa
open Go.RowKit

set_option maxRecDepth 100000 in
set_option maxHeartbeats 2000000 in
theorem snapshot_any (p : Nat) (B : Md.Bk) (v : Value) (w : World) (hb : BookAt w p B v) (hp : PastAt w v B.past) (hl : B.past.length ≤ 1048576) :
    Calls Try.prog 72 #[.pointer (some ⟨p, 0, none⟩)] w fun e w' => e = .returned (.string ⟨(Md.snap B).toArray⟩) ∧ Below w.heap.size w w' := by
  have hfl := Md.four_len
  have Hb := hide hb
  have Hp := hide hp
  have hlt := hb.lt
  have cn0 := hb.cn
  have cl0 := hb.cl
  clear hb hp
  go_enter Try.func72, Try.ntmps72
  go_wp2_with fail
  have hin := Wd.there w
  have cn := Wd.cell cn0
  have cl := Wd.cell cl0
  refine region_growsW w (by kernel_rfl) (by kernel_rfl) (Below.refl _ _) ?_
  repeat (go_big_quiet_step ((go_at_call 94; exact Calls.growsW (four_any _ _))))
  refine wpQuiet_nil ?_
  rintro _ ⟨⟨w1, hw1⟩, rfl⟩
  clear cn cl hin
  obtain ⟨S, hS, hz⟩ : ∃ S : ByteArray, ((⟨(Md.four B.count).toArray⟩ : ByteArray) ++ ⟨(Md.four B.clock).toArray⟩) = S ∧ S.size = 8 := ⟨_, rfl, rfl⟩
  rw [hS]
  have HS := hide hS
  clear hS
  go_wp2
  go_loopw [3, 4] (fun s i wr => ∃ (k : Nat) (S : ByteArray), k ≤ 8 ∧ i = .int .i64 k ∧ s = .string S ∧ S.data.toList = Md.four B.count ++ Md.four B.clock ++ Md.cellsTo B k ∧ S.size ≤ 100 ∧ Below w.heap.size w wr) (fun _ i _ => 8 - (intOf i).toNat)
  case atStart =>
    exact ⟨0, S, by omega, rfl, rfl, by rw [← HS.out]; simp [Md.cellsTo, ByteArray.data_append], by omega, hw1⟩
  case round =>
    obtain ⟨k, T, hk, rfl, rfl, hT, hTz, hB⟩ := hrel
    by_cases h8 : k < 8
    · have o1 := hB.cell (p := ⟨p, k, none⟩) hlt |>.trans (Hb.out.on k h8)
      have q1 := hB.cell (p := ⟨p, 8 + k, none⟩) hlt |>.trans (Hb.out.co k h8)
      have h8' : (k : Int) < 8 := by omega
      have HT := hide hT
      clear hT
      go_wp2_with fail
      have hin := Wd.there wr
      have o2 := Wd.cell o1
      have q2 := Wd.cell q1
      clear o1 q1
      refine region_growsW wr (by kernel_rfl) (by kernel_rfl) (Below.refl _ _) ?_
      repeat (go_big_quiet_step ((go_at_call 94; exact Calls.growsW (four_any _ _))))
      refine wpQuiet_nil ?_
      rintro _ ⟨⟨w2, hw2⟩, rfl⟩
      clear o2 q2 hin
      have hT2 : (T ++ ⟨(Md.four (B.onHand k)).toArray⟩ ++ ⟨(Md.four (B.committed k)).toArray⟩ : ByteArray).data.toList = Md.four B.count ++ Md.four B.clock ++ Md.cellsTo B (k + 1) := by
        rw [Md.cellsTo, ByteArray.data_append, ByteArray.data_append, Array.toList_append, Array.toList_append, HT.out]; simp
      have hz2 : (T ++ ⟨(Md.four (B.onHand k)).toArray⟩ ++ ⟨(Md.four (B.committed k)).toArray⟩ : ByteArray).size ≤ 100 := by
        rw [← Fr.size_list, hT2]; simp only [List.length_append, Md.cellsTo_len, Md.four_len]; omega
      generalize (T ++ ⟨(Md.four (B.onHand k)).toArray⟩ ++ ⟨(Md.four (B.committed k)).toArray⟩ : ByteArray) = T2 at hT2 hz2 ⊢
      have HT2 := hide hT2
      clear hT2 hTz HT
      go_wp2
      go_roundw
      case rel => exact ⟨k + 1, T2, by omega, by go_num, rfl, HT2.out, hz2, hB.trans (hw2.mono hB.size)⟩
      case measure => simp [intOf]; omega
    · obtain rfl : k = 8 := by omega
      have HT := hide hT
      clear hT h8
      go_wp2
      go_loopw [5, 6, 7] (fun s n h wr => ∃ (j : Nat) (U : ByteArray), j ≤ 50 ∧ h = .int .i64 ((j : Int) + 1) ∧ n = .int .i64 (Md.liveN B j) ∧ s = .string U ∧ U.data.toList = Md.holdsTo B j ∧ U.size ≤ 1000 ∧ Below w.heap.size w wr) (fun _ _ h _ => 51 - (intOf h).toNat)
      case atStart => exact ⟨0, ⟨#[]⟩, by omega, rfl, rfl, rfl, rfl, by decide, hB⟩
      case round =>
        clear hB
        obtain ⟨j, U, hj, rfl, rfl, rfl, hU, hUz, hB⟩ := hrel
        have HU := hide hU
        clear hU
        have hn := Md.liveN_le B j
        by_cases h50 : j < 50
        · have l1 := hB.cell (p := ⟨p, 169 + (j + 1), none⟩) hlt |>.trans (Hb.out.li (j + 1) (by omega))
          have h50' : (j : Int) + 1 ≤ 50 := by omega
          cases hlv : B.live (j + 1) with
          | false =>
            rw [hlv] at l1
            have hn1 : Md.liveN B (j + 1) = Md.liveN B j := by rw [Md.liveN, hlv]; rfl
            have hh1 : Md.holdsTo B (j + 1) = Md.holdsTo B j := by rw [Md.holdsTo, hlv]; simp
            have Hn1 := hide hn1
            have Hh1 := hide hh1
            clear hn1 hh1 hlv
            go_wp2
            go_roundw
            case rel => exact ⟨j + 1, U, by omega, by go_num, by rw [Hn1.out], rfl, by rw [Hh1.out]; exact HU.out, hUz, hB⟩
            case measure => simp [intOf]; omega
          | true =>
            rw [hlv] at l1
            have c1 := hB.cell (p := ⟨p, 16 + (j + 1) * 3, none⟩) hlt |>.trans (Hb.out.hc (j + 1) (by omega))
            have c2 := hB.cell (p := ⟨p, 16 + (j + 1) * 3 + 1, none⟩) hlt |>.trans (Hb.out.hn (j + 1) (by omega))
            have c3 := hB.cell (p := ⟨p, 16 + (j + 1) * 3 + 2, none⟩) hlt |>.trans (Hb.out.ht (j + 1) (by omega))
            have hn1 : Md.liveN B (j + 1) = Md.liveN B j + 1 := by rw [Md.liveN, hlv]; rfl
            have hh1 : Md.holdsTo B (j + 1) = Md.holdsTo B j ++ Md.holdL B (j + 1) := by rw [Md.holdsTo, hlv]; simp
            have Hn1 := hide hn1
            have Hh1 := hide hh1
            clear hn1 hh1 hlv
            go_wp2_with fail
            have hin := Wd.there wr
            have d1 := Wd.cell c1
            have d2 := Wd.cell c2
            have d3 := Wd.cell c3
            clear c1 c2 c3
            refine region_growsW wr (by kernel_rfl) (by kernel_rfl) (Below.refl _ _) ?_
            repeat (go_big_quiet_step ((go_at_call 94; exact Calls.growsW (four_any _ _))))
            refine wpQuiet_nil ?_
            rintro _ ⟨⟨w2, hw2⟩, rfl⟩
            clear d1 d2 d3 hin
            have hU2 : (U ++ ⟨(Md.four ((j : Int) + 1)).toArray⟩ ++ ⟨(Md.four (B.hc (j + 1))).toArray⟩ ++ ⟨(Md.four (B.hn (j + 1))).toArray⟩ ++ ⟨(Md.four (B.ht (j + 1))).toArray⟩ : ByteArray).data.toList = Md.holdsTo B (j + 1) := by
              rw [Hh1.out]; simp only [ByteArray.data_append, Array.toList_append, HU.out, Md.holdL, Int.natCast_add, Int.cast_ofNat_Int, List.append_assoc]
            have hz2 : (U ++ ⟨(Md.four ((j : Int) + 1)).toArray⟩ ++ ⟨(Md.four (B.hc (j + 1))).toArray⟩ ++ ⟨(Md.four (B.hn (j + 1))).toArray⟩ ++ ⟨(Md.four (B.ht (j + 1))).toArray⟩ : ByteArray).size ≤ 1000 := by
              rw [← Fr.size_list, hU2, Md.holdsTo_len]; have := Md.liveN_le B (j + 1); omega
            generalize (U ++ ⟨(Md.four ((j : Int) + 1)).toArray⟩ ++ ⟨(Md.four (B.hc (j + 1))).toArray⟩ ++ ⟨(Md.four (B.hn (j + 1))).toArray⟩ ++ ⟨(Md.four (B.ht (j + 1))).toArray⟩ : ByteArray) = U2 at hU2 hz2 ⊢
            have HU2 := hide hU2
            clear hU2 hUz HU
            go_wp2
            go_roundw
            case rel => exact ⟨j + 1, U2, by omega, by go_num, by rw [Hn1.out]; rfl, rfl, HU2.out, hz2, hB.trans (hw2.mono hB.size)⟩
            case measure => simp [intOf]; omega
        · obtain rfl : j = 50 := by omega
          clear h50
          have Hn := hide hn
          clear hn
          obtain ⟨pa, pcap, rfl, hpl, hpc⟩ := Hp.out
          have p1 := hB.cell (p := ⟨p, 222, none⟩) hlt |>.trans Hb.out.pa
          obtain ⟨len, hL⟩ : ∃ len, B.past.length = len := ⟨_, rfl⟩
          rw [hL] at hpl p1 hl
          have HL := hide hL
          have Hpc := hide hpc
          clear hpc hL
          go_wp2_with fail
          have hin := Wd.there wr
          have p2 := Wd.cell p1
          refine region_growsW wr (by kernel_rfl) (by kernel_rfl) (Below.refl _ _) ?_
          repeat (go_big_quiet_step ((go_at_call 94; exact Calls.growsW (four_any _ _))))
          refine wpQuiet_nil ?_
          rintro _ ⟨⟨w2, hw2⟩, rfl⟩
          clear p2 p1 hin
          obtain ⟨H, hH⟩ : ∃ H, Md.four B.count ++ Md.four B.clock ++ Md.cellsTo B 8 ++ Md.four (Md.liveN B 50) ++ Md.holdsTo B 50 ++ Md.four len = H := ⟨_, rfl⟩
          have hHl : H.length ≤ 2000 := by
            rw [← hH]; simp only [List.length_append, Md.cellsTo_len, Md.four_len, Md.holdsTo_len]; have := Md.liveN_le B 50; omega
          have hE : (T ++ ⟨(Md.four (Md.liveN B 50 : Nat)).toArray⟩ ++ U ++ ⟨(Md.four (len : Nat)).toArray⟩ : ByteArray).data.toList = H := by
            rw [← hH]; simp only [ByteArray.data_append, Array.toList_append, HU.out, HT.out]
          have hEz : (T ++ ⟨(Md.four (Md.liveN B 50 : Nat)).toArray⟩ ++ U ++ ⟨(Md.four (len : Nat)).toArray⟩ : ByteArray).size ≤ 2000 := by rw [← Fr.size_list, hE]; exact hHl
          generalize (T ++ ⟨(Md.four (Md.liveN B 50 : Nat)).toArray⟩ ++ U ++ ⟨(Md.four (len : Nat)).toArray⟩ : ByteArray) = V at hE hEz ⊢
          have HH := hide hH
          have HE := hide hE
          clear hH hE HU HT hUz hTz
          go_wp2
          go_loopw [3, 8] (fun s i wr => ∃ (k : Nat) (R : ByteArray), k ≤ len ∧ i = .int .i64 k ∧ s = .string R ∧ R.data.toList = H ++ Md.pastsL (B.past.take k) ∧ Below w.heap.size w wr) (fun _ i _ => len - (intOf i).toNat)
          case atStart => exact ⟨0, V, Nat.zero_le _, rfl, rfl, by rw [HE.out]; simp [Md.pastsL], hB.trans (hw2.mono hB.size)⟩
          case round =>
            clear hB
            obtain ⟨k, R, hk, rfl, rfl, hR, hB⟩ := hrel
            have hRz : R.size ≤ 2000 + 32 * k := by
              rw [← Fr.size_list, hR, List.length_append, Md.pastsL_len, List.length_take]; omega
            have HR := hide hR
            clear hR
            have p1 := hB.cell (p := ⟨p, 222, none⟩) hlt |>.trans Hb.out.pa
            rw [HL.out] at p1
            by_cases hkl : k < len
            · have hkb : k < B.past.length := by rw [HL.out]; exact hkl
              obtain ⟨g, rfl, hcell⟩ := Hpc.out (by omega)
              have hts : B.past.take (k + 1) = B.past.take k ++ [B.past[k]] := (List.take_append_getElem hkb).symm
              generalize hx : B.past[k] = x at hts
              have hg : g < w.heap.size := by
                have h0 := hcell k hkb 0 (by omega)
                exact World.block_lt_of_cell? w ⟨g, k * 8 + 0, none⟩ (h0.trans rfl)
              have cc : ∀ o, o < 8 → wr.cell? ⟨g, k * 8 + o, none⟩ = (pastC x)[o]? := fun o ho => by
                have := hcell k hkb o ho; rw [hx] at this; exact (hB.cell (p := ⟨g, k * 8 + o, none⟩) hg).trans this
              have f0 : wr.cell? ⟨g, k * 8, none⟩ = some (.int .i64 x.req.id) := cc 0 (by omega)
              have f1 : wr.cell? ⟨g, k * 8 + 1, none⟩ = some (.int .i64 x.req.kind) := cc 1 (by omega)
              have f2 : wr.cell? ⟨g, k * 8 + 2, none⟩ = some (.int .i64 x.req.cell) := cc 2 (by omega)
              have f3 : wr.cell? ⟨g, k * 8 + 3, none⟩ = some (.int .i64 x.req.hold) := cc 3 (by omega)
              have f4 : wr.cell? ⟨g, k * 8 + 4, none⟩ = some (.int .i64 x.req.count) := cc 4 (by omega)
              have f5 : wr.cell? ⟨g, k * 8 + 5, none⟩ = some (.int .i64 x.req.time) := cc 5 (by omega)
              have f6 : wr.cell? ⟨g, k * 8 + 6, none⟩ = some (.int .i64 x.rep.code) := cc 6 (by omega)
              have f7 : wr.cell? ⟨g, k * 8 + 7, none⟩ = some (.int .i64 x.rep.count) := cc 7 (by omega)
              have hkl' : (k : Int) < (len : Int) := by omega
              have hal := Md.asked_len
              have Hts := hide hts
              clear hts cc hx hcell
              go_wp2_with fail
              have hin := Wd.there wr
              have p2 := Wd.cell p1
              have d0 := Wd.cell f0
              have d1 := Wd.cell f1
              have d2 := Wd.cell f2
              have d3 := Wd.cell f3
              have d4 := Wd.cell f4
              have d5 := Wd.cell f5
              have d6 := Wd.cell f6
              have d7 := Wd.cell f7
              clear f0 f1 f2 f3 f4 f5 f6 f7 p1
              have hask := fun W => asked_any x.req W
              unfold reqA at hask
              refine region_growsW wr (by kernel_rfl) (by kernel_rfl) (Below.refl _ _) ?_
              repeat (go_big_quiet_step (first | (go_at_call 94; exact Calls.growsW (four_any _ _)) | (go_at_call 95; exact Calls.growsW (hask _))))
              refine wpQuiet_nil ?_
              rintro _ ⟨⟨w3, hw3⟩, rfl⟩
              clear d0 d1 d2 d3 d4 d5 d6 d7 p2 hin hask
              have hR2 : (R ++ ⟨(Md.asked x.req).toArray⟩ ++ ⟨(Md.four x.rep.code).toArray⟩ ++ ⟨(Md.four x.rep.count).toArray⟩ : ByteArray).data.toList = H ++ Md.pastsL (B.past.take (k + 1)) := by
                rw [Hts.out, Md.pastsL_snoc]; simp only [ByteArray.data_append, Array.toList_append, HR.out, Md.pastL, List.append_assoc]
              generalize (R ++ ⟨(Md.asked x.req).toArray⟩ ++ ⟨(Md.four x.rep.code).toArray⟩ ++ ⟨(Md.four x.rep.count).toArray⟩ : ByteArray) = R2 at hR2 ⊢
              have HR2 := hide hR2
              clear hR2 hRz HR
              go_wp2
              go_roundw
              case rel => exact ⟨k + 1, R2, by omega, by go_num, rfl, HR2.out, hB.trans (hw3.mono hB.size)⟩
              case measure => simp [intOf]; omega
            · obtain rfl : k = len := by omega
              go_wp2
              go_ret
              refine ⟨congrArg (fun s => Ending.returned (.string s)) ?_, hB⟩
              apply ByteArray.ext
              apply Array.toList_inj.mp
              rw [HR.out, ← HH.out, List.take_of_length_le (by rw [HL.out]; exact Nat.le_refl _)]
              simp only [Md.snap, HL.out]
end Go.Proofs.Ytidacihlalbohaa
