/- What the document's own small functions on numbers and requests return. -/
import Derived.Test.YtidacihlalbohaaRefLeafs
import Derived.Test.YtidacihlalbohaaKit
import Derived.Test.YtidacihlalbohaaModel
namespace Go.Proofs.Ytidacihlalbohaa
open Go.RowKit

set_option maxHeartbeats 400000 in
theorem in_any (n lo hi : Int) (w : World) :
    Calls Try.prog 67 #[.int .i64 n, .int .i64 lo, .int .i64 hi] w fun e w' => e = .returned (.bool (Md.inR n lo hi)) ∧ w' = w := by
  unfold Md.inR
  by_cases h : lo ≤ n
  · by_cases h2 : n ≤ hi
    all_goals
      go_enter Try.func67, Try.ntmps67
      go_wp2
      go_ret
      exact ⟨by simp [h, h2], rfl⟩
  · go_enter Try.func67, Try.ntmps67
    go_wp2
    go_ret
    exact ⟨by simp; omega, rfl⟩

theorem and65535 (n : Int) : bits .and .i64 n 65535 = n % 65536 := by
  have hm : (BitVec.ofInt 64 65535).toNat = 2 ^ 16 - 1 := by decide
  have key : (BitVec.ofInt 64 n &&& BitVec.ofInt 64 65535).toNat = (n % ((2 ^ 64 : Nat) : Int)).toNat % 2 ^ 16 := by
    rw [BitVec.toNat_and, BitVec.toNat_ofInt, hm, Nat.and_two_pow_sub_one_eq_mod]
  show IntKind.i64.wrap ((BitVec.ofInt 64 n &&& BitVec.ofInt 64 65535).toNat : Nat) = n % 65536
  rw [key, IntKind.wrap_i64]
  omega

set_option maxHeartbeats 400000 in
theorem four_any (n : Int) (w : World) :
    Calls Try.prog 94 #[.int .i64 n] w fun e w' => e = .returned (.string ⟨(Md.four n).toArray⟩) ∧ Below w.heap.size w w' := by
  have e1 := and65535 n
  have e2 := and65535 (n / 65536)
  have htl := two_len
  go_enter Try.func94, Try.ntmps94
  go_wp2_with fail
  refine (refTwo_any _ _ (by omega) (by omega)).mono ?_
  rintro e w1 ⟨rfl, hb1⟩
  go_wp2_with fail
  refine (refTwo_any _ _ (by omega) (by omega)).mono ?_
  rintro e w2 ⟨rfl, hb2⟩
  go_wp2
  go_ret
  exact ⟨congrArg (fun s => Ending.returned (.string s)) (by apply ByteArray.ext; simp [ByteArray.data_append, Md.four]), hb1.trans (hb2.mono hb1.size)⟩

theorem numAt_of (s : ByteArray) (i : Nat) (h : 4 * i + 4 ≤ s.size) : Md.numAt s.data.toList i = (s[4 * i].toNat : Int) + 256 * (s[4 * i + 1].toNat : Int) + 65536 * (s[4 * i + 2].toNat : Int) + 16777216 * (s[4 * i + 3].toNat : Int) := by
  have g : ∀ j, (hj : j < s.size) → s.data.toList.getD j 0 = s[j] := fun j hj => by
    rw [List.getD_eq_getElem?_getD, List.getElem?_eq_getElem (by rw [Fr.size_list]; omega)]; rfl
  unfold Md.numAt
  rw [if_neg (by rw [Fr.size_list]; omega), g _ (by omega), g _ (by omega), g _ (by omega), g _ (by omega)]

theorem run_idx (s : ByteArray) (k : Int) (j : Nat) (hk : k = j) (hj : j < s.size) (W : World) : (Instr.index 9 (.string s) (.int .i64 k)).run Try.prog W = .ok (.int .u8 (s[j].toNat : Int)) W := by
  subst hk
  rw [run_index_string W 9 s .i64 (j : Int) Try.underlying9, dif_pos ⟨by omega, by omega⟩]
  simp only [Int.toNat_natCast]

set_option maxRecDepth 100000 in
set_option maxHeartbeats 400000 in
theorem refNumber_any (s : ByteArray) (k : Int) (i : Nat) (w : World) (hk : k = i) (hi : i ≤ 1099511627776) :
    Calls Try.prog 68 #[.string s, .int .i64 k] w fun e w' => e = .returned (.int .i64 (Md.numAt s.data.toList i)) ∧ ∃ n, w' = w.drewN n := by
  subst hk
  by_cases h : 4 * i + 4 ≤ s.size
  · rw [numAt_of s i h]
    have r0 := run_idx s (4 * (i : Int)) (4 * i) (by omega) (by omega)
    have r1 := run_idx s (4 * (i : Int) + 1) (4 * i + 1) (by omega) (by omega)
    have r2 := run_idx s (4 * (i : Int) + 2) (4 * i + 2) (by omega) (by omega)
    have r3 := run_idx s (4 * (i : Int) + 3) (4 * i + 3) (by omega) (by omega)
    have b0 : (s[4 * i].toNat : Int) < 256 := by have := s[4 * i].toNat_lt; omega
    have b1 : (s[4 * i + 1].toNat : Int) < 256 := by have := s[4 * i + 1].toNat_lt; omega
    have b2 : (s[4 * i + 2].toNat : Int) < 256 := by have := s[4 * i + 2].toNat_lt; omega
    have b3 : (s[4 * i + 3].toNat : Int) < 256 := by have := s[4 * i + 3].toNat_lt; omega
    generalize s[4 * i].toNat = c0 at *
    generalize s[4 * i + 1].toNat = c1 at *
    generalize s[4 * i + 2].toNat = c2 at *
    generalize s[4 * i + 3].toNat = c3 at *
    have h' : 4 * (i : Int) + 4 ≤ s.size := by omega
    go_enter Try.func68, Try.ntmps68
    go_wp2_with fail
    go_quiet (fail)
    go_wp2
    go_ret
    exact ⟨rfl, _, rfl⟩
  · have e : Md.numAt s.data.toList i = 0 := by unfold Md.numAt; rw [if_pos (by rw [Fr.size_list]; omega)]
    rw [e]
    have h' : (s.size : Int) < 4 * (i : Int) + 4 := by omega
    go_enter Try.func68, Try.ntmps68
    go_wp2
    go_ret
    exact ⟨rfl, 0, rfl⟩

/-- A request as a value. -/
def reqA (r : Md.Req) : Array Value := #[.int .i64 r.id, .int .i64 r.kind, .int .i64 r.cell, .int .i64 r.hold, .int .i64 r.count, .int .i64 r.time]

theorem box6 (w : World) (a b c d e f : Value) (T : TypeId) :
    (w.alloc (.cells #[a, b, c, d, e, f] T)).cell? ⟨w.heap.size, 0, none⟩ = some a ∧ (w.alloc (.cells #[a, b, c, d, e, f] T)).cell? ⟨w.heap.size, 1, none⟩ = some b ∧
    (w.alloc (.cells #[a, b, c, d, e, f] T)).cell? ⟨w.heap.size, 2, none⟩ = some c ∧ (w.alloc (.cells #[a, b, c, d, e, f] T)).cell? ⟨w.heap.size, 3, none⟩ = some d ∧
    (w.alloc (.cells #[a, b, c, d, e, f] T)).cell? ⟨w.heap.size, 4, none⟩ = some e ∧ (w.alloc (.cells #[a, b, c, d, e, f] T)).cell? ⟨w.heap.size, 5, none⟩ = some f := by
  simp

set_option maxRecDepth 100000 in
set_option maxHeartbeats 1000000 in
theorem asked_any (r : Md.Req) (w : World) :
    Calls Try.prog 95 #[.agg (reqA r)] w fun e w' => e = .returned (.string ⟨(Md.asked r).toArray⟩) ∧ Below w.heap.size w w' := by
  unfold reqA
  have hfl := Md.four_len
  go_enter Try.func95, Try.ntmps95
  go_wp2_with fail
  obtain ⟨h0, h1, h2, h3, h4, h5⟩ := box6 w (.int .i64 r.id) (.int .i64 r.kind) (.int .i64 r.cell) (.int .i64 r.hold) (.int .i64 r.count) (.int .i64 r.time) 75
  have hB : Below w.heap.size w (w.alloc (.cells #[.int .i64 r.id, .int .i64 r.kind, .int .i64 r.cell, .int .i64 r.hold, .int .i64 r.count, .int .i64 r.time] 75)) := (Below.refl _ _).alloc (Nat.le_refl _) _
  generalize w.alloc (.cells #[.int .i64 r.id, .int .i64 r.kind, .int .i64 r.cell, .int .i64 r.hold, .int .i64 r.count, .int .i64 r.time] 75) = W at *
  have hin := Wd.there W
  have c0 := Wd.cell h0
  have c1 := Wd.cell h1
  have c2 := Wd.cell h2
  have c3 := Wd.cell h3
  have c4 := Wd.cell h4
  have c5 := Wd.cell h5
  clear h0 h1 h2 h3 h4 h5
  refine region_growsW W (by kernel_rfl) (by kernel_rfl) (Below.refl _ _) ?_
  repeat (go_big_quiet_step ((go_at_call 94; exact Calls.growsW (four_any _ _))))
  refine wpQuiet_nil ?_
  rintro _ ⟨⟨w1, hw1⟩, rfl⟩
  go_wp2
  go_ret
  exact ⟨congrArg (fun s => Ending.returned (.string s)) (by apply ByteArray.ext; simp [ByteArray.data_append, Md.asked]), hB.trans (hw1.mono hB.size)⟩

set_option maxRecDepth 100000 in
set_option maxHeartbeats 1000000 in
theorem requestAt_any (s : ByteArray) (k : Int) (i : Nat) (w : World) (hk : k = i) (hi : i ≤ 1073741824) :
    Calls Try.prog 70 #[.string s, .int .i64 k] w fun e w' => e = .returned (.agg (reqA (Md.reqAt s.data.toList i))) ∧ Below w.heap.size w w' := by
  subst hk
  unfold reqA Md.reqAt
  go_enter Try.func70, Try.ntmps70
  go_wp2_with fail
  refine (refNumber_any s _ i _ (by omega) (by omega)).mono ?_
  rintro e w1 ⟨rfl, n1, rfl⟩
  go_wp2_with fail
  refine (refNumber_any s _ (i + 1) _ (by omega) (by omega)).mono ?_
  rintro e w1 ⟨rfl, n2, rfl⟩
  go_wp2_with fail
  refine (refNumber_any s _ (i + 2) _ (by omega) (by omega)).mono ?_
  rintro e w1 ⟨rfl, n3, rfl⟩
  go_wp2_with fail
  refine (refNumber_any s _ (i + 3) _ (by omega) (by omega)).mono ?_
  rintro e w1 ⟨rfl, n4, rfl⟩
  go_wp2_with fail
  refine (refNumber_any s _ (i + 4) _ (by omega) (by omega)).mono ?_
  rintro e w1 ⟨rfl, n5, rfl⟩
  go_wp2_with fail
  refine (refNumber_any s _ (i + 5) _ (by omega) (by omega)).mono ?_
  rintro e w1 ⟨rfl, n6, rfl⟩
  go_wp2
  refine bodyPost_ret (v := .agg #[.int .i64 (Md.numAt s.data.toList i), .int .i64 (Md.numAt s.data.toList (i + 1)), .int .i64 (Md.numAt s.data.toList (i + 2)), .int .i64 (Md.numAt s.data.toList (i + 3)), .int .i64 (Md.numAt s.data.toList (i + 4)), .int .i64 (Md.numAt s.data.toList (i + 5))]) ?_ rfl ⟨rfl, ?_⟩
  · simp [results, Try.results70, go_sem]
  · have hb := below_drewN' ((Below.refl w.heap.size w).alloc (Nat.le_refl _) (.cells #[.int .i64 0, .int .i64 0, .int .i64 0, .int .i64 0, .int .i64 0, .int .i64 0] 75)) (n1 + n2 + n3 + n4 + n5 + n6)
    exact (((((hb.setCell (p := ⟨w.heap.size, 0, none⟩) (Nat.le_refl _) _).setCell (p := ⟨w.heap.size, 1, none⟩) (Nat.le_refl _) _).setCell (p := ⟨w.heap.size, 2, none⟩) (Nat.le_refl _) _).setCell (p := ⟨w.heap.size, 3, none⟩) (Nat.le_refl _) _).setCell (p := ⟨w.heap.size, 4, none⟩) (Nat.le_refl _) _).setCell (p := ⟨w.heap.size, 5, none⟩) (Nat.le_refl _) _

end Go.Proofs.Ytidacihlalbohaa
