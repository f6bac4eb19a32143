/- Recall. -/
import Derived.Test.YtidacihlalbohaaPForget
namespace Go.Proofs.Ytidacihlalbohaa
open Go.RowKit

namespace Md
/-- The remembered request with a number. -/
def find : List Past → Int → Option Past
  | [], _ => none
  | x :: l, n => if x.req.id = n then some x else find l n
theorem find_none {l : List Past} {n : Int} (h : ∀ x ∈ l, x.req.id ≠ n) : find l n = none := by
  induction l with
  | nil => rfl
  | cons x l ih => rw [find, if_neg (h x (by simp)), ih (fun y hy => h y (by simp [hy]))]
theorem find_at {l : List Past} {n : Int} : ∀ (k : Nat) (x : Past), l[k]? = some x → (∀ y ∈ l.take k, y.req.id ≠ n) → x.req.id = n → find l n = some x := by
  induction l with
  | nil => intro k x h; simp at h
  | cons y l ih =>
    intro k x hx hn he
    cases k with
    | zero => simp at hx; subst hx; rw [find, if_pos he]
    | succ k =>
      rw [find, if_neg (hn y (by simp))]
      exact ih k x (by simpa using hx) (fun z hz => hn z (by simp [hz])) he
theorem known_find (l : List Past) (r : Req) : known l r = (find l r.id).map fun x => if sameReq x.req r then x.rep else ⟨2, 0⟩ := by
  induction l with
  | nil => rfl
  | cons x l ih =>
    rw [known, find]
    by_cases h : x.req.id = r.id
    · rw [if_pos h, if_pos h]; simp only [Option.map_some]; split <;> rfl
    · rw [if_neg h, if_neg h, ih]
theorem newId_find (l : List Past) (n : Int) : newId l n = (find l n).isNone := by
  induction l with
  | nil => rfl
  | cons x l ih =>
    unfold newId at ih ⊢
    rw [List.all_cons, ih, find]
    by_cases h : x.req.id = n
    · rw [if_pos h]; simp [h]
    · rw [if_neg h]; simp [h]
end Md

def findV : Option Md.Past → Value
  | some x => .tuple #[.agg (pastC x).toArray, .bool true]
  | none => .tuple #[.agg #[.int .i64 0, .int .i64 0, .int .i64 0, .int .i64 0, .int .i64 0, .int .i64 0, .int .i64 0, .int .i64 0], .bool false]

set_option maxRecDepth 100000 in
set_option maxHeartbeats 2000000 in
theorem pRecall_any (p : Nat) (B : Md.Bk) (n : Nat) (id : Int) (w : World) (hb : PBook w p B n) (hL : B.past.length ≤ 20) :
    Calls Try.prog 99 #[.pointer (some ⟨p, 0, none⟩), .int .i64 id] w fun e w' => e = .returned (findV (Md.find B.past id)) ∧ Below w.heap.size w w' := by
  obtain ⟨L, hLe⟩ : ∃ L, B.past.length = L := ⟨_, rfl⟩
  obtain ⟨V, hV⟩ : ∃ V, w.alloc (.cells #[.int .i64 0, .int .i64 0, .int .i64 0, .int .i64 0, .int .i64 0, .int .i64 0, .int .i64 0, .int .i64 0] 79) = V := ⟨_, rfl⟩
  have hB : Below w.heap.size w V := hV ▸ (Below.refl _ _).alloc (Nat.le_refl _) _
  have hbV := hb.below hB
  have hx : ∀ j, j < 8 → V.cell? ⟨w.heap.size, j, none⟩ = some (.int .i64 0) := fun j hj => by
    rw [← hV]
    refine (World.cell?_alloc_mark w _ 79 (0, 0) j).trans ?_
    have : j = 0 ∨ j = 1 ∨ j = 2 ∨ j = 3 ∨ j = 4 ∨ j = 5 ∨ j = 6 ∨ j = 7 := by omega
    rcases this with rfl | rfl | rfl | rfl | rfl | rfl | rfl | rfl <;> rfl
  have hfx : ∀ o, V.frozen? ⟨w.heap.size, o, none⟩ = false := fun o => by rw [← hV]; simp [go_sem]
  have hzV : w.heap.size < V.heap.size := by rw [← hV]; simp
  have re := hbV.re
  have hpl := hbV.lt
  have hpw := hb.lt
  rw [hLe] at re hL
  have hL' : (L : Int) ≤ 20 := by omega
  have HbV := hide hbV
  clear hb hbV
  go_enter Try.func99, Try.ntmps99
  go_wp2_with fail
  clear hV
  go_quiet (fail)
  have hBq := below_drewN' hB nq
  have Hbq := hide (HbV.out.drewN nq)
  replace hx : ∀ j, j < 8 → (V.drewN nq).cell? ⟨w.heap.size, j, none⟩ = some (.int .i64 0) := hx
  replace hfx : ∀ o, (V.drewN nq).frozen? ⟨w.heap.size, o, none⟩ = false := hfx
  replace hzV : w.heap.size < (V.drewN nq).heap.size := hzV
  generalize V.drewN nq = X at hBq Hbq hx hfx hzV ⊢
  clear HbV hB re hpl
  go_wp2
  go_loopw [17] (fun i wr => ∃ k : Nat, k ≤ L ∧ i = .int .i64 k ∧ Hid (∀ y ∈ B.past.take k, y.req.id ≠ id) ∧ Below X.heap.size X wr) (fun i _ => L - (intOf i).toNat)
  case atStart => exact ⟨0, Nat.zero_le _, rfl, hide (fun y hy => by simp at hy), Below.refl _ _⟩
  case round =>
    obtain ⟨k, hk, rfl, hno, hBr⟩ := hrel
    have hbr := Hbq.out.below hBr
    have hplr := hbr.lt
    by_cases hkl : k < L
    · have hkb : k < B.past.length := by rw [hLe]; exact hkl
      have hxx : B.past[k]? = some B.past[k] := List.getElem?_eq_getElem hkb
      have hts : B.past.take (k + 1) = B.past.take k ++ [B.past[k]] := (List.take_append_getElem hkb).symm
      generalize B.past[k] = x at hxx hts
      have c0 : wr.cell? ⟨p, 172 + k * 8, none⟩ = some (.int .i64 x.req.id) := hbr.paAt k x hxx (by omega) 0 _ rfl
      have c1 : wr.cell? ⟨p, 172 + k * 8 + 1, none⟩ = some (.int .i64 x.req.kind) := hbr.paAt k x hxx (by omega) 1 _ rfl
      have c2 : wr.cell? ⟨p, 172 + k * 8 + 2, none⟩ = some (.int .i64 x.req.cell) := hbr.paAt k x hxx (by omega) 2 _ rfl
      have c3 : wr.cell? ⟨p, 172 + k * 8 + 3, none⟩ = some (.int .i64 x.req.hold) := hbr.paAt k x hxx (by omega) 3 _ rfl
      have c4 : wr.cell? ⟨p, 172 + k * 8 + 4, none⟩ = some (.int .i64 x.req.count) := hbr.paAt k x hxx (by omega) 4 _ rfl
      have c5 : wr.cell? ⟨p, 172 + k * 8 + 5, none⟩ = some (.int .i64 x.req.time) := hbr.paAt k x hxx (by omega) 5 _ rfl
      have c6 : wr.cell? ⟨p, 172 + k * 8 + 6, none⟩ = some (.int .i64 x.rep.code) := hbr.paAt k x hxx (by omega) 6 _ rfl
      have c7 : wr.cell? ⟨p, 172 + k * 8 + 7, none⟩ = some (.int .i64 x.rep.count) := hbr.paAt k x hxx (by omega) 7 _ rfl
      have hkl' : (k : Int) < (L : Int) := by omega
      have Hxx := hide hxx
      have Hts := hide hts
      clear hxx hts hbr
      by_cases hid : x.req.id = id
      · have hfd := Md.find_at k x Hxx.out hno.out hid
        have Hfd := hide hfd
        have hq : (x.req.id == id) = true := by simp [hid]
        have z : ∀ j, j < 8 → wr.cell? ⟨w.heap.size, j, none⟩ = some (.int .i64 0) := fun j hj => (hBr.cell (p := ⟨w.heap.size, j, none⟩) hzV).trans (hx j hj)
        have z0 := z 0 (by omega)
        have z1 := z 1 (by omega)
        have z2 := z 2 (by omega)
        have z3 := z 3 (by omega)
        have z4 := z 4 (by omega)
        have z5 := z 5 (by omega)
        have z6 := z 6 (by omega)
        have z7 := z 7 (by omega)
        have zf := fun o => (hBr.frozen (p := ⟨w.heap.size, o, none⟩) hzV).trans (hfx o)
        have zl : w.heap.size < wr.heap.size := Nat.lt_of_lt_of_le hzV hBr.size
        clear hfd z hid
        go_wp2
        have hBw : Below w.heap.size w wr := hBq.trans (hBr.mono hBq.size)
        have h8 := put8 z0 z1 z2 z3 z4 z5 z6 z7 (.int .i64 x.req.id) (.int .i64 x.req.kind) (.int .i64 x.req.cell) (.int .i64 x.req.hold) (.int .i64 x.req.count) (.int .i64 x.req.time) (.int .i64 x.rep.code) (.int .i64 x.rep.count)
        have hF := ((((((((hBw.setCell (p := ⟨w.heap.size, 0, none⟩) (Nat.le_refl _) (.int .i64 x.req.id)).setCell (p := ⟨w.heap.size, 1, none⟩) (Nat.le_refl _) (.int .i64 x.req.kind)).setCell (p := ⟨w.heap.size, 2, none⟩) (Nat.le_refl _) (.int .i64 x.req.cell)).setCell (p := ⟨w.heap.size, 3, none⟩) (Nat.le_refl _) (.int .i64 x.req.hold)).setCell (p := ⟨w.heap.size, 4, none⟩) (Nat.le_refl _) (.int .i64 x.req.count)).setCell (p := ⟨w.heap.size, 5, none⟩) (Nat.le_refl _) (.int .i64 x.req.time)).setCell (p := ⟨w.heap.size, 6, none⟩) (Nat.le_refl _) (.int .i64 x.rep.code)).setCell (p := ⟨w.heap.size, 7, none⟩) (Nat.le_refl _) (.int .i64 x.rep.count))
        have hlF : w.heap.size < ((((((((wr.setCell ⟨w.heap.size, 0, none⟩ (.int .i64 x.req.id)).setCell ⟨w.heap.size, 1, none⟩ (.int .i64 x.req.kind)).setCell ⟨w.heap.size, 2, none⟩ (.int .i64 x.req.cell)).setCell ⟨w.heap.size, 3, none⟩ (.int .i64 x.req.hold)).setCell ⟨w.heap.size, 4, none⟩ (.int .i64 x.req.count)).setCell ⟨w.heap.size, 5, none⟩ (.int .i64 x.req.time)).setCell ⟨w.heap.size, 6, none⟩ (.int .i64 x.rep.code)).setCell ⟨w.heap.size, 7, none⟩ (.int .i64 x.rep.count)).heap.size := by simp only [size_put]; exact zl
        generalize (((((((wr.setCell ⟨w.heap.size, 0, none⟩ (.int .i64 x.req.id)).setCell ⟨w.heap.size, 1, none⟩ (.int .i64 x.req.kind)).setCell ⟨w.heap.size, 2, none⟩ (.int .i64 x.req.cell)).setCell ⟨w.heap.size, 3, none⟩ (.int .i64 x.req.hold)).setCell ⟨w.heap.size, 4, none⟩ (.int .i64 x.req.count)).setCell ⟨w.heap.size, 5, none⟩ (.int .i64 x.req.time)).setCell ⟨w.heap.size, 6, none⟩ (.int .i64 x.rep.code)).setCell ⟨w.heap.size, 7, none⟩ (.int .i64 x.rep.count) = F at h8 hF hlF ⊢
        obtain ⟨q0, q1, q2, q3, q4, q5, q6, q7⟩ := h8
        exact bodyPost_ret (v := findV (some x)) (by simp [results, Try.results99, go_sem, findV, pastC, q0, q1, q2, q3, q4, q5, q6, q7, hlF]) rfl ⟨by rw [Hfd.out], hF.alloc hF.size _⟩
      · have hq : (x.req.id == id) = false := by simp [hid]
        go_wp2
        go_roundw
        case rel =>
          refine ⟨k + 1, by omega, by go_num, hide ?_, hBr.alloc hBr.size _⟩
          rw [Hts.out]; intro y hy; rw [List.mem_append] at hy
          rcases hy with h | h
          · exact hno.out y h
          · simp at h; rw [h]; exact hid
        case measure => simp [intOf]; omega
    · obtain rfl : k = L := by omega
      have hfd : Md.find B.past id = none := Md.find_none (by have := hno.out; rwa [List.take_of_length_le (by omega)] at this)
      have Hfd := hide hfd
      have z : ∀ j, j < 8 → wr.cell? ⟨w.heap.size, j, none⟩ = some (.int .i64 0) := fun j hj => (hBr.cell (p := ⟨w.heap.size, j, none⟩) hzV).trans (hx j hj)
      have z0 := z 0 (by omega)
      have z1 := z 1 (by omega)
      have z2 := z 2 (by omega)
      have z3 := z 3 (by omega)
      have z4 := z 4 (by omega)
      have z5 := z 5 (by omega)
      have z6 := z 6 (by omega)
      have z7 := z 7 (by omega)
      have zf := fun o => (hBr.frozen (p := ⟨w.heap.size, o, none⟩) hzV).trans (hfx o)
      clear hfd z hbr
      go_wp2
      have hBw : Below w.heap.size w wr := hBq.trans (hBr.mono hBq.size)
      have h8 := put8 z0 z1 z2 z3 z4 z5 z6 z7 (.int .i64 0) (.int .i64 0) (.int .i64 0) (.int .i64 0) (.int .i64 0) (.int .i64 0) (.int .i64 0) (.int .i64 0)
      have hF := ((((((((hBw.setCell (p := ⟨w.heap.size, 0, none⟩) (Nat.le_refl _) (.int .i64 0)).setCell (p := ⟨w.heap.size, 1, none⟩) (Nat.le_refl _) (.int .i64 0)).setCell (p := ⟨w.heap.size, 2, none⟩) (Nat.le_refl _) (.int .i64 0)).setCell (p := ⟨w.heap.size, 3, none⟩) (Nat.le_refl _) (.int .i64 0)).setCell (p := ⟨w.heap.size, 4, none⟩) (Nat.le_refl _) (.int .i64 0)).setCell (p := ⟨w.heap.size, 5, none⟩) (Nat.le_refl _) (.int .i64 0)).setCell (p := ⟨w.heap.size, 6, none⟩) (Nat.le_refl _) (.int .i64 0)).setCell (p := ⟨w.heap.size, 7, none⟩) (Nat.le_refl _) (.int .i64 0))
      generalize (((((((wr.setCell ⟨w.heap.size, 0, none⟩ (.int .i64 0)).setCell ⟨w.heap.size, 1, none⟩ (.int .i64 0)).setCell ⟨w.heap.size, 2, none⟩ (.int .i64 0)).setCell ⟨w.heap.size, 3, none⟩ (.int .i64 0)).setCell ⟨w.heap.size, 4, none⟩ (.int .i64 0)).setCell ⟨w.heap.size, 5, none⟩ (.int .i64 0)).setCell ⟨w.heap.size, 6, none⟩ (.int .i64 0)).setCell ⟨w.heap.size, 7, none⟩ (.int .i64 0) = F at h8 hF ⊢
      obtain ⟨q0, q1, q2, q3, q4, q5, q6, q7⟩ := h8
      exact bodyPost_ret (v := findV none) (by simp [results, Try.results99, go_sem, findV, q0, q1, q2, q3, q4, q5, q6, q7]) rfl ⟨by rw [Hfd.out], hF⟩
end Go.Proofs.Ytidacihlalbohaa
