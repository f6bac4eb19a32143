/- What the document's own Config, Files, data and OfRecord return. -/
import Derived.Test.YtidacihlalbohaaRefNum
namespace Go.Proofs.Ytidacihlalbohaa
open Go.RowKit

namespace Md
structure Cf where
  window : Int
  group : Int
  room : Int
def Cf.fine (c : Cf) : Bool := inR c.window 1 20 && inR c.group 1 16 && inR c.room 100 5000
structure Fl where
  name : ByteArray
  data : ByteArray
def sLog : ByteArray := ⟨#[108, 111, 103]⟩
def sSnap : ByteArray := ⟨#[115, 110, 97, 112]⟩
def sTmp : ByteArray := ⟨#[116, 109, 112]⟩
/-- Is none of these files named so? -/
def unnamed (l : List Fl) (n : ByteArray) : Prop := ∀ x ∈ l, x.name ≠ n
def newName (l : List Fl) (n : ByteArray) : Bool := l.all fun y => !decide (y.name = n)
def nameOk (l : List Fl) (x : Fl) : Bool := (decide (x.name = sLog) || decide (x.name = sSnap) || decide (x.name = sTmp)) && newName l x.name
/-- Are the names of the first k files ones, and each other? -/
def namedTo (l : List Fl) : Nat → Bool
  | 0 => true
  | k + 1 => namedTo l k && (match l[k]? with | some x => nameOk (l.take k) x | none => true)
def named (l : List Fl) : Bool := namedTo l l.length
theorem namedTo_less {l : List Fl} : ∀ {k n : Nat}, k ≤ n → namedTo l k = false → namedTo l n = false := by
  intro k n h hf
  induction n with
  | zero => obtain rfl : k = 0 := by omega
            exact hf
  | succ n ih =>
    rcases Nat.lt_or_ge n k with h1 | h1
    · obtain rfl : k = n + 1 := by omega
      exact hf
    · rw [namedTo, ih h1]; rfl
/-- A file's data by its name. -/
def dataOf : List Fl → ByteArray → Option ByteArray
  | [], _ => none
  | x :: l, n => if x.name = n then some x.data else dataOf l n
theorem dataOf_none {l : List Fl} {n : ByteArray} (h : unnamed l n) : dataOf l n = none := by
  induction l with
  | nil => rfl
  | cons x l ih => rw [dataOf, if_neg (h x (by simp))]; exact ih (fun y hy => h y (by simp [hy]))
theorem dataOf_at {l : List Fl} {n : ByteArray} : ∀ (k : Nat) (x : Fl), l[k]? = some x → unnamed (l.take k) n → x.name = n → dataOf l n = some x.data := by
  induction l with
  | nil => intro k x h; simp at h
  | cons y l ih =>
    intro k x hx hn he
    cases k with
    | zero => simp at hx; subst hx; rw [dataOf, if_pos he]
    | succ k =>
      rw [dataOf, if_neg (hn y (by simp))]
      exact ih k x (by simpa using hx) (fun z hz => hn z (by simp [hz])) he
end Md

def cfA (c : Md.Cf) : Array Value := #[.int .i64 c.window, .int .i64 c.group, .int .i64 c.room]

set_option maxHeartbeats 400000 in
theorem config_any (c : Md.Cf) (w : World) :
    Calls Try.prog 36 #[.agg (cfA c)] w fun e w' => e = .returned (.bool c.fine) ∧ Below w.heap.size w w' := by
  obtain ⟨a, b, d⟩ := c
  unfold Md.Cf.fine cfA
  dsimp only
  go_enter Try.func36, Try.ntmps36
  go_wp2_with (refine (in_any _ _ _ _).mono ?_; rintro e W ⟨rfl, rfl⟩)
  all_goals
    go_ret
    exact ⟨by simp [*], (Below.refl _ _).alloc (Nat.le_refl _) _⟩

/-- Files as they are read. -/
def FilesAt (W : World) (v : Value) (l : List Md.Fl) : Prop :=
  ∃ a cap, v = .slice a l.length cap ∧ l.length ≤ maxLen ∧ (0 < l.length → ∃ g o, a = some ⟨g, o, none⟩ ∧ ∀ k x, l[k]? = some x → W.cell? ⟨g, o + k * 2, none⟩ = some (.string x.name) ∧ W.cell? ⟨g, o + k * 2 + 1, none⟩ = some (.string x.data))

theorem same_list {a b : ByteArray} : (a.toList == b.toList) = decide (a = b) := by
  by_cases h : a = b
  · subst h; simp
  · have h2 : ¬ a.data = b.data := fun e => h (ByteArray.ext e)
    rw [decide_eq_false h]; simpa [ByteArray.toList_eq] using h2

theorem sameLog (a : ByteArray) : (a.toList == [108, 111, 103]) = decide (a = Md.sLog) := by rw [← same_list, ByteArray.toList_eq Md.sLog]; rfl
theorem sameSnap (a : ByteArray) : (a.toList == [115, 110, 97, 112]) = decide (a = Md.sSnap) := by rw [← same_list, ByteArray.toList_eq Md.sSnap]; rfl
theorem sameTmp (a : ByteArray) : (a.toList == [116, 109, 112]) = decide (a = Md.sTmp) := by rw [← same_list, ByteArray.toList_eq Md.sTmp]; rfl

def dataV : Option ByteArray → Value
  | some d => .tuple #[.string d, .bool true]
  | none => .tuple #[.string ⟨#[]⟩, .bool false]

set_option maxHeartbeats 400000 in
theorem data_any (v : Value) (l : List Md.Fl) (n : ByteArray) (w : World) (hf : FilesAt w v l) :
    Calls Try.prog 38 #[v, .string n] w fun e w' => e = .returned (dataV (Md.dataOf l n)) ∧ w' = w := by
  obtain ⟨a, cap, rfl, hm, hc⟩ := hf
  obtain ⟨len, hL⟩ : ∃ len, l.length = len := ⟨_, rfl⟩
  have Hc := hide hc
  have HL := hide hL
  rw [hL] at hm ⊢
  have hm' : len ≤ 9223372036854775807 := by unfold maxLen at hm; omega
  clear hc hL
  go_enter Try.func38, Try.ntmps38
  go_wp2
  go_loop [6] (fun i => ∃ k : Nat, k ≤ len ∧ i = .int .i64 k ∧ Hid (Md.unnamed (l.take k) n)) (fun i => len - (intOf i).toNat)
  case atStart => exact ⟨0, Nat.zero_le _, rfl, hide (fun x hx => by simp at hx)⟩
  case round =>
    obtain ⟨k, hk, rfl, hun⟩ := hrel
    by_cases hkl : k < len
    · have hkb : k < l.length := by rw [HL.out]; exact hkl
      have hkl' : (k : Int) < (len : Int) := by omega
      obtain ⟨g, o, rfl, hcell⟩ := Hc.out (by omega)
      have hxx : l[k]? = some l[k] := List.getElem?_eq_getElem hkb
      have hts : l.take (k + 1) = l.take k ++ [l[k]] := (List.take_append_getElem hkb).symm
      generalize l[k] = x at hxx hts
      obtain ⟨c1, c2⟩ := hcell k x hxx
      have Hxx := hide hxx
      have Hts := hide hts
      clear hxx hcell hts
      by_cases he : x.name = n
      · have hq : (x.name.toList == n.toList) = true := by rw [same_list]; simpa using he
        have hd := Md.dataOf_at k x Hxx.out hun.out he
        have Hd := hide hd
        clear hd
        go_wp2
        go_ret2
        exact ⟨by rw [Hd.out]; rfl, rfl⟩
      · have hq : (x.name.toList == n.toList) = false := by rw [same_list]; simpa using he
        go_wp2
        go_round
        case rel => exact ⟨k + 1, by omega, by go_num, hide (by rw [Hts.out]; intro y hy; rw [List.mem_append] at hy; rcases hy with h | h; exact hun.out y h; simp at h; rw [h]; exact he)⟩
        case measure => simp [intOf]; omega
    · obtain rfl : k = len := by omega
      have hd : Md.dataOf l n = none := Md.dataOf_none (by have := hun.out; rwa [List.take_of_length_le (by rw [HL.out]; exact Nat.le_refl _)] at this)
      have Hd := hide hd
      clear hd
      go_wp2
      go_ret2
      exact ⟨by rw [Hd.out]; rfl, rfl⟩

set_option maxRecDepth 100000 in
set_option maxHeartbeats 1000000 in
theorem files_any (v : Value) (l : List Md.Fl) (w : World) (hf : FilesAt w v l) :
    Calls Try.prog 37 #[v] w fun e w' => e = .returned (.bool (Md.named l)) ∧ Below w.heap.size w w' := by
  obtain ⟨a, cap, rfl, hm, hc⟩ := hf
  obtain ⟨len, hL⟩ : ∃ len, l.length = len := ⟨_, rfl⟩
  have Hc := hide hc
  have HL := hide hL
  rw [hL] at hm ⊢
  have hm' : len ≤ 9223372036854775807 := by unfold maxLen at hm; omega
  clear hc hL
  go_enter Try.func37, Try.ntmps37
  go_wp2
  go_loopw [3] (fun i wr => ∃ k : Nat, k ≤ len ∧ i = .int .i64 k ∧ Hid (Md.namedTo l k = true) ∧ Below w.heap.size w wr) (fun i _ => len - (intOf i).toNat)
  case atStart => exact ⟨0, Nat.zero_le _, rfl, hide rfl, Below.refl _ _⟩
  case round =>
    obtain ⟨k, hk, rfl, hnm, hB⟩ := hrel
    by_cases hkl : k < len
    · have hkb : k < l.length := by rw [HL.out]; exact hkl
      have hkl' : (k : Int) < (len : Int) := by omega
      obtain ⟨g, o, rfl, hcell⟩ := Hc.out (by omega)
      have hxx : l[k]? = some l[k] := List.getElem?_eq_getElem hkb
      generalize l[k] = x at hxx
      have hx1 := (hcell k x hxx).1
      have hg : g < w.heap.size := World.block_lt_of_cell? w ⟨g, o + k * 2, none⟩ hx1
      have c1 := (hB.cell (p := ⟨g, o + k * 2, none⟩) hg).trans hx1
      have hn1 : Md.namedTo l (k + 1) = Md.nameOk (l.take k) x := by rw [Md.namedTo, hnm.out, hxx]; rfl
      have Hn1 := hide hn1
      have Hcell := hide hcell
      have Hx1 := hide hx1
      clear hn1 hxx hcell hx1
      have q1 := sameLog x.name
      have q2 := sameSnap x.name
      have q3 := sameTmp x.name
      cases h1 : decide (x.name = Md.sLog) with
      | true =>
        rw [h1] at q1
        have Hok : Hid (Md.nameOk (l.take k) x = Md.newName (l.take k) x.name) := hide (by rw [Md.nameOk]; simp [*])
        clear h1 q2 q3
        go_wp2
        go_loopw [4] (fun m ws => ∃ (j : Nat), j ≤ k ∧ m = .int .i64 j ∧ Hid (Md.newName (l.take j) x.name = true) ∧ Below w.heap.size w ws) (fun m _ => k - (intOf m).toNat)
        case atStart => exact ⟨0, by omega, rfl, hide rfl, hB⟩
        case round =>
          clear hB
          obtain ⟨j, hj, rfl, hnew, hB⟩ := hrel
          by_cases hjk : j < k
          · have hjb : j < l.length := by omega
            have hyy : l.take (j + 1) = l.take j ++ [l[j]] := (List.take_append_getElem hjb).symm
            have t0 := (Hcell.out j l[j] (List.getElem?_eq_getElem hjb)).1
            generalize l[j] = y at hyy t0
            have t1 := (hB.cell (p := ⟨g, o + j * 2, none⟩) hg).trans t0
            have t2 := (hB.cell (p := ⟨g, o + k * 2, none⟩) hg).trans Hx1.out
            have hn2 : Md.newName (l.take (j + 1)) x.name = !decide (y.name = x.name) := by
              have h0 := hnew.out
              unfold Md.newName at h0 ⊢
              rw [hyy, List.all_append, h0]; simp
            have Hn2 := hide hn2
            have hjk' : (j : Int) < (k : Int) := by omega
            have hjl : (j : Int) < (len : Int) := by omega
            have q9 := same_list (a := y.name) (b := x.name)
            clear hn2 hyy t0
            cases heq : decide (y.name = x.name) with
            | true =>
              rw [heq] at q9
              have Hno : Hid (Md.named l = false) := hide (by
                have hnw : Md.newName (l.take k) x.name = false := by
                  have h1 : Md.newName (l.take (j + 1)) x.name = false := by rw [Hn2.out, heq]; rfl
                  have h2 : l.take k = l.take (j + 1) ++ (l.take k).drop (j + 1) := by
                    rw [show l.take (j + 1) = (l.take k).take (j + 1) by rw [List.take_take, Nat.min_eq_left (by omega)], List.take_append_drop]
                  unfold Md.newName at h1 ⊢
                  rw [h2, List.all_append, h1]; rfl
                rw [Md.named, HL.out, Md.namedTo_less (k := k + 1) (n := len) (by omega) (by rw [Hn1.out, Hok.out, hnw])])
              go_wp2_with fail
              go_quiet (fail)
              go_wp2
              go_ret
              exact ⟨by rw [Hno.out]; rfl, below_drewN' hB _⟩
            | false =>
              rw [heq] at q9
              have Hn3 : Hid (Md.newName (l.take (j + 1)) x.name = true) := hide (by rw [Hn2.out, heq]; rfl)
              go_wp2_with fail
              go_quiet (fail)
              go_wp2
              go_roundw
              case rel => exact ⟨j + 1, by omega, by go_num, Hn3, below_drewN' hB _⟩
              case measure => simp [intOf]; omega
          · obtain rfl : j = k := by omega
            have Hpt : Hid (Md.namedTo l (j + 1) = true) := hide (by rw [Hn1.out, Hok.out, hnew.out])
            go_wp2
            go_roundw
            case rel => exact ⟨j + 1, by omega, by go_num, Hpt, hB⟩
            case measure => simp [intOf]; omega
      | false =>
        rw [h1] at q1
        cases h2 : decide (x.name = Md.sSnap) with
        | true =>
          rw [h2] at q2
          have Hok : Hid (Md.nameOk (l.take k) x = Md.newName (l.take k) x.name) := hide (by rw [Md.nameOk]; simp [*])
          clear h1 h2 q3
          go_wp2
          go_loopw [4] (fun m ws => ∃ (j : Nat), j ≤ k ∧ m = .int .i64 j ∧ Hid (Md.newName (l.take j) x.name = true) ∧ Below w.heap.size w ws) (fun m _ => k - (intOf m).toNat)
          case atStart => exact ⟨0, by omega, rfl, hide rfl, hB⟩
          case round =>
            clear hB
            obtain ⟨j, hj, rfl, hnew, hB⟩ := hrel
            by_cases hjk : j < k
            · have hjb : j < l.length := by omega
              have hyy : l.take (j + 1) = l.take j ++ [l[j]] := (List.take_append_getElem hjb).symm
              have t0 := (Hcell.out j l[j] (List.getElem?_eq_getElem hjb)).1
              generalize l[j] = y at hyy t0
              have t1 := (hB.cell (p := ⟨g, o + j * 2, none⟩) hg).trans t0
              have t2 := (hB.cell (p := ⟨g, o + k * 2, none⟩) hg).trans Hx1.out
              have hn2 : Md.newName (l.take (j + 1)) x.name = !decide (y.name = x.name) := by
                have h0 := hnew.out
                unfold Md.newName at h0 ⊢
                rw [hyy, List.all_append, h0]; simp
              have Hn2 := hide hn2
              have hjk' : (j : Int) < (k : Int) := by omega
              have hjl : (j : Int) < (len : Int) := by omega
              have q9 := same_list (a := y.name) (b := x.name)
              clear hn2 hyy t0
              cases heq : decide (y.name = x.name) with
              | true =>
                rw [heq] at q9
                have Hno : Hid (Md.named l = false) := hide (by
                  have hnw : Md.newName (l.take k) x.name = false := by
                    have h1 : Md.newName (l.take (j + 1)) x.name = false := by rw [Hn2.out, heq]; rfl
                    have h2 : l.take k = l.take (j + 1) ++ (l.take k).drop (j + 1) := by
                      rw [show l.take (j + 1) = (l.take k).take (j + 1) by rw [List.take_take, Nat.min_eq_left (by omega)], List.take_append_drop]
                    unfold Md.newName at h1 ⊢
                    rw [h2, List.all_append, h1]; rfl
                  rw [Md.named, HL.out, Md.namedTo_less (k := k + 1) (n := len) (by omega) (by rw [Hn1.out, Hok.out, hnw])])
                go_wp2_with fail
                go_quiet (fail)
                go_wp2
                go_ret
                exact ⟨by rw [Hno.out]; rfl, below_drewN' hB _⟩
              | false =>
                rw [heq] at q9
                have Hn3 : Hid (Md.newName (l.take (j + 1)) x.name = true) := hide (by rw [Hn2.out, heq]; rfl)
                go_wp2_with fail
                go_quiet (fail)
                go_wp2
                go_roundw
                case rel => exact ⟨j + 1, by omega, by go_num, Hn3, below_drewN' hB _⟩
                case measure => simp [intOf]; omega
            · obtain rfl : j = k := by omega
              have Hpt : Hid (Md.namedTo l (j + 1) = true) := hide (by rw [Hn1.out, Hok.out, hnew.out])
              go_wp2
              go_roundw
              case rel => exact ⟨j + 1, by omega, by go_num, Hpt, hB⟩
              case measure => simp [intOf]; omega
        | false =>
          rw [h2] at q2
          cases h3 : decide (x.name = Md.sTmp) with
          | true =>
            rw [h3] at q3
            have Hok : Hid (Md.nameOk (l.take k) x = Md.newName (l.take k) x.name) := hide (by rw [Md.nameOk]; simp [*])
            clear h1 h2 h3
            go_wp2
            go_loopw [4] (fun m ws => ∃ (j : Nat), j ≤ k ∧ m = .int .i64 j ∧ Hid (Md.newName (l.take j) x.name = true) ∧ Below w.heap.size w ws) (fun m _ => k - (intOf m).toNat)
            case atStart => exact ⟨0, by omega, rfl, hide rfl, hB⟩
            case round =>
              clear hB
              obtain ⟨j, hj, rfl, hnew, hB⟩ := hrel
              by_cases hjk : j < k
              · have hjb : j < l.length := by omega
                have hyy : l.take (j + 1) = l.take j ++ [l[j]] := (List.take_append_getElem hjb).symm
                have t0 := (Hcell.out j l[j] (List.getElem?_eq_getElem hjb)).1
                generalize l[j] = y at hyy t0
                have t1 := (hB.cell (p := ⟨g, o + j * 2, none⟩) hg).trans t0
                have t2 := (hB.cell (p := ⟨g, o + k * 2, none⟩) hg).trans Hx1.out
                have hn2 : Md.newName (l.take (j + 1)) x.name = !decide (y.name = x.name) := by
                  have h0 := hnew.out
                  unfold Md.newName at h0 ⊢
                  rw [hyy, List.all_append, h0]; simp
                have Hn2 := hide hn2
                have hjk' : (j : Int) < (k : Int) := by omega
                have hjl : (j : Int) < (len : Int) := by omega
                have q9 := same_list (a := y.name) (b := x.name)
                clear hn2 hyy t0
                cases heq : decide (y.name = x.name) with
                | true =>
                  rw [heq] at q9
                  have Hno : Hid (Md.named l = false) := hide (by
                    have hnw : Md.newName (l.take k) x.name = false := by
                      have h1 : Md.newName (l.take (j + 1)) x.name = false := by rw [Hn2.out, heq]; rfl
                      have h2 : l.take k = l.take (j + 1) ++ (l.take k).drop (j + 1) := by
                        rw [show l.take (j + 1) = (l.take k).take (j + 1) by rw [List.take_take, Nat.min_eq_left (by omega)], List.take_append_drop]
                      unfold Md.newName at h1 ⊢
                      rw [h2, List.all_append, h1]; rfl
                    rw [Md.named, HL.out, Md.namedTo_less (k := k + 1) (n := len) (by omega) (by rw [Hn1.out, Hok.out, hnw])])
                  go_wp2_with fail
                  go_quiet (fail)
                  go_wp2
                  go_ret
                  exact ⟨by rw [Hno.out]; rfl, below_drewN' hB _⟩
                | false =>
                  rw [heq] at q9
                  have Hn3 : Hid (Md.newName (l.take (j + 1)) x.name = true) := hide (by rw [Hn2.out, heq]; rfl)
                  go_wp2_with fail
                  go_quiet (fail)
                  go_wp2
                  go_roundw
                  case rel => exact ⟨j + 1, by omega, by go_num, Hn3, below_drewN' hB _⟩
                  case measure => simp [intOf]; omega
              · obtain rfl : j = k := by omega
                have Hpt : Hid (Md.namedTo l (j + 1) = true) := hide (by rw [Hn1.out, Hok.out, hnew.out])
                go_wp2
                go_roundw
                case rel => exact ⟨j + 1, by omega, by go_num, Hpt, hB⟩
                case measure => simp [intOf]; omega
          | false =>
            rw [h3] at q3
            have Hno : Hid (Md.named l = false) := hide (by
              rw [Md.named, HL.out, Md.namedTo_less (k := k + 1) (n := len) (by omega) (by rw [Hn1.out, Md.nameOk, h1, h2, h3]; rfl)])
            clear h1 h2 h3
            go_wp2
            go_ret
            exact ⟨by rw [Hno.out]; rfl, hB⟩
    · obtain rfl : k = len := by omega
      have Hy : Hid (Md.named l = true) := hide (by rw [Md.named, HL.out]; exact hnm.out)
      go_wp2
      go_ret
      exact ⟨by rw [Hy.out]; rfl, hB⟩

set_option maxHeartbeats 400000 in
theorem ofRecord_any (s : ByteArray) (w : World) :
    Calls Try.prog 73 #[.string s] w fun e w' => e = .returned (.tuple #[.int .i64 (Md.numAt s.data.toList 0), .agg (reqA (Md.reqAt s.data.toList 1)), .bool (decide (s.size = 28))]) ∧ Below w.heap.size w w' := by
  go_enter Try.func73, Try.ntmps73
  go_wp2_with fail
  obtain ⟨h0, h1, h2, h3, h4, h5⟩ := box6 w (.int .i64 0) (.int .i64 0) (.int .i64 0) (.int .i64 0) (.int .i64 0) (.int .i64 0) 75
  have hfr : ∀ o, (w.alloc (.cells #[.int .i64 0, .int .i64 0, .int .i64 0, .int .i64 0, .int .i64 0, .int .i64 0] 75)).frozen? ⟨w.heap.size, o, none⟩ = false := fun o => by simp [go_sem]
  have hB : Below w.heap.size w (w.alloc (.cells #[.int .i64 0, .int .i64 0, .int .i64 0, .int .i64 0, .int .i64 0, .int .i64 0] 75)) := (Below.refl _ _).alloc (Nat.le_refl _) _
  have hz : (w.alloc (.cells #[.int .i64 0, .int .i64 0, .int .i64 0, .int .i64 0, .int .i64 0, .int .i64 0] 75)).heap.size = w.heap.size + 1 := by simp
  generalize w.alloc (.cells #[.int .i64 0, .int .i64 0, .int .i64 0, .int .i64 0, .int .i64 0, .int .i64 0] 75) = W at *
  refine (refNumber_any s 0 0 _ rfl (by omega)).mono ?_
  rintro e w1 ⟨rfl, n1, rfl⟩
  go_wp2_with fail
  refine (requestAt_any s 1 1 _ rfl (by omega)).mono ?_
  rintro e w2 ⟨rfl, hb2⟩
  have hb3 : Below W.heap.size W w2 := ⟨hb2.os, hb2.tape, hb2.output, hb2.size, hb2.block⟩
  have hlt : w.heap.size < W.heap.size := by omega
  replace h0 := (hb3.cell (p := ⟨w.heap.size, 0, none⟩) hlt).trans h0
  replace h1 := (hb3.cell (p := ⟨w.heap.size, 1, none⟩) hlt).trans h1
  replace h2 := (hb3.cell (p := ⟨w.heap.size, 2, none⟩) hlt).trans h2
  replace h3 := (hb3.cell (p := ⟨w.heap.size, 3, none⟩) hlt).trans h3
  replace h4 := (hb3.cell (p := ⟨w.heap.size, 4, none⟩) hlt).trans h4
  replace h5 := (hb3.cell (p := ⟨w.heap.size, 5, none⟩) hlt).trans h5
  replace hfr := fun o => (hb3.frozen (p := ⟨w.heap.size, o, none⟩) hlt).trans (hfr o)
  have HB := hide (hB.trans (hb3.mono hB.size))
  generalize hR : Md.reqAt s.data.toList 1 = R
  have HR := hide hR
  clear hb2 hb3 hB hR
  have hq : ((s.size : Int) == 28) = decide (s.size = 28) := by
    by_cases h : s.size = 28
    · rw [decide_eq_true h, h]; rfl
    · rw [decide_eq_false h]; simp; omega
  have Hq := hide hq
  clear hq
  unfold reqA
  go_wp2
  refine bodyPost_ret (v := .tuple #[.int .i64 (Md.numAt s.data.toList 0), .agg #[.int .i64 R.id, .int .i64 R.kind, .int .i64 R.cell, .int .i64 R.hold, .int .i64 R.count, .int .i64 R.time], .bool ((s.size : Int) == 28)]) (by simp [results, Try.results73, go_sem, h0, h1, h2, h3, h4, h5]) rfl ⟨by rw [HR.out, Hq.out]; rfl, ?_⟩
  exact ((((((HB.out.setCell (p := ⟨w.heap.size, 0, none⟩) (Nat.le_refl _) _).setCell (p := ⟨w.heap.size, 1, none⟩) (Nat.le_refl _) _).setCell (p := ⟨w.heap.size, 2, none⟩) (Nat.le_refl _) _).setCell (p := ⟨w.heap.size, 3, none⟩) (Nat.le_refl _) _).setCell (p := ⟨w.heap.size, 4, none⟩) (Nat.le_refl _) _).setCell (p := ⟨w.heap.size, 5, none⟩) (Nat.le_refl _) _)
end Go.Proofs.Ytidacihlalbohaa
