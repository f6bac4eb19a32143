/- The document's own book in memory, and what its functions that read it return. -/
import Derived.Test.YtidacihlalbohaaRefNum
import Derived.BigRegion
import Derived.Laws.StructEq
import Derived.Maps.AppendAt
namespace Go.Proofs.Ytidacihlalbohaa
open Go.RowKit

/-- A book lies in block p; v: its list of what is remembered. -/
structure BookAt (W : World) (p : Nat) (B : Md.Bk) (v : Value) : Prop where
  on : ∀ i, i < 8 → W.cell? ⟨p, i, none⟩ = some (.int .i64 (B.onHand i))
  co : ∀ i, i < 8 → W.cell? ⟨p, 8 + i, none⟩ = some (.int .i64 (B.committed i))
  hc : ∀ h, h < 51 → W.cell? ⟨p, 16 + h * 3, none⟩ = some (.int .i64 (B.hc h))
  hn : ∀ h, h < 51 → W.cell? ⟨p, 16 + h * 3 + 1, none⟩ = some (.int .i64 (B.hn h))
  ht : ∀ h, h < 51 → W.cell? ⟨p, 16 + h * 3 + 2, none⟩ = some (.int .i64 (B.ht h))
  li : ∀ h, h < 51 → W.cell? ⟨p, 169 + h, none⟩ = some (.bool (B.live h))
  cl : W.cell? ⟨p, 220, none⟩ = some (.int .i64 B.clock)
  cn : W.cell? ⟨p, 221, none⟩ = some (.int .i64 B.count)
  pa : W.cell? ⟨p, 222, none⟩ = some v
  fz : ∀ o, W.frozen? ⟨p, o, none⟩ = false
  lt : p < W.heap.size

def cellA (B : Md.Bk) (i : Nat) : Array Value := #[.int .i64 (B.onHand i), .int .i64 (Md.held B i), .int .i64 (B.committed i), .int .i64 (Md.free B i)]

theorem heldTo_hit (B : Md.Bk) (i : Int) (j : Nat) (h : B.live (j + 1) = true) (h2 : (B.hc (j + 1) == i) = true) : Md.heldTo B i (j + 1) = Md.heldTo B i j + B.hn (j + 1) := by
  rw [Md.heldTo, h, h2]; rfl
theorem heldTo_miss (B : Md.Bk) (i : Int) (j : Nat) (h2 : (B.hc (j + 1) == i) = false) : Md.heldTo B i (j + 1) = Md.heldTo B i j := by
  rw [Md.heldTo, h2]; simp
theorem heldTo_dead (B : Md.Bk) (i : Int) (j : Nat) (h : ¬ B.live (j + 1) = true) : Md.heldTo B i (j + 1) = Md.heldTo B i j := by
  rw [Md.heldTo]; simp [h]

set_option maxRecDepth 100000 in
set_option maxHeartbeats 2000000 in
theorem bookCell_any (p : Nat) (B : Md.Bk) (v : Value) (k : Int) (i : Nat) (w : World) (hk : k = i) (hi : i < 8) (hb : BookAt w p B v) (hs : Md.Small B) :
    Calls Try.prog 78 #[.pointer (some ⟨p, 0, none⟩), .int .i64 k] w fun e w' => e = .returned (.agg (cellA B i)) ∧ Below w.heap.size w w' := by
  subst hk
  have hlt := hb.lt
  go_enter Try.func78, Try.ntmps78
  go_wp2
  go_loop [5, 6] (fun a h => ∃ j : Nat, j ≤ 50 ∧ h = .int .i64 ((j : Int) + 1) ∧ a = .int .i64 (Md.heldTo B i j)) (fun _ h => 51 - (intOf h).toNat)
  case atStart => exact ⟨0, by omega, rfl, rfl⟩
  case round =>
    obtain ⟨j, hj, rfl, rfl⟩ := hrel
    obtain ⟨hd1, hd2⟩ := Md.heldTo_bd hs i j hj
    by_cases hlt : j < 50
    · have l1 := hb.li (j + 1) (by omega)
      have c1 := hb.hc (j + 1) (by omega)
      have n1 := hb.hn (j + 1) (by omega)
      obtain ⟨m1, m2⟩ := hs.hn (j + 1) (by omega)
      have hj' : ((j : Int) + 1) ≤ 50 := by omega
      go_wp2
      · go_round
        case rel => exact ⟨j + 1, by omega, by go_num, by rw [heldTo_hit B i j ‹_› ‹_›]⟩
        case measure => simp [intOf]; omega
      · go_round
        case rel => exact ⟨j + 1, by omega, by go_num, by rw [heldTo_miss B i j ‹_›]⟩
        case measure => simp [intOf]; omega
      · go_round
        case rel => exact ⟨j + 1, by omega, by go_num, by rw [heldTo_dead B i j ‹_›]⟩
        case measure => simp [intOf]; omega
    · obtain rfl : j = 50 := by omega
      have o1 := hb.on i hi
      have q1 := hb.co i hi
      have o2 := hs.on i hi
      have q2 := hs.co i hi
      obtain ⟨o3, o4⟩ := o2
      obtain ⟨q3, q4⟩ := q2
      have hfr : Md.free B i = B.onHand i - Md.heldTo B i 50 - B.committed i := rfl
      have Hfr := hide hfr
      have hi' : (i : Int) < 8 := by omega
      have hd3 : Md.heldTo B i 50 ≤ 214748364800 := by omega
      clear hb hs hfr hd2
      go_wp2
      go_region
      go_wp2
      refine bodyPost_ret (v := .agg (cellA B i)) ?_ rfl ⟨rfl, ((Below.refl _ _).alloc (Nat.le_refl _) _).drew⟩
      simp [results, Try.results78, go_sem, cellA, Md.held, Hfr.out]

/-- A reply as a value; what is remembered as cells. -/
def repA (r : Md.Rep) : Array Value := #[.int .i64 r.code, .int .i64 r.count]
def pastC (x : Md.Past) : List Value := [.int .i64 x.req.id, .int .i64 x.req.kind, .int .i64 x.req.cell, .int .i64 x.req.hold, .int .i64 x.req.count, .int .i64 x.req.time, .int .i64 x.rep.code, .int .i64 x.rep.count]
def pastsC (l : List Md.Past) : List Value := l.flatMap pastC
theorem pastsC_len (l : List Md.Past) : (pastsC l).length = l.length * 8 := by
  induction l with
  | nil => rfl
  | cons x l ih => simp only [pastsC, List.flatMap_cons, List.length_append, List.length_cons] at ih ⊢; rw [ih]; simp [pastC]; omega
theorem pastsC_at (l : List Md.Past) : ∀ (k o : Nat) (h : k < l.length), o < 8 → (pastsC l)[k * 8 + o]? = (pastC l[k])[o]? := by
  induction l with
  | nil => intro k o h; simp at h
  | cons x l ih =>
    intro k o h ho
    have e : pastsC (x :: l) = pastC x ++ pastsC l := rfl
    have hl : (pastC x).length = 8 := rfl
    cases k with
    | zero => rw [e, List.getElem?_append_left (by omega)]; simp
    | succ k =>
      rw [e, List.getElem?_append_right (by omega), hl, show (k + 1) * 8 + o - 8 = k * 8 + o from by omega, ih k o (by simpa using h) ho]
      rfl

end Go.Proofs.Ytidacihlalbohaa

/- Two requests compared. -/
namespace Go.Proofs.Ytidacihlalbohaa
open Go.RowKit

theorem fieldsReq : ((Try.prog.fieldsOf 75).toList.map fun f => (f.name, f.type, f.offset)) = [("ID", 3, 0), ("Kind", 3, 1), ("Cell", 3, 2), ("Hold", 3, 3), ("Count", 3, 4), ("Time", 3, 5)] := by kernel_rfl
theorem underReq : Try.prog.underlying 75 = some (.struct (Try.prog.fieldsOf 75)) := by kernel_rfl
theorem stoodReq : Try.prog.stoodInHeld 75 = false := by kernel_rfl
theorem guardReq : Try.prog.eqGuardType Try.prog.depth 75 = false := by kernel_rfl

theorem six {α : Type} {β : Type} {g : α → β} {l : List α} {a b c d e f : β} (h : l.map g = [a, b, c, d, e, f]) : ∃ x0 x1 x2 x3 x4 x5, l = [x0, x1, x2, x3, x4, x5] ∧ g x0 = a ∧ g x1 = b ∧ g x2 = c ∧ g x3 = d ∧ g x4 = e ∧ g x5 = f := by
  match l, h with
  | [x0, x1, x2, x3, x4, x5], h => simp at h; exact ⟨x0, x1, x2, x3, x4, x5, rfl, h⟩

set_option maxRecDepth 100000 in
theorem equalReq (W : World) (a b c d e f a' b' c' d' e' f' : Int) :
    (Op.equalIn 10000 75 (.agg #[.int .i64 a, .int .i64 b, .int .i64 c, .int .i64 d, .int .i64 e, .int .i64 f]) (.agg #[.int .i64 a', .int .i64 b', .int .i64 c', .int .i64 d', .int .i64 e', .int .i64 f'])).run Try.prog W
      = .ok (Md.sameReq ⟨a, b, c, d, e, f⟩ ⟨a', b', c', d', e', f'⟩) W := by
  rw [run_equalIn_struct W 9999 75 _ _ underReq stoodReq]
  obtain ⟨x0, x1, x2, x3, x4, x5, hl, k0, k1, k2, k3, k4, k5⟩ := six fieldsReq
  rw [hl]
  simp only [Prod.mk.injEq] at k0 k1 k2 k3 k4 k5
  simp only [Op.eqFields, k0.1, k0.2.1, k0.2.2, k1.1, k1.2.1, k1.2.2, k2.1, k2.2.1, k2.2.2, k3.1, k3.2.1, k3.2.2, k4.1, k4.2.1, k4.2.2, k5.1, k5.2.1, k5.2.2]
  simp [go_sem, Md.sameReq]
  by_cases h0 : a = a' <;> by_cases h1 : b = b' <;> by_cases h2 : c = c' <;> by_cases h3 : d = d' <;> by_cases h4 : e = e' <;> by_cases h5 : f = f' <;> simp [h0, h1, h2, h3, h4, h5]
end Go.Proofs.Ytidacihlalbohaa

/- What the document's own Known returns. -/
namespace Go.Proofs.Ytidacihlalbohaa
open Go.RowKit

/-- What is remembered, as it is read. -/
def PastAt (W : World) (v : Value) (l : List Md.Past) : Prop :=
  ∃ a cap, v = .slice a l.length cap ∧ l.length ≤ maxLen ∧ (0 < l.length → ∃ g, a = some ⟨g, 0, none⟩ ∧ ∀ k (h : k < l.length) o, o < 8 → W.cell? ⟨g, k * 8 + o, none⟩ = (pastC l[k])[o]?)
theorem PastAt.below {W W' : World} {v : Value} {l : List Md.Past} (h : PastAt W v l) (hb : Below W.heap.size W W') : PastAt W' v l := by
  obtain ⟨a, cap, h1, h2, h3⟩ := h
  refine ⟨a, cap, h1, h2, fun hl => ?_⟩
  obtain ⟨g, ha, hc⟩ := h3 hl
  refine ⟨g, ha, fun k hk o ho => ?_⟩
  have h0 := hc k hk o ho
  have hlt : g < W.heap.size := by
    have h1 := hc k hk 0 (by omega)
    exact World.block_lt_of_cell? W ⟨g, k * 8 + 0, none⟩ (h1.trans rfl)
  exact (hb.cell (p := ⟨g, k * 8 + o, none⟩) hlt).trans h0
theorem BookAt.below {W W' : World} {p : Nat} {B : Md.Bk} {v : Value} (h : BookAt W p B v) (hb : Below W.heap.size W W') : BookAt W' p B v := by
  have c : ∀ o, W'.cell? ⟨p, o, none⟩ = W.cell? ⟨p, o, none⟩ := fun o => hb.cell (p := ⟨p, o, none⟩) h.lt
  exact ⟨fun i hi => (c _).trans (h.on i hi), fun i hi => (c _).trans (h.co i hi), fun i hi => (c _).trans (h.hc i hi), fun i hi => (c _).trans (h.hn i hi), fun i hi => (c _).trans (h.ht i hi), fun i hi => (c _).trans (h.li i hi), (c _).trans h.cl, (c _).trans h.cn, (c _).trans h.pa, fun o => (hb.frozen (p := ⟨p, o, none⟩) h.lt).trans (h.fz o), Nat.lt_of_lt_of_le h.lt hb.size⟩

def knownV : Option Md.Rep → Value
  | some r => .tuple #[.agg (repA r), .bool true]
  | none => .tuple #[.agg #[.int .i64 0, .int .i64 0], .bool false]

theorem below2 (w : World) (A B : Obj) (n : Nat) (x y : Value) : Below w.heap.size w (((((w.alloc A).alloc B).drewN n).setCell ⟨w.heap.size + 1, 0, none⟩ x).setCell ⟨w.heap.size + 1, 1, none⟩ y) :=
  ((below_drewN' (((Below.refl _ _).alloc (Nat.le_refl _) A).alloc (by simp) B) n).setCell (p := ⟨w.heap.size + 1, 0, none⟩) (Nat.le_succ _) x).setCell (p := ⟨w.heap.size + 1, 1, none⟩) (Nat.le_succ _) y

set_option maxRecDepth 100000 in
set_option maxHeartbeats 2000000 in
theorem known_any (p : Nat) (B : Md.Bk) (v : Value) (r : Md.Req) (w : World) (hb : BookAt w p B v) (hp : PastAt w v B.past) :
    Calls Try.prog 74 #[.pointer (some ⟨p, 0, none⟩), .agg (reqA r)] w fun e w' => e = .returned (knownV (Md.known B.past r)) ∧ Below w.heap.size w w' := by
  obtain ⟨a, cap, rfl, hm, hc⟩ := hp
  unfold maxLen at hm
  have hlt := hb.lt
  have pa := hb.pa
  unfold reqA
  have HC := hide hc
  clear hc
  generalize hL : B.past.length = len at hm pa
  have HL := hide hL
  clear hL hb
  go_enter Try.func74, Try.ntmps74
  go_wp2
  go_loopw [6] (fun i wr => ∃ k d : Nat, k ≤ len ∧ i = .int .i64 k ∧ (∀ j (hj : j < k) (hl : j < B.past.length), (B.past[j]).req.id ≠ r.id) ∧ wr = ((w.alloc (.cells #[.int .i64 r.id, .int .i64 r.kind, .int .i64 r.cell, .int .i64 r.hold, .int .i64 r.count, .int .i64 r.time] 75)).alloc (.cells #[.int .i64 0, .int .i64 0] 77)).drewN d) (fun i _ => len - (intOf i).toNat)
  case atStart => exact ⟨0, 0, Nat.zero_le _, rfl, fun j hj => absurd hj (Nat.not_lt_zero _), rfl⟩
  case round =>
    obtain ⟨k, d, hk, rfl, hno, rfl⟩ := hrel
    by_cases hlt2 : k < len
    · have hkl : k < B.past.length := by have := HL.out; omega
      obtain ⟨g, rfl, hcell⟩ := HC.out (by omega)
      have hlt' : (k : Int) < (len : Int) := by omega
      generalize hx : B.past[k] = x
      have e0 : w.cell? ⟨g, k * 8, none⟩ = some (.int .i64 x.req.id) := by have := hcell k hkl 0 (by omega); rw [hx] at this; exact this
      have e1 : w.cell? ⟨g, k * 8 + 1, none⟩ = some (.int .i64 x.req.kind) := by have := hcell k hkl 1 (by omega); rw [hx] at this; exact this
      have e2 : w.cell? ⟨g, k * 8 + 2, none⟩ = some (.int .i64 x.req.cell) := by have := hcell k hkl 2 (by omega); rw [hx] at this; exact this
      have e3 : w.cell? ⟨g, k * 8 + 3, none⟩ = some (.int .i64 x.req.hold) := by have := hcell k hkl 3 (by omega); rw [hx] at this; exact this
      have e4 : w.cell? ⟨g, k * 8 + 4, none⟩ = some (.int .i64 x.req.count) := by have := hcell k hkl 4 (by omega); rw [hx] at this; exact this
      have e5 : w.cell? ⟨g, k * 8 + 5, none⟩ = some (.int .i64 x.req.time) := by have := hcell k hkl 5 (by omega); rw [hx] at this; exact this
      have e6 : w.cell? ⟨g, k * 8 + 6, none⟩ = some (.int .i64 x.rep.code) := by have := hcell k hkl 6 (by omega); rw [hx] at this; exact this
      have e7 : w.cell? ⟨g, k * 8 + 7, none⟩ = some (.int .i64 x.rep.count) := by have := hcell k hkl 7 (by omega); rw [hx] at this; exact this
      have hg : g < w.heap.size := World.block_lt_of_cell? w ⟨g, k * 8, none⟩ e0
      have Hx := hide hx
      have Hno := hide hno
      clear hcell hx hno
      by_cases hid : x.req.id = r.id
      · have hb1 : (x.req.id == r.id) = true := by simp [hid]
        have Hid1 := hide hid
        clear hid
        have heq := fun W => equalReq W x.req.id x.req.kind x.req.cell x.req.hold x.req.count x.req.time r.id r.kind r.cell r.hold r.count r.time
        have hgd := guardReq
        change ∀ W, _ = Result.ok (Md.sameReq x.req r) W at heq
        have hka := Md.known_at k hkl (fun j hj => Hno.out j hj (by omega)) (by rw [Hx.out]; exact Hid1.out)
        rw [Hx.out] at hka
        cases hsm : Md.sameReq x.req r with
        | true =>
          rw [hsm] at heq hka
          have Hka := hide hka
          clear hka hsm
          go_wp2_with fail
          go_quiet (fail)
          go_wp2_with fail
          go_quiet (fail)
          go_wp2
          exact bodyPost_ret (v := .tuple #[.agg #[.int .i64 x.rep.code, .int .i64 x.rep.count], .bool true]) (by simp [results, Try.results74, go_sem]) rfl ⟨by rw [Hka.out]; rfl, below2 _ _ _ _ _ _⟩
        | false =>
          rw [hsm] at heq hka
          have Hka := hide hka
          clear hka hsm
          go_wp2_with fail
          go_quiet (fail)
          go_wp2_with fail
          go_quiet (fail)
          go_wp2
          exact bodyPost_ret (v := .tuple #[.agg #[.int .i64 2, .int .i64 0], .bool true]) (by simp [results, Try.results74, go_sem]) rfl ⟨by rw [Hka.out]; rfl, below2 _ _ _ _ _ _⟩
      · have hb1 : (x.req.id == r.id) = false := by simp [hid]
        have Hid1 := hide hid
        clear hid
        go_wp2_with fail
        go_quiet (fail)
        go_wp2
        go_roundw
        case rel =>
          refine ⟨k + 1, _, by omega, by go_num, fun j hj hl => ?_, rfl⟩
          by_cases hjk : j < k
          · exact Hno.out j hjk hl
          · obtain rfl : j = k := by omega
            rw [Hx.out]; exact Hid1.out
        case measure => simp [intOf]; omega
    · have hkn : Md.known B.past r = none := Md.known_none (fun x hx => by
        obtain ⟨j, hj, rfl⟩ := List.mem_iff_getElem.1 hx
        have := HL.out
        exact hno j (by omega) hj)
      have Hkn := hide hkn
      clear hkn hno
      go_wp2
      exact bodyPost_ret (v := .tuple #[.agg #[.int .i64 0, .int .i64 0], .bool false]) (by simp [results, Try.results74, go_sem]) rfl ⟨by rw [Hkn.out]; rfl, below2 _ _ _ _ _ _⟩
end Go.Proofs.Ytidacihlalbohaa

/- What the document's own last returns: the last n of what is remembered, in new memory. -/
namespace Go.Proofs.Ytidacihlalbohaa
open Go.RowKit

theorem infoPast : (Try.prog.info? 143).map (fun i => (i.zero, i.size, i.bytes)) = some (some (.agg #[.int .i64 0, .int .i64 0, .int .i64 0, .int .i64 0, .int .i64 0, .int .i64 0, .int .i64 0, .int .i64 0]), 8, 64) := by kernel_rfl

theorem pastAt_of_row {W : World} {base : Nat} {v : Value} {l : List Md.Past} (h : W.ownsRow base 143 8 v l.length (pastsC l)) : PastAt W v l := by
  rcases h.2 with ⟨rfl, h0⟩ | ⟨g, cap, cur, rfl, _, _, h1, h2, _⟩
  · exact ⟨none, 0, by rw [h0], by rw [h0]; exact Nat.zero_le _, fun hl => by omega⟩
  · refine ⟨some ⟨g, 0, none⟩, cap, rfl, Nat.le_trans h1 h2, fun _ => ⟨g, rfl, fun k hk o ho => ?_⟩⟩
    rw [h.cellAt (k * 8 + o) (by omega), pastsC_at l k o hk ho]

theorem pastsC_snoc (l : List Md.Past) (x : Md.Past) : pastsC (l ++ [x]) = pastsC l ++ pastC x := by simp [pastsC]

/-- The last n of a list, as the loop gathers them. -/
theorem drop_take_snoc {l : List Md.Past} {k d : Nat} (hk : k < l.length) (hd : d ≤ k) : (l.take (k + 1)).drop d = (l.take k).drop d ++ [l[k]] := by
  rw [List.take_succ_eq_append_getElem hk, List.drop_append_of_le_length (by rw [List.length_take]; omega)]
theorem drop_take_none {l : List Md.Past} {k d : Nat} (hd : k < d) : (l.take (k + 1)).drop d = [] := by
  rw [List.drop_of_length_le (by rw [List.length_take]; omega)]

set_option maxRecDepth 100000 in
set_option maxHeartbeats 2000000 in
theorem last_any (v : Value) (l : List Md.Past) (n : Nat) (w : World) (hp : PastAt w v l) (hl : l.length ≤ 1073741824) (hn : n ≤ 1073741824) :
    Calls Try.prog 40 #[v, .int .i64 n] w fun e w' => ∃ v', e = .returned v' ∧ w'.ownsRow w.heap.size 143 8 v' (l.drop (l.length - n)).length (pastsC (l.drop (l.length - n))) ∧ Below w.heap.size w w' := by
  obtain ⟨a, cap, rfl, _, hc⟩ := hp
  obtain ⟨i0, hi, hz0, hz1, hz2⟩ := info_parts infoPast
  generalize hL : l.length = len at hl
  have HL := hide hL
  have HC := hide hc
  clear hc hL
  go_enter Try.func40, Try.ntmps40
  go_wp2
  go_loopw [5, 6] (fun x i wr => ∃ k : Nat, k ≤ len ∧ i = .int .i64 k ∧ wr.ownsRow w.heap.size 143 8 x ((l.take k).drop (len - n)).length (pastsC ((l.take k).drop (len - n))) ∧ Below w.heap.size w wr) (fun _ i _ => len - (intOf i).toNat)
  case atStart => exact ⟨0, Nat.zero_le _, rfl, by simp only [List.take_zero, List.drop_nil]; exact World.ownsRow_nil w w.heap.size 143 8, Below.refl _ _⟩
  case round =>
    obtain ⟨k, hk, rfl, hrow, hB⟩ := hrel
    by_cases hlt : k < len
    · have hkl : k < l.length := by have := HL.out; omega
      have hlt' : (k : Int) < (len : Int) := by omega
      by_cases hd : len - n ≤ k
      · obtain ⟨g, rfl, hcell⟩ := HC.out (by omega)
        have hdi : ((len : Int) - (n : Int)) ≤ (k : Int) := by omega
        have hts := drop_take_snoc (l := l) hkl hd
        generalize hx : l[k] = x at hts
        have e0 : w.cell? ⟨g, k * 8, none⟩ = some (.int .i64 x.req.id) := by have := hcell k hkl 0 (by omega); rw [hx] at this; exact this
        have hg : g < w.heap.size := World.block_lt_of_cell? w ⟨g, k * 8, none⟩ e0
        have cc : ∀ o, o < 8 → wr.cell? ⟨g, k * 8 + o, none⟩ = (pastC x)[o]? := fun o ho => by
          have := hcell k hkl o ho; rw [hx] at this; exact (hB.cell (p := ⟨g, k * 8 + o, none⟩) hg).trans this
        have f0 : wr.cell? ⟨g, k * 8, none⟩ = some (.int .i64 x.req.id) := cc 0 (by omega)
        have f1 : wr.cell? ⟨g, k * 8 + 1, none⟩ = some (.int .i64 x.req.kind) := cc 1 (by omega)
        have f2 : wr.cell? ⟨g, k * 8 + 2, none⟩ = some (.int .i64 x.req.cell) := cc 2 (by omega)
        have f3 : wr.cell? ⟨g, k * 8 + 3, none⟩ = some (.int .i64 x.req.hold) := cc 3 (by omega)
        have f4 : wr.cell? ⟨g, k * 8 + 4, none⟩ = some (.int .i64 x.req.count) := cc 4 (by omega)
        have f5 : wr.cell? ⟨g, k * 8 + 5, none⟩ = some (.int .i64 x.req.time) := cc 5 (by omega)
        have f6 : wr.cell? ⟨g, k * 8 + 6, none⟩ = some (.int .i64 x.rep.code) := cc 6 (by omega)
        have f7 : wr.cell? ⟨g, k * 8 + 7, none⟩ = some (.int .i64 x.rep.count) := cc 7 (by omega)
        have hll : ((l.take k).drop (len - n)).length ≤ k := by rw [List.length_drop, List.length_take]; omega
        have Hts := hide hts
        generalize hR : (l.take k).drop (len - n) = R at hrow hll Hts
        clear cc hcell hx hR hts e0
        go_wp2_with (at_builtin; refine wpList_append_own _ rfl _ _ 95 rfl w.heap.size 143 i0 (.agg #[.int .i64 0, .int .i64 0, .int .i64 0, .int .i64 0, .int .i64 0, .int .i64 0, .int .i64 0, .int .i64 0]) 8 64 Try.underlying95 hi hz0 hz1 hz2 rfl (by decide) _ _ _ rfl (hrow.alloc _) ⟨wr.heap.size, 0, none⟩ 1 1 (pastC x) rfl rfl (cells_new _ _ _ _ rfl) (by simp [pastC, Value.oneCell']) (by unfold maxLen; omega) (by omega) (by have := hB.size; simp; omega) ?_; intro v' w2 hown hgrow _)
        go_roundw
        case rel =>
          refine ⟨k + 1, by omega, by go_num, ?_, ?_⟩
          · rw [Hts.out, pastsC_snoc]
            simpa using hown
          · exact (hB.alloc hB.size _).grown hgrow (by have := hB.size; simp; omega) (fun j e => (hrow.lt j e).1)
        case measure => simp [intOf]; omega
      · have hdi : ¬ ((len : Int) - (n : Int)) ≤ (k : Int) := by omega
        have h1 : (l.take k).drop (len - n) = [] := by rw [List.drop_of_length_le (by rw [List.length_take]; omega)]
        have h2 : (l.take (k + 1)).drop (len - n) = [] := drop_take_none (by omega)
        rw [h1] at hrow
        have H2 := hide h2
        clear h1 h2
        go_wp2
        go_roundw
        case rel => exact ⟨k + 1, by omega, by go_num, by rw [H2.out]; exact hrow, hB⟩
        case measure => simp [intOf]; omega
    · obtain rfl : k = len := by omega
      have ht : l.take k = l := List.take_of_length_le (by rw [HL.out]; exact Nat.le_refl _)
      rw [ht] at hrow
      have Hr := hide hrow
      clear ht hrow
      go_wp2
      go_ret
      exact ⟨_, rfl, Hr.out, hB⟩
end Go.Proofs.Ytidacihlalbohaa
