/- A book in memory, written into. -/
import Derived.Test.YtidacihlalbohaaRefCan
namespace Go.Proofs.Ytidacihlalbohaa
open Go.RowKit

theorem size_put (w : World) (a : Addr) (v : Value) : (w.setCell a v).heap.size = w.heap.size := by simp [World.setCell]
theorem cell_put {W : World} {p o : Nat} {x : Value} (hs : (W.cell? ⟨p, o, none⟩).isSome = true) (o' : Nat) : (W.setCell ⟨p, o, none⟩ x).cell? ⟨p, o', none⟩ = if o' = o then some x else W.cell? ⟨p, o', none⟩ := by
  by_cases h : o' = o
  · subst h; rw [if_pos rfl]; exact World.cell?_setCell_same' _ _ _ hs
  · rw [if_neg h]; apply World.cell?_setCell_other; intro e; cases e; exact h rfl
theorem upd_same {α : Type} (f : Nat → α) (k : Nat) (x : α) : Md.upd f k x k = x := if_pos rfl
theorem upd_other {α : Type} (f : Nat → α) (k i : Nat) (x : α) (h : i ≠ k) : Md.upd f k x i = f i := if_neg h

/-- One cell of a book is written; all others read as they did. -/
theorem BookAt.put {W : World} {p : Nat} {B B' : Md.Bk} {v v' : Value} (h : BookAt W p B v) (o : Nat) (x : Value) (hs : (W.cell? ⟨p, o, none⟩).isSome = true)
    (on : ∀ i, i < 8 → (if i = o then some x else some (.int .i64 (B.onHand i))) = some (.int .i64 (B'.onHand i)))
    (co : ∀ i, i < 8 → (if 8 + i = o then some x else some (.int .i64 (B.committed i))) = some (.int .i64 (B'.committed i)))
    (hc : ∀ i, i < 51 → (if 16 + i * 3 = o then some x else some (.int .i64 (B.hc i))) = some (.int .i64 (B'.hc i)))
    (hn : ∀ i, i < 51 → (if 16 + i * 3 + 1 = o then some x else some (.int .i64 (B.hn i))) = some (.int .i64 (B'.hn i)))
    (ht : ∀ i, i < 51 → (if 16 + i * 3 + 2 = o then some x else some (.int .i64 (B.ht i))) = some (.int .i64 (B'.ht i)))
    (li : ∀ i, i < 51 → (if 169 + i = o then some x else some (.bool (B.live i))) = some (.bool (B'.live i)))
    (cl : (if 220 = o then some x else some (.int .i64 B.clock)) = some (.int .i64 B'.clock))
    (cn : (if 221 = o then some x else some (.int .i64 B.count)) = some (.int .i64 B'.count))
    (pa : (if 222 = o then some x else some v) = some v') : BookAt (W.setCell ⟨p, o, none⟩ x) p B' v' :=
  ⟨fun i hi => by rw [cell_put hs, h.on i hi]; exact on i hi, fun i hi => by rw [cell_put hs, h.co i hi]; exact co i hi,
   fun i hi => by rw [cell_put hs, h.hc i hi]; exact hc i hi, fun i hi => by rw [cell_put hs, h.hn i hi]; exact hn i hi,
   fun i hi => by rw [cell_put hs, h.ht i hi]; exact ht i hi, fun i hi => by rw [cell_put hs, h.li i hi]; exact li i hi,
   by rw [cell_put hs, h.cl]; exact cl, by rw [cell_put hs, h.cn]; exact cn, by rw [cell_put hs, h.pa]; exact pa,
   fun o => (World.frozen?_setCell _ _ _ _).trans (h.fz o), by rw [size_put]; exact h.lt⟩

theorem BookAt.setOn {W : World} {p : Nat} {B : Md.Bk} {v : Value} (h : BookAt W p B v) {k : Nat} (hk : k < 8) (x : Int) : BookAt (W.setCell ⟨p, k, none⟩ (.int .i64 x)) p { B with onHand := Md.upd B.onHand k x } v := by
  refine h.put (k) _ (by rw [h.on k hk]; rfl) (fun i hi => by
    by_cases e : i = k
    · subst e; rw [if_pos rfl]; simp only [upd_same]
    · rw [if_neg (by omega)]; simp only [upd_other _ _ _ _ e]) (fun i hi => by rw [if_neg (by omega)]) (fun i hi => by rw [if_neg (by omega)]) (fun i hi => by rw [if_neg (by omega)]) (fun i hi => by rw [if_neg (by omega)]) (fun i hi => by rw [if_neg (by omega)]) (by rw [if_neg (by omega)]) (by rw [if_neg (by omega)]) (by rw [if_neg (by omega)])
theorem BookAt.setCo {W : World} {p : Nat} {B : Md.Bk} {v : Value} (h : BookAt W p B v) {k : Nat} (hk : k < 8) (x : Int) : BookAt (W.setCell ⟨p, 8 + k, none⟩ (.int .i64 x)) p { B with committed := Md.upd B.committed k x } v := by
  refine h.put (8 + k) _ (by rw [h.co k hk]; rfl) (fun i hi => by rw [if_neg (by omega)]) (fun i hi => by
    by_cases e : i = k
    · subst e; rw [if_pos rfl]; simp only [upd_same]
    · rw [if_neg (by omega)]; simp only [upd_other _ _ _ _ e]) (fun i hi => by rw [if_neg (by omega)]) (fun i hi => by rw [if_neg (by omega)]) (fun i hi => by rw [if_neg (by omega)]) (fun i hi => by rw [if_neg (by omega)]) (by rw [if_neg (by omega)]) (by rw [if_neg (by omega)]) (by rw [if_neg (by omega)])
theorem BookAt.setHc {W : World} {p : Nat} {B : Md.Bk} {v : Value} (h : BookAt W p B v) {k : Nat} (hk : k < 51) (x : Int) : BookAt (W.setCell ⟨p, 16 + k * 3, none⟩ (.int .i64 x)) p { B with hc := Md.upd B.hc k x } v := by
  refine h.put (16 + k * 3) _ (by rw [h.hc k hk]; rfl) (fun i hi => by rw [if_neg (by omega)]) (fun i hi => by rw [if_neg (by omega)]) (fun i hi => by
    by_cases e : i = k
    · subst e; rw [if_pos rfl]; simp only [upd_same]
    · rw [if_neg (by omega)]; simp only [upd_other _ _ _ _ e]) (fun i hi => by rw [if_neg (by omega)]) (fun i hi => by rw [if_neg (by omega)]) (fun i hi => by rw [if_neg (by omega)]) (by rw [if_neg (by omega)]) (by rw [if_neg (by omega)]) (by rw [if_neg (by omega)])
theorem BookAt.setHn {W : World} {p : Nat} {B : Md.Bk} {v : Value} (h : BookAt W p B v) {k : Nat} (hk : k < 51) (x : Int) : BookAt (W.setCell ⟨p, 16 + k * 3 + 1, none⟩ (.int .i64 x)) p { B with hn := Md.upd B.hn k x } v := by
  refine h.put (16 + k * 3 + 1) _ (by rw [h.hn k hk]; rfl) (fun i hi => by rw [if_neg (by omega)]) (fun i hi => by rw [if_neg (by omega)]) (fun i hi => by rw [if_neg (by omega)]) (fun i hi => by
    by_cases e : i = k
    · subst e; rw [if_pos rfl]; simp only [upd_same]
    · rw [if_neg (by omega)]; simp only [upd_other _ _ _ _ e]) (fun i hi => by rw [if_neg (by omega)]) (fun i hi => by rw [if_neg (by omega)]) (by rw [if_neg (by omega)]) (by rw [if_neg (by omega)]) (by rw [if_neg (by omega)])
theorem BookAt.setHt {W : World} {p : Nat} {B : Md.Bk} {v : Value} (h : BookAt W p B v) {k : Nat} (hk : k < 51) (x : Int) : BookAt (W.setCell ⟨p, 16 + k * 3 + 2, none⟩ (.int .i64 x)) p { B with ht := Md.upd B.ht k x } v := by
  refine h.put (16 + k * 3 + 2) _ (by rw [h.ht k hk]; rfl) (fun i hi => by rw [if_neg (by omega)]) (fun i hi => by rw [if_neg (by omega)]) (fun i hi => by rw [if_neg (by omega)]) (fun i hi => by rw [if_neg (by omega)]) (fun i hi => by
    by_cases e : i = k
    · subst e; rw [if_pos rfl]; simp only [upd_same]
    · rw [if_neg (by omega)]; simp only [upd_other _ _ _ _ e]) (fun i hi => by rw [if_neg (by omega)]) (by rw [if_neg (by omega)]) (by rw [if_neg (by omega)]) (by rw [if_neg (by omega)])
theorem BookAt.setLive {W : World} {p : Nat} {B : Md.Bk} {v : Value} (h : BookAt W p B v) {k : Nat} (hk : k < 51) (x : Bool) : BookAt (W.setCell ⟨p, 169 + k, none⟩ (.bool x)) p { B with live := Md.upd B.live k x } v := by
  refine h.put (169 + k) _ (by rw [h.li k hk]; rfl) (fun i hi => by rw [if_neg (by omega)]) (fun i hi => by rw [if_neg (by omega)]) (fun i hi => by rw [if_neg (by omega)]) (fun i hi => by rw [if_neg (by omega)]) (fun i hi => by rw [if_neg (by omega)]) (fun i hi => by
    by_cases e : i = k
    · subst e; rw [if_pos rfl]; simp only [upd_same]
    · rw [if_neg (by omega)]; simp only [upd_other _ _ _ _ e]) (by rw [if_neg (by omega)]) (by rw [if_neg (by omega)]) (by rw [if_neg (by omega)])
theorem BookAt.setClock {W : World} {p : Nat} {B : Md.Bk} {v : Value} (h : BookAt W p B v) (x : Int) : BookAt (W.setCell ⟨p, 220, none⟩ (.int .i64 x)) p { B with clock := x } v := by
  refine h.put (220) _ (by rw [h.cl]; rfl) (fun i hi => by rw [if_neg (by omega)]) (fun i hi => by rw [if_neg (by omega)]) (fun i hi => by rw [if_neg (by omega)]) (fun i hi => by rw [if_neg (by omega)]) (fun i hi => by rw [if_neg (by omega)]) (fun i hi => by rw [if_neg (by omega)]) (if_pos rfl) (by rw [if_neg (by omega)]) (by rw [if_neg (by omega)])
theorem BookAt.setCount {W : World} {p : Nat} {B : Md.Bk} {v : Value} (h : BookAt W p B v) (x : Int) : BookAt (W.setCell ⟨p, 221, none⟩ (.int .i64 x)) p { B with count := x } v := by
  refine h.put (221) _ (by rw [h.cn]; rfl) (fun i hi => by rw [if_neg (by omega)]) (fun i hi => by rw [if_neg (by omega)]) (fun i hi => by rw [if_neg (by omega)]) (fun i hi => by rw [if_neg (by omega)]) (fun i hi => by rw [if_neg (by omega)]) (fun i hi => by rw [if_neg (by omega)]) (by rw [if_neg (by omega)]) (if_pos rfl) (by rw [if_neg (by omega)])
theorem BookAt.setPast {W : World} {p : Nat} {B : Md.Bk} {v : Value} (h : BookAt W p B v) (x : Value) : BookAt (W.setCell ⟨p, 222, none⟩ (x)) p B x := by
  refine h.put (222) _ (by rw [h.pa]; rfl) (fun i hi => by rw [if_neg (by omega)]) (fun i hi => by rw [if_neg (by omega)]) (fun i hi => by rw [if_neg (by omega)]) (fun i hi => by rw [if_neg (by omega)]) (fun i hi => by rw [if_neg (by omega)]) (fun i hi => by rw [if_neg (by omega)]) (by rw [if_neg (by omega)]) (by rw [if_neg (by omega)]) (if_pos rfl)

theorem BookAt.drewN {W : World} {p : Nat} {B : Md.Bk} {v : Value} (h : BookAt W p B v) (n : Nat) : BookAt (W.drewN n) p B v := ⟨h.on, h.co, h.hc, h.hn, h.ht, h.li, h.cl, h.cn, h.pa, h.fz, h.lt⟩
theorem BookAt.drew {W : World} {p : Nat} {B : Md.Bk} {v : Value} (h : BookAt W p B v) : BookAt W.drew p B v := ⟨h.on, h.co, h.hc, h.hn, h.ht, h.li, h.cl, h.cn, h.pa, h.fz, h.lt⟩

end Go.Proofs.Ytidacihlalbohaa

/- What the document's own change does to the book, and what it returns. -/
namespace Go.Proofs.Ytidacihlalbohaa
open Go.RowKit

/-- Of what lay in w only block p has changed. -/
theorem grown_refl (w : World) (r : Option Nat) : w.grownBy w r := ⟨rfl, rfl, rfl, Nat.le_refl _, fun _ _ _ => rfl⟩
theorem grown_trans {a b c : World} {r : Option Nat} (h : a.grownBy b r) (k : b.grownBy c r) : a.grownBy c r :=
  ⟨k.os.trans h.os, k.tape.trans h.tape, k.output.trans h.output, Nat.le_trans h.size k.size, fun i hi hr => (k.block i (Nat.lt_of_lt_of_le hi h.size) hr).trans (h.block i hi hr)⟩
theorem grown_below {a b : World} {r : Option Nat} (h : Below a.heap.size a b) : a.grownBy b r := ⟨h.os, h.tape, h.output, h.size, fun k hk _ => h.block k hk⟩
theorem grown_put (w : World) (p o : Nat) (v : Value) : w.grownBy (w.setCell ⟨p, o, none⟩ v) (some p) :=
  ⟨rfl, rfl, rfl, by rw [size_put]; exact Nat.le_refl _, fun k _ hr => Below.heap_setCell w ⟨p, o, none⟩ v k (fun e => hr (by rw [e]))⟩
theorem grown_drewN {a b : World} {r : Option Nat} (h : a.grownBy b r) (n : Nat) : a.grownBy (b.drewN n) r := ⟨h.os, h.tape, h.output, h.size, h.block⟩
theorem grown_drew {a b : World} {r : Option Nat} (h : a.grownBy b r) : a.grownBy b.drew r := ⟨h.os, h.tape, h.output, h.size, h.block⟩

set_option maxRecDepth 100000 in
set_option maxHeartbeats 2000000 in
theorem change_receive (p : Nat) (B : Md.Bk) (v : Value) (id count : Int) (c : Nat) (w : World) (hc : c < 8) (hn : 1 ≤ count ∧ count ≤ 1000000) (hb : BookAt w p B v) (hs : Md.Small B) (hs' : Md.Small (Md.receive B c count)) :
    Calls Try.prog 97 #[.pointer (some ⟨p, 0, none⟩), .agg #[.int .i64 id, .int .i64 0, .int .i64 c, .int .i64 0, .int .i64 count, .int .i64 0]] w fun e w' => e = .returned (.int .i64 (Md.free (Md.receive B c count) c)) ∧ BookAt w' p (Md.receive B c count) v ∧ w.grownBy w' (some p) := by
  obtain ⟨n1, n2⟩ := hn
  have o1 := hb.on c hc
  have hf := hb.fz c
  have hlt := hb.lt
  obtain ⟨m1, m2⟩ := hs.on c hc
  have hc' : (c : Int) < 8 := by omega
  have Hb := hide hb
  have Hs := hide hs'
  clear hb hs hs'
  go_enter Try.func97, Try.ntmps97
  go_wp2_with fail
  go_region
  have hb1 : BookAt ((w.setCell ⟨p, c, none⟩ (.int .i64 (B.onHand c + count))).alloc (.cells #[.int .i64 id, .int .i64 0, .int .i64 c, .int .i64 0, .int .i64 count, .int .i64 0] 75)).drew p (Md.receive B c count) v :=
    ((Hb.out.setOn hc _).below ((Below.refl _ _).alloc (Nat.le_refl _) _)).drew
  have hg1 : w.grownBy ((w.setCell ⟨p, c, none⟩ (.int .i64 (B.onHand c + count))).alloc (.cells #[.int .i64 id, .int .i64 0, .int .i64 c, .int .i64 0, .int .i64 count, .int .i64 0] 75)).drew (some p) :=
    grown_drew (grown_trans (grown_put w p c _) (grown_below ((Below.refl _ _).alloc (Nat.le_refl _) _)))
  have Hb1 := hide hb1
  have Hg1 := hide hg1
  clear hb1 hg1
  go_wp2_with fail
  refine (bookCell_any p _ v _ c _ rfl hc Hb1.out Hs.out).mono ?_
  rintro e w2 ⟨rfl, hb2⟩
  unfold cellA
  go_wp2
  go_ret
  exact ⟨rfl, (Hb1.out.below hb2).below ((Below.refl _ _).alloc (Nat.le_refl _) _), grown_trans Hg1.out (grown_trans (grown_below hb2) (grown_below ((Below.refl _ _).alloc (Nat.le_refl _) _)))⟩

set_option maxRecDepth 100000 in
set_option maxHeartbeats 2000000 in
theorem change_reserve (p : Nat) (B : Md.Bk) (v : Value) (id count time : Int) (c h : Nat) (w : World) (hc : c < 8) (hh : h < 51) (hb : BookAt w p B v) (hs' : Md.Small (Md.reserve B c h count time)) :
    Calls Try.prog 97 #[.pointer (some ⟨p, 0, none⟩), .agg #[.int .i64 id, .int .i64 1, .int .i64 c, .int .i64 h, .int .i64 count, .int .i64 time]] w fun e w' => e = .returned (.int .i64 (Md.free (Md.reserve B c h count time) c)) ∧ BookAt w' p (Md.reserve B c h count time) v ∧ w.grownBy w' (some p) := by
  have l1 := hb.li h hh
  have a1 := hb.hc h hh
  have a2 := hb.hn h hh
  have a3 := hb.ht h hh
  have f0 := hb.fz (169 + h)
  have f1 := hb.fz (16 + h * 3)
  have f2 := hb.fz (16 + h * 3 + 1)
  have f3 := hb.fz (16 + h * 3 + 2)
  have hlt := hb.lt
  have hh' : (h : Int) < 51 := by omega
  have Hb := hide hb
  have Hs := hide hs'
  clear hb hs'
  go_enter Try.func97, Try.ntmps97
  go_wp2_with fail
  go_region
  go_wp2_with fail
  go_region
  have hb1 : BookAt (((((w.setCell ⟨p, 169 + h, none⟩ (.bool true)).setCell ⟨p, 16 + h * 3, none⟩ (.int .i64 c)).setCell ⟨p, 16 + h * 3 + 1, none⟩ (.int .i64 count)).setCell ⟨p, 16 + h * 3 + 2, none⟩ (.int .i64 time)).alloc (.cells #[.int .i64 id, .int .i64 1, .int .i64 c, .int .i64 h, .int .i64 count, .int .i64 time] 75)).drew.drew p (Md.reserve B c h count time) v :=
    (((((Hb.out.setLive hh true).setHc hh c).setHn hh count).setHt hh time).below ((Below.refl _ _).alloc (Nat.le_refl _) _)).drew.drew
  have hg1 : w.grownBy (((((w.setCell ⟨p, 169 + h, none⟩ (.bool true)).setCell ⟨p, 16 + h * 3, none⟩ (.int .i64 c)).setCell ⟨p, 16 + h * 3 + 1, none⟩ (.int .i64 count)).setCell ⟨p, 16 + h * 3 + 2, none⟩ (.int .i64 time)).alloc (.cells #[.int .i64 id, .int .i64 1, .int .i64 c, .int .i64 h, .int .i64 count, .int .i64 time] 75)).drew.drew (some p) :=
    grown_drew (grown_drew (grown_trans (grown_trans (grown_trans (grown_trans (grown_put w p _ _) (grown_put _ p _ _)) (grown_put _ p _ _)) (grown_put _ p _ _)) (grown_below ((Below.refl _ _).alloc (Nat.le_refl _) _))))
  have Hb1 := hide hb1
  have Hg1 := hide hg1
  clear hb1 hg1
  go_wp2_with fail
  refine (bookCell_any p _ v _ c _ rfl hc Hb1.out Hs.out).mono ?_
  rintro e w2 ⟨rfl, hb2⟩
  unfold cellA
  go_wp2
  go_ret
  exact ⟨rfl, (Hb1.out.below hb2).below ((Below.refl _ _).alloc (Nat.le_refl _) _), grown_trans Hg1.out (grown_trans (grown_below hb2) (grown_below ((Below.refl _ _).alloc (Nat.le_refl _) _)))⟩

set_option maxRecDepth 100000 in
set_option maxHeartbeats 2000000 in
theorem change_release (p : Nat) (B : Md.Bk) (v : Value) (id : Int) (h : Nat) (w : World) (hh : h < 51) (hb : BookAt w p B v) :
    Calls Try.prog 97 #[.pointer (some ⟨p, 0, none⟩), .agg #[.int .i64 id, .int .i64 3, .int .i64 0, .int .i64 h, .int .i64 0, .int .i64 0]] w fun e w' => e = .returned (.int .i64 (B.hn h)) ∧ BookAt w' p (Md.release B h) v ∧ w.grownBy w' (some p) := by
  have l1 := hb.li h hh
  have a1 := hb.hc h hh
  have a2 := hb.hn h hh
  have a3 := hb.ht h hh
  have f0 := hb.fz (169 + h)
  have hlt := hb.lt
  have hh' : (h : Int) < 51 := by omega
  have Hb := hide hb
  clear hb
  go_enter Try.func97, Try.ntmps97
  go_wp2_with fail
  go_region
  go_wp2_with fail
  go_region
  go_wp2
  go_ret
  refine ⟨rfl, ?_, ?_⟩
  · exact (((Hb.out.setLive hh false).below ((Below.refl _ _).alloc (Nat.le_refl _) _)).below ((Below.refl _ _).alloc (Nat.le_refl _) _)).drew.drew
  · exact grown_drew (grown_drew (grown_trans (grown_trans (grown_put w p _ _) (grown_below ((Below.refl _ _).alloc (Nat.le_refl _) _))) (grown_below ((Below.refl _ _).alloc (Nat.le_refl _) _))))

set_option maxRecDepth 100000 in
set_option maxHeartbeats 2000000 in
theorem change_commit (p : Nat) (B : Md.Bk) (v : Value) (id : Int) (h c : Nat) (w : World) (hh : h < 51) (hc : c < 8) (hcc : B.hc h = c) (hb : BookAt w p B v) (hs : Md.Small B) :
    Calls Try.prog 97 #[.pointer (some ⟨p, 0, none⟩), .agg #[.int .i64 id, .int .i64 2, .int .i64 0, .int .i64 h, .int .i64 0, .int .i64 0]] w fun e w' => e = .returned (.int .i64 (B.hn h)) ∧ BookAt w' p (Md.commit B h) v ∧ w.grownBy w' (some p) := by
  have l1 := hb.li h hh
  have a1 := hb.hc h hh
  rw [hcc] at a1
  have a2 := hb.hn h hh
  have a3 := hb.ht h hh
  have c1 := hb.co c hc
  have f0 := hb.fz (169 + h)
  have f1 := hb.fz (8 + c)
  have hlt := hb.lt
  obtain ⟨m1, m2⟩ := hs.hn h hh
  obtain ⟨m3, m4⟩ := hs.co c hc
  have hh' : (h : Int) < 51 := by omega
  have hc' : (c : Int) < 8 := by omega
  have Hb := hide hb
  have Hcc := hide hcc
  clear hb hcc hs
  go_enter Try.func97, Try.ntmps97
  go_wp2_with fail
  go_region
  go_wp2_with fail
  go_region
  go_wp2_with fail
  go_region
  go_wp2
  go_ret
  have e : Md.commit B h = { B with live := Md.upd B.live h false, committed := Md.upd B.committed c (B.committed c + B.hn h) } := by
    unfold Md.commit; rw [Hcc.out, Int.toNat_natCast]
  refine ⟨rfl, ?_, ?_⟩
  · rw [e]
    exact ((((Hb.out.setLive hh false).setCo hc (B.committed c + B.hn h)).below ((Below.refl _ _).alloc (Nat.le_refl _) _)).below ((Below.refl _ _).alloc (Nat.le_refl _) _)).drew.drew.drew
  · exact grown_drew (grown_drew (grown_drew (grown_trans (grown_trans (grown_trans (grown_put w p _ _) (grown_put _ p _ _)) (grown_below ((Below.refl _ _).alloc (Nat.le_refl _) _))) (grown_below ((Below.refl _ _).alloc (Nat.le_refl _) _)))))

end Go.Proofs.Ytidacihlalbohaa
