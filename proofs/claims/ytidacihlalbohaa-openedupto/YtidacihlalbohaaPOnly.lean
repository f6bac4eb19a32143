/- frames.Only: the payload of a text that is one frame. -/
import Derived.Test.YtidacihlalbohaaFirst
import Derived.Test.YtidacihlalbohaaRefFiles
import Derived.Deep.RegionWith
import Derived.WalkMore
namespace Go.Proofs.Ytidacihlalbohaa
open Go.RowKit

/-- The payload, if the text is one frame. -/
def Fr.only (l : List UInt8) : Option (List UInt8) := match Fr.firstL l with | some p => if l.length = 4 + p.length then some p else none | none => none
theorem Fr.only_all (l : List UInt8) : (match Fr.all l with | [x] => if x.2 = l.length then some x.1.1 else none | _ => none) = Fr.only l := by
  unfold Fr.only
  cases hf : Fr.firstL l with
  | none =>
    have : Fr.all l = [] := Fr.items_none (by simpa using hf)
    rw [this]
  | some p =>
    obtain ⟨hp1, hp2⟩ := Fr.firstL_len hf
    obtain ⟨g, hg, hgf, hga, hit⟩ := Fr.items_some (f := l.length) (l := l) (p := p) (a := 0) (by omega) (by simpa using hf)
    have hall : Fr.all l = (Fr.clip p, 0 + (4 + p.length)) :: Fr.items g l (0 + (4 + p.length)) := hit
    rw [hall]
    by_cases he : l.length = 4 + p.length
    · have hnil : Fr.items g l (0 + (4 + p.length)) = [] := by
        apply Fr.items_none
        rw [List.drop_of_length_le (by omega)]
        rfl
      rw [hnil]
      dsimp only
      rw [if_pos (by omega), if_pos he, Fr.clip_val hp1]
    · dsimp only
      rw [if_neg he]
      cases hc : Fr.items g l (0 + (4 + p.length)) with
      | nil => dsimp only; rw [if_neg (by omega)]
      | cons y ys => rfl

def onlyV : Option (List UInt8) → Value
  | some p => .tuple #[.string ⟨p.toArray⟩, .bool true]
  | none => .tuple #[.string ⟨#[]⟩, .bool false]

set_option maxRecDepth 100000 in
set_option maxHeartbeats 1000000 in
theorem only_any (t : ByteArray) (w : World) (hm : t.size ≤ 1099511627776) :
    Calls Try.prog 56 #[.string t] w fun e w' => e = .returned (onlyV (Fr.only t.data.toList)) ∧ Below w.heap.size w w' := by
  have hfst := first_any t w (by unfold maxLen; omega)
  obtain ⟨OO, hOO⟩ : ∃ OO, Fr.only t.data.toList = OO := ⟨_, rfl⟩
  rw [hOO]
  have HO := hide hOO
  clear hOO
  cases hfl : Fr.firstL t.data.toList with
  | none =>
    rw [hfl] at hfst
    have ho : OO = none := by rw [← HO.out]; unfold Fr.only; rw [hfl]
    have Ho := hide ho
    clear ho hfl
    go_enter Try.func56, Try.ntmps56
    go_wp2_with fail
    refine hfst.mono ?_
    rintro e w1 ⟨rfl, k, rfl⟩
    unfold firstV
    go_wp2
    go_ret2
    exact ⟨by rw [Ho.out]; rfl, below_drewN' (Below.refl _ _) _⟩
  | some p =>
    rw [hfl] at hfst
    obtain ⟨hp1, hp2⟩ := Fr.firstL_len hfl
    rw [Fr.size_list] at hp2
    by_cases he : t.size = 4 + p.length
    · have ho : OO = some p := by rw [← HO.out]; unfold Fr.only; rw [hfl]; dsimp only; rw [Fr.size_list, if_pos he]
      have Ho := hide ho
      have he' : (t.size : Int) = 4 + (p.length : Int) := by omega
      clear ho hfl he
      go_enter Try.func56, Try.ntmps56
      go_wp2_with fail
      refine hfst.mono ?_
      rintro e w1 ⟨rfl, k, rfl⟩
      unfold firstV
      go_wp2
      go_ret2
      exact ⟨by rw [Ho.out]; rfl, below_drewN' (Below.refl _ _) _⟩
    · have ho : OO = none := by rw [← HO.out]; unfold Fr.only; rw [hfl]; dsimp only; rw [Fr.size_list, if_neg he]
      have Ho := hide ho
      have he' : ¬ (t.size : Int) = 4 + (p.length : Int) := by omega
      clear ho hfl he
      go_enter Try.func56, Try.ntmps56
      go_wp2_with fail
      refine hfst.mono ?_
      rintro e w1 ⟨rfl, k, rfl⟩
      unfold firstV
      go_wp2
      go_ret2
      exact ⟨by rw [Ho.out]; rfl, below_drewN' (Below.refl _ _) _⟩
end Go.Proofs.Ytidacihlalbohaa

/- The program's dataOf and areFiles. -/
namespace Go.Proofs.Ytidacihlalbohaa
open Go.RowKit

set_option maxRecDepth 100000 in
set_option maxHeartbeats 1000000 in
theorem dataOf1_any (b : Nat) (nm dt n : ByteArray) (w : World) (hc : w.cell? ⟨b, 0, none⟩ = some (.string n)) :
    Calls Try.prog 60 #[.agg #[.string nm, .string dt], .pointer (some ⟨b, 0, none⟩)] w fun e w' => e = .returned (.bool (decide (nm = n))) ∧ Below w.heap.size w w' := by
  have hbl : b < w.heap.size := World.block_lt_of_cell? w ⟨b, 0, none⟩ hc
  have hq := same_list (a := nm) (b := n)
  generalize decide (nm = n) = G at hq ⊢
  have hB := (Below.refl w.heap.size w).alloc (Nat.le_refl _) (.cells #[.string nm, .string dt] 55)
  have c1 := (hB.cell (p := ⟨b, 0, none⟩) hbl).trans hc
  have c2 : (w.alloc (.cells #[.string nm, .string dt] 55)).cell? ⟨w.heap.size, 0, none⟩ = some (.string nm) := by simp [go_sem]
  have hl : w.heap.size < (w.alloc (.cells #[.string nm, .string dt] 55)).heap.size := by simp
  go_enter Try.func60, Try.ntmps60
  go_wp2_with fail
  generalize w.alloc (.cells #[.string nm, .string dt] 55) = V at hB c1 c2 hl ⊢
  go_wp2
  go_ret
  exact ⟨by rw [← hq]; rfl, hB⟩

def IndexPost (l : List Md.Fl) (n : ByteArray) (e : Ending) : Prop :=
  (∃ k x, l[k]? = some x ∧ Md.unnamed (l.take k) n ∧ x.name = n ∧ e = .returned (.int .i64 (k : Nat))) ∨ (Md.unnamed l n ∧ e = .returned (.int .i64 (-1)))

set_option maxRecDepth 100000 in
set_option maxHeartbeats 1000000 in
theorem index_any (b : Nat) (v : Value) (l : List Md.Fl) (n : ByteArray) (w : World) (hf : FilesAt w v l) (hc : w.cell? ⟨b, 0, none⟩ = some (.string n)) :
    Calls Try.prog 59 #[v, .func (.func 60) #[] #[.pointer (some ⟨b, 0, none⟩)]] w fun e w' => IndexPost l n e ∧ Below w.heap.size w w' := by
  have hbl : b < w.heap.size := World.block_lt_of_cell? w ⟨b, 0, none⟩ hc
  obtain ⟨a, cap, rfl, hm, hcl⟩ := hf
  obtain ⟨len, hL⟩ : ∃ len, l.length = len := ⟨_, rfl⟩
  have Hc := hide hcl
  have HL := hide hL
  rw [hL] at hm ⊢
  have hm' : len ≤ 9223372036854775807 := by unfold maxLen at hm; omega
  clear hcl hL
  go_enter Try.func59, Try.ntmps59
  go_wp2
  go_loopw [8] (fun i wr => ∃ k : Nat, k ≤ len ∧ i = .int .i64 k ∧ Hid (Md.unnamed (l.take k) n) ∧ Below w.heap.size w wr) (fun i _ => len - (intOf i).toNat)
  case atStart => exact ⟨0, Nat.zero_le _, rfl, hide (fun x hx => by simp at hx), Below.refl _ _⟩
  case round =>
    obtain ⟨k, hk, rfl, hun, hB⟩ := hrel
    by_cases hkl : k < len
    · have hkb : k < l.length := by rw [HL.out]; exact hkl
      have hkl' : (k : Int) < (len : Int) := by omega
      obtain ⟨g, o, rfl, hcell⟩ := Hc.out (by omega)
      have hxx : l[k]? = some l[k] := List.getElem?_eq_getElem hkb
      have hts : l.take (k + 1) = l.take k ++ [l[k]] := (List.take_append_getElem hkb).symm
      generalize l[k] = x at hxx hts
      obtain ⟨c1, c2⟩ := hcell k x hxx
      have hgl : g < w.heap.size := World.block_lt_of_cell? w ⟨g, o + k * 2, none⟩ c1
      replace c1 := (hB.cell (p := ⟨g, o + k * 2, none⟩) hgl).trans c1
      replace c2 := (hB.cell (p := ⟨g, o + k * 2 + 1, none⟩) hgl).trans c2
      have hd := dataOf1_any b x.name x.data n wr ((hB.cell (p := ⟨b, 0, none⟩) hbl).trans hc)
      have Hxx := hide hxx
      have Hts := hide hts
      clear hxx hcell hts
      go_wp2_with fail
      refine hd.mono ?_
      rintro e W ⟨rfl, hb1⟩
      have hB1 : Below w.heap.size w W := hB.trans (hb1.mono hB.size)
      clear hd hb1 hB
      by_cases he : x.name = n
      · rw [decide_eq_true he]
        go_wp2
        go_ret
        exact ⟨.inl ⟨k, x, Hxx.out, hun.out, he, rfl⟩, hB1⟩
      · rw [decide_eq_false he]
        go_wp2
        go_roundw
        case rel => exact ⟨k + 1, by omega, by go_num, hide (by rw [Hts.out]; intro y hy; rw [List.mem_append] at hy; rcases hy with h | h; exact hun.out y h; simp at h; rw [h]; exact he), hB1⟩
        case measure => simp [intOf]; omega
    · obtain rfl : k = len := by omega
      go_wp2
      go_ret
      exact ⟨.inr ⟨by have := hun.out; rwa [List.take_of_length_le (by rw [HL.out]; exact Nat.le_refl _)] at this, rfl⟩, hB⟩

set_option maxRecDepth 100000 in
set_option maxHeartbeats 1000000 in
theorem pData_any (v : Value) (l : List Md.Fl) (n : ByteArray) (w : World) (hf : FilesAt w v l) :
    Calls Try.prog 33 #[v, .string n] w fun e w' => e = .returned (dataV (Md.dataOf l n)) ∧ Below w.heap.size w w' := by
  have hB := (Below.refl w.heap.size w).alloc (Nat.le_refl _) (.cells #[.string n] 9)
  have hf1 : FilesAt (w.alloc (.cells #[.string n] 9)) v l := by
    obtain ⟨a, cap, h1, h2, h3⟩ := hf
    refine ⟨a, cap, h1, h2, fun hl => ?_⟩
    obtain ⟨g, o, ha, hc⟩ := h3 hl
    refine ⟨g, o, ha, fun k x hx => ?_⟩
    obtain ⟨c1, c2⟩ := hc k x hx
    have hlt : g < w.heap.size := World.block_lt_of_cell? w ⟨g, o + k * 2, none⟩ c1
    exact ⟨(hB.cell (p := ⟨g, o + k * 2, none⟩) hlt).trans c1, (hB.cell (p := ⟨g, o + k * 2 + 1, none⟩) hlt).trans c2⟩
  have hc : (w.alloc (.cells #[.string n] 9)).cell? ⟨w.heap.size, 0, none⟩ = some (.string n) := by simp [go_sem]
  have hix := index_any w.heap.size v l n _ hf1 hc
  obtain ⟨DD, hDD⟩ : ∃ DD, Md.dataOf l n = DD := ⟨_, rfl⟩
  rw [hDD]
  have HD := hide hDD
  clear hDD
  obtain ⟨a, cap, rfl, hm, hcl⟩ := hf1
  obtain ⟨len, hL⟩ : ∃ len, l.length = len := ⟨_, rfl⟩
  have Hc := hide hcl
  have HL := hide hL
  rw [hL] at hix ⊢
  clear hcl hL hf
  go_enter Try.func33, Try.ntmps33
  go_wp2_with fail
  generalize w.alloc (.cells #[.string n] 9) = V at hB Hc hc hix ⊢
  refine hix.mono ?_
  rintro e W ⟨hp, hb1⟩
  have hBW : Below w.heap.size w W := hB.trans (hb1.mono hB.size)
  clear hix
  rcases hp with ⟨k, x, hxx, hun, he, rfl⟩ | ⟨hun, rfl⟩
  · have hd := Md.dataOf_at k x hxx hun he
    rw [HD.out] at hd
    have Hd := hide hd
    have hkb : k < l.length := (List.getElem?_eq_some_iff.1 hxx).1
    rw [HL.out] at hkb
    obtain ⟨g, o, rfl, hcell⟩ := Hc.out (by rw [HL.out]; omega)
    obtain ⟨c1, c2⟩ := hcell k x hxx
    have hgl : g < V.heap.size := World.block_lt_of_cell? V ⟨g, o + k * 2, none⟩ c1
    replace c2 := (hb1.cell (p := ⟨g, o + k * 2 + 1, none⟩) hgl).trans c2
    have hkl' : (k : Int) < (len : Int) := by omega
    have hk0 : ¬ (k : Int) < 0 := by omega
    clear hd hxx hcell c1 he
    go_wp2
    go_ret2
    exact ⟨by rw [Hd.out]; rfl, hBW⟩
  · have hd := Md.dataOf_none hun
    rw [HD.out] at hd
    have Hd := hide hd
    clear hd
    go_wp2
    go_ret2
    exact ⟨by rw [Hd.out]; rfl, hBW⟩

theorem FilesAt.kept {w W : World} {v : Value} {l : List Md.Fl} (h : FilesAt w v l) (hb : Below w.heap.size w W) : FilesAt W v l := by
  obtain ⟨a, cap, h1, h2, h3⟩ := h
  refine ⟨a, cap, h1, h2, fun hl => ?_⟩
  obtain ⟨g, o, ha, hc⟩ := h3 hl
  refine ⟨g, o, ha, fun k x hx => ?_⟩
  obtain ⟨c1, c2⟩ := hc k x hx
  have hlt : g < w.heap.size := World.block_lt_of_cell? w ⟨g, o + k * 2, none⟩ c1
  exact ⟨(hb.cell (p := ⟨g, o + k * 2, none⟩) hlt).trans c1, (hb.cell (p := ⟨g, o + k * 2 + 1, none⟩) hlt).trans c2⟩
theorem FilesAt.less {W : World} {a : Option Addr} {l : List Md.Fl} {cap : Nat} (h : FilesAt W (.slice a l.length cap) l) {k : Nat} (hk : k ≤ l.length) : FilesAt W (.slice a k cap) (l.take k) := by
  obtain ⟨a', cap', h1, h2, h3⟩ := h
  cases h1
  have hl : (l.take k).length = k := by rw [List.length_take]; omega
  refine ⟨a, cap, by rw [hl], by omega, fun h0 => ?_⟩
  rw [hl] at h0
  obtain ⟨g, o, ha, hc⟩ := h3 (by omega)
  refine ⟨g, o, ha, fun j x hx => hc j x ?_⟩
  rw [List.getElem?_take] at hx
  split at hx
  · exact hx
  · cases hx
theorem dataV_two (o : Option ByteArray) : ∃ d : ByteArray, dataV o = .tuple #[.string d, .bool o.isSome] := by
  cases o with
  | none => exact ⟨_, rfl⟩
  | some d => exact ⟨d, rfl⟩
theorem newName_data (l : List Md.Fl) (n : ByteArray) : Md.newName l n = !(Md.dataOf l n).isSome := by
  induction l with
  | nil => rfl
  | cons x l ih =>
    unfold Md.newName at ih ⊢
    rw [List.all_cons, ih, Md.dataOf]
    by_cases h : x.name = n
    · rw [if_pos h, decide_eq_true h]; rfl
    · rw [if_neg h, decide_eq_false h]; rfl

set_option maxRecDepth 100000 in
set_option maxHeartbeats 2000000 in
theorem areFiles_any (a : Option Addr) (cap : Nat) (l : List Md.Fl) (w : World) (hf : FilesAt w (.slice a l.length cap) l) (hcap : l.length ≤ cap) :
    Calls Try.prog 30 #[.slice a l.length cap] w fun e w' => e = .returned (.bool (Md.named l)) ∧ Below w.heap.size w w' := by
  have Hf := hide hf
  obtain ⟨a', cap', ha', hm, hc⟩ := hf
  cases ha'
  obtain ⟨len, hL⟩ : ∃ len, l.length = len := ⟨_, rfl⟩
  have Hc := hide hc
  have HL := hide hL
  rw [hL] at hm hcap ⊢
  have hm' : len ≤ 9223372036854775807 := by unfold maxLen at hm; omega
  clear hc hL
  go_enter Try.func30, Try.ntmps30
  go_wp2
  refine wp_scope_straight ?_
  go_wp2
  refine wp_label ?_
  go_wp2
  go_loopw [3, 10] (fun gd i wr => ∃ k : Nat, k ≤ len ∧ i = .int .i64 k ∧ gd = .bool true ∧ Hid (Md.namedTo l k = true) ∧ Below w.heap.size w wr) (fun _ i _ => len - (intOf i).toNat)
  case atStart => exact ⟨0, Nat.zero_le _, rfl, rfl, hide rfl, Below.refl _ _⟩
  case round =>
    obtain ⟨k, hk, rfl, rfl, hnm, hB⟩ := hrel
    by_cases hkl : k < len
    · have hkb : k < l.length := by rw [HL.out]; exact hkl
      have hkl' : (k : Int) < (len : Int) := by omega
      obtain ⟨g, o, rfl, hcell⟩ := Hc.out (by omega)
      have hxx : l[k]? = some l[k] := List.getElem?_eq_getElem hkb
      generalize l[k] = x at hxx
      obtain ⟨c1, c2⟩ := hcell k x hxx
      have hg : g < w.heap.size := World.block_lt_of_cell? w ⟨g, o + k * 2, none⟩ c1
      replace c1 := (hB.cell (p := ⟨g, o + k * 2, none⟩) hg).trans c1
      replace c2 := (hB.cell (p := ⟨g, o + k * 2 + 1, none⟩) hg).trans c2
      have hn1 : Md.namedTo l (k + 1) = Md.nameOk (l.take k) x := by rw [Md.namedTo, hnm.out, hxx]; rfl
      have Hn1 := hide hn1
      clear hn1 hxx hcell
      obtain ⟨d, hd⟩ := dataV_two (Md.dataOf (l.take k) x.name)
      have hnn := newName_data (l.take k) x.name
      have hdat : ∀ W, Below w.heap.size w W → Calls Try.prog 33 #[.slice (some ⟨g, o, none⟩) k cap, .string x.name] W fun e w' => e = .returned (.tuple #[.string d, .bool (Md.dataOf (l.take k) x.name).isSome]) ∧ Below W.heap.size W w' := fun W hW => by
        rw [← hd]
        exact pData_any _ _ _ _ ((Hf.out.kept hW).less (by omega))
      generalize (Md.dataOf (l.take k) x.name).isSome = tw at hdat hnn
      have Hdat := hide hdat
      have Hnn := hide hnn
      have kc1 : (k : Int) ≤ (cap : Int) := by omega
      have kc0 : (0 : Int) ≤ (k : Int) := by omega
      clear hdat hd hnn
      have q1 := sameLog x.name
      have q2 := sameSnap x.name
      have q3 := sameTmp x.name
      have hvB := hB.alloc hB.size (.cells #[.string x.name, .string x.data] 55)
      have v0 : (wr.alloc (.cells #[.string x.name, .string x.data] 55)).cell? ⟨wr.heap.size, 0, none⟩ = some (.string x.name) := by simp [go_sem]
      have vl : wr.heap.size < (wr.alloc (.cells #[.string x.name, .string x.data] 55)).heap.size := by simp
      have hor : (Md.nameOk (l.take k) x = Md.newName (l.take k) x.name ∧ (x.name = Md.sLog ∨ x.name = Md.sSnap ∨ x.name = Md.sTmp)) ∨ (Md.nameOk (l.take k) x = false ∧ ¬ x.name = Md.sLog ∧ ¬ x.name = Md.sSnap ∧ ¬ x.name = Md.sTmp) := by
        unfold Md.nameOk
        by_cases h1 : x.name = Md.sLog
        · exact .inl ⟨by rw [decide_eq_true h1]; rfl, .inl h1⟩
        · by_cases h2 : x.name = Md.sSnap
          · exact .inl ⟨by rw [decide_eq_true h2]; simp, .inr (.inl h2)⟩
          · by_cases h3 : x.name = Md.sTmp
            · exact .inl ⟨by rw [decide_eq_true h3]; simp, .inr (.inr h3)⟩
            · exact .inr ⟨by rw [decide_eq_false h1, decide_eq_false h2, decide_eq_false h3]; rfl, h1, h2, h3⟩
      rcases hor with ⟨hok, hnm3⟩ | ⟨hok, h1, h2, h3⟩
      · have Hok := hide hok
        clear hok
        have e1 : (if decide (x.name = Md.sLog) then true else if decide (x.name = Md.sSnap) then true else decide (x.name = Md.sTmp)) = true := by
          rcases hnm3 with h | h | h <;> simp [h]
        cases b1 : decide (x.name = Md.sLog) <;> cases b2 : decide (x.name = Md.sSnap) <;> cases b3 : decide (x.name = Md.sTmp) <;> rw [b1, b2, b3] at e1 <;> simp at e1
        all_goals
          rw [b1] at q1
          rw [b2] at q2
          rw [b3] at q3
          clear b1 b2 b3 hnm3
          go_wp2_with fail
          generalize wr.alloc (.cells #[.string x.name, .string x.data] 55) = V at hvB v0 vl ⊢
          have hvd : Below w.heap.size w V.drew := hvB.drew
          go_region_with (go_at_call 33; refine (Hdat.out _ hvd).mono ?_; rintro e W ⟨rfl, hb1⟩)
          all_goals
            have hBW : Below w.heap.size w W := hvd.trans (hb1.mono hvd.size)
            cases tw with
            | false =>
              have Hnx : Hid (Md.namedTo l (k + 1) = true) := hide (by rw [Hn1.out, Hok.out, Hnn.out]; rfl)
              go_wp2
              go_roundw
              case rel => exact ⟨k + 1, by omega, by go_num, rfl, Hnx, hBW⟩
              case measure => simp [intOf]; omega
            | true =>
              have Hno : Hid (Md.named l = false) := hide (by rw [Md.named, HL.out, Md.namedTo_less (k := k + 1) (n := len) (by omega) (by rw [Hn1.out, Hok.out, Hnn.out]; rfl)])
              go_wp2
              rw [Exit.noGoto_ret]
              go_ret
              exact ⟨by rw [Hno.out]; rfl, hBW⟩
      · rw [decide_eq_false h1] at q1
        rw [decide_eq_false h2] at q2
        rw [decide_eq_false h3] at q3
        have Hno : Hid (Md.named l = false) := hide (by rw [Md.named, HL.out, Md.namedTo_less (k := k + 1) (n := len) (by omega) (by rw [Hn1.out, hok])])
        clear hok h1 h2 h3
        go_wp2
        rw [Exit.noGoto_ret]
        go_ret
        exact ⟨by rw [Hno.out]; rfl, hvB⟩
    · obtain rfl : k = len := by omega
      have Hy : Hid (Md.named l = true) := hide (by rw [Md.named, HL.out]; exact hnm.out)
      go_wp2
      rw [Exit.noGoto_ret]
      go_ret
      exact ⟨by rw [Hy.out]; rfl, hB⟩
end Go.Proofs.Ytidacihlalbohaa
