/- Small facts that our walks share. -/
import Derived.Test.YtidacihlalbohaaRows
import Derived.Test.YtidacihlalbohaaMath
import Derived.WalkKit
import Derived.WalkSpells
import Derived.WalkLawsBesides
import Derived.Deep.QuietTactic
import Derived.BigQuiet
namespace Go.Proofs.Ytidacihlalbohaa
open Go.RowKit

theorem hide {p : Prop} (h : p) : Hid p := h

theorem info9 : (Try.prog.info? 9).map (fun i => (i.zero, i.size, i.bytes)) = some (some (.string ⟨#[]⟩), 1, 16) := by kernel_rfl

def pv (x : Fr.Pay × Nat) : Value := .string ⟨x.1.1.toArray⟩

theorem grown_of_below {W w1 : World} (hb : Below W.heap.size W w1) : W.grownBy w1 none := ⟨hb.os, hb.tape, hb.output, hb.size, fun k hk _ => hb.block k hk⟩

theorem row_le {W : World} {base base' : Nat} {e : TypeId} {size : Nat} {v : Value} {k : Nat} {xs : List Value} (h : W.ownsRow base e size v k xs) (hb : base' ≤ base) : W.ownsRow base' e size v k xs := by
  refine ⟨h.1, ?_⟩
  rcases h.2 with hn | ⟨g, cap, cur, h1, h2, h3⟩
  · exact .inl hn
  · exact .inr ⟨g, cap, cur, h1, Nat.le_trans hb h2, h3⟩

/-- A statement that leaves its order open, whose operations read alone and whose callees make new memory: one walk, in the text's order. -/
theorem region_grows {P : Program} {id : Nat} {Q : Exit → Act → World → Prop} {a : Act} {w w0 : World} {l : List Oper} (hm : P.follows .mixedOrders = true) (hB : Region.lexB .any l.toArray = true) (hw : Below w0.heap.size w0 w)
    (h : wpQuiet P l.toArray (fun w' => Below w0.heap.size w0 w') (fun a' => ∀ w', Below w0.heap.size w0 w' → Q .normal a' w') l a) : (Code.region id l.toArray true).wp P Q a w :=
  wp_region_quiet (C := fun w' => Below w0.heap.size w0 w') hm hB ⟨hw.os, hw.tape, hw.output, hw.size, hw.block⟩ h

/-- A world in which all that lay in w0 lies as it lay. -/
structure Wd (w0 : World) where
  w : World
  h : Below w0.heap.size w0 w
theorem Wd.there (w0 : World) : Nonempty (Wd w0) := ⟨⟨w0, Below.refl _ _⟩⟩
theorem Wd.cell {w0 : World} {p : Addr} {v : Value} (hc : w0.cell? p = some v) (d : Wd w0) : d.w.cell? p = some v :=
  (d.h.cell (World.block_lt_of_cell? w0 p hc)).trans hc
theorem region_growsW {P : Program} {id : Nat} {Q : Exit → Act → World → Prop} {a : Act} {w : World} (w0 : World) {l : List Oper} (hm : P.follows .mixedOrders = true) (hB : Region.lexB .any l.toArray = true) (hw : Below w0.heap.size w0 w)
    (h : wpQuiet P l.toArray (fun w' => ∃ d : Wd w0, w' = d.w) (fun a' => ∀ w', (∃ d : Wd w0, w' = d.w) → Q .normal a' w') l a) : (Code.region id l.toArray true).wp P Q a w :=
  wp_region_quiet (C := fun w' => ∃ d : Wd w0, w' = d.w) hm hB ⟨⟨{ w with drawn := w.drawn + 1 }, ⟨hw.os, hw.tape, hw.output, hw.size, hw.block⟩⟩, rfl⟩ h
theorem Calls.growsW {P : Program} {f : FuncId} {args : Array Value} {w0 : World} {d : Wd w0} {v : Value} (h : Calls P f args d.w fun e w' => e = .returned v ∧ Below d.w.heap.size d.w w') :
    Calls P f args d.w fun e w'' => e = .returned v ∧ ∃ d' : Wd w0, w'' = d'.w :=
  h.mono fun _ w'' ⟨he, hb⟩ => ⟨he, ⟨w'', d.h.trans (hb.mono d.h.size)⟩, rfl⟩

theorem add_plain (b off i : Nat) : (⟨b, off, none⟩ : Addr).add i = ⟨b, off + i, none⟩ := by
  by_cases h : i = 0
  · subst h; simp [Addr.add]
  · simp [Addr.add, h]
/-- The cells of a new block, as an append reads them. -/
theorem cells_new (w : World) (C : Array Value) (l : List Value) (T : TypeId) (hl : C.toList = l) : ∀ j u, l[j]? = some u → (w.alloc (.cells C T)).cell? ((⟨w.heap.size, 0, none⟩ : Addr).add j) = some u := by
  intro j u h
  rw [add_plain, Nat.zero_add]
  refine (World.cell?_alloc_mark w C T (0, 0) j).trans ?_
  rw [← hl] at h
  simpa using h

theorem row_drewN {W : World} {base : Nat} {e : TypeId} {size : Nat} {v : Value} {k : Nat} {xs : List Value} (h : W.ownsRow base e size v k xs) (n : Nat) : (W.drewN n).ownsRow base e size v k xs := h
theorem below_drewN' {B : Nat} {w W : World} (h : Below B w W) (n : Nat) : Below B w (W.drewN n) := ⟨h.os, h.tape, h.output, h.size, h.block⟩

theorem row_form {W : World} {base : Nat} {e : TypeId} {size : Nat} {v : Value} {k : Nat} {xs : List Value} (h : W.ownsRow base e size v k xs) : ∃ a cap, v = .slice a k cap ∧ k ≤ maxLen := by
  rcases h.2 with ⟨rfl, rfl⟩ | ⟨g, cap, cur, rfl, _, _, h1, h2, _⟩
  · exact ⟨none, 0, rfl, Nat.zero_le _⟩
  · exact ⟨some ⟨g, 0, none⟩, cap, rfl, Nat.le_trans h1 h2⟩
theorem row_form_pos {W : World} {base : Nat} {e : TypeId} {size : Nat} {v : Value} {k : Nat} {xs : List Value} (h : W.ownsRow base e size v k xs) (hk : 0 < k) : ∃ g cap, v = .slice (some ⟨g, 0, none⟩) k cap ∧ k ≤ maxLen := by
  rcases h.2 with ⟨rfl, rfl⟩ | ⟨g, cap, cur, rfl, _, _, h1, h2, _⟩
  · omega
  · exact ⟨g, cap, rfl, Nat.le_trans h1 h2⟩

end Go.Proofs.Ytidacihlalbohaa
