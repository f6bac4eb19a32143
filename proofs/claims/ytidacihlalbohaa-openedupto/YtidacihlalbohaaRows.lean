/-
  No cell of these rows narrows 'for every input' (looked for: loops, veiled, ifaces, maps, wideKeys, modest, calm, conditions, laid).
  DERIVED. THE GIVEN ROWS OF THIS SEAT. 4 by the template 'for every input the law returns true; each argument reads behind the call as it read before'; 0 by the template 'total and deterministic' (their statements: YtidacihlalbohaaTotals.lean).
  GIVEN WITH THE SEED: the statements are not yours to turn. If you find one false, say at which input.
  Laid BY PROGRAM, IN A SANDBOX (cutbox-rows.mjs): the forced cells as the released guide's own fill.sh prints them over the translation 50521ecad40b0ea9… (all of the seat's roots in one cut). By AI agents, Wed Nov 11 2026. No macro, syntax, notation, axiom, sorry.
-/
import Derived.Test.YtidacihlalbohaaChecked
import GoSem.Claim
import GoSem.ClaimJoined
import GoSem.ClaimMapViews
import Derived.JoinedTies
import Derived.KernelRfl
namespace Go.Proofs.Ytidacihlalbohaa
/- THE CELL 'sum', in the pinned program and in every row, IS THE sha256 OF THE DUMP (.gsa) THAT YtidacihlalbohaaProg.lean LOADS. Nothing in Lean hashes anything: it is a label: what it is worth is what the hold of that sum in a sandbox is worth. -/
noncomputable def Try.pinned : Pinned := { name := "ytidacihlalbohaa", sum := "50521ecad40b0ea97433a840dc0f2855c3f162f679889ff884422d6d77e66b39", checked := Try.checked }
namespace Rows
def none {H : Type} : Left H := { results := [], args := [] }

/-- 'stockroomlaw.Framed': WHATEVER THE INPUT: true; the input reads as it did. -/
def framedSpec : ChangeSpec := { name := "framed", fn := fun _ => fun
  | [d] => { results := [.lit (.bool true)], args := [d] }
  | _ => none }
def framedRow : OpenClaim := { program := "ytidacihlalbohaa", sum := "50521ecad40b0ea97433a840dc0f2855c3f162f679889ff884422d6d77e66b39", func := "stockroom/stockroomlaw.Framed", spec := "framed", apart := false }
def FramedSaid : Prop := framedRow.holds Try.pinned (OpenSpec.ofChange framedSpec)

/-- ITS FALSE NEIGHBOUR: 'it returns false'. Refute it at one input. -/
def framedWrong : ChangeSpec := { name := "framed", fn := fun _ => fun
  | [d] => { results := [.lit (.bool false)], args := [d] }
  | _ => none }
def FramedWrongFalsely : Prop := framedRow.holds Try.pinned (OpenSpec.ofChange framedWrong)

/-- 'stockroomlaw.Scanned': WHATEVER THE INPUT: true; the input reads as it did. -/
def scannedSpec : ChangeSpec := { name := "scanned", fn := fun _ => fun
  | [d] => { results := [.lit (.bool true)], args := [d] }
  | _ => none }
def scannedRow : OpenClaim := { program := "ytidacihlalbohaa", sum := "50521ecad40b0ea97433a840dc0f2855c3f162f679889ff884422d6d77e66b39", func := "stockroom/stockroomlaw.Scanned", spec := "scanned", unfollowed := true, recurses := true, apart := false }
def ScannedSaid : Prop := scannedRow.holds Try.pinned (OpenSpec.ofChange scannedSpec)

/-- ITS FALSE NEIGHBOUR: 'it returns false'. Refute it at one input. -/
def scannedWrong : ChangeSpec := { name := "scanned", fn := fun _ => fun
  | [d] => { results := [.lit (.bool false)], args := [d] }
  | _ => none }
def ScannedWrongFalsely : Prop := scannedRow.holds Try.pinned (OpenSpec.ofChange scannedWrong)

/-- 'stockroomlaw.Opened': WHATEVER THE INPUT: true; the input reads as it did. -/
def openedSpec : ChangeSpec := { name := "opened", fn := fun _ => fun
  | [d1, d2] => { results := [.lit (.bool true)], args := [d1, d2] }
  | _ => none }
def openedRow : OpenClaim := { program := "ytidacihlalbohaa", sum := "50521ecad40b0ea97433a840dc0f2855c3f162f679889ff884422d6d77e66b39", func := "stockroom/stockroomlaw.Opened", spec := "opened", unfollowed := true, recurses := true, apart := false }
def OpenedSaid : Prop := openedRow.holds Try.pinned (OpenSpec.ofChange openedSpec)

/-- ITS FALSE NEIGHBOUR: 'it returns false'. Refute it at one input. -/
def openedWrong : ChangeSpec := { name := "opened", fn := fun _ => fun
  | [d1, d2] => { results := [.lit (.bool false)], args := [d1, d2] }
  | _ => none }
def OpenedWrongFalsely : Prop := openedRow.holds Try.pinned (OpenSpec.ofChange openedWrong)

/-- 'stockroomkeep.Strung': WHATEVER THE INPUT: true; the input reads as it did. -/
def strungSpec : ChangeSpec := { name := "strung", fn := fun _ => fun
  | [d1, d2] => { results := [.lit (.bool true)], args := [d1, d2] }
  | _ => none }
def strungRow : OpenClaim := { program := "ytidacihlalbohaa", sum := "50521ecad40b0ea97433a840dc0f2855c3f162f679889ff884422d6d77e66b39", func := "stockroom/stockroomkeep.Strung", spec := "strung", unfollowed := true, recurses := true, apart := false }
def StrungSaid : Prop := strungRow.holds Try.pinned (OpenSpec.ofChange strungSpec)

/-- ITS FALSE NEIGHBOUR: 'it returns false'. Refute it at one input. -/
def strungWrong : ChangeSpec := { name := "strung", fn := fun _ => fun
  | [d1, d2] => { results := [.lit (.bool false)], args := [d1, d2] }
  | _ => none }
def StrungWrongFalsely : Prop := strungRow.holds Try.pinned (OpenSpec.ofChange strungWrong)

/- THE SECOND FORM. 'bulk': how many values and letters a reading holds, each counted each time it is reached (what is shared counts as often as it is met; a slice's spare places count too). A statement '..UptoSaid' is the law's where the arguments, and the package variables that the reading takes, are together of bulk at most 1048576: NARROWER than '..Said'. Prove '..Said' where nothing that the law and all that it calls make is longer than what came in: it says more and counts as full. Else prove '..UptoSaid'. A law counts once. -/
mutual
def uptoBulk {H : Type} : DataW H → Nat
  | .lit (.string bytes) => bytes.length + 1
  | .lit _ => 1
  | .nil => 1
  | .ptr d => uptoBulk d + 1
  | .slice elems spare => uptoBulkAll elems + uptoBulkAll spare + 1
  | .agg parts => uptoBulkAll parts + 1
  | .iface _ d => uptoBulk d + 1
  | .map entries => uptoBulkEntries entries + 1
  | .held _ => 1
def uptoBulkAll {H : Type} : List (DataW H) → Nat
  | [] => 0
  | d :: r => uptoBulk d + uptoBulkAll r
def uptoBulkEntries {H : Type} : List (Lit × DataW H) → Nat
  | [] => 0
  | x :: r => uptoBulkEntry x + uptoBulkEntries r
def uptoBulkEntry {H : Type} : Lit × DataW H → Nat
  | (.string bytes, d) => bytes.length + uptoBulk d + 1
  | (_, d) => uptoBulk d + 1
 end
def uptoSmall : (H : Type) → List (DataW H) → Bool := fun _ ds => decide (uptoBulkAll ds ≤ 1048576)
def OpenSpec.upto (s : _root_.Go.ChangeSpec) : _root_.Go.OpenSpec := { _root_.Go.OpenSpec.ofChange s with cond := some uptoSmall }

/-- 'stockroomlaw.Framed', WHERE WHAT IT READS IS OF BULK AT MOST 1048576: true; the input reads as it did. -/
def framedUptoRow : OpenClaim := { program := "ytidacihlalbohaa", sum := "50521ecad40b0ea97433a840dc0f2855c3f162f679889ff884422d6d77e66b39", func := "stockroom/stockroomlaw.Framed", spec := "framed", apart := false, narrowed := true }
def FramedUptoSaid : Prop := framedUptoRow.holds Try.pinned (OpenSpec.upto framedSpec)

/-- 'stockroomlaw.Scanned', WHERE WHAT IT READS IS OF BULK AT MOST 1048576: true; the input reads as it did. -/
def scannedUptoRow : OpenClaim := { program := "ytidacihlalbohaa", sum := "50521ecad40b0ea97433a840dc0f2855c3f162f679889ff884422d6d77e66b39", func := "stockroom/stockroomlaw.Scanned", spec := "scanned", unfollowed := true, recurses := true, apart := false, narrowed := true }
def ScannedUptoSaid : Prop := scannedUptoRow.holds Try.pinned (OpenSpec.upto scannedSpec)

/-- 'stockroomlaw.Opened', WHERE WHAT IT READS IS OF BULK AT MOST 1048576: true; the input reads as it did. -/
def openedUptoRow : OpenClaim := { program := "ytidacihlalbohaa", sum := "50521ecad40b0ea97433a840dc0f2855c3f162f679889ff884422d6d77e66b39", func := "stockroom/stockroomlaw.Opened", spec := "opened", unfollowed := true, recurses := true, apart := false, narrowed := true }
def OpenedUptoSaid : Prop := openedUptoRow.holds Try.pinned (OpenSpec.upto openedSpec)

/-- 'stockroomkeep.Strung', WHERE WHAT IT READS IS OF BULK AT MOST 1048576: true; the input reads as it did. -/
def strungUptoRow : OpenClaim := { program := "ytidacihlalbohaa", sum := "50521ecad40b0ea97433a840dc0f2855c3f162f679889ff884422d6d77e66b39", func := "stockroom/stockroomkeep.Strung", spec := "strung", unfollowed := true, recurses := true, apart := false, narrowed := true }
def StrungUptoSaid : Prop := strungUptoRow.holds Try.pinned (OpenSpec.upto strungSpec)

end Rows
end Go.Proofs.Ytidacihlalbohaa
