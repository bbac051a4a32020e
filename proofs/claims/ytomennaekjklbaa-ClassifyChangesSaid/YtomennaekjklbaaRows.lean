/-
  No cell of these rows narrows 'for every input' (looked for: loops, veiled, ifaces, maps, wideKeys, modest, calm, conditions, laid).
  DERIVED. THE GIVEN ROWS OF THIS SEAT. 2 by the template 'for every input the law returns true; each argument reads behind the call as it read before'; 0 by the template 'total and deterministic' (their statements: YtomennaekjklbaaTotals.lean).
  GIVEN WITH THE SEED: the statements are not yours to turn. If you find one false, say at which input.
  Laid BY PROGRAM, IN A SANDBOX (cutbox-rows.mjs): the forced cells as the released guide's own fill.sh prints them over the translation 9b83301ccb1ed643… (all of the seat's roots in one cut). By AI agents, Wed Nov 11 2026. No macro, syntax, notation, axiom, sorry.
-/
import Derived.Test.YtomennaekjklbaaChecked
import GoSem.Claim
import GoSem.ClaimJoined
import GoSem.ClaimMapViews
import Derived.JoinedTies
import Derived.KernelRfl
namespace Go.Proofs.Ytomennaekjklbaa
/- THE CELL 'sum', in the pinned program and in every row, IS THE sha256 OF THE DUMP (.gsa) THAT YtomennaekjklbaaProg.lean LOADS. Nothing in Lean hashes anything: it is a label: what it is worth is what the hold of that sum in a sandbox is worth. -/
noncomputable def Try.pinned : Pinned := { name := "ytomennaekjklbaa", sum := "9b83301ccb1ed64369fd123fb3993e7f0160228bf11c0d9626d457224a9fbadd", checked := Try.checked }
namespace Rows
def none {H : Type} : Left H := { results := [], args := [] }

/-- 'sallyportlaw09.ClassifyUndo': WHATEVER THE INPUT: true; the input reads as it did. -/
def classifyUndoSpec : ChangeSpec := { name := "classifyUndo", fn := fun _ => fun
  | [d1, d2, d3, d4] => { results := [.lit (.bool true)], args := [d1, d2, d3, d4] }
  | _ => none }
def classifyUndoRow : OpenClaim := { program := "ytomennaekjklbaa", sum := "9b83301ccb1ed64369fd123fb3993e7f0160228bf11c0d9626d457224a9fbadd", func := "sallyport/sallyportlaw09.ClassifyUndo", spec := "classifyUndo", inPlace := ["math/bits.Sub64", "math/bits.Add64", "slices.overlaps[sallyport/api.Entry]"], unfollowed := true, recurses := true, apart := false }
def ClassifyUndoSaid : Prop := classifyUndoRow.holds Try.pinned (OpenSpec.ofChange classifyUndoSpec)

/-- ITS FALSE NEIGHBOUR: 'it returns false'. Refute it at one input. -/
def classifyUndoWrong : ChangeSpec := { name := "classifyUndo", fn := fun _ => fun
  | [d1, d2, d3, d4] => { results := [.lit (.bool false)], args := [d1, d2, d3, d4] }
  | _ => none }
def ClassifyUndoWrongFalsely : Prop := classifyUndoRow.holds Try.pinned (OpenSpec.ofChange classifyUndoWrong)

/-- 'sallyportlaw09.ClassifyChanges': WHATEVER THE INPUT: true; the input reads as it did. -/
def classifyChangesSpec : ChangeSpec := { name := "classifyChanges", fn := fun _ => fun
  | [d1, d2, d3] => { results := [.lit (.bool true)], args := [d1, d2, d3] }
  | _ => none }
def classifyChangesRow : OpenClaim := { program := "ytomennaekjklbaa", sum := "9b83301ccb1ed64369fd123fb3993e7f0160228bf11c0d9626d457224a9fbadd", func := "sallyport/sallyportlaw09.ClassifyChanges", spec := "classifyChanges", inPlace := ["math/bits.Sub64", "math/bits.Add64", "slices.overlaps[sallyport/api.Entry]"], unfollowed := true, recurses := true, apart := false }
def ClassifyChangesSaid : Prop := classifyChangesRow.holds Try.pinned (OpenSpec.ofChange classifyChangesSpec)

/-- ITS FALSE NEIGHBOUR: 'it returns false'. Refute it at one input. -/
def classifyChangesWrong : ChangeSpec := { name := "classifyChanges", fn := fun _ => fun
  | [d1, d2, d3] => { results := [.lit (.bool false)], args := [d1, d2, d3] }
  | _ => none }
def ClassifyChangesWrongFalsely : Prop := classifyChangesRow.holds Try.pinned (OpenSpec.ofChange classifyChangesWrong)

/- THE SECOND FORM. 'bulk': how many values and letters a reading holds, each counted each time it is reached (what is shared counts as often as it is met; a slice's spare places count too). A statement '..UptoSaid' is the law's where the arguments, and the package variables that the reading takes, are together of bulk at most 1048576: NARROWER than '..Said'. Prove '..Said' where nothing that the law and all that it calls make is longer than what came in: it says more and counts as full. Else prove '..UptoSaid'. A law counts once. -/
mutual
def uptoBulk {H : Type} : DataW H → Nat
  | .lit (.string bytes) => bytes.length + 1
  | .lit _ => 1
  | .nil => 1
  | .ptr d => uptoBulk d + 1
  | .slice elems spare => uptoBulkAll elems + uptoBulkAll spare + 1
  | .agg parts => uptoBulkAll parts + 1
  | .iface _ d => uptoBulk d + 1
  | .map entries => uptoBulkEntries entries + 1
  | .held _ => 1
def uptoBulkAll {H : Type} : List (DataW H) → Nat
  | [] => 0
  | d :: r => uptoBulk d + uptoBulkAll r
def uptoBulkEntries {H : Type} : List (Lit × DataW H) → Nat
  | [] => 0
  | x :: r => uptoBulkEntry x + uptoBulkEntries r
def uptoBulkEntry {H : Type} : Lit × DataW H → Nat
  | (.string bytes, d) => bytes.length + uptoBulk d + 1
  | (_, d) => uptoBulk d + 1
 end
def uptoSmall : (H : Type) → List (DataW H) → Bool := fun _ ds => decide (uptoBulkAll ds ≤ 1048576)
def OpenSpec.upto (s : _root_.Go.ChangeSpec) : _root_.Go.OpenSpec := { _root_.Go.OpenSpec.ofChange s with cond := some uptoSmall }

/-- 'sallyportlaw09.ClassifyUndo', WHERE WHAT IT READS IS OF BULK AT MOST 1048576: true; the input reads as it did. -/
def classifyUndoUptoRow : OpenClaim := { program := "ytomennaekjklbaa", sum := "9b83301ccb1ed64369fd123fb3993e7f0160228bf11c0d9626d457224a9fbadd", func := "sallyport/sallyportlaw09.ClassifyUndo", spec := "classifyUndo", inPlace := ["math/bits.Sub64", "math/bits.Add64", "slices.overlaps[sallyport/api.Entry]"], unfollowed := true, recurses := true, apart := false, narrowed := true }
def ClassifyUndoUptoSaid : Prop := classifyUndoUptoRow.holds Try.pinned (OpenSpec.upto classifyUndoSpec)

/-- 'sallyportlaw09.ClassifyChanges', WHERE WHAT IT READS IS OF BULK AT MOST 1048576: true; the input reads as it did. -/
def classifyChangesUptoRow : OpenClaim := { program := "ytomennaekjklbaa", sum := "9b83301ccb1ed64369fd123fb3993e7f0160228bf11c0d9626d457224a9fbadd", func := "sallyport/sallyportlaw09.ClassifyChanges", spec := "classifyChanges", inPlace := ["math/bits.Sub64", "math/bits.Add64", "slices.overlaps[sallyport/api.Entry]"], unfollowed := true, recurses := true, apart := false, narrowed := true }
def ClassifyChangesUptoSaid : Prop := classifyChangesUptoRow.holds Try.pinned (OpenSpec.upto classifyChangesSpec)

end Rows
end Go.Proofs.Ytomennaekjklbaa
