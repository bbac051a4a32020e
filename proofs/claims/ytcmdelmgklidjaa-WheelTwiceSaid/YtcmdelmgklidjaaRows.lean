/-
  No cell of these rows narrows 'for every input' (looked for: loops, veiled, ifaces, maps, wideKeys, modest, calm, conditions, laid).
  DERIVED. THE GIVEN ROWS OF THIS SEAT. 5 by the template 'for every input the law returns true; each argument reads behind the call as it read before'; 0 by the template 'total and deterministic' (their statements: YtcmdelmgklidjaaTotals.lean).
  GIVEN WITH THE SEED: the statements are not yours to turn. If you find one false, say at which input.
  Laid BY PROGRAM, IN A SANDBOX (cutbox-rows.mjs): the forced cells as the released guide's own fill.sh prints them over the translation 2e1175165559d4f4… (all of the seat's roots in one cut). By AI agents, Wed Nov 11 2026. No macro, syntax, notation, axiom, sorry.
-/
import Derived.Test.YtcmdelmgklidjaaChecked
import GoSem.Claim
import GoSem.ClaimJoined
import GoSem.ClaimMapViews
import Derived.JoinedTies
import Derived.KernelRfl
namespace Go.Proofs.Ytcmdelmgklidjaa
/- THE CELL 'sum', in the pinned program and in every row, IS THE sha256 OF THE DUMP (.gsa) THAT YtcmdelmgklidjaaProg.lean LOADS. Nothing in Lean hashes anything: it is a label: what it is worth is what the hold of that sum in a sandbox is worth. -/
noncomputable def Try.pinned : Pinned := { name := "ytcmdelmgklidjaa", sum := "2e1175165559d4f4b07b7e3990f9759069617d620f6222685af7899217946857", checked := Try.checked }
namespace Rows
def none {H : Type} : Left H := { results := [], args := [] }

/-- 'sallyportlaw13.WheelLast': WHATEVER THE INPUT: true; the input reads as it did. -/
def wheelLastSpec : ChangeSpec := { name := "wheelLast", fn := fun _ => fun
  | [d1, d2] => { results := [.lit (.bool true)], args := [d1, d2] }
  | _ => none }
def wheelLastRow : OpenClaim := { program := "ytcmdelmgklidjaa", sum := "2e1175165559d4f4b07b7e3990f9759069617d620f6222685af7899217946857", func := "sallyport/sallyportlaw13.WheelLast", spec := "wheelLast", unfollowed := true, recurses := true, apart := false }
def WheelLastSaid : Prop := wheelLastRow.holds Try.pinned (OpenSpec.ofChange wheelLastSpec)

/-- ITS FALSE NEIGHBOUR: 'it returns false'. Refute it at one input. -/
def wheelLastWrong : ChangeSpec := { name := "wheelLast", fn := fun _ => fun
  | [d1, d2] => { results := [.lit (.bool false)], args := [d1, d2] }
  | _ => none }
def WheelLastWrongFalsely : Prop := wheelLastRow.holds Try.pinned (OpenSpec.ofChange wheelLastWrong)

/-- 'sallyportlaw13.WheelDrop': WHATEVER THE INPUT: true; the input reads as it did. -/
def wheelDropSpec : ChangeSpec := { name := "wheelDrop", fn := fun _ => fun
  | [d1, d2, d3] => { results := [.lit (.bool true)], args := [d1, d2, d3] }
  | _ => none }
def wheelDropRow : OpenClaim := { program := "ytcmdelmgklidjaa", sum := "2e1175165559d4f4b07b7e3990f9759069617d620f6222685af7899217946857", func := "sallyport/sallyportlaw13.WheelDrop", spec := "wheelDrop", unfollowed := true, recurses := true, apart := false }
def WheelDropSaid : Prop := wheelDropRow.holds Try.pinned (OpenSpec.ofChange wheelDropSpec)

/-- ITS FALSE NEIGHBOUR: 'it returns false'. Refute it at one input. -/
def wheelDropWrong : ChangeSpec := { name := "wheelDrop", fn := fun _ => fun
  | [d1, d2, d3] => { results := [.lit (.bool false)], args := [d1, d2, d3] }
  | _ => none }
def WheelDropWrongFalsely : Prop := wheelDropRow.holds Try.pinned (OpenSpec.ofChange wheelDropWrong)

/-- 'sallyportlaw13.WheelScript': WHATEVER THE INPUT: true; the input reads as it did. -/
def wheelScriptSpec : ChangeSpec := { name := "wheelScript", fn := fun _ => fun
  | [d] => { results := [.lit (.bool true)], args := [d] }
  | _ => none }
def wheelScriptRow : OpenClaim := { program := "ytcmdelmgklidjaa", sum := "2e1175165559d4f4b07b7e3990f9759069617d620f6222685af7899217946857", func := "sallyport/sallyportlaw13.WheelScript", spec := "wheelScript", unfollowed := true, recurses := true, apart := false }
def WheelScriptSaid : Prop := wheelScriptRow.holds Try.pinned (OpenSpec.ofChange wheelScriptSpec)

/-- ITS FALSE NEIGHBOUR: 'it returns false'. Refute it at one input. -/
def wheelScriptWrong : ChangeSpec := { name := "wheelScript", fn := fun _ => fun
  | [d] => { results := [.lit (.bool false)], args := [d] }
  | _ => none }
def WheelScriptWrongFalsely : Prop := wheelScriptRow.holds Try.pinned (OpenSpec.ofChange wheelScriptWrong)

/-- 'sallyportlaw13.WheelTwice': WHATEVER THE INPUT: true; the input reads as it did. -/
def wheelTwiceSpec : ChangeSpec := { name := "wheelTwice", fn := fun _ => fun
  | [d1, d2, d3, d4] => { results := [.lit (.bool true)], args := [d1, d2, d3, d4] }
  | _ => none }
def wheelTwiceRow : OpenClaim := { program := "ytcmdelmgklidjaa", sum := "2e1175165559d4f4b07b7e3990f9759069617d620f6222685af7899217946857", func := "sallyport/sallyportlaw13.WheelTwice", spec := "wheelTwice", unfollowed := true, recurses := true, apart := false }
def WheelTwiceSaid : Prop := wheelTwiceRow.holds Try.pinned (OpenSpec.ofChange wheelTwiceSpec)

/-- ITS FALSE NEIGHBOUR: 'it returns false'. Refute it at one input. -/
def wheelTwiceWrong : ChangeSpec := { name := "wheelTwice", fn := fun _ => fun
  | [d1, d2, d3, d4] => { results := [.lit (.bool false)], args := [d1, d2, d3, d4] }
  | _ => none }
def WheelTwiceWrongFalsely : Prop := wheelTwiceRow.holds Try.pinned (OpenSpec.ofChange wheelTwiceWrong)

/-- 'sallyportlaw13.WheelSorted': WHATEVER THE INPUT: true; the input reads as it did. -/
def wheelSortedSpec : ChangeSpec := { name := "wheelSorted", fn := fun _ => fun
  | [d1, d2, d3] => { results := [.lit (.bool true)], args := [d1, d2, d3] }
  | _ => none }
def wheelSortedRow : OpenClaim := { program := "ytcmdelmgklidjaa", sum := "2e1175165559d4f4b07b7e3990f9759069617d620f6222685af7899217946857", func := "sallyport/sallyportlaw13.WheelSorted", spec := "wheelSorted", unfollowed := true, recurses := true, apart := false }
def WheelSortedSaid : Prop := wheelSortedRow.holds Try.pinned (OpenSpec.ofChange wheelSortedSpec)

/-- ITS FALSE NEIGHBOUR: 'it returns false'. Refute it at one input. -/
def wheelSortedWrong : ChangeSpec := { name := "wheelSorted", fn := fun _ => fun
  | [d1, d2, d3] => { results := [.lit (.bool false)], args := [d1, d2, d3] }
  | _ => none }
def WheelSortedWrongFalsely : Prop := wheelSortedRow.holds Try.pinned (OpenSpec.ofChange wheelSortedWrong)

/- THE SECOND FORM. 'bulk': how many values and letters a reading holds, each counted each time it is reached (what is shared counts as often as it is met; a slice's spare places count too). A statement '..UptoSaid' is the law's where the arguments, and the package variables that the reading takes, are together of bulk at most 1048576: NARROWER than '..Said'. Prove '..Said' where nothing that the law and all that it calls make is longer than what came in: it says more and counts as full. Else prove '..UptoSaid'. A law counts once. -/
mutual
def uptoBulk {H : Type} : DataW H → Nat
  | .lit (.string bytes) => bytes.length + 1
  | .lit _ => 1
  | .nil => 1
  | .ptr d => uptoBulk d + 1
  | .slice elems spare => uptoBulkAll elems + uptoBulkAll spare + 1
  | .agg parts => uptoBulkAll parts + 1
  | .iface _ d => uptoBulk d + 1
  | .map entries => uptoBulkEntries entries + 1
  | .held _ => 1
def uptoBulkAll {H : Type} : List (DataW H) → Nat
  | [] => 0
  | d :: r => uptoBulk d + uptoBulkAll r
def uptoBulkEntries {H : Type} : List (Lit × DataW H) → Nat
  | [] => 0
  | x :: r => uptoBulkEntry x + uptoBulkEntries r
def uptoBulkEntry {H : Type} : Lit × DataW H → Nat
  | (.string bytes, d) => bytes.length + uptoBulk d + 1
  | (_, d) => uptoBulk d + 1
 end
def uptoSmall : (H : Type) → List (DataW H) → Bool := fun _ ds => decide (uptoBulkAll ds ≤ 1048576)
def OpenSpec.upto (s : _root_.Go.ChangeSpec) : _root_.Go.OpenSpec := { _root_.Go.OpenSpec.ofChange s with cond := some uptoSmall }

/-- 'sallyportlaw13.WheelLast', WHERE WHAT IT READS IS OF BULK AT MOST 1048576: true; the input reads as it did. -/
def wheelLastUptoRow : OpenClaim := { program := "ytcmdelmgklidjaa", sum := "2e1175165559d4f4b07b7e3990f9759069617d620f6222685af7899217946857", func := "sallyport/sallyportlaw13.WheelLast", spec := "wheelLast", unfollowed := true, recurses := true, apart := false, narrowed := true }
def WheelLastUptoSaid : Prop := wheelLastUptoRow.holds Try.pinned (OpenSpec.upto wheelLastSpec)

/-- 'sallyportlaw13.WheelDrop', WHERE WHAT IT READS IS OF BULK AT MOST 1048576: true; the input reads as it did. -/
def wheelDropUptoRow : OpenClaim := { program := "ytcmdelmgklidjaa", sum := "2e1175165559d4f4b07b7e3990f9759069617d620f6222685af7899217946857", func := "sallyport/sallyportlaw13.WheelDrop", spec := "wheelDrop", unfollowed := true, recurses := true, apart := false, narrowed := true }
def WheelDropUptoSaid : Prop := wheelDropUptoRow.holds Try.pinned (OpenSpec.upto wheelDropSpec)

/-- 'sallyportlaw13.WheelScript', WHERE WHAT IT READS IS OF BULK AT MOST 1048576: true; the input reads as it did. -/
def wheelScriptUptoRow : OpenClaim := { program := "ytcmdelmgklidjaa", sum := "2e1175165559d4f4b07b7e3990f9759069617d620f6222685af7899217946857", func := "sallyport/sallyportlaw13.WheelScript", spec := "wheelScript", unfollowed := true, recurses := true, apart := false, narrowed := true }
def WheelScriptUptoSaid : Prop := wheelScriptUptoRow.holds Try.pinned (OpenSpec.upto wheelScriptSpec)

/-- 'sallyportlaw13.WheelTwice', WHERE WHAT IT READS IS OF BULK AT MOST 1048576: true; the input reads as it did. -/
def wheelTwiceUptoRow : OpenClaim := { program := "ytcmdelmgklidjaa", sum := "2e1175165559d4f4b07b7e3990f9759069617d620f6222685af7899217946857", func := "sallyport/sallyportlaw13.WheelTwice", spec := "wheelTwice", unfollowed := true, recurses := true, apart := false, narrowed := true }
def WheelTwiceUptoSaid : Prop := wheelTwiceUptoRow.holds Try.pinned (OpenSpec.upto wheelTwiceSpec)

/-- 'sallyportlaw13.WheelSorted', WHERE WHAT IT READS IS OF BULK AT MOST 1048576: true; the input reads as it did. -/
def wheelSortedUptoRow : OpenClaim := { program := "ytcmdelmgklidjaa", sum := "2e1175165559d4f4b07b7e3990f9759069617d620f6222685af7899217946857", func := "sallyport/sallyportlaw13.WheelSorted", spec := "wheelSorted", unfollowed := true, recurses := true, apart := false, narrowed := true }
def WheelSortedUptoSaid : Prop := wheelSortedUptoRow.holds Try.pinned (OpenSpec.upto wheelSortedSpec)

end Rows
end Go.Proofs.Ytcmdelmgklidjaa
