/-
  No cell of these rows narrows 'for every input' (looked for: loops, veiled, ifaces, maps, wideKeys, modest, calm, conditions, laid).
  DERIVED. THE GIVEN ROWS OF THIS SEAT. 5 by the template 'for every input the law returns true; each argument reads behind the call as it read before'; 0 by the template 'total and deterministic' (their statements: YtdpfeddfpdmfkaaTotals.lean).
  GIVEN WITH THE SEED: the statements are not yours to turn. If you find one false, say at which input.
  Laid BY PROGRAM, IN A SANDBOX (cutbox-rows.mjs): the forced cells as the released guide's own fill.sh prints them over the translation 42db6d375370b1ea… (all of the seat's roots in one cut). By AI agents, Wed Nov 11 2026. No macro, syntax, notation, axiom, sorry.
-/
import Derived.Test.YtdpfeddfpdmfkaaChecked
import GoSem.Claim
import GoSem.ClaimJoined
import GoSem.ClaimMapViews
import Derived.JoinedTies
import Derived.KernelRfl
namespace Go.Proofs.Ytdpfeddfpdmfkaa
/- THE CELL 'sum', in the pinned program and in every row, IS THE sha256 OF THE DUMP (.gsa) THAT YtdpfeddfpdmfkaaProg.lean LOADS. Nothing in Lean hashes anything: it is a label: what it is worth is what the hold of that sum in a sandbox is worth. -/
noncomputable def Try.pinned : Pinned := { name := "ytdpfeddfpdmfkaa", sum := "42db6d375370b1eabe80686951bfbf195dad556782fd9b93514419c1f16ff088", checked := Try.checked }
namespace Rows
def none {H : Type} : Left H := { results := [], args := [] }

/-- 'sallyportlaw11.BucketParts': WHATEVER THE INPUT: true; the input reads as it did. -/
def bucketPartsSpec : ChangeSpec := { name := "bucketParts", fn := fun _ => fun
  | [d1, d2, d3] => { results := [.lit (.bool true)], args := [d1, d2, d3] }
  | _ => none }
def bucketPartsRow : OpenClaim := { program := "ytdpfeddfpdmfkaa", sum := "42db6d375370b1eabe80686951bfbf195dad556782fd9b93514419c1f16ff088", func := "sallyport/sallyportlaw11.BucketParts", spec := "bucketParts", apart := false }
def BucketPartsSaid : Prop := bucketPartsRow.holds Try.pinned (OpenSpec.ofChange bucketPartsSpec)

/-- ITS FALSE NEIGHBOUR: 'it returns false'. Refute it at one input. -/
def bucketPartsWrong : ChangeSpec := { name := "bucketParts", fn := fun _ => fun
  | [d1, d2, d3] => { results := [.lit (.bool false)], args := [d1, d2, d3] }
  | _ => none }
def BucketPartsWrongFalsely : Prop := bucketPartsRow.holds Try.pinned (OpenSpec.ofChange bucketPartsWrong)

/-- 'sallyportlaw11.BucketBack': WHATEVER THE INPUT: true; the input reads as it did. -/
def bucketBackSpec : ChangeSpec := { name := "bucketBack", fn := fun _ => fun
  | [d1, d2, d3, d4] => { results := [.lit (.bool true)], args := [d1, d2, d3, d4] }
  | _ => none }
def bucketBackRow : OpenClaim := { program := "ytdpfeddfpdmfkaa", sum := "42db6d375370b1eabe80686951bfbf195dad556782fd9b93514419c1f16ff088", func := "sallyport/sallyportlaw11.BucketBack", spec := "bucketBack", apart := false }
def BucketBackSaid : Prop := bucketBackRow.holds Try.pinned (OpenSpec.ofChange bucketBackSpec)

/-- ITS FALSE NEIGHBOUR: 'it returns false'. Refute it at one input. -/
def bucketBackWrong : ChangeSpec := { name := "bucketBack", fn := fun _ => fun
  | [d1, d2, d3, d4] => { results := [.lit (.bool false)], args := [d1, d2, d3, d4] }
  | _ => none }
def BucketBackWrongFalsely : Prop := bucketBackRow.holds Try.pinned (OpenSpec.ofChange bucketBackWrong)

/-- 'sallyportlaw11.BucketScript': WHATEVER THE INPUT: true; the input reads as it did. -/
def bucketScriptSpec : ChangeSpec := { name := "bucketScript", fn := fun _ => fun
  | [d1, d2, d3, d4] => { results := [.lit (.bool true)], args := [d1, d2, d3, d4] }
  | _ => none }
def bucketScriptRow : OpenClaim := { program := "ytdpfeddfpdmfkaa", sum := "42db6d375370b1eabe80686951bfbf195dad556782fd9b93514419c1f16ff088", func := "sallyport/sallyportlaw11.BucketScript", spec := "bucketScript", apart := false }
def BucketScriptSaid : Prop := bucketScriptRow.holds Try.pinned (OpenSpec.ofChange bucketScriptSpec)

/-- ITS FALSE NEIGHBOUR: 'it returns false'. Refute it at one input. -/
def bucketScriptWrong : ChangeSpec := { name := "bucketScript", fn := fun _ => fun
  | [d1, d2, d3, d4] => { results := [.lit (.bool false)], args := [d1, d2, d3, d4] }
  | _ => none }
def BucketScriptWrongFalsely : Prop := bucketScriptRow.holds Try.pinned (OpenSpec.ofChange bucketScriptWrong)

/-- 'sallyportlaw11.BucketInside': WHATEVER THE INPUT: true; the input reads as it did. -/
def bucketInsideSpec : ChangeSpec := { name := "bucketInside", fn := fun _ => fun
  | [d1, d2, d3] => { results := [.lit (.bool true)], args := [d1, d2, d3] }
  | _ => none }
def bucketInsideRow : OpenClaim := { program := "ytdpfeddfpdmfkaa", sum := "42db6d375370b1eabe80686951bfbf195dad556782fd9b93514419c1f16ff088", func := "sallyport/sallyportlaw11.BucketInside", spec := "bucketInside", apart := false }
def BucketInsideSaid : Prop := bucketInsideRow.holds Try.pinned (OpenSpec.ofChange bucketInsideSpec)

/-- ITS FALSE NEIGHBOUR: 'it returns false'. Refute it at one input. -/
def bucketInsideWrong : ChangeSpec := { name := "bucketInside", fn := fun _ => fun
  | [d1, d2, d3] => { results := [.lit (.bool false)], args := [d1, d2, d3] }
  | _ => none }
def BucketInsideWrongFalsely : Prop := bucketInsideRow.holds Try.pinned (OpenSpec.ofChange bucketInsideWrong)

/-- 'sallyportlaw11.BucketRate': WHATEVER THE INPUT: true; the input reads as it did. -/
def bucketRateSpec : ChangeSpec := { name := "bucketRate", fn := fun _ => fun
  | [d1, d2, d3] => { results := [.lit (.bool true)], args := [d1, d2, d3] }
  | _ => none }
def bucketRateRow : OpenClaim := { program := "ytdpfeddfpdmfkaa", sum := "42db6d375370b1eabe80686951bfbf195dad556782fd9b93514419c1f16ff088", func := "sallyport/sallyportlaw11.BucketRate", spec := "bucketRate", apart := false }
def BucketRateSaid : Prop := bucketRateRow.holds Try.pinned (OpenSpec.ofChange bucketRateSpec)

/-- ITS FALSE NEIGHBOUR: 'it returns false'. Refute it at one input. -/
def bucketRateWrong : ChangeSpec := { name := "bucketRate", fn := fun _ => fun
  | [d1, d2, d3] => { results := [.lit (.bool false)], args := [d1, d2, d3] }
  | _ => none }
def BucketRateWrongFalsely : Prop := bucketRateRow.holds Try.pinned (OpenSpec.ofChange bucketRateWrong)

/- THE SECOND FORM. 'bulk': how many values and letters a reading holds, each counted each time it is reached (what is shared counts as often as it is met; a slice's spare places count too). A statement '..UptoSaid' is the law's where the arguments, and the package variables that the reading takes, are together of bulk at most 1048576: NARROWER than '..Said'. Prove '..Said' where nothing that the law and all that it calls make is longer than what came in: it says more and counts as full. Else prove '..UptoSaid'. A law counts once. -/
mutual
def uptoBulk {H : Type} : DataW H → Nat
  | .lit (.string bytes) => bytes.length + 1
  | .lit _ => 1
  | .nil => 1
  | .ptr d => uptoBulk d + 1
  | .slice elems spare => uptoBulkAll elems + uptoBulkAll spare + 1
  | .agg parts => uptoBulkAll parts + 1
  | .iface _ d => uptoBulk d + 1
  | .map entries => uptoBulkEntries entries + 1
  | .held _ => 1
def uptoBulkAll {H : Type} : List (DataW H) → Nat
  | [] => 0
  | d :: r => uptoBulk d + uptoBulkAll r
def uptoBulkEntries {H : Type} : List (Lit × DataW H) → Nat
  | [] => 0
  | x :: r => uptoBulkEntry x + uptoBulkEntries r
def uptoBulkEntry {H : Type} : Lit × DataW H → Nat
  | (.string bytes, d) => bytes.length + uptoBulk d + 1
  | (_, d) => uptoBulk d + 1
 end
def uptoSmall : (H : Type) → List (DataW H) → Bool := fun _ ds => decide (uptoBulkAll ds ≤ 1048576)
def OpenSpec.upto (s : _root_.Go.ChangeSpec) : _root_.Go.OpenSpec := { _root_.Go.OpenSpec.ofChange s with cond := some uptoSmall }

/-- 'sallyportlaw11.BucketParts', WHERE WHAT IT READS IS OF BULK AT MOST 1048576: true; the input reads as it did. -/
def bucketPartsUptoRow : OpenClaim := { program := "ytdpfeddfpdmfkaa", sum := "42db6d375370b1eabe80686951bfbf195dad556782fd9b93514419c1f16ff088", func := "sallyport/sallyportlaw11.BucketParts", spec := "bucketParts", apart := false, narrowed := true }
def BucketPartsUptoSaid : Prop := bucketPartsUptoRow.holds Try.pinned (OpenSpec.upto bucketPartsSpec)

/-- 'sallyportlaw11.BucketBack', WHERE WHAT IT READS IS OF BULK AT MOST 1048576: true; the input reads as it did. -/
def bucketBackUptoRow : OpenClaim := { program := "ytdpfeddfpdmfkaa", sum := "42db6d375370b1eabe80686951bfbf195dad556782fd9b93514419c1f16ff088", func := "sallyport/sallyportlaw11.BucketBack", spec := "bucketBack", apart := false, narrowed := true }
def BucketBackUptoSaid : Prop := bucketBackUptoRow.holds Try.pinned (OpenSpec.upto bucketBackSpec)

/-- 'sallyportlaw11.BucketScript', WHERE WHAT IT READS IS OF BULK AT MOST 1048576: true; the input reads as it did. -/
def bucketScriptUptoRow : OpenClaim := { program := "ytdpfeddfpdmfkaa", sum := "42db6d375370b1eabe80686951bfbf195dad556782fd9b93514419c1f16ff088", func := "sallyport/sallyportlaw11.BucketScript", spec := "bucketScript", apart := false, narrowed := true }
def BucketScriptUptoSaid : Prop := bucketScriptUptoRow.holds Try.pinned (OpenSpec.upto bucketScriptSpec)

/-- 'sallyportlaw11.BucketInside', WHERE WHAT IT READS IS OF BULK AT MOST 1048576: true; the input reads as it did. -/
def bucketInsideUptoRow : OpenClaim := { program := "ytdpfeddfpdmfkaa", sum := "42db6d375370b1eabe80686951bfbf195dad556782fd9b93514419c1f16ff088", func := "sallyport/sallyportlaw11.BucketInside", spec := "bucketInside", apart := false, narrowed := true }
def BucketInsideUptoSaid : Prop := bucketInsideUptoRow.holds Try.pinned (OpenSpec.upto bucketInsideSpec)

/-- 'sallyportlaw11.BucketRate', WHERE WHAT IT READS IS OF BULK AT MOST 1048576: true; the input reads as it did. -/
def bucketRateUptoRow : OpenClaim := { program := "ytdpfeddfpdmfkaa", sum := "42db6d375370b1eabe80686951bfbf195dad556782fd9b93514419c1f16ff088", func := "sallyport/sallyportlaw11.BucketRate", spec := "bucketRate", apart := false, narrowed := true }
def BucketRateUptoSaid : Prop := bucketRateUptoRow.holds Try.pinned (OpenSpec.upto bucketRateSpec)

end Rows
end Go.Proofs.Ytdpfeddfpdmfkaa
