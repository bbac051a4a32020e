/-
  No cell of these rows narrows 'for every input' (looked for: loops, veiled, ifaces, maps, wideKeys, modest, calm, conditions, laid).
  DERIVED. THE GIVEN ROWS OF THIS SEAT. 5 by the template 'for every input the law returns true; each argument reads behind the call as it read before'; 0 by the template 'total and deterministic' (their statements: YtpkmloanbddefaaTotals.lean).
  GIVEN WITH THE SEED: the statements are not yours to turn. If you find one false, say at which input.
  Laid BY PROGRAM, IN A SANDBOX (cutbox-rows.mjs): the forced cells as the released guide's own fill.sh prints them over the translation dcdc15064e79171d… (all of the seat's roots in one cut). By AI agents, Wed Nov 11 2026. No macro, syntax, notation, axiom, sorry.
-/
import Derived.Test.YtpkmloanbddefaaChecked
import GoSem.Claim
import GoSem.ClaimJoined
import GoSem.ClaimMapViews
import Derived.JoinedTies
import Derived.KernelRfl
namespace Go.Proofs.Ytpkmloanbddefaa
/- THE CELL 'sum', in the pinned program and in every row, IS THE sha256 OF THE DUMP (.gsa) THAT YtpkmloanbddefaaProg.lean LOADS. Nothing in Lean hashes anything: it is a label: what it is worth is what the hold of that sum in a sandbox is worth. -/
noncomputable def Try.pinned : Pinned := { name := "ytpkmloanbddefaa", sum := "dcdc15064e79171dc418324f9a56cfac45d7d8c6cd9daddd52ad26785501b0cc", checked := Try.checked }
namespace Rows
def none {H : Type} : Left H := { results := [], args := [] }

/-- 'sallyportlaw12.MeterFresh': WHATEVER THE INPUT: true; the input reads as it did. -/
def meterFreshSpec : ChangeSpec := { name := "meterFresh", fn := fun _ => fun
  | [d1, d2, d3, d4, d5] => { results := [.lit (.bool true)], args := [d1, d2, d3, d4, d5] }
  | _ => none }
def meterFreshRow : OpenClaim := { program := "ytpkmloanbddefaa", sum := "dcdc15064e79171dc418324f9a56cfac45d7d8c6cd9daddd52ad26785501b0cc", func := "sallyport/sallyportlaw12.MeterFresh", spec := "meterFresh", plainKeys := false, apart := false }
def MeterFreshSaid : Prop := meterFreshRow.holds Try.pinned (OpenSpec.ofChange meterFreshSpec)

/-- ITS FALSE NEIGHBOUR: 'it returns false'. Refute it at one input. -/
def meterFreshWrong : ChangeSpec := { name := "meterFresh", fn := fun _ => fun
  | [d1, d2, d3, d4, d5] => { results := [.lit (.bool false)], args := [d1, d2, d3, d4, d5] }
  | _ => none }
def MeterFreshWrongFalsely : Prop := meterFreshRow.holds Try.pinned (OpenSpec.ofChange meterFreshWrong)

/-- 'sallyportlaw12.MeterSame': WHATEVER THE INPUT: true; the input reads as it did. -/
def meterSameSpec : ChangeSpec := { name := "meterSame", fn := fun _ => fun
  | [d1, d2, d3] => { results := [.lit (.bool true)], args := [d1, d2, d3] }
  | _ => none }
def meterSameRow : OpenClaim := { program := "ytpkmloanbddefaa", sum := "dcdc15064e79171dc418324f9a56cfac45d7d8c6cd9daddd52ad26785501b0cc", func := "sallyport/sallyportlaw12.MeterSame", spec := "meterSame", plainKeys := false, apart := false }
def MeterSameSaid : Prop := meterSameRow.holds Try.pinned (OpenSpec.ofChange meterSameSpec)

/-- ITS FALSE NEIGHBOUR: 'it returns false'. Refute it at one input. -/
def meterSameWrong : ChangeSpec := { name := "meterSame", fn := fun _ => fun
  | [d1, d2, d3] => { results := [.lit (.bool false)], args := [d1, d2, d3] }
  | _ => none }
def MeterSameWrongFalsely : Prop := meterSameRow.holds Try.pinned (OpenSpec.ofChange meterSameWrong)

/-- 'sallyportlaw12.MeterScript': WHATEVER THE INPUT: true; the input reads as it did. -/
def meterScriptSpec : ChangeSpec := { name := "meterScript", fn := fun _ => fun
  | [d1, d2, d3] => { results := [.lit (.bool true)], args := [d1, d2, d3] }
  | _ => none }
def meterScriptRow : OpenClaim := { program := "ytpkmloanbddefaa", sum := "dcdc15064e79171dc418324f9a56cfac45d7d8c6cd9daddd52ad26785501b0cc", func := "sallyport/sallyportlaw12.MeterScript", spec := "meterScript", plainKeys := false, apart := false }
def MeterScriptSaid : Prop := meterScriptRow.holds Try.pinned (OpenSpec.ofChange meterScriptSpec)

/-- ITS FALSE NEIGHBOUR: 'it returns false'. Refute it at one input. -/
def meterScriptWrong : ChangeSpec := { name := "meterScript", fn := fun _ => fun
  | [d1, d2, d3] => { results := [.lit (.bool false)], args := [d1, d2, d3] }
  | _ => none }
def MeterScriptWrongFalsely : Prop := meterScriptRow.holds Try.pinned (OpenSpec.ofChange meterScriptWrong)

/-- 'sallyportlaw12.MeterCaps': WHATEVER THE INPUT: true; the input reads as it did. -/
def meterCapsSpec : ChangeSpec := { name := "meterCaps", fn := fun _ => fun
  | [d1, d2, d3] => { results := [.lit (.bool true)], args := [d1, d2, d3] }
  | _ => none }
def meterCapsRow : OpenClaim := { program := "ytpkmloanbddefaa", sum := "dcdc15064e79171dc418324f9a56cfac45d7d8c6cd9daddd52ad26785501b0cc", func := "sallyport/sallyportlaw12.MeterCaps", spec := "meterCaps", plainKeys := false, apart := false }
def MeterCapsSaid : Prop := meterCapsRow.holds Try.pinned (OpenSpec.ofChange meterCapsSpec)

/-- ITS FALSE NEIGHBOUR: 'it returns false'. Refute it at one input. -/
def meterCapsWrong : ChangeSpec := { name := "meterCaps", fn := fun _ => fun
  | [d1, d2, d3] => { results := [.lit (.bool false)], args := [d1, d2, d3] }
  | _ => none }
def MeterCapsWrongFalsely : Prop := meterCapsRow.holds Try.pinned (OpenSpec.ofChange meterCapsWrong)

/-- 'sallyportlaw12.MeterOwn': WHATEVER THE INPUT: true; the input reads as it did. -/
def meterOwnSpec : ChangeSpec := { name := "meterOwn", fn := fun _ => fun
  | [d1, d2, d3] => { results := [.lit (.bool true)], args := [d1, d2, d3] }
  | _ => none }
def meterOwnRow : OpenClaim := { program := "ytpkmloanbddefaa", sum := "dcdc15064e79171dc418324f9a56cfac45d7d8c6cd9daddd52ad26785501b0cc", func := "sallyport/sallyportlaw12.MeterOwn", spec := "meterOwn", plainKeys := false, apart := false }
def MeterOwnSaid : Prop := meterOwnRow.holds Try.pinned (OpenSpec.ofChange meterOwnSpec)

/-- ITS FALSE NEIGHBOUR: 'it returns false'. Refute it at one input. -/
def meterOwnWrong : ChangeSpec := { name := "meterOwn", fn := fun _ => fun
  | [d1, d2, d3] => { results := [.lit (.bool false)], args := [d1, d2, d3] }
  | _ => none }
def MeterOwnWrongFalsely : Prop := meterOwnRow.holds Try.pinned (OpenSpec.ofChange meterOwnWrong)

/- THE SECOND FORM. 'bulk': how many values and letters a reading holds, each counted each time it is reached (what is shared counts as often as it is met; a slice's spare places count too). A statement '..UptoSaid' is the law's where the arguments, and the package variables that the reading takes, are together of bulk at most 1048576: NARROWER than '..Said'. Prove '..Said' where nothing that the law and all that it calls make is longer than what came in: it says more and counts as full. Else prove '..UptoSaid'. A law counts once. -/
mutual
def uptoBulk {H : Type} : DataW H → Nat
  | .lit (.string bytes) => bytes.length + 1
  | .lit _ => 1
  | .nil => 1
  | .ptr d => uptoBulk d + 1
  | .slice elems spare => uptoBulkAll elems + uptoBulkAll spare + 1
  | .agg parts => uptoBulkAll parts + 1
  | .iface _ d => uptoBulk d + 1
  | .map entries => uptoBulkEntries entries + 1
  | .held _ => 1
def uptoBulkAll {H : Type} : List (DataW H) → Nat
  | [] => 0
  | d :: r => uptoBulk d + uptoBulkAll r
def uptoBulkEntries {H : Type} : List (Lit × DataW H) → Nat
  | [] => 0
  | x :: r => uptoBulkEntry x + uptoBulkEntries r
def uptoBulkEntry {H : Type} : Lit × DataW H → Nat
  | (.string bytes, d) => bytes.length + uptoBulk d + 1
  | (_, d) => uptoBulk d + 1
 end
def uptoSmall : (H : Type) → List (DataW H) → Bool := fun _ ds => decide (uptoBulkAll ds ≤ 1048576)
def OpenSpec.upto (s : _root_.Go.ChangeSpec) : _root_.Go.OpenSpec := { _root_.Go.OpenSpec.ofChange s with cond := some uptoSmall }

/-- 'sallyportlaw12.MeterFresh', WHERE WHAT IT READS IS OF BULK AT MOST 1048576: true; the input reads as it did. -/
def meterFreshUptoRow : OpenClaim := { program := "ytpkmloanbddefaa", sum := "dcdc15064e79171dc418324f9a56cfac45d7d8c6cd9daddd52ad26785501b0cc", func := "sallyport/sallyportlaw12.MeterFresh", spec := "meterFresh", plainKeys := false, apart := false, narrowed := true }
def MeterFreshUptoSaid : Prop := meterFreshUptoRow.holds Try.pinned (OpenSpec.upto meterFreshSpec)

/-- 'sallyportlaw12.MeterSame', WHERE WHAT IT READS IS OF BULK AT MOST 1048576: true; the input reads as it did. -/
def meterSameUptoRow : OpenClaim := { program := "ytpkmloanbddefaa", sum := "dcdc15064e79171dc418324f9a56cfac45d7d8c6cd9daddd52ad26785501b0cc", func := "sallyport/sallyportlaw12.MeterSame", spec := "meterSame", plainKeys := false, apart := false, narrowed := true }
def MeterSameUptoSaid : Prop := meterSameUptoRow.holds Try.pinned (OpenSpec.upto meterSameSpec)

/-- 'sallyportlaw12.MeterScript', WHERE WHAT IT READS IS OF BULK AT MOST 1048576: true; the input reads as it did. -/
def meterScriptUptoRow : OpenClaim := { program := "ytpkmloanbddefaa", sum := "dcdc15064e79171dc418324f9a56cfac45d7d8c6cd9daddd52ad26785501b0cc", func := "sallyport/sallyportlaw12.MeterScript", spec := "meterScript", plainKeys := false, apart := false, narrowed := true }
def MeterScriptUptoSaid : Prop := meterScriptUptoRow.holds Try.pinned (OpenSpec.upto meterScriptSpec)

/-- 'sallyportlaw12.MeterCaps', WHERE WHAT IT READS IS OF BULK AT MOST 1048576: true; the input reads as it did. -/
def meterCapsUptoRow : OpenClaim := { program := "ytpkmloanbddefaa", sum := "dcdc15064e79171dc418324f9a56cfac45d7d8c6cd9daddd52ad26785501b0cc", func := "sallyport/sallyportlaw12.MeterCaps", spec := "meterCaps", plainKeys := false, apart := false, narrowed := true }
def MeterCapsUptoSaid : Prop := meterCapsUptoRow.holds Try.pinned (OpenSpec.upto meterCapsSpec)

/-- 'sallyportlaw12.MeterOwn', WHERE WHAT IT READS IS OF BULK AT MOST 1048576: true; the input reads as it did. -/
def meterOwnUptoRow : OpenClaim := { program := "ytpkmloanbddefaa", sum := "dcdc15064e79171dc418324f9a56cfac45d7d8c6cd9daddd52ad26785501b0cc", func := "sallyport/sallyportlaw12.MeterOwn", spec := "meterOwn", plainKeys := false, apart := false, narrowed := true }
def MeterOwnUptoSaid : Prop := meterOwnUptoRow.holds Try.pinned (OpenSpec.upto meterOwnSpec)

end Rows
end Go.Proofs.Ytpkmloanbddefaa
