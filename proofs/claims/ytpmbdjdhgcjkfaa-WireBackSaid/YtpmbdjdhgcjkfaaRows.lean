/-
  No cell of these rows narrows 'for every input' (looked for: loops, veiled, ifaces, maps, wideKeys, modest, calm, conditions, laid).
  DERIVED. THE GIVEN ROWS OF THIS SEAT. 6 by the template 'for every input the law returns true; each argument reads behind the call as it read before'; 0 by the template 'total and deterministic' (their statements: YtpmbdjdhgcjkfaaTotals.lean).
  GIVEN WITH THE SEED: the statements are not yours to turn. If you find one false, say at which input.
  Laid BY PROGRAM, IN A SANDBOX (cutbox-rows.mjs): the forced cells as the released guide's own fill.sh prints them over the translation 2c775dd18ac50c06… (all of the seat's roots in one cut). By AI agents, Wed Nov 11 2026. No macro, syntax, notation, axiom, sorry.
-/
import Derived.Test.YtpmbdjdhgcjkfaaChecked
import GoSem.Claim
import GoSem.ClaimJoined
import GoSem.ClaimMapViews
import Derived.JoinedTies
import Derived.KernelRfl
namespace Go.Proofs.Ytpmbdjdhgcjkfaa
/- THE CELL 'sum', in the pinned program and in every row, IS THE sha256 OF THE DUMP (.gsa) THAT YtpmbdjdhgcjkfaaProg.lean LOADS. Nothing in Lean hashes anything: it is a label: what it is worth is what the hold of that sum in a sandbox is worth. -/
noncomputable def Try.pinned : Pinned := { name := "ytpmbdjdhgcjkfaa", sum := "2c775dd18ac50c062650784c13c6827ef8351a0e07bdbfa31aec71493471456c", checked := Try.checked }
namespace Rows
def none {H : Type} : Left H := { results := [], args := [] }

/-- 'sallyportlaw04.WireTwice': WHATEVER THE INPUT: true; the input reads as it did. -/
def wireTwiceSpec : ChangeSpec := { name := "wireTwice", fn := fun _ => fun
  | [d1, d2, d3] => { results := [.lit (.bool true)], args := [d1, d2, d3] }
  | _ => none }
def wireTwiceRow : OpenClaim := { program := "ytpmbdjdhgcjkfaa", sum := "2c775dd18ac50c062650784c13c6827ef8351a0e07bdbfa31aec71493471456c", func := "sallyport/sallyportlaw04.WireTwice", spec := "wireTwice", apart := false }
def WireTwiceSaid : Prop := wireTwiceRow.holds Try.pinned (OpenSpec.ofChange wireTwiceSpec)

/-- ITS FALSE NEIGHBOUR: 'it returns false'. Refute it at one input. -/
def wireTwiceWrong : ChangeSpec := { name := "wireTwice", fn := fun _ => fun
  | [d1, d2, d3] => { results := [.lit (.bool false)], args := [d1, d2, d3] }
  | _ => none }
def WireTwiceWrongFalsely : Prop := wireTwiceRow.holds Try.pinned (OpenSpec.ofChange wireTwiceWrong)

/-- 'sallyportlaw04.WireCut': WHATEVER THE INPUT: true; the input reads as it did. -/
def wireCutSpec : ChangeSpec := { name := "wireCut", fn := fun _ => fun
  | [d1, d2] => { results := [.lit (.bool true)], args := [d1, d2] }
  | _ => none }
def wireCutRow : OpenClaim := { program := "ytpmbdjdhgcjkfaa", sum := "2c775dd18ac50c062650784c13c6827ef8351a0e07bdbfa31aec71493471456c", func := "sallyport/sallyportlaw04.WireCut", spec := "wireCut", apart := false }
def WireCutSaid : Prop := wireCutRow.holds Try.pinned (OpenSpec.ofChange wireCutSpec)

/-- ITS FALSE NEIGHBOUR: 'it returns false'. Refute it at one input. -/
def wireCutWrong : ChangeSpec := { name := "wireCut", fn := fun _ => fun
  | [d1, d2] => { results := [.lit (.bool false)], args := [d1, d2] }
  | _ => none }
def WireCutWrongFalsely : Prop := wireCutRow.holds Try.pinned (OpenSpec.ofChange wireCutWrong)

/-- 'sallyportlaw04.WireParses': WHATEVER THE INPUT: true; the input reads as it did. -/
def wireParsesSpec : ChangeSpec := { name := "wireParses", fn := fun _ => fun
  | [d] => { results := [.lit (.bool true)], args := [d] }
  | _ => none }
def wireParsesRow : OpenClaim := { program := "ytpmbdjdhgcjkfaa", sum := "2c775dd18ac50c062650784c13c6827ef8351a0e07bdbfa31aec71493471456c", func := "sallyport/sallyportlaw04.WireParses", spec := "wireParses", apart := false }
def WireParsesSaid : Prop := wireParsesRow.holds Try.pinned (OpenSpec.ofChange wireParsesSpec)

/-- ITS FALSE NEIGHBOUR: 'it returns false'. Refute it at one input. -/
def wireParsesWrong : ChangeSpec := { name := "wireParses", fn := fun _ => fun
  | [d] => { results := [.lit (.bool false)], args := [d] }
  | _ => none }
def WireParsesWrongFalsely : Prop := wireParsesRow.holds Try.pinned (OpenSpec.ofChange wireParsesWrong)

/-- 'sallyportlaw04.WireBuilds': WHATEVER THE INPUT: true; the input reads as it did. -/
def wireBuildsSpec : ChangeSpec := { name := "wireBuilds", fn := fun _ => fun
  | [d] => { results := [.lit (.bool true)], args := [d] }
  | _ => none }
def wireBuildsRow : OpenClaim := { program := "ytpmbdjdhgcjkfaa", sum := "2c775dd18ac50c062650784c13c6827ef8351a0e07bdbfa31aec71493471456c", func := "sallyport/sallyportlaw04.WireBuilds", spec := "wireBuilds", apart := false }
def WireBuildsSaid : Prop := wireBuildsRow.holds Try.pinned (OpenSpec.ofChange wireBuildsSpec)

/-- ITS FALSE NEIGHBOUR: 'it returns false'. Refute it at one input. -/
def wireBuildsWrong : ChangeSpec := { name := "wireBuilds", fn := fun _ => fun
  | [d] => { results := [.lit (.bool false)], args := [d] }
  | _ => none }
def WireBuildsWrongFalsely : Prop := wireBuildsRow.holds Try.pinned (OpenSpec.ofChange wireBuildsWrong)

/-- 'sallyportlaw04.WireBack': WHATEVER THE INPUT: true; the input reads as it did. -/
def wireBackSpec : ChangeSpec := { name := "wireBack", fn := fun _ => fun
  | [d1, d2] => { results := [.lit (.bool true)], args := [d1, d2] }
  | _ => none }
def wireBackRow : OpenClaim := { program := "ytpmbdjdhgcjkfaa", sum := "2c775dd18ac50c062650784c13c6827ef8351a0e07bdbfa31aec71493471456c", func := "sallyport/sallyportlaw04.WireBack", spec := "wireBack", apart := false }
def WireBackSaid : Prop := wireBackRow.holds Try.pinned (OpenSpec.ofChange wireBackSpec)

/-- ITS FALSE NEIGHBOUR: 'it returns false'. Refute it at one input. -/
def wireBackWrong : ChangeSpec := { name := "wireBack", fn := fun _ => fun
  | [d1, d2] => { results := [.lit (.bool false)], args := [d1, d2] }
  | _ => none }
def WireBackWrongFalsely : Prop := wireBackRow.holds Try.pinned (OpenSpec.ofChange wireBackWrong)

/-- 'sallyportlaw04.WireRewrites': WHATEVER THE INPUT: true; the input reads as it did. -/
def wireRewritesSpec : ChangeSpec := { name := "wireRewrites", fn := fun _ => fun
  | [d1, d2] => { results := [.lit (.bool true)], args := [d1, d2] }
  | _ => none }
def wireRewritesRow : OpenClaim := { program := "ytpmbdjdhgcjkfaa", sum := "2c775dd18ac50c062650784c13c6827ef8351a0e07bdbfa31aec71493471456c", func := "sallyport/sallyportlaw04.WireRewrites", spec := "wireRewrites", apart := false }
def WireRewritesSaid : Prop := wireRewritesRow.holds Try.pinned (OpenSpec.ofChange wireRewritesSpec)

/-- ITS FALSE NEIGHBOUR: 'it returns false'. Refute it at one input. -/
def wireRewritesWrong : ChangeSpec := { name := "wireRewrites", fn := fun _ => fun
  | [d1, d2] => { results := [.lit (.bool false)], args := [d1, d2] }
  | _ => none }
def WireRewritesWrongFalsely : Prop := wireRewritesRow.holds Try.pinned (OpenSpec.ofChange wireRewritesWrong)

/- THE SECOND FORM. 'bulk': how many values and letters a reading holds, each counted each time it is reached (what is shared counts as often as it is met; a slice's spare places count too). A statement '..UptoSaid' is the law's where the arguments, and the package variables that the reading takes, are together of bulk at most 1048576: NARROWER than '..Said'. Prove '..Said' where nothing that the law and all that it calls make is longer than what came in: it says more and counts as full. Else prove '..UptoSaid'. A law counts once. -/
mutual
def uptoBulk {H : Type} : DataW H → Nat
  | .lit (.string bytes) => bytes.length + 1
  | .lit _ => 1
  | .nil => 1
  | .ptr d => uptoBulk d + 1
  | .slice elems spare => uptoBulkAll elems + uptoBulkAll spare + 1
  | .agg parts => uptoBulkAll parts + 1
  | .iface _ d => uptoBulk d + 1
  | .map entries => uptoBulkEntries entries + 1
  | .held _ => 1
def uptoBulkAll {H : Type} : List (DataW H) → Nat
  | [] => 0
  | d :: r => uptoBulk d + uptoBulkAll r
def uptoBulkEntries {H : Type} : List (Lit × DataW H) → Nat
  | [] => 0
  | x :: r => uptoBulkEntry x + uptoBulkEntries r
def uptoBulkEntry {H : Type} : Lit × DataW H → Nat
  | (.string bytes, d) => bytes.length + uptoBulk d + 1
  | (_, d) => uptoBulk d + 1
 end
def uptoSmall : (H : Type) → List (DataW H) → Bool := fun _ ds => decide (uptoBulkAll ds ≤ 1048576)
def OpenSpec.upto (s : _root_.Go.ChangeSpec) : _root_.Go.OpenSpec := { _root_.Go.OpenSpec.ofChange s with cond := some uptoSmall }

/-- 'sallyportlaw04.WireTwice', WHERE WHAT IT READS IS OF BULK AT MOST 1048576: true; the input reads as it did. -/
def wireTwiceUptoRow : OpenClaim := { program := "ytpmbdjdhgcjkfaa", sum := "2c775dd18ac50c062650784c13c6827ef8351a0e07bdbfa31aec71493471456c", func := "sallyport/sallyportlaw04.WireTwice", spec := "wireTwice", apart := false, narrowed := true }
def WireTwiceUptoSaid : Prop := wireTwiceUptoRow.holds Try.pinned (OpenSpec.upto wireTwiceSpec)

/-- 'sallyportlaw04.WireCut', WHERE WHAT IT READS IS OF BULK AT MOST 1048576: true; the input reads as it did. -/
def wireCutUptoRow : OpenClaim := { program := "ytpmbdjdhgcjkfaa", sum := "2c775dd18ac50c062650784c13c6827ef8351a0e07bdbfa31aec71493471456c", func := "sallyport/sallyportlaw04.WireCut", spec := "wireCut", apart := false, narrowed := true }
def WireCutUptoSaid : Prop := wireCutUptoRow.holds Try.pinned (OpenSpec.upto wireCutSpec)

/-- 'sallyportlaw04.WireParses', WHERE WHAT IT READS IS OF BULK AT MOST 1048576: true; the input reads as it did. -/
def wireParsesUptoRow : OpenClaim := { program := "ytpmbdjdhgcjkfaa", sum := "2c775dd18ac50c062650784c13c6827ef8351a0e07bdbfa31aec71493471456c", func := "sallyport/sallyportlaw04.WireParses", spec := "wireParses", apart := false, narrowed := true }
def WireParsesUptoSaid : Prop := wireParsesUptoRow.holds Try.pinned (OpenSpec.upto wireParsesSpec)

/-- 'sallyportlaw04.WireBuilds', WHERE WHAT IT READS IS OF BULK AT MOST 1048576: true; the input reads as it did. -/
def wireBuildsUptoRow : OpenClaim := { program := "ytpmbdjdhgcjkfaa", sum := "2c775dd18ac50c062650784c13c6827ef8351a0e07bdbfa31aec71493471456c", func := "sallyport/sallyportlaw04.WireBuilds", spec := "wireBuilds", apart := false, narrowed := true }
def WireBuildsUptoSaid : Prop := wireBuildsUptoRow.holds Try.pinned (OpenSpec.upto wireBuildsSpec)

/-- 'sallyportlaw04.WireBack', WHERE WHAT IT READS IS OF BULK AT MOST 1048576: true; the input reads as it did. -/
def wireBackUptoRow : OpenClaim := { program := "ytpmbdjdhgcjkfaa", sum := "2c775dd18ac50c062650784c13c6827ef8351a0e07bdbfa31aec71493471456c", func := "sallyport/sallyportlaw04.WireBack", spec := "wireBack", apart := false, narrowed := true }
def WireBackUptoSaid : Prop := wireBackUptoRow.holds Try.pinned (OpenSpec.upto wireBackSpec)

/-- 'sallyportlaw04.WireRewrites', WHERE WHAT IT READS IS OF BULK AT MOST 1048576: true; the input reads as it did. -/
def wireRewritesUptoRow : OpenClaim := { program := "ytpmbdjdhgcjkfaa", sum := "2c775dd18ac50c062650784c13c6827ef8351a0e07bdbfa31aec71493471456c", func := "sallyport/sallyportlaw04.WireRewrites", spec := "wireRewrites", apart := false, narrowed := true }
def WireRewritesUptoSaid : Prop := wireRewritesUptoRow.holds Try.pinned (OpenSpec.upto wireRewritesSpec)

end Rows
end Go.Proofs.Ytpmbdjdhgcjkfaa
