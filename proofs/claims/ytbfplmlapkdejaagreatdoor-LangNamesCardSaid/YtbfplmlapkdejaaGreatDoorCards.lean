/-
  DERIVED. GIVEN WITH THE SEED: THE CARDS: each row of YtbfplmlapkdejaaGreatDoorRows.lean that lists a variable, with what it lists TIED to the program's text (the seventh form; the later family's looks); each row that meets fmt, with fmt's text TOLD by the authors' own Lean function (tested against real Go, not proved from fmt's source: count such statements apart). THE CARD IS WHAT COUNTS. Prove the row's statement (the work); the ties are given (YtbfplmlapkdejaaGreatDoorTie.lean); close each card by the builder's one call (the guide's Derived/Test/ToyasCard.lean, 'card_holds'). Laid BY PROGRAM, IN A SANDBOX (cutbox-door.mjs). By AI agents, Wed Nov 11 2026. No macro, syntax, notation, axiom, sorry.
-/
import Derived.Test.YtbfplmlapkdejaaGreatDoorRows
import GoSem.ClaimSeven
namespace Go.Proofs.YtbfplmlapkdejaaGreatDoor
namespace Rows

/-- THE TIED CARD OF 'sallyportlaw06.LangNames'. -/
def langNamesCard : Claim7 := { stood := { row := langNamesRow, standIns := [], harness := (true, "683dd1eaabe7c528f2b6b66e3f26ae68e2db30f4ff1d1a7c5950d018c68dedb5"), looks := false }, kinds := [], alts := [], laidByText := true, laidKinds := [.data, .data, .data], laidTests := true, laidLooks := .later }
def LangNamesCardSaid : Prop := Claim7.holds Tryz.pinned (.plain (OpenSpec.ofChange langNamesSpec)) langNamesCard

/-- THE TIED CARD OF 'sallyportlaw06.LangChecks'. -/
def langChecksCard : Claim7 := { stood := { row := langChecksRow, standIns := [], harness := (true, "683dd1eaabe7c528f2b6b66e3f26ae68e2db30f4ff1d1a7c5950d018c68dedb5"), looks := false }, kinds := [], alts := [], laidByText := true, laidKinds := [.data, .data, .data], laidTests := true, laidLooks := .later }
def LangChecksCardSaid : Prop := Claim7.holds Tryz.pinned (.plain (OpenSpec.ofChange langChecksSpec)) langChecksCard

/-- THE SECOND FORM's CARD OF 'sallyportlaw06.LangNames'. -/
def langNamesUptoCard : Claim7 := { stood := { row := langNamesUptoRow, standIns := [], harness := (true, "683dd1eaabe7c528f2b6b66e3f26ae68e2db30f4ff1d1a7c5950d018c68dedb5"), looks := false }, kinds := [], alts := [], laidByText := true, laidKinds := [.data, .data, .data], laidTests := true, laidLooks := .later }
def LangNamesUptoCardSaid : Prop := Claim7.holds Tryz.pinned (.plain (OpenSpec.upto langNamesSpec)) langNamesUptoCard

/-- THE SECOND FORM's CARD OF 'sallyportlaw06.LangChecks'. -/
def langChecksUptoCard : Claim7 := { stood := { row := langChecksUptoRow, standIns := [], harness := (true, "683dd1eaabe7c528f2b6b66e3f26ae68e2db30f4ff1d1a7c5950d018c68dedb5"), looks := false }, kinds := [], alts := [], laidByText := true, laidKinds := [.data, .data, .data], laidTests := true, laidLooks := .later }
def LangChecksUptoCardSaid : Prop := Claim7.holds Tryz.pinned (.plain (OpenSpec.upto langChecksSpec)) langChecksUptoCard
end Rows
end Go.Proofs.YtbfplmlapkdejaaGreatDoor
