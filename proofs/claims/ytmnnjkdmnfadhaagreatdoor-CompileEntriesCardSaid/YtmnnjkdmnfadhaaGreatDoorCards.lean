/-
  DERIVED. GIVEN WITH THE SEED: THE CARDS: each row of YtmnnjkdmnfadhaaGreatDoorRows.lean that lists a variable, with what it lists TIED to the program's text (the seventh form; the later family's looks); each row that meets fmt, with fmt's text TOLD by the authors' own Lean function (tested against real Go, not proved from fmt's source: count such statements apart). THE CARD IS WHAT COUNTS. Prove the row's statement (the work); the ties are given (YtmnnjkdmnfadhaaGreatDoorTie.lean); close each card by the builder's one call (the guide's Derived/Test/ToyasCard.lean, 'card_holds'). Laid BY PROGRAM, IN A SANDBOX (cutbox-door.mjs). By AI agents, Wed Nov 11 2026. No macro, syntax, notation, axiom, sorry.
-/
import Derived.Test.YtmnnjkdmnfadhaaGreatDoorRows
import GoSem.ClaimSeven
namespace Go.Proofs.YtmnnjkdmnfadhaaGreatDoor
namespace Rows

/-- THE TIED CARD OF 'sallyportlaw06.LangChecks'. -/
def langChecksCard : Claim7 := { stood := { row := langChecksRow, standIns := [], harness := (true, "5ed9d2e401375a85925eb91b37699806d71f5660fad7099057e496823dad1b8f"), looks := false }, kinds := [], alts := [], laidByText := true, laidKinds := [.data, .data, .data], laidTests := true, laidLooks := .later }
def LangChecksCardSaid : Prop := Claim7.holds Tryz.pinned (.plain (OpenSpec.ofChange langChecksSpec)) langChecksCard

/-- THE TIED CARD OF 'sallyportlaw10.CompileEntries'. -/
def compileEntriesCard : Claim7 := { stood := { row := compileEntriesRow, standIns := [], harness := (true, "5ed9d2e401375a85925eb91b37699806d71f5660fad7099057e496823dad1b8f"), looks := false }, kinds := [], alts := [], laidByText := true, laidKinds := [.data, .data, .data], laidTests := true, laidLooks := .later }
def CompileEntriesCardSaid : Prop := Claim7.holds Tryz.pinned (.plain (OpenSpec.ofChange compileEntriesSpec)) compileEntriesCard

/-- THE SECOND FORM's CARD OF 'sallyportlaw06.LangChecks'. -/
def langChecksUptoCard : Claim7 := { stood := { row := langChecksUptoRow, standIns := [], harness := (true, "5ed9d2e401375a85925eb91b37699806d71f5660fad7099057e496823dad1b8f"), looks := false }, kinds := [], alts := [], laidByText := true, laidKinds := [.data, .data, .data], laidTests := true, laidLooks := .later }
def LangChecksUptoCardSaid : Prop := Claim7.holds Tryz.pinned (.plain (OpenSpec.upto langChecksSpec)) langChecksUptoCard

/-- THE SECOND FORM's CARD OF 'sallyportlaw10.CompileEntries'. -/
def compileEntriesUptoCard : Claim7 := { stood := { row := compileEntriesUptoRow, standIns := [], harness := (true, "5ed9d2e401375a85925eb91b37699806d71f5660fad7099057e496823dad1b8f"), looks := false }, kinds := [], alts := [], laidByText := true, laidKinds := [.data, .data, .data], laidTests := true, laidLooks := .later }
def CompileEntriesUptoCardSaid : Prop := Claim7.holds Tryz.pinned (.plain (OpenSpec.upto compileEntriesSpec)) compileEntriesUptoCard
end Rows
end Go.Proofs.YtmnnjkdmnfadhaaGreatDoor
