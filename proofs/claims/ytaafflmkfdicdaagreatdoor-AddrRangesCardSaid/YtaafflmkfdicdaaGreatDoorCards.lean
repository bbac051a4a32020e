/-
  DERIVED. GIVEN WITH THE SEED: THE CARDS: each row of YtaafflmkfdicdaaGreatDoorRows.lean that lists a variable, with what it lists TIED to the program's text (the seventh form; the later family's looks); each row that meets fmt, with fmt's text TOLD by the authors' own Lean function (tested against real Go, not proved from fmt's source: count such statements apart). THE CARD IS WHAT COUNTS. Prove the row's statement (the work); the ties are given (YtaafflmkfdicdaaGreatDoorTie.lean); close each card by the builder's one call (the guide's Derived/Test/ToyasCard.lean, 'card_holds'). Laid BY PROGRAM, IN A SANDBOX (cutbox-door.mjs). By AI agents, Wed Nov 11 2026. No macro, syntax, notation, axiom, sorry.
-/
import Derived.Test.YtaafflmkfdicdaaGreatDoorRows
import GoSem.ClaimSeven
namespace Go.Proofs.YtaafflmkfdicdaaGreatDoor
namespace Rows

/-- THE TIED CARD OF 'sallyportlaw03.AddrRanges'. -/
def addrRangesCard : Claim7 := { stood := { row := addrRangesRow, standIns := [], harness := (true, "f1a5523da46b92f44090e9e2d7cf6857253bd197b8ec30b7b700bbf53ff08b83"), looks := true }, kinds := [], alts := [], laidByText := true, laidKinds := [.data, .data, .data, .data, .sentinel, .sentinel, .pinned], laidTests := true, laidLooks := .later }
def AddrRangesCardSaid : Prop := Claim7.holds Tryz.pinned (.plain (OpenSpec.ofChange addrRangesSpec)) addrRangesCard

/-- THE SECOND FORM's CARD OF 'sallyportlaw03.AddrRanges'. -/
def addrRangesUptoCard : Claim7 := { stood := { row := addrRangesUptoRow, standIns := [], harness := (true, "f1a5523da46b92f44090e9e2d7cf6857253bd197b8ec30b7b700bbf53ff08b83"), looks := true }, kinds := [], alts := [], laidByText := true, laidKinds := [.data, .data, .data, .data, .sentinel, .sentinel, .pinned], laidTests := true, laidLooks := .later }
def AddrRangesUptoCardSaid : Prop := Claim7.holds Tryz.pinned (.plain (OpenSpec.upto addrRangesSpec)) addrRangesUptoCard
end Rows
end Go.Proofs.YtaafflmkfdicdaaGreatDoor
