/-
  DERIVED. GIVEN WITH THE SEED: THE CARDS: each row of YtaafflmkfdicdaaDoorRows.lean that lists a variable, with what it lists TIED to the program's text (the seventh form; the later family's looks); each row that meets fmt, with fmt's text TOLD by the authors' own Lean function (tested against real Go, not proved from fmt's source: count such statements apart). THE CARD IS WHAT COUNTS. Prove the row's statement (the work); the ties are given (YtaafflmkfdicdaaDoorTie.lean); close each card by the builder's one call (the guide's Derived/Test/ToyasCard.lean, 'card_holds'). Laid BY PROGRAM, IN A SANDBOX (cutbox-door.mjs). By AI agents, Wed Nov 11 2026. No macro, syntax, notation, axiom, sorry.
-/
import Derived.Test.YtaafflmkfdicdaaDoorRows
import GoSem.ClaimSeven
namespace Go.Proofs.YtaafflmkfdicdaaDoor
namespace Rows

/-- THE TIED CARD OF 'sallyportlaw03.AddrRangeBack'. -/
def addrRangeBackCard : Claim7 := { stood := { row := addrRangeBackRow, standIns := [], harness := (true, "303ee96097cb7f92a63176aa636d751666a54b622f1a4b4f6b4fd8889cff3b5b"), looks := true }, kinds := [], alts := [], laidByText := true, laidKinds := [.data, .data, .data, .data, .sentinel, .sentinel, .pinned], laidTests := true, laidLooks := .later }
def AddrRangeBackCardSaid : Prop := Claim7.holds Tryd.pinned (.plain (OpenSpec.ofChange addrRangeBackSpec)) addrRangeBackCard

/-- THE SECOND FORM's CARD OF 'sallyportlaw03.AddrRangeBack'. -/
def addrRangeBackUptoCard : Claim7 := { stood := { row := addrRangeBackUptoRow, standIns := [], harness := (true, "303ee96097cb7f92a63176aa636d751666a54b622f1a4b4f6b4fd8889cff3b5b"), looks := true }, kinds := [], alts := [], laidByText := true, laidKinds := [.data, .data, .data, .data, .sentinel, .sentinel, .pinned], laidTests := true, laidLooks := .later }
def AddrRangeBackUptoCardSaid : Prop := Claim7.holds Tryd.pinned (.plain (OpenSpec.upto addrRangeBackSpec)) addrRangeBackUptoCard
end Rows
end Go.Proofs.YtaafflmkfdicdaaDoor
