/-
  DERIVED. GIVEN WITH THE SEED: THE CARDS: each row of YtlfodemmdfaeeaaGreatDoorRows.lean that lists a variable, with what it lists TIED to the program's text (the seventh form; the later family's looks); each row that meets fmt, with fmt's text TOLD by the authors' own Lean function (tested against real Go, not proved from fmt's source: count such statements apart). THE CARD IS WHAT COUNTS. Prove the row's statement (the work); the ties are given (YtlfodemmdfaeeaaGreatDoorTie.lean); close each card by the builder's one call (the guide's Derived/Test/ToyasCard.lean, 'card_holds'). Laid BY PROGRAM, IN A SANDBOX (cutbox-door.mjs). By AI agents, Wed Nov 11 2026. No macro, syntax, notation, axiom, sorry.
-/
import Derived.Test.YtlfodemmdfaeeaaGreatDoorRows
import GoSem.ClaimSeven
namespace Go.Proofs.YtlfodemmdfaeeaaGreatDoor
namespace Rows

/-- THE TIED CARD OF 'blotterlaw06.ComposeDoes'. -/
def composeDoesCard : Claim7 := { stood := { row := composeDoesRow, standIns := [], harness := (true, "e87aa1b1dca098e011d2eefc09bb0adad48b3e4a3fc9a9fbb65fd5cd849b6699"), looks := false }, kinds := [], alts := [], laidByText := true, laidKinds := [.data, .pinned], laidTests := true, laidLooks := .later }
def ComposeDoesCardSaid : Prop := Claim7.holds Tryz.pinned (.plain (OpenSpec.ofChange composeDoesSpec)) composeDoesCard

/-- THE SECOND FORM's CARD OF 'blotterlaw06.ComposeDoes'. -/
def composeDoesUptoCard : Claim7 := { stood := { row := composeDoesUptoRow, standIns := [], harness := (true, "e87aa1b1dca098e011d2eefc09bb0adad48b3e4a3fc9a9fbb65fd5cd849b6699"), looks := false }, kinds := [], alts := [], laidByText := true, laidKinds := [.data, .pinned], laidTests := true, laidLooks := .later }
def ComposeDoesUptoCardSaid : Prop := Claim7.holds Tryz.pinned (.plain (OpenSpec.upto composeDoesSpec)) composeDoesUptoCard
end Rows
end Go.Proofs.YtlfodemmdfaeeaaGreatDoor
