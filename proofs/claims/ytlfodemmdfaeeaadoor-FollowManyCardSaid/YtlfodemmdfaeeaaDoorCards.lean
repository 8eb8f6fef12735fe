/-
  DERIVED. GIVEN WITH THE SEED: THE CARDS: each row of YtlfodemmdfaeeaaDoorRows.lean that lists a variable, with what it lists TIED to the program's text (the seventh form; the later family's looks); each row that meets fmt, with fmt's text TOLD by the authors' own Lean function (tested against real Go, not proved from fmt's source: count such statements apart). THE CARD IS WHAT COUNTS. Prove the row's statement (the work); the ties are given (YtlfodemmdfaeeaaDoorTie.lean); close each card by the builder's one call (the guide's Derived/Test/ToyasCard.lean, 'card_holds'). Laid BY PROGRAM, IN A SANDBOX (cutbox-door.mjs). By AI agents, Wed Nov 11 2026. No macro, syntax, notation, axiom, sorry.
-/
import Derived.Test.YtlfodemmdfaeeaaDoorRows
import GoSem.ClaimSeven
namespace Go.Proofs.YtlfodemmdfaeeaaDoor
namespace Rows

/-- THE TIED CARD OF 'blotterlaw06.ComposeBack'. -/
def composeBackCard : Claim7 := { stood := { row := composeBackRow, standIns := [], harness := (true, "2c56ff3a81caf74cf89fd4db17a903cd7a4348ec47db85ea779b4256dc442210"), looks := false }, kinds := [], alts := [], laidByText := true, laidKinds := [.data, .pinned], laidTests := true, laidLooks := .later }
def ComposeBackCardSaid : Prop := Claim7.holds Tryd.pinned (.plain (OpenSpec.ofChange composeBackSpec)) composeBackCard

/-- THE TIED CARD OF 'blotterlaw07.FollowDocuments'. -/
def followDocumentsCard : Claim7 := { stood := { row := followDocumentsRow, standIns := [], harness := (true, "2c56ff3a81caf74cf89fd4db17a903cd7a4348ec47db85ea779b4256dc442210"), looks := false }, kinds := [], alts := [], laidByText := true, laidKinds := [.data, .pinned], laidTests := true, laidLooks := .later }
def FollowDocumentsCardSaid : Prop := Claim7.holds Tryd.pinned (.plain (OpenSpec.ofChange followDocumentsSpec)) followDocumentsCard

/-- THE TIED CARD OF 'blotterlaw07.FollowMany'. -/
def followManyCard : Claim7 := { stood := { row := followManyRow, standIns := [], harness := (true, "2c56ff3a81caf74cf89fd4db17a903cd7a4348ec47db85ea779b4256dc442210"), looks := false }, kinds := [], alts := [], laidByText := true, laidKinds := [.data, .pinned], laidTests := true, laidLooks := .later }
def FollowManyCardSaid : Prop := Claim7.holds Tryd.pinned (.plain (OpenSpec.ofChange followManySpec)) followManyCard

/-- THE SECOND FORM's CARD OF 'blotterlaw06.ComposeBack'. -/
def composeBackUptoCard : Claim7 := { stood := { row := composeBackUptoRow, standIns := [], harness := (true, "2c56ff3a81caf74cf89fd4db17a903cd7a4348ec47db85ea779b4256dc442210"), looks := false }, kinds := [], alts := [], laidByText := true, laidKinds := [.data, .pinned], laidTests := true, laidLooks := .later }
def ComposeBackUptoCardSaid : Prop := Claim7.holds Tryd.pinned (.plain (OpenSpec.upto composeBackSpec)) composeBackUptoCard

/-- THE SECOND FORM's CARD OF 'blotterlaw07.FollowDocuments'. -/
def followDocumentsUptoCard : Claim7 := { stood := { row := followDocumentsUptoRow, standIns := [], harness := (true, "2c56ff3a81caf74cf89fd4db17a903cd7a4348ec47db85ea779b4256dc442210"), looks := false }, kinds := [], alts := [], laidByText := true, laidKinds := [.data, .pinned], laidTests := true, laidLooks := .later }
def FollowDocumentsUptoCardSaid : Prop := Claim7.holds Tryd.pinned (.plain (OpenSpec.upto followDocumentsSpec)) followDocumentsUptoCard

/-- THE SECOND FORM's CARD OF 'blotterlaw07.FollowMany'. -/
def followManyUptoCard : Claim7 := { stood := { row := followManyUptoRow, standIns := [], harness := (true, "2c56ff3a81caf74cf89fd4db17a903cd7a4348ec47db85ea779b4256dc442210"), looks := false }, kinds := [], alts := [], laidByText := true, laidKinds := [.data, .pinned], laidTests := true, laidLooks := .later }
def FollowManyUptoCardSaid : Prop := Claim7.holds Tryd.pinned (.plain (OpenSpec.upto followManySpec)) followManyUptoCard
end Rows
end Go.Proofs.YtlfodemmdfaeeaaDoor
