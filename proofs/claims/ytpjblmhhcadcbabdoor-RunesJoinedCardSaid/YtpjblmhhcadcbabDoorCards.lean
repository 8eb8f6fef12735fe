/-
  DERIVED. GIVEN WITH THE SEED: THE CARDS: each row of YtpjblmhhcadcbabDoorRows.lean that lists a variable, with what it lists TIED to the program's text (the seventh form; the later family's looks); each row that meets fmt, with fmt's text TOLD by the authors' own Lean function (tested against real Go, not proved from fmt's source: count such statements apart). THE CARD IS WHAT COUNTS. Prove the row's statement (the work); the ties are given (YtpjblmhhcadcbabDoorTie.lean); close each card by the builder's one call (the guide's Derived/Test/ToyasCard.lean, 'card_holds'). Laid BY PROGRAM, IN A SANDBOX (cutbox-door.mjs). By AI agents, Wed Nov 11 2026. No macro, syntax, notation, axiom, sorry.
-/
import Derived.Test.YtpjblmhhcadcbabDoorRows
import GoSem.ClaimSeven
namespace Go.Proofs.YtpjblmhhcadcbabDoor
namespace Rows

/-- THE TIED CARD OF 'blotterlaw01.RunesSame'. -/
def runesSameCard : Claim7 := { stood := { row := runesSameRow, standIns := [], harness := (true, "ff16d754f1010ad9a9e913c20d78a3ad80249f7c36bf5e69c690ef719a084443"), looks := false }, kinds := [], alts := [], laidByText := true, laidKinds := [.data, .pinned], laidTests := true, laidLooks := .later }
def RunesSameCardSaid : Prop := Claim7.holds Tryd.pinned (.plain (OpenSpec.ofChange runesSameSpec)) runesSameCard

/-- THE TIED CARD OF 'blotterlaw01.RunesJoined'. -/
def runesJoinedCard : Claim7 := { stood := { row := runesJoinedRow, standIns := [], harness := (true, "ff16d754f1010ad9a9e913c20d78a3ad80249f7c36bf5e69c690ef719a084443"), looks := false }, kinds := [], alts := [], laidByText := true, laidKinds := [.data, .pinned], laidTests := true, laidLooks := .later }
def RunesJoinedCardSaid : Prop := Claim7.holds Tryd.pinned (.plain (OpenSpec.ofChange runesJoinedSpec)) runesJoinedCard

/-- THE SECOND FORM's CARD OF 'blotterlaw01.RunesSame'. -/
def runesSameUptoCard : Claim7 := { stood := { row := runesSameUptoRow, standIns := [], harness := (true, "ff16d754f1010ad9a9e913c20d78a3ad80249f7c36bf5e69c690ef719a084443"), looks := false }, kinds := [], alts := [], laidByText := true, laidKinds := [.data, .pinned], laidTests := true, laidLooks := .later }
def RunesSameUptoCardSaid : Prop := Claim7.holds Tryd.pinned (.plain (OpenSpec.upto runesSameSpec)) runesSameUptoCard

/-- THE SECOND FORM's CARD OF 'blotterlaw01.RunesJoined'. -/
def runesJoinedUptoCard : Claim7 := { stood := { row := runesJoinedUptoRow, standIns := [], harness := (true, "ff16d754f1010ad9a9e913c20d78a3ad80249f7c36bf5e69c690ef719a084443"), looks := false }, kinds := [], alts := [], laidByText := true, laidKinds := [.data, .pinned], laidTests := true, laidLooks := .later }
def RunesJoinedUptoCardSaid : Prop := Claim7.holds Tryd.pinned (.plain (OpenSpec.upto runesJoinedSpec)) runesJoinedUptoCard
end Rows
end Go.Proofs.YtpjblmhhcadcbabDoor
