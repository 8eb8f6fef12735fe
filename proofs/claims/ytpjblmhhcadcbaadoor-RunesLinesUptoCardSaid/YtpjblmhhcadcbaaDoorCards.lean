/-
  DERIVED. GIVEN WITH THE SEED: THE CARDS: each row of YtpjblmhhcadcbaaDoorRows.lean that lists a variable, with what it lists TIED to the program's text (the seventh form; the later family's looks); each row that meets fmt, with fmt's text TOLD by the authors' own Lean function (tested against real Go, not proved from fmt's source: count such statements apart). THE CARD IS WHAT COUNTS. Prove the row's statement (the work); the ties are given (YtpjblmhhcadcbaaDoorTie.lean); close each card by the builder's one call (the guide's Derived/Test/ToyasCard.lean, 'card_holds'). Laid BY PROGRAM, IN A SANDBOX (cutbox-door.mjs). By AI agents, Wed Nov 11 2026. No macro, syntax, notation, axiom, sorry.
-/
import Derived.Test.YtpjblmhhcadcbaaDoorRows
import GoSem.ClaimSeven
namespace Go.Proofs.YtpjblmhhcadcbaaDoor
namespace Rows

/-- THE TIED CARD OF 'blotterlaw01.RunesCuts'. -/
def runesCutsCard : Claim7 := { stood := { row := runesCutsRow, standIns := [], harness := (true, "f5cbda4b6027ae138a394efb5bb1a38bab2391da9cc28ae9c0c9692cd7893ac2"), looks := false }, kinds := [], alts := [], laidByText := true, laidKinds := [.data, .pinned], laidTests := true, laidLooks := .later }
def RunesCutsCardSaid : Prop := Claim7.holds Tryd.pinned (.plain (OpenSpec.ofChange runesCutsSpec)) runesCutsCard

/-- THE TIED CARD OF 'blotterlaw01.RunesSplices'. -/
def runesSplicesCard : Claim7 := { stood := { row := runesSplicesRow, standIns := [], harness := (true, "f5cbda4b6027ae138a394efb5bb1a38bab2391da9cc28ae9c0c9692cd7893ac2"), looks := false }, kinds := [], alts := [], laidByText := true, laidKinds := [.data, .pinned], laidTests := true, laidLooks := .later }
def RunesSplicesCardSaid : Prop := Claim7.holds Tryd.pinned (.plain (OpenSpec.ofChange runesSplicesSpec)) runesSplicesCard

/-- THE TIED CARD OF 'blotterlaw01.RunesAlike'. -/
def runesAlikeCard : Claim7 := { stood := { row := runesAlikeRow, standIns := [], harness := (true, "f5cbda4b6027ae138a394efb5bb1a38bab2391da9cc28ae9c0c9692cd7893ac2"), looks := false }, kinds := [], alts := [], laidByText := true, laidKinds := [.data, .pinned], laidTests := true, laidLooks := .later }
def RunesAlikeCardSaid : Prop := Claim7.holds Tryd.pinned (.plain (OpenSpec.ofChange runesAlikeSpec)) runesAlikeCard

/-- THE TIED CARD OF 'blotterlaw01.RunesLines'. -/
def runesLinesCard : Claim7 := { stood := { row := runesLinesRow, standIns := [], harness := (true, "f5cbda4b6027ae138a394efb5bb1a38bab2391da9cc28ae9c0c9692cd7893ac2"), looks := false }, kinds := [], alts := [], laidByText := true, laidKinds := [.data, .pinned], laidTests := true, laidLooks := .later }
def RunesLinesCardSaid : Prop := Claim7.holds Tryd.pinned (.plain (OpenSpec.ofChange runesLinesSpec)) runesLinesCard

/-- THE TIED CARD OF 'blotterlaw01.RunesBack'. -/
def runesBackCard : Claim7 := { stood := { row := runesBackRow, standIns := [], harness := (true, "f5cbda4b6027ae138a394efb5bb1a38bab2391da9cc28ae9c0c9692cd7893ac2"), looks := false }, kinds := [], alts := [], laidByText := true, laidKinds := [.data, .pinned], laidTests := true, laidLooks := .later }
def RunesBackCardSaid : Prop := Claim7.holds Tryd.pinned (.plain (OpenSpec.ofChange runesBackSpec)) runesBackCard

/-- THE TIED CARD OF 'blotterlaw01.RunesPlaces'. -/
def runesPlacesCard : Claim7 := { stood := { row := runesPlacesRow, standIns := [], harness := (true, "f5cbda4b6027ae138a394efb5bb1a38bab2391da9cc28ae9c0c9692cd7893ac2"), looks := false }, kinds := [], alts := [], laidByText := true, laidKinds := [.data, .pinned], laidTests := true, laidLooks := .later }
def RunesPlacesCardSaid : Prop := Claim7.holds Tryd.pinned (.plain (OpenSpec.ofChange runesPlacesSpec)) runesPlacesCard

/-- THE SECOND FORM's CARD OF 'blotterlaw01.RunesCuts'. -/
def runesCutsUptoCard : Claim7 := { stood := { row := runesCutsUptoRow, standIns := [], harness := (true, "f5cbda4b6027ae138a394efb5bb1a38bab2391da9cc28ae9c0c9692cd7893ac2"), looks := false }, kinds := [], alts := [], laidByText := true, laidKinds := [.data, .pinned], laidTests := true, laidLooks := .later }
def RunesCutsUptoCardSaid : Prop := Claim7.holds Tryd.pinned (.plain (OpenSpec.upto runesCutsSpec)) runesCutsUptoCard

/-- THE SECOND FORM's CARD OF 'blotterlaw01.RunesSplices'. -/
def runesSplicesUptoCard : Claim7 := { stood := { row := runesSplicesUptoRow, standIns := [], harness := (true, "f5cbda4b6027ae138a394efb5bb1a38bab2391da9cc28ae9c0c9692cd7893ac2"), looks := false }, kinds := [], alts := [], laidByText := true, laidKinds := [.data, .pinned], laidTests := true, laidLooks := .later }
def RunesSplicesUptoCardSaid : Prop := Claim7.holds Tryd.pinned (.plain (OpenSpec.upto runesSplicesSpec)) runesSplicesUptoCard

/-- THE SECOND FORM's CARD OF 'blotterlaw01.RunesAlike'. -/
def runesAlikeUptoCard : Claim7 := { stood := { row := runesAlikeUptoRow, standIns := [], harness := (true, "f5cbda4b6027ae138a394efb5bb1a38bab2391da9cc28ae9c0c9692cd7893ac2"), looks := false }, kinds := [], alts := [], laidByText := true, laidKinds := [.data, .pinned], laidTests := true, laidLooks := .later }
def RunesAlikeUptoCardSaid : Prop := Claim7.holds Tryd.pinned (.plain (OpenSpec.upto runesAlikeSpec)) runesAlikeUptoCard

/-- THE SECOND FORM's CARD OF 'blotterlaw01.RunesLines'. -/
def runesLinesUptoCard : Claim7 := { stood := { row := runesLinesUptoRow, standIns := [], harness := (true, "f5cbda4b6027ae138a394efb5bb1a38bab2391da9cc28ae9c0c9692cd7893ac2"), looks := false }, kinds := [], alts := [], laidByText := true, laidKinds := [.data, .pinned], laidTests := true, laidLooks := .later }
def RunesLinesUptoCardSaid : Prop := Claim7.holds Tryd.pinned (.plain (OpenSpec.upto runesLinesSpec)) runesLinesUptoCard

/-- THE SECOND FORM's CARD OF 'blotterlaw01.RunesBack'. -/
def runesBackUptoCard : Claim7 := { stood := { row := runesBackUptoRow, standIns := [], harness := (true, "f5cbda4b6027ae138a394efb5bb1a38bab2391da9cc28ae9c0c9692cd7893ac2"), looks := false }, kinds := [], alts := [], laidByText := true, laidKinds := [.data, .pinned], laidTests := true, laidLooks := .later }
def RunesBackUptoCardSaid : Prop := Claim7.holds Tryd.pinned (.plain (OpenSpec.upto runesBackSpec)) runesBackUptoCard

/-- THE SECOND FORM's CARD OF 'blotterlaw01.RunesPlaces'. -/
def runesPlacesUptoCard : Claim7 := { stood := { row := runesPlacesUptoRow, standIns := [], harness := (true, "f5cbda4b6027ae138a394efb5bb1a38bab2391da9cc28ae9c0c9692cd7893ac2"), looks := false }, kinds := [], alts := [], laidByText := true, laidKinds := [.data, .pinned], laidTests := true, laidLooks := .later }
def RunesPlacesUptoCardSaid : Prop := Claim7.holds Tryd.pinned (.plain (OpenSpec.upto runesPlacesSpec)) runesPlacesUptoCard
end Rows
end Go.Proofs.YtpjblmhhcadcbaaDoor
