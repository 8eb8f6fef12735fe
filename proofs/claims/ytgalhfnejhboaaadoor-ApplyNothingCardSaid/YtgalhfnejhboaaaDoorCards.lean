/-
  DERIVED. GIVEN WITH THE SEED: THE CARDS: each row of YtgalhfnejhboaaaDoorRows.lean that lists a variable, with what it lists TIED to the program's text (the seventh form; the later family's looks); each row that meets fmt, with fmt's text TOLD by the authors' own Lean function (tested against real Go, not proved from fmt's source: count such statements apart). THE CARD IS WHAT COUNTS. Prove the row's statement (the work); the ties are given (YtgalhfnejhboaaaDoorTie.lean); close each card by the builder's one call (the guide's Derived/Test/ToyasCard.lean, 'card_holds'). Laid BY PROGRAM, IN A SANDBOX (cutbox-door.mjs). By AI agents, Wed Nov 11 2026. No macro, syntax, notation, axiom, sorry.
-/
import Derived.Test.YtgalhfnejhboaaaDoorRows
import GoSem.ClaimSeven
namespace Go.Proofs.YtgalhfnejhboaaaDoor
namespace Rows

/-- THE TIED CARD OF 'blotterlaw05.ApplyBack'. -/
def applyBackCard : Claim7 := { stood := { row := applyBackRow, standIns := [], harness := (true, "b202220483476532929180719f8c4b58fc394125c620ed8cb4ebce85b216d204"), looks := false }, kinds := [], alts := [], laidByText := true, laidKinds := [.data, .pinned], laidTests := true, laidLooks := .later }
def ApplyBackCardSaid : Prop := Claim7.holds Tryd.pinned (.plain (OpenSpec.ofChange applyBackSpec)) applyBackCard

/-- THE TIED CARD OF 'blotterlaw05.ApplyParts'. -/
def applyPartsCard : Claim7 := { stood := { row := applyPartsRow, standIns := [], harness := (true, "b202220483476532929180719f8c4b58fc394125c620ed8cb4ebce85b216d204"), looks := false }, kinds := [], alts := [], laidByText := true, laidKinds := [.data, .pinned], laidTests := true, laidLooks := .later }
def ApplyPartsCardSaid : Prop := Claim7.holds Tryd.pinned (.plain (OpenSpec.ofChange applyPartsSpec)) applyPartsCard

/-- THE TIED CARD OF 'blotterlaw05.ApplyNothing'. -/
def applyNothingCard : Claim7 := { stood := { row := applyNothingRow, standIns := [], harness := (true, "b202220483476532929180719f8c4b58fc394125c620ed8cb4ebce85b216d204"), looks := false }, kinds := [], alts := [], laidByText := true, laidKinds := [.data, .pinned], laidTests := true, laidLooks := .later }
def ApplyNothingCardSaid : Prop := Claim7.holds Tryd.pinned (.plain (OpenSpec.ofChange applyNothingSpec)) applyNothingCard

/-- THE TIED CARD OF 'blotterlaw05.ApplyAhead'. -/
def applyAheadCard : Claim7 := { stood := { row := applyAheadRow, standIns := [], harness := (true, "b202220483476532929180719f8c4b58fc394125c620ed8cb4ebce85b216d204"), looks := false }, kinds := [], alts := [], laidByText := true, laidKinds := [.data, .pinned], laidTests := true, laidLooks := .later }
def ApplyAheadCardSaid : Prop := Claim7.holds Tryd.pinned (.plain (OpenSpec.ofChange applyAheadSpec)) applyAheadCard

/-- THE TIED CARD OF 'blotterlaw05.ApplyTwice'. -/
def applyTwiceCard : Claim7 := { stood := { row := applyTwiceRow, standIns := [], harness := (true, "b202220483476532929180719f8c4b58fc394125c620ed8cb4ebce85b216d204"), looks := false }, kinds := [], alts := [], laidByText := true, laidKinds := [.data, .pinned], laidTests := true, laidLooks := .later }
def ApplyTwiceCardSaid : Prop := Claim7.holds Tryd.pinned (.plain (OpenSpec.ofChange applyTwiceSpec)) applyTwiceCard

/-- THE SECOND FORM's CARD OF 'blotterlaw05.ApplyBack'. -/
def applyBackUptoCard : Claim7 := { stood := { row := applyBackUptoRow, standIns := [], harness := (true, "b202220483476532929180719f8c4b58fc394125c620ed8cb4ebce85b216d204"), looks := false }, kinds := [], alts := [], laidByText := true, laidKinds := [.data, .pinned], laidTests := true, laidLooks := .later }
def ApplyBackUptoCardSaid : Prop := Claim7.holds Tryd.pinned (.plain (OpenSpec.upto applyBackSpec)) applyBackUptoCard

/-- THE SECOND FORM's CARD OF 'blotterlaw05.ApplyParts'. -/
def applyPartsUptoCard : Claim7 := { stood := { row := applyPartsUptoRow, standIns := [], harness := (true, "b202220483476532929180719f8c4b58fc394125c620ed8cb4ebce85b216d204"), looks := false }, kinds := [], alts := [], laidByText := true, laidKinds := [.data, .pinned], laidTests := true, laidLooks := .later }
def ApplyPartsUptoCardSaid : Prop := Claim7.holds Tryd.pinned (.plain (OpenSpec.upto applyPartsSpec)) applyPartsUptoCard

/-- THE SECOND FORM's CARD OF 'blotterlaw05.ApplyNothing'. -/
def applyNothingUptoCard : Claim7 := { stood := { row := applyNothingUptoRow, standIns := [], harness := (true, "b202220483476532929180719f8c4b58fc394125c620ed8cb4ebce85b216d204"), looks := false }, kinds := [], alts := [], laidByText := true, laidKinds := [.data, .pinned], laidTests := true, laidLooks := .later }
def ApplyNothingUptoCardSaid : Prop := Claim7.holds Tryd.pinned (.plain (OpenSpec.upto applyNothingSpec)) applyNothingUptoCard

/-- THE SECOND FORM's CARD OF 'blotterlaw05.ApplyAhead'. -/
def applyAheadUptoCard : Claim7 := { stood := { row := applyAheadUptoRow, standIns := [], harness := (true, "b202220483476532929180719f8c4b58fc394125c620ed8cb4ebce85b216d204"), looks := false }, kinds := [], alts := [], laidByText := true, laidKinds := [.data, .pinned], laidTests := true, laidLooks := .later }
def ApplyAheadUptoCardSaid : Prop := Claim7.holds Tryd.pinned (.plain (OpenSpec.upto applyAheadSpec)) applyAheadUptoCard

/-- THE SECOND FORM's CARD OF 'blotterlaw05.ApplyTwice'. -/
def applyTwiceUptoCard : Claim7 := { stood := { row := applyTwiceUptoRow, standIns := [], harness := (true, "b202220483476532929180719f8c4b58fc394125c620ed8cb4ebce85b216d204"), looks := false }, kinds := [], alts := [], laidByText := true, laidKinds := [.data, .pinned], laidTests := true, laidLooks := .later }
def ApplyTwiceUptoCardSaid : Prop := Claim7.holds Tryd.pinned (.plain (OpenSpec.upto applyTwiceSpec)) applyTwiceUptoCard
end Rows
end Go.Proofs.YtgalhfnejhboaaaDoor
