/-
  DERIVED. GIVEN WITH THE SEED: THE CARDS: each row of YtadookafnfnaoaaGreatDoorRows.lean that lists a variable, with what it lists TIED to the program's text (the seventh form; the later family's looks); each row that meets fmt, with fmt's text TOLD by the authors' own Lean function (tested against real Go, not proved from fmt's source: count such statements apart). THE CARD IS WHAT COUNTS. Prove the row's statement (the work); the ties are given (YtadookafnfnaoaaGreatDoorTie.lean); close each card by the builder's one call (the guide's Derived/Test/ToyasCard.lean, 'card_holds'). Laid BY PROGRAM, IN A SANDBOX (cutbox-door.mjs). By AI agents, Wed Nov 11 2026. No macro, syntax, notation, axiom, sorry.
-/
import Derived.Test.YtadookafnfnaoaaGreatDoorRows
import GoSem.ClaimSeven
namespace Go.Proofs.YtadookafnfnaoaaGreatDoor
namespace Rows

/-- THE TIED CARD OF 'blotterlaw04.SpellPrints'. -/
def spellPrintsCard : Claim7 := { stood := { row := spellPrintsRow, standIns := [], harness := (true, "b2ce036cfd8769c59bc05ac56c4f4ce64f0ac52972153c036ec7692a3ea1f82b"), looks := true }, kinds := [], alts := [], laidByText := true, laidKinds := [.data, .data, .data, .data, .sentinel, .sentinel, .pinned], laidTests := true, laidLooks := .later }
def SpellPrintsCardSaid : Prop := Claim7.holds Tryz.pinned (.plain (OpenSpec.ofChange spellPrintsSpec)) spellPrintsCard

/-- THE TIED CARD OF 'blotterlaw04.SpellParses'. -/
def spellParsesCard : Claim7 := { stood := { row := spellParsesRow, standIns := [], harness := (true, "b2ce036cfd8769c59bc05ac56c4f4ce64f0ac52972153c036ec7692a3ea1f82b"), looks := true }, kinds := [], alts := [], laidByText := true, laidKinds := [.data, .data, .data, .sentinel, .sentinel], laidTests := true, laidLooks := .later }
def SpellParsesCardSaid : Prop := Claim7.holds Tryz.pinned (.plain (OpenSpec.ofChange spellParsesSpec)) spellParsesCard

/-- THE TIED CARD OF 'blotterlaw04.SpellBack'. -/
def spellBackCard : Claim7 := { stood := { row := spellBackRow, standIns := [], harness := (true, "b2ce036cfd8769c59bc05ac56c4f4ce64f0ac52972153c036ec7692a3ea1f82b"), looks := true }, kinds := [], alts := [], laidByText := true, laidKinds := [.data, .data, .data, .sentinel, .sentinel], laidTests := true, laidLooks := .later }
def SpellBackCardSaid : Prop := Claim7.holds Tryz.pinned (.plain (OpenSpec.ofChange spellBackSpec)) spellBackCard

/-- THE TIED CARD OF 'blotterlaw04.SpellForm'. -/
def spellFormCard : Claim7 := { stood := { row := spellFormRow, standIns := [], harness := (true, "b2ce036cfd8769c59bc05ac56c4f4ce64f0ac52972153c036ec7692a3ea1f82b"), looks := true }, kinds := [], alts := [], laidByText := true, laidKinds := [.data, .data, .data, .sentinel, .sentinel], laidTests := true, laidLooks := .later }
def SpellFormCardSaid : Prop := Claim7.holds Tryz.pinned (.plain (OpenSpec.ofChange spellFormSpec)) spellFormCard

/-- THE TIED CARD OF 'blotterlaw04.SpellPlain'. -/
def spellPlainCard : Claim7 := { stood := { row := spellPlainRow, standIns := [], harness := (true, "b2ce036cfd8769c59bc05ac56c4f4ce64f0ac52972153c036ec7692a3ea1f82b"), looks := true }, kinds := [], alts := [], laidByText := true, laidKinds := [.data, .data, .data, .data, .sentinel, .sentinel, .pinned], laidTests := true, laidLooks := .later }
def SpellPlainCardSaid : Prop := Claim7.holds Tryz.pinned (.plain (OpenSpec.ofChange spellPlainSpec)) spellPlainCard

/-- THE TIED CARD OF 'blotterlaw04.SpellUnlike'. -/
def spellUnlikeCard : Claim7 := { stood := { row := spellUnlikeRow, standIns := [], harness := (true, "b2ce036cfd8769c59bc05ac56c4f4ce64f0ac52972153c036ec7692a3ea1f82b"), looks := true }, kinds := [], alts := [], laidByText := true, laidKinds := [.data, .data, .data, .sentinel, .sentinel], laidTests := true, laidLooks := .later }
def SpellUnlikeCardSaid : Prop := Claim7.holds Tryz.pinned (.plain (OpenSpec.ofChange spellUnlikeSpec)) spellUnlikeCard

/-- THE TIED CARD OF 'blotterlaw04.SpellReads'. -/
def spellReadsCard : Claim7 := { stood := { row := spellReadsRow, standIns := [], harness := (true, "b2ce036cfd8769c59bc05ac56c4f4ce64f0ac52972153c036ec7692a3ea1f82b"), looks := true }, kinds := [], alts := [], laidByText := true, laidKinds := [.data, .data, .data, .data, .sentinel, .sentinel, .pinned], laidTests := true, laidLooks := .later }
def SpellReadsCardSaid : Prop := Claim7.holds Tryz.pinned (.plain (OpenSpec.ofChange spellReadsSpec)) spellReadsCard

/-- THE SECOND FORM's CARD OF 'blotterlaw04.SpellPrints'. -/
def spellPrintsUptoCard : Claim7 := { stood := { row := spellPrintsUptoRow, standIns := [], harness := (true, "b2ce036cfd8769c59bc05ac56c4f4ce64f0ac52972153c036ec7692a3ea1f82b"), looks := true }, kinds := [], alts := [], laidByText := true, laidKinds := [.data, .data, .data, .data, .sentinel, .sentinel, .pinned], laidTests := true, laidLooks := .later }
def SpellPrintsUptoCardSaid : Prop := Claim7.holds Tryz.pinned (.plain (OpenSpec.upto spellPrintsSpec)) spellPrintsUptoCard

/-- THE SECOND FORM's CARD OF 'blotterlaw04.SpellParses'. -/
def spellParsesUptoCard : Claim7 := { stood := { row := spellParsesUptoRow, standIns := [], harness := (true, "b2ce036cfd8769c59bc05ac56c4f4ce64f0ac52972153c036ec7692a3ea1f82b"), looks := true }, kinds := [], alts := [], laidByText := true, laidKinds := [.data, .data, .data, .sentinel, .sentinel], laidTests := true, laidLooks := .later }
def SpellParsesUptoCardSaid : Prop := Claim7.holds Tryz.pinned (.plain (OpenSpec.upto spellParsesSpec)) spellParsesUptoCard

/-- THE SECOND FORM's CARD OF 'blotterlaw04.SpellBack'. -/
def spellBackUptoCard : Claim7 := { stood := { row := spellBackUptoRow, standIns := [], harness := (true, "b2ce036cfd8769c59bc05ac56c4f4ce64f0ac52972153c036ec7692a3ea1f82b"), looks := true }, kinds := [], alts := [], laidByText := true, laidKinds := [.data, .data, .data, .sentinel, .sentinel], laidTests := true, laidLooks := .later }
def SpellBackUptoCardSaid : Prop := Claim7.holds Tryz.pinned (.plain (OpenSpec.upto spellBackSpec)) spellBackUptoCard

/-- THE SECOND FORM's CARD OF 'blotterlaw04.SpellForm'. -/
def spellFormUptoCard : Claim7 := { stood := { row := spellFormUptoRow, standIns := [], harness := (true, "b2ce036cfd8769c59bc05ac56c4f4ce64f0ac52972153c036ec7692a3ea1f82b"), looks := true }, kinds := [], alts := [], laidByText := true, laidKinds := [.data, .data, .data, .sentinel, .sentinel], laidTests := true, laidLooks := .later }
def SpellFormUptoCardSaid : Prop := Claim7.holds Tryz.pinned (.plain (OpenSpec.upto spellFormSpec)) spellFormUptoCard

/-- THE SECOND FORM's CARD OF 'blotterlaw04.SpellPlain'. -/
def spellPlainUptoCard : Claim7 := { stood := { row := spellPlainUptoRow, standIns := [], harness := (true, "b2ce036cfd8769c59bc05ac56c4f4ce64f0ac52972153c036ec7692a3ea1f82b"), looks := true }, kinds := [], alts := [], laidByText := true, laidKinds := [.data, .data, .data, .data, .sentinel, .sentinel, .pinned], laidTests := true, laidLooks := .later }
def SpellPlainUptoCardSaid : Prop := Claim7.holds Tryz.pinned (.plain (OpenSpec.upto spellPlainSpec)) spellPlainUptoCard

/-- THE SECOND FORM's CARD OF 'blotterlaw04.SpellUnlike'. -/
def spellUnlikeUptoCard : Claim7 := { stood := { row := spellUnlikeUptoRow, standIns := [], harness := (true, "b2ce036cfd8769c59bc05ac56c4f4ce64f0ac52972153c036ec7692a3ea1f82b"), looks := true }, kinds := [], alts := [], laidByText := true, laidKinds := [.data, .data, .data, .sentinel, .sentinel], laidTests := true, laidLooks := .later }
def SpellUnlikeUptoCardSaid : Prop := Claim7.holds Tryz.pinned (.plain (OpenSpec.upto spellUnlikeSpec)) spellUnlikeUptoCard

/-- THE SECOND FORM's CARD OF 'blotterlaw04.SpellReads'. -/
def spellReadsUptoCard : Claim7 := { stood := { row := spellReadsUptoRow, standIns := [], harness := (true, "b2ce036cfd8769c59bc05ac56c4f4ce64f0ac52972153c036ec7692a3ea1f82b"), looks := true }, kinds := [], alts := [], laidByText := true, laidKinds := [.data, .data, .data, .data, .sentinel, .sentinel, .pinned], laidTests := true, laidLooks := .later }
def SpellReadsUptoCardSaid : Prop := Claim7.holds Tryz.pinned (.plain (OpenSpec.upto spellReadsSpec)) spellReadsUptoCard
end Rows
end Go.Proofs.YtadookafnfnaoaaGreatDoor
