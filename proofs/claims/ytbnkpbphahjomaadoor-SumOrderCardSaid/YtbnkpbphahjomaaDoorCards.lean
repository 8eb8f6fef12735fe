/-
  DERIVED. GIVEN WITH THE SEED: THE CARDS: each row of YtbnkpbphahjomaaDoorRows.lean that lists a variable, with what it lists TIED to the program's text (the seventh form; the later family's looks); each row that meets fmt, with fmt's text TOLD by the authors' own Lean function (tested against real Go, not proved from fmt's source: count such statements apart). THE CARD IS WHAT COUNTS. Prove the row's statement (the work); the ties are given (YtbnkpbphahjomaaDoorTie.lean); close each card by the builder's one call (the guide's Derived/Test/ToyasCard.lean, 'card_holds'). Laid BY PROGRAM, IN A SANDBOX (cutbox-door.mjs). By AI agents, Wed Nov 11 2026. No macro, syntax, notation, axiom, sorry.
-/
import Derived.Test.YtbnkpbphahjomaaDoorRows
import GoSem.ClaimSeven
namespace Go.Proofs.YtbnkpbphahjomaaDoor
namespace Rows

/-- THE TIED CARD OF 'blotterlaw09.SumWorks'. -/
def sumWorksCard : Claim7 := { stood := { row := sumWorksRow, standIns := [], harness := (true, "ed4c8b2bb0e1696e7e571cc147aad2c20f0677252ac0b0d2a6e54333e1250112"), looks := false }, kinds := [], alts := [], laidByText := true, laidKinds := [.data], laidTests := true, laidLooks := .later }
def SumWorksCardSaid : Prop := Claim7.holds Tryd.pinned (.plain (OpenSpec.ofChange sumWorksSpec)) sumWorksCard

/-- THE TIED CARD OF 'blotterlaw09.SumBack'. -/
def sumBackCard : Claim7 := { stood := { row := sumBackRow, standIns := [], harness := (true, "ed4c8b2bb0e1696e7e571cc147aad2c20f0677252ac0b0d2a6e54333e1250112"), looks := false }, kinds := [], alts := [], laidByText := true, laidKinds := [.data], laidTests := true, laidLooks := .later }
def SumBackCardSaid : Prop := Claim7.holds Tryd.pinned (.plain (OpenSpec.ofChange sumBackSpec)) sumBackCard

/-- THE TIED CARD OF 'blotterlaw09.SumTells'. -/
def sumTellsCard : Claim7 := { stood := { row := sumTellsRow, standIns := [], harness := (true, "ed4c8b2bb0e1696e7e571cc147aad2c20f0677252ac0b0d2a6e54333e1250112"), looks := false }, kinds := [], alts := [], laidByText := true, laidKinds := [.data], laidTests := true, laidLooks := .later }
def SumTellsCardSaid : Prop := Claim7.holds Tryd.pinned (.plain (OpenSpec.ofChange sumTellsSpec)) sumTellsCard

/-- THE TIED CARD OF 'blotterlaw09.SumOrder'. -/
def sumOrderCard : Claim7 := { stood := { row := sumOrderRow, standIns := [], harness := (true, "ed4c8b2bb0e1696e7e571cc147aad2c20f0677252ac0b0d2a6e54333e1250112"), looks := false }, kinds := [], alts := [], laidByText := true, laidKinds := [.data], laidTests := true, laidLooks := .later }
def SumOrderCardSaid : Prop := Claim7.holds Tryd.pinned (.plain (OpenSpec.ofChange sumOrderSpec)) sumOrderCard

/-- THE SECOND FORM's CARD OF 'blotterlaw09.SumWorks'. -/
def sumWorksUptoCard : Claim7 := { stood := { row := sumWorksUptoRow, standIns := [], harness := (true, "ed4c8b2bb0e1696e7e571cc147aad2c20f0677252ac0b0d2a6e54333e1250112"), looks := false }, kinds := [], alts := [], laidByText := true, laidKinds := [.data], laidTests := true, laidLooks := .later }
def SumWorksUptoCardSaid : Prop := Claim7.holds Tryd.pinned (.plain (OpenSpec.upto sumWorksSpec)) sumWorksUptoCard

/-- THE SECOND FORM's CARD OF 'blotterlaw09.SumBack'. -/
def sumBackUptoCard : Claim7 := { stood := { row := sumBackUptoRow, standIns := [], harness := (true, "ed4c8b2bb0e1696e7e571cc147aad2c20f0677252ac0b0d2a6e54333e1250112"), looks := false }, kinds := [], alts := [], laidByText := true, laidKinds := [.data], laidTests := true, laidLooks := .later }
def SumBackUptoCardSaid : Prop := Claim7.holds Tryd.pinned (.plain (OpenSpec.upto sumBackSpec)) sumBackUptoCard

/-- THE SECOND FORM's CARD OF 'blotterlaw09.SumTells'. -/
def sumTellsUptoCard : Claim7 := { stood := { row := sumTellsUptoRow, standIns := [], harness := (true, "ed4c8b2bb0e1696e7e571cc147aad2c20f0677252ac0b0d2a6e54333e1250112"), looks := false }, kinds := [], alts := [], laidByText := true, laidKinds := [.data], laidTests := true, laidLooks := .later }
def SumTellsUptoCardSaid : Prop := Claim7.holds Tryd.pinned (.plain (OpenSpec.upto sumTellsSpec)) sumTellsUptoCard

/-- THE SECOND FORM's CARD OF 'blotterlaw09.SumOrder'. -/
def sumOrderUptoCard : Claim7 := { stood := { row := sumOrderUptoRow, standIns := [], harness := (true, "ed4c8b2bb0e1696e7e571cc147aad2c20f0677252ac0b0d2a6e54333e1250112"), looks := false }, kinds := [], alts := [], laidByText := true, laidKinds := [.data], laidTests := true, laidLooks := .later }
def SumOrderUptoCardSaid : Prop := Claim7.holds Tryd.pinned (.plain (OpenSpec.upto sumOrderSpec)) sumOrderUptoCard
end Rows
end Go.Proofs.YtbnkpbphahjomaaDoor
