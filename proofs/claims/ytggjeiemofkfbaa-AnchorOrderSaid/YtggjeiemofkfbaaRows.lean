/-
  No cell of these rows narrows 'for every input' (looked for: loops, veiled, ifaces, maps, wideKeys, modest, calm, conditions, laid).
  DERIVED. THE GIVEN ROWS OF THIS SEAT. 12 by the template 'for every input the law returns true; each argument reads behind the call as it read before'; 0 by the template 'total and deterministic' (their statements: YtggjeiemofkfbaaTotals.lean).
  GIVEN WITH THE SEED: the statements are not yours to turn. If you find one false, say at which input.
  Laid BY PROGRAM, IN A SANDBOX (cutbox-rows.mjs): the forced cells as the released guide's own fill.sh prints them over the translation 2bbdea110b437807… (all of the seat's roots in one cut). By AI agents, Wed Nov 11 2026. No macro, syntax, notation, axiom, sorry.
-/
import Derived.Test.YtggjeiemofkfbaaChecked
import GoSem.Claim
import GoSem.ClaimJoined
import GoSem.ClaimMapViews
import Derived.JoinedTies
import Derived.KernelRfl
namespace Go.Proofs.Ytggjeiemofkfbaa
/- THE CELL 'sum', in the pinned program and in every row, IS THE sha256 OF THE DUMP (.gsa) THAT YtggjeiemofkfbaaProg.lean LOADS. Nothing in Lean hashes anything: it is a label: what it is worth is what the hold of that sum in a sandbox is worth. -/
noncomputable def Try.pinned : Pinned := { name := "ytggjeiemofkfbaa", sum := "2bbdea110b437807f49fc7cd1da1eb3be6a4be2221413cfb4a3d45423eb37417", checked := Try.checked }
namespace Rows
def none {H : Type} : Left H := { results := [], args := [] }

/-- 'blotterlaw03.ChangeRights': WHATEVER THE INPUT: true; the input reads as it did. -/
def changeRightsSpec : ChangeSpec := { name := "changeRights", fn := fun _ => fun
  | [d1, d2, d3] => { results := [.lit (.bool true)], args := [d1, d2, d3] }
  | _ => none }
def changeRightsRow : OpenClaim := { program := "ytggjeiemofkfbaa", sum := "2bbdea110b437807f49fc7cd1da1eb3be6a4be2221413cfb4a3d45423eb37417", func := "blotter/blotterlaw03.ChangeRights", spec := "changeRights", inPlace := ["internal/abi.NoEscape"], unfollowed := true, recurses := true, apart := false }
def ChangeRightsSaid : Prop := changeRightsRow.holds Try.pinned (OpenSpec.ofChange changeRightsSpec)

/-- ITS FALSE NEIGHBOUR: 'it returns false'. Refute it at one input. -/
def changeRightsWrong : ChangeSpec := { name := "changeRights", fn := fun _ => fun
  | [d1, d2, d3] => { results := [.lit (.bool false)], args := [d1, d2, d3] }
  | _ => none }
def ChangeRightsWrongFalsely : Prop := changeRightsRow.holds Try.pinned (OpenSpec.ofChange changeRightsWrong)

/-- 'blotterlaw03.ChangeNormals': WHATEVER THE INPUT: true; the input reads as it did. -/
def changeNormalsSpec : ChangeSpec := { name := "changeNormals", fn := fun _ => fun
  | [d] => { results := [.lit (.bool true)], args := [d] }
  | _ => none }
def changeNormalsRow : OpenClaim := { program := "ytggjeiemofkfbaa", sum := "2bbdea110b437807f49fc7cd1da1eb3be6a4be2221413cfb4a3d45423eb37417", func := "blotter/blotterlaw03.ChangeNormals", spec := "changeNormals", inPlace := ["internal/abi.NoEscape"], unfollowed := true, recurses := true, apart := false }
def ChangeNormalsSaid : Prop := changeNormalsRow.holds Try.pinned (OpenSpec.ofChange changeNormalsSpec)

/-- ITS FALSE NEIGHBOUR: 'it returns false'. Refute it at one input. -/
def changeNormalsWrong : ChangeSpec := { name := "changeNormals", fn := fun _ => fun
  | [d] => { results := [.lit (.bool false)], args := [d] }
  | _ => none }
def ChangeNormalsWrongFalsely : Prop := changeNormalsRow.holds Try.pinned (OpenSpec.ofChange changeNormalsWrong)

/-- 'blotterlaw03.ChangeOnce': WHATEVER THE INPUT: true; the input reads as it did. -/
def changeOnceSpec : ChangeSpec := { name := "changeOnce", fn := fun _ => fun
  | [d] => { results := [.lit (.bool true)], args := [d] }
  | _ => none }
def changeOnceRow : OpenClaim := { program := "ytggjeiemofkfbaa", sum := "2bbdea110b437807f49fc7cd1da1eb3be6a4be2221413cfb4a3d45423eb37417", func := "blotter/blotterlaw03.ChangeOnce", spec := "changeOnce", inPlace := ["internal/abi.NoEscape"], unfollowed := true, recurses := true, apart := false }
def ChangeOnceSaid : Prop := changeOnceRow.holds Try.pinned (OpenSpec.ofChange changeOnceSpec)

/-- ITS FALSE NEIGHBOUR: 'it returns false'. Refute it at one input. -/
def changeOnceWrong : ChangeSpec := { name := "changeOnce", fn := fun _ => fun
  | [d] => { results := [.lit (.bool false)], args := [d] }
  | _ => none }
def ChangeOnceWrongFalsely : Prop := changeOnceRow.holds Try.pinned (OpenSpec.ofChange changeOnceWrong)

/-- 'blotterlaw03.ChangeParts': WHATEVER THE INPUT: true; the input reads as it did. -/
def changePartsSpec : ChangeSpec := { name := "changeParts", fn := fun _ => fun
  | [d1, d2] => { results := [.lit (.bool true)], args := [d1, d2] }
  | _ => none }
def changePartsRow : OpenClaim := { program := "ytggjeiemofkfbaa", sum := "2bbdea110b437807f49fc7cd1da1eb3be6a4be2221413cfb4a3d45423eb37417", func := "blotter/blotterlaw03.ChangeParts", spec := "changeParts", inPlace := ["internal/abi.NoEscape"], unfollowed := true, recurses := true, apart := false }
def ChangePartsSaid : Prop := changePartsRow.holds Try.pinned (OpenSpec.ofChange changePartsSpec)

/-- ITS FALSE NEIGHBOUR: 'it returns false'. Refute it at one input. -/
def changePartsWrong : ChangeSpec := { name := "changeParts", fn := fun _ => fun
  | [d1, d2] => { results := [.lit (.bool false)], args := [d1, d2] }
  | _ => none }
def ChangePartsWrongFalsely : Prop := changePartsRow.holds Try.pinned (OpenSpec.ofChange changePartsWrong)

/-- 'blotterlaw03.ChangeNothing': WHATEVER THE INPUT: true; the input reads as it did. -/
def changeNothingSpec : ChangeSpec := { name := "changeNothing", fn := fun _ => fun
  | [d] => { results := [.lit (.bool true)], args := [d] }
  | _ => none }
def changeNothingRow : OpenClaim := { program := "ytggjeiemofkfbaa", sum := "2bbdea110b437807f49fc7cd1da1eb3be6a4be2221413cfb4a3d45423eb37417", func := "blotter/blotterlaw03.ChangeNothing", spec := "changeNothing", inPlace := ["internal/abi.NoEscape"], unfollowed := true, recurses := true, apart := false }
def ChangeNothingSaid : Prop := changeNothingRow.holds Try.pinned (OpenSpec.ofChange changeNothingSpec)

/-- ITS FALSE NEIGHBOUR: 'it returns false'. Refute it at one input. -/
def changeNothingWrong : ChangeSpec := { name := "changeNothing", fn := fun _ => fun
  | [d] => { results := [.lit (.bool false)], args := [d] }
  | _ => none }
def ChangeNothingWrongFalsely : Prop := changeNothingRow.holds Try.pinned (OpenSpec.ofChange changeNothingWrong)

/-- 'blotterlaw03.ChangeLonger': WHATEVER THE INPUT: true; the input reads as it did. -/
def changeLongerSpec : ChangeSpec := { name := "changeLonger", fn := fun _ => fun
  | [d1, d2] => { results := [.lit (.bool true)], args := [d1, d2] }
  | _ => none }
def changeLongerRow : OpenClaim := { program := "ytggjeiemofkfbaa", sum := "2bbdea110b437807f49fc7cd1da1eb3be6a4be2221413cfb4a3d45423eb37417", func := "blotter/blotterlaw03.ChangeLonger", spec := "changeLonger", inPlace := ["internal/abi.NoEscape"], unfollowed := true, recurses := true, apart := false }
def ChangeLongerSaid : Prop := changeLongerRow.holds Try.pinned (OpenSpec.ofChange changeLongerSpec)

/-- ITS FALSE NEIGHBOUR: 'it returns false'. Refute it at one input. -/
def changeLongerWrong : ChangeSpec := { name := "changeLonger", fn := fun _ => fun
  | [d1, d2] => { results := [.lit (.bool false)], args := [d1, d2] }
  | _ => none }
def ChangeLongerWrongFalsely : Prop := changeLongerRow.holds Try.pinned (OpenSpec.ofChange changeLongerWrong)

/-- 'blotterlaw08.AnchorMoves': WHATEVER THE INPUT: true; the input reads as it did. -/
def anchorMovesSpec : ChangeSpec := { name := "anchorMoves", fn := fun _ => fun
  | [d1, d2, d3, d4] => { results := [.lit (.bool true)], args := [d1, d2, d3, d4] }
  | _ => none }
def anchorMovesRow : OpenClaim := { program := "ytggjeiemofkfbaa", sum := "2bbdea110b437807f49fc7cd1da1eb3be6a4be2221413cfb4a3d45423eb37417", func := "blotter/blotterlaw08.AnchorMoves", spec := "anchorMoves", inPlace := ["internal/abi.NoEscape"], unfollowed := true, recurses := true, apart := false }
def AnchorMovesSaid : Prop := anchorMovesRow.holds Try.pinned (OpenSpec.ofChange anchorMovesSpec)

/-- ITS FALSE NEIGHBOUR: 'it returns false'. Refute it at one input. -/
def anchorMovesWrong : ChangeSpec := { name := "anchorMoves", fn := fun _ => fun
  | [d1, d2, d3, d4] => { results := [.lit (.bool false)], args := [d1, d2, d3, d4] }
  | _ => none }
def AnchorMovesWrongFalsely : Prop := anchorMovesRow.holds Try.pinned (OpenSpec.ofChange anchorMovesWrong)

/-- 'blotterlaw08.AnchorHolds': WHATEVER THE INPUT: true; the input reads as it did. -/
def anchorHoldsSpec : ChangeSpec := { name := "anchorHolds", fn := fun _ => fun
  | [d1, d2] => { results := [.lit (.bool true)], args := [d1, d2] }
  | _ => none }
def anchorHoldsRow : OpenClaim := { program := "ytggjeiemofkfbaa", sum := "2bbdea110b437807f49fc7cd1da1eb3be6a4be2221413cfb4a3d45423eb37417", func := "blotter/blotterlaw08.AnchorHolds", spec := "anchorHolds", inPlace := ["internal/abi.NoEscape"], unfollowed := true, recurses := true, apart := false }
def AnchorHoldsSaid : Prop := anchorHoldsRow.holds Try.pinned (OpenSpec.ofChange anchorHoldsSpec)

/-- ITS FALSE NEIGHBOUR: 'it returns false'. Refute it at one input. -/
def anchorHoldsWrong : ChangeSpec := { name := "anchorHolds", fn := fun _ => fun
  | [d1, d2] => { results := [.lit (.bool false)], args := [d1, d2] }
  | _ => none }
def AnchorHoldsWrongFalsely : Prop := anchorHoldsRow.holds Try.pinned (OpenSpec.ofChange anchorHoldsWrong)

/-- 'blotterlaw08.AnchorOrder': WHATEVER THE INPUT: true; the input reads as it did. -/
def anchorOrderSpec : ChangeSpec := { name := "anchorOrder", fn := fun _ => fun
  | [d1, d2, d3] => { results := [.lit (.bool true)], args := [d1, d2, d3] }
  | _ => none }
def anchorOrderRow : OpenClaim := { program := "ytggjeiemofkfbaa", sum := "2bbdea110b437807f49fc7cd1da1eb3be6a4be2221413cfb4a3d45423eb37417", func := "blotter/blotterlaw08.AnchorOrder", spec := "anchorOrder", inPlace := ["internal/abi.NoEscape"], unfollowed := true, recurses := true, apart := false }
def AnchorOrderSaid : Prop := anchorOrderRow.holds Try.pinned (OpenSpec.ofChange anchorOrderSpec)

/-- ITS FALSE NEIGHBOUR: 'it returns false'. Refute it at one input. -/
def anchorOrderWrong : ChangeSpec := { name := "anchorOrder", fn := fun _ => fun
  | [d1, d2, d3] => { results := [.lit (.bool false)], args := [d1, d2, d3] }
  | _ => none }
def AnchorOrderWrongFalsely : Prop := anchorOrderRow.holds Try.pinned (OpenSpec.ofChange anchorOrderWrong)

/-- 'blotterlaw08.AnchorPlain': WHATEVER THE INPUT: true; the input reads as it did. -/
def anchorPlainSpec : ChangeSpec := { name := "anchorPlain", fn := fun _ => fun
  | [d1, d2] => { results := [.lit (.bool true)], args := [d1, d2] }
  | _ => none }
def anchorPlainRow : OpenClaim := { program := "ytggjeiemofkfbaa", sum := "2bbdea110b437807f49fc7cd1da1eb3be6a4be2221413cfb4a3d45423eb37417", func := "blotter/blotterlaw08.AnchorPlain", spec := "anchorPlain", inPlace := ["internal/abi.NoEscape"], unfollowed := true, recurses := true, apart := false }
def AnchorPlainSaid : Prop := anchorPlainRow.holds Try.pinned (OpenSpec.ofChange anchorPlainSpec)

/-- ITS FALSE NEIGHBOUR: 'it returns false'. Refute it at one input. -/
def anchorPlainWrong : ChangeSpec := { name := "anchorPlain", fn := fun _ => fun
  | [d1, d2] => { results := [.lit (.bool false)], args := [d1, d2] }
  | _ => none }
def AnchorPlainWrongFalsely : Prop := anchorPlainRow.holds Try.pinned (OpenSpec.ofChange anchorPlainWrong)

/-- 'blotterlaw08.AnchorApart': WHATEVER THE INPUT: true; the input reads as it did. -/
def anchorApartSpec : ChangeSpec := { name := "anchorApart", fn := fun _ => fun
  | [d1, d2, d3, d4, d5] => { results := [.lit (.bool true)], args := [d1, d2, d3, d4, d5] }
  | _ => none }
def anchorApartRow : OpenClaim := { program := "ytggjeiemofkfbaa", sum := "2bbdea110b437807f49fc7cd1da1eb3be6a4be2221413cfb4a3d45423eb37417", func := "blotter/blotterlaw08.AnchorApart", spec := "anchorApart", inPlace := ["internal/abi.NoEscape"], unfollowed := true, recurses := true, apart := false }
def AnchorApartSaid : Prop := anchorApartRow.holds Try.pinned (OpenSpec.ofChange anchorApartSpec)

/-- ITS FALSE NEIGHBOUR: 'it returns false'. Refute it at one input. -/
def anchorApartWrong : ChangeSpec := { name := "anchorApart", fn := fun _ => fun
  | [d1, d2, d3, d4, d5] => { results := [.lit (.bool false)], args := [d1, d2, d3, d4, d5] }
  | _ => none }
def AnchorApartWrongFalsely : Prop := anchorApartRow.holds Try.pinned (OpenSpec.ofChange anchorApartWrong)

/-- 'blotterlaw08.AnchorStays': WHATEVER THE INPUT: true; the input reads as it did. -/
def anchorStaysSpec : ChangeSpec := { name := "anchorStays", fn := fun _ => fun
  | [d1, d2, d3] => { results := [.lit (.bool true)], args := [d1, d2, d3] }
  | _ => none }
def anchorStaysRow : OpenClaim := { program := "ytggjeiemofkfbaa", sum := "2bbdea110b437807f49fc7cd1da1eb3be6a4be2221413cfb4a3d45423eb37417", func := "blotter/blotterlaw08.AnchorStays", spec := "anchorStays", inPlace := ["internal/abi.NoEscape"], unfollowed := true, recurses := true, apart := false }
def AnchorStaysSaid : Prop := anchorStaysRow.holds Try.pinned (OpenSpec.ofChange anchorStaysSpec)

/-- ITS FALSE NEIGHBOUR: 'it returns false'. Refute it at one input. -/
def anchorStaysWrong : ChangeSpec := { name := "anchorStays", fn := fun _ => fun
  | [d1, d2, d3] => { results := [.lit (.bool false)], args := [d1, d2, d3] }
  | _ => none }
def AnchorStaysWrongFalsely : Prop := anchorStaysRow.holds Try.pinned (OpenSpec.ofChange anchorStaysWrong)

/- THE SECOND FORM. 'bulk': how many values and letters a reading holds, each counted each time it is reached (what is shared counts as often as it is met; a slice's spare places count too). A statement '..UptoSaid' is the law's where the arguments, and the package variables that the reading takes, are together of bulk at most 1048576: NARROWER than '..Said'. Prove '..Said' where nothing that the law and all that it calls make is longer than what came in: it says more and counts as full. Else prove '..UptoSaid'. A law counts once. -/
mutual
def uptoBulk {H : Type} : DataW H → Nat
  | .lit (.string bytes) => bytes.length + 1
  | .lit _ => 1
  | .nil => 1
  | .ptr d => uptoBulk d + 1
  | .slice elems spare => uptoBulkAll elems + uptoBulkAll spare + 1
  | .agg parts => uptoBulkAll parts + 1
  | .iface _ d => uptoBulk d + 1
  | .map entries => uptoBulkEntries entries + 1
  | .held _ => 1
def uptoBulkAll {H : Type} : List (DataW H) → Nat
  | [] => 0
  | d :: r => uptoBulk d + uptoBulkAll r
def uptoBulkEntries {H : Type} : List (Lit × DataW H) → Nat
  | [] => 0
  | x :: r => uptoBulkEntry x + uptoBulkEntries r
def uptoBulkEntry {H : Type} : Lit × DataW H → Nat
  | (.string bytes, d) => bytes.length + uptoBulk d + 1
  | (_, d) => uptoBulk d + 1
 end
def uptoSmall : (H : Type) → List (DataW H) → Bool := fun _ ds => decide (uptoBulkAll ds ≤ 1048576)
def OpenSpec.upto (s : _root_.Go.ChangeSpec) : _root_.Go.OpenSpec := { _root_.Go.OpenSpec.ofChange s with cond := some uptoSmall }

/-- 'blotterlaw03.ChangeRights', WHERE WHAT IT READS IS OF BULK AT MOST 1048576: true; the input reads as it did. -/
def changeRightsUptoRow : OpenClaim := { program := "ytggjeiemofkfbaa", sum := "2bbdea110b437807f49fc7cd1da1eb3be6a4be2221413cfb4a3d45423eb37417", func := "blotter/blotterlaw03.ChangeRights", spec := "changeRights", inPlace := ["internal/abi.NoEscape"], unfollowed := true, recurses := true, apart := false, narrowed := true }
def ChangeRightsUptoSaid : Prop := changeRightsUptoRow.holds Try.pinned (OpenSpec.upto changeRightsSpec)

/-- 'blotterlaw03.ChangeNormals', WHERE WHAT IT READS IS OF BULK AT MOST 1048576: true; the input reads as it did. -/
def changeNormalsUptoRow : OpenClaim := { program := "ytggjeiemofkfbaa", sum := "2bbdea110b437807f49fc7cd1da1eb3be6a4be2221413cfb4a3d45423eb37417", func := "blotter/blotterlaw03.ChangeNormals", spec := "changeNormals", inPlace := ["internal/abi.NoEscape"], unfollowed := true, recurses := true, apart := false, narrowed := true }
def ChangeNormalsUptoSaid : Prop := changeNormalsUptoRow.holds Try.pinned (OpenSpec.upto changeNormalsSpec)

/-- 'blotterlaw03.ChangeOnce', WHERE WHAT IT READS IS OF BULK AT MOST 1048576: true; the input reads as it did. -/
def changeOnceUptoRow : OpenClaim := { program := "ytggjeiemofkfbaa", sum := "2bbdea110b437807f49fc7cd1da1eb3be6a4be2221413cfb4a3d45423eb37417", func := "blotter/blotterlaw03.ChangeOnce", spec := "changeOnce", inPlace := ["internal/abi.NoEscape"], unfollowed := true, recurses := true, apart := false, narrowed := true }
def ChangeOnceUptoSaid : Prop := changeOnceUptoRow.holds Try.pinned (OpenSpec.upto changeOnceSpec)

/-- 'blotterlaw03.ChangeParts', WHERE WHAT IT READS IS OF BULK AT MOST 1048576: true; the input reads as it did. -/
def changePartsUptoRow : OpenClaim := { program := "ytggjeiemofkfbaa", sum := "2bbdea110b437807f49fc7cd1da1eb3be6a4be2221413cfb4a3d45423eb37417", func := "blotter/blotterlaw03.ChangeParts", spec := "changeParts", inPlace := ["internal/abi.NoEscape"], unfollowed := true, recurses := true, apart := false, narrowed := true }
def ChangePartsUptoSaid : Prop := changePartsUptoRow.holds Try.pinned (OpenSpec.upto changePartsSpec)

/-- 'blotterlaw03.ChangeNothing', WHERE WHAT IT READS IS OF BULK AT MOST 1048576: true; the input reads as it did. -/
def changeNothingUptoRow : OpenClaim := { program := "ytggjeiemofkfbaa", sum := "2bbdea110b437807f49fc7cd1da1eb3be6a4be2221413cfb4a3d45423eb37417", func := "blotter/blotterlaw03.ChangeNothing", spec := "changeNothing", inPlace := ["internal/abi.NoEscape"], unfollowed := true, recurses := true, apart := false, narrowed := true }
def ChangeNothingUptoSaid : Prop := changeNothingUptoRow.holds Try.pinned (OpenSpec.upto changeNothingSpec)

/-- 'blotterlaw03.ChangeLonger', WHERE WHAT IT READS IS OF BULK AT MOST 1048576: true; the input reads as it did. -/
def changeLongerUptoRow : OpenClaim := { program := "ytggjeiemofkfbaa", sum := "2bbdea110b437807f49fc7cd1da1eb3be6a4be2221413cfb4a3d45423eb37417", func := "blotter/blotterlaw03.ChangeLonger", spec := "changeLonger", inPlace := ["internal/abi.NoEscape"], unfollowed := true, recurses := true, apart := false, narrowed := true }
def ChangeLongerUptoSaid : Prop := changeLongerUptoRow.holds Try.pinned (OpenSpec.upto changeLongerSpec)

/-- 'blotterlaw08.AnchorMoves', WHERE WHAT IT READS IS OF BULK AT MOST 1048576: true; the input reads as it did. -/
def anchorMovesUptoRow : OpenClaim := { program := "ytggjeiemofkfbaa", sum := "2bbdea110b437807f49fc7cd1da1eb3be6a4be2221413cfb4a3d45423eb37417", func := "blotter/blotterlaw08.AnchorMoves", spec := "anchorMoves", inPlace := ["internal/abi.NoEscape"], unfollowed := true, recurses := true, apart := false, narrowed := true }
def AnchorMovesUptoSaid : Prop := anchorMovesUptoRow.holds Try.pinned (OpenSpec.upto anchorMovesSpec)

/-- 'blotterlaw08.AnchorHolds', WHERE WHAT IT READS IS OF BULK AT MOST 1048576: true; the input reads as it did. -/
def anchorHoldsUptoRow : OpenClaim := { program := "ytggjeiemofkfbaa", sum := "2bbdea110b437807f49fc7cd1da1eb3be6a4be2221413cfb4a3d45423eb37417", func := "blotter/blotterlaw08.AnchorHolds", spec := "anchorHolds", inPlace := ["internal/abi.NoEscape"], unfollowed := true, recurses := true, apart := false, narrowed := true }
def AnchorHoldsUptoSaid : Prop := anchorHoldsUptoRow.holds Try.pinned (OpenSpec.upto anchorHoldsSpec)

/-- 'blotterlaw08.AnchorOrder', WHERE WHAT IT READS IS OF BULK AT MOST 1048576: true; the input reads as it did. -/
def anchorOrderUptoRow : OpenClaim := { program := "ytggjeiemofkfbaa", sum := "2bbdea110b437807f49fc7cd1da1eb3be6a4be2221413cfb4a3d45423eb37417", func := "blotter/blotterlaw08.AnchorOrder", spec := "anchorOrder", inPlace := ["internal/abi.NoEscape"], unfollowed := true, recurses := true, apart := false, narrowed := true }
def AnchorOrderUptoSaid : Prop := anchorOrderUptoRow.holds Try.pinned (OpenSpec.upto anchorOrderSpec)

/-- 'blotterlaw08.AnchorPlain', WHERE WHAT IT READS IS OF BULK AT MOST 1048576: true; the input reads as it did. -/
def anchorPlainUptoRow : OpenClaim := { program := "ytggjeiemofkfbaa", sum := "2bbdea110b437807f49fc7cd1da1eb3be6a4be2221413cfb4a3d45423eb37417", func := "blotter/blotterlaw08.AnchorPlain", spec := "anchorPlain", inPlace := ["internal/abi.NoEscape"], unfollowed := true, recurses := true, apart := false, narrowed := true }
def AnchorPlainUptoSaid : Prop := anchorPlainUptoRow.holds Try.pinned (OpenSpec.upto anchorPlainSpec)

/-- 'blotterlaw08.AnchorApart', WHERE WHAT IT READS IS OF BULK AT MOST 1048576: true; the input reads as it did. -/
def anchorApartUptoRow : OpenClaim := { program := "ytggjeiemofkfbaa", sum := "2bbdea110b437807f49fc7cd1da1eb3be6a4be2221413cfb4a3d45423eb37417", func := "blotter/blotterlaw08.AnchorApart", spec := "anchorApart", inPlace := ["internal/abi.NoEscape"], unfollowed := true, recurses := true, apart := false, narrowed := true }
def AnchorApartUptoSaid : Prop := anchorApartUptoRow.holds Try.pinned (OpenSpec.upto anchorApartSpec)

/-- 'blotterlaw08.AnchorStays', WHERE WHAT IT READS IS OF BULK AT MOST 1048576: true; the input reads as it did. -/
def anchorStaysUptoRow : OpenClaim := { program := "ytggjeiemofkfbaa", sum := "2bbdea110b437807f49fc7cd1da1eb3be6a4be2221413cfb4a3d45423eb37417", func := "blotter/blotterlaw08.AnchorStays", spec := "anchorStays", inPlace := ["internal/abi.NoEscape"], unfollowed := true, recurses := true, apart := false, narrowed := true }
def AnchorStaysUptoSaid : Prop := anchorStaysUptoRow.holds Try.pinned (OpenSpec.upto anchorStaysSpec)

end Rows
end Go.Proofs.Ytggjeiemofkfbaa
