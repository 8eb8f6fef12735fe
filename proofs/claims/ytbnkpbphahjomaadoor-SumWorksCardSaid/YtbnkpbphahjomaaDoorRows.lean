/-
  NARROWER THAN 'FOR EVERY INPUT', by the rows' own cells (each row's printed sentence says how): SumWorks: laid · SumBack: laid · SumTells: laid · SumOrder: laid.
  DERIVED. THE GIVEN ROWS OF THIS SEAT. 4 by the template 'for every input the law returns true; each argument reads behind the call as it read before'; 0 by the template 'total and deterministic' (their statements: YtbnkpbphahjomaaDoorTotals.lean).
  GIVEN WITH THE SEED: the statements are not yours to turn. If you find one false, say at which input.
  Laid BY PROGRAM, IN A SANDBOX (cutbox-rows.mjs): the forced cells as the released guide's own fill.sh prints them over the translation f55f80117f3cb6b5… (all of the seat's roots in one cut). By AI agents, Wed Nov 11 2026. No macro, syntax, notation, axiom, sorry.
-/
import Derived.Test.YtbnkpbphahjomaaDoorChecked
import GoSem.Claim
import GoSem.ClaimJoined
import GoSem.ClaimMapViews
import Derived.JoinedTies
import Derived.KernelRfl
namespace Go.Proofs.YtbnkpbphahjomaaDoor
/- THE CELL 'sum', in the pinned program and in every row, IS THE sha256 OF THE DUMP (.gsa) THAT YtbnkpbphahjomaaDoorProg.lean LOADS. Nothing in Lean hashes anything: it is a label: what it is worth is what the hold of that sum in a sandbox is worth. -/
noncomputable def Tryd.pinned : Pinned := { name := "ytbnkpbphahjomaadoor", sum := "f55f80117f3cb6b5182d661c3f7753acf46456ca58773cc1967ed6b8f6f5f64f", checked := Tryd.checked }
namespace Rows
def none {H : Type} : Left H := { results := [], args := [] }

/- WHAT THE LISTED PACKAGE-LEVEL VARIABLES READ AS WHEN THE CALL BEGINS. Each datum BY PROGRAM (the guide's laid-datum.mjs) off the statement by which the dump's own 'gosem.cut.vars' lays the variable. In a bare row this is a premise. The card (YtbnkpbphahjomaaDoorCards.lean) ties it to the program's text. -/
def laid_blotter_sum_fours {H : Type} : DataW H := .agg [.lit (.int .u32 0), .lit (.int .u32 498536548), .lit (.int .u32 997073096), .lit (.int .u32 651767980), .lit (.int .u32 1994146192), .lit (.int .u32 1802195444), .lit (.int .u32 1303535960), .lit (.int .u32 1342533948), .lit (.int .u32 3988292384), .lit (.int .u32 4027552580), .lit (.int .u32 3604390888), .lit (.int .u32 3412177804), .lit (.int .u32 2607071920), .lit (.int .u32 2262029012), .lit (.int .u32 2685067896), .lit (.int .u32 3183342108)]

/-- 'blotterlaw09.SumWorks': WHATEVER THE INPUT: true; the input reads as it did. -/
def sumWorksSpec : ChangeSpec := { name := "sumWorks", fn := fun _ => fun
  | [d1, d2, d3, d4] => { results := [.lit (.bool true)], args := [d1, d2, d3, d4] }
  | _ => none }
def sumWorksRow : OpenClaim := { program := "ytbnkpbphahjomaadoor", sum := "f55f80117f3cb6b5182d661c3f7753acf46456ca58773cc1967ed6b8f6f5f64f", func := "blotter/blotterlaw09.SumWorks", spec := "sumWorks", named := ["blotter/sum.fours"], apart := false, laid := [("blotter/sum.fours", laid_blotter_sum_fours)] }
def SumWorksSaid : Prop := sumWorksRow.holds Tryd.pinned (OpenSpec.ofChange sumWorksSpec)

/-- ITS FALSE NEIGHBOUR: 'it returns false'. Refute it at one input. -/
def sumWorksWrong : ChangeSpec := { name := "sumWorks", fn := fun _ => fun
  | [d1, d2, d3, d4] => { results := [.lit (.bool false)], args := [d1, d2, d3, d4] }
  | _ => none }
def SumWorksWrongFalsely : Prop := sumWorksRow.holds Tryd.pinned (OpenSpec.ofChange sumWorksWrong)

/-- 'blotterlaw09.SumBack': WHATEVER THE INPUT: true; the input reads as it did. -/
def sumBackSpec : ChangeSpec := { name := "sumBack", fn := fun _ => fun
  | [d1, d2, d3, d4] => { results := [.lit (.bool true)], args := [d1, d2, d3, d4] }
  | _ => none }
def sumBackRow : OpenClaim := { program := "ytbnkpbphahjomaadoor", sum := "f55f80117f3cb6b5182d661c3f7753acf46456ca58773cc1967ed6b8f6f5f64f", func := "blotter/blotterlaw09.SumBack", spec := "sumBack", named := ["blotter/sum.fours"], apart := false, laid := [("blotter/sum.fours", laid_blotter_sum_fours)] }
def SumBackSaid : Prop := sumBackRow.holds Tryd.pinned (OpenSpec.ofChange sumBackSpec)

/-- ITS FALSE NEIGHBOUR: 'it returns false'. Refute it at one input. -/
def sumBackWrong : ChangeSpec := { name := "sumBack", fn := fun _ => fun
  | [d1, d2, d3, d4] => { results := [.lit (.bool false)], args := [d1, d2, d3, d4] }
  | _ => none }
def SumBackWrongFalsely : Prop := sumBackRow.holds Tryd.pinned (OpenSpec.ofChange sumBackWrong)

/-- 'blotterlaw09.SumTells': WHATEVER THE INPUT: true; the input reads as it did. -/
def sumTellsSpec : ChangeSpec := { name := "sumTells", fn := fun _ => fun
  | [d1, d2, d3] => { results := [.lit (.bool true)], args := [d1, d2, d3] }
  | _ => none }
def sumTellsRow : OpenClaim := { program := "ytbnkpbphahjomaadoor", sum := "f55f80117f3cb6b5182d661c3f7753acf46456ca58773cc1967ed6b8f6f5f64f", func := "blotter/blotterlaw09.SumTells", spec := "sumTells", named := ["blotter/sum.fours"], apart := false, laid := [("blotter/sum.fours", laid_blotter_sum_fours)] }
def SumTellsSaid : Prop := sumTellsRow.holds Tryd.pinned (OpenSpec.ofChange sumTellsSpec)

/-- ITS FALSE NEIGHBOUR: 'it returns false'. Refute it at one input. -/
def sumTellsWrong : ChangeSpec := { name := "sumTells", fn := fun _ => fun
  | [d1, d2, d3] => { results := [.lit (.bool false)], args := [d1, d2, d3] }
  | _ => none }
def SumTellsWrongFalsely : Prop := sumTellsRow.holds Tryd.pinned (OpenSpec.ofChange sumTellsWrong)

/-- 'blotterlaw09.SumOrder': WHATEVER THE INPUT: true; the input reads as it did. -/
def sumOrderSpec : ChangeSpec := { name := "sumOrder", fn := fun _ => fun
  | [d1, d2, d3] => { results := [.lit (.bool true)], args := [d1, d2, d3] }
  | _ => none }
def sumOrderRow : OpenClaim := { program := "ytbnkpbphahjomaadoor", sum := "f55f80117f3cb6b5182d661c3f7753acf46456ca58773cc1967ed6b8f6f5f64f", func := "blotter/blotterlaw09.SumOrder", spec := "sumOrder", named := ["blotter/sum.fours"], apart := false, laid := [("blotter/sum.fours", laid_blotter_sum_fours)] }
def SumOrderSaid : Prop := sumOrderRow.holds Tryd.pinned (OpenSpec.ofChange sumOrderSpec)

/-- ITS FALSE NEIGHBOUR: 'it returns false'. Refute it at one input. -/
def sumOrderWrong : ChangeSpec := { name := "sumOrder", fn := fun _ => fun
  | [d1, d2, d3] => { results := [.lit (.bool false)], args := [d1, d2, d3] }
  | _ => none }
def SumOrderWrongFalsely : Prop := sumOrderRow.holds Tryd.pinned (OpenSpec.ofChange sumOrderWrong)

/- THE SECOND FORM. 'bulk': how many values and letters a reading holds, each counted each time it is reached (what is shared counts as often as it is met; a slice's spare places count too). A statement '..UptoSaid' is the law's where the arguments, and the package variables that the reading takes, are together of bulk at most 1048576: NARROWER than '..Said'. Prove '..Said' where nothing that the law and all that it calls make is longer than what came in: it says more and counts as full. Else prove '..UptoSaid'. A law counts once. -/
mutual
def uptoBulk {H : Type} : DataW H → Nat
  | .lit (.string bytes) => bytes.length + 1
  | .lit _ => 1
  | .nil => 1
  | .ptr d => uptoBulk d + 1
  | .slice elems spare => uptoBulkAll elems + uptoBulkAll spare + 1
  | .agg parts => uptoBulkAll parts + 1
  | .iface _ d => uptoBulk d + 1
  | .map entries => uptoBulkEntries entries + 1
  | .held _ => 1
def uptoBulkAll {H : Type} : List (DataW H) → Nat
  | [] => 0
  | d :: r => uptoBulk d + uptoBulkAll r
def uptoBulkEntries {H : Type} : List (Lit × DataW H) → Nat
  | [] => 0
  | x :: r => uptoBulkEntry x + uptoBulkEntries r
def uptoBulkEntry {H : Type} : Lit × DataW H → Nat
  | (.string bytes, d) => bytes.length + uptoBulk d + 1
  | (_, d) => uptoBulk d + 1
 end
def uptoSmall : (H : Type) → List (DataW H) → Bool := fun _ ds => decide (uptoBulkAll ds ≤ 1048576)
def OpenSpec.upto (s : _root_.Go.ChangeSpec) : _root_.Go.OpenSpec := { _root_.Go.OpenSpec.ofChange s with cond := some uptoSmall }

/-- 'blotterlaw09.SumWorks', WHERE WHAT IT READS IS OF BULK AT MOST 1048576: true; the input reads as it did. -/
def sumWorksUptoRow : OpenClaim := { program := "ytbnkpbphahjomaadoor", sum := "f55f80117f3cb6b5182d661c3f7753acf46456ca58773cc1967ed6b8f6f5f64f", func := "blotter/blotterlaw09.SumWorks", spec := "sumWorks", named := ["blotter/sum.fours"], apart := false, laid := [("blotter/sum.fours", laid_blotter_sum_fours)], narrowed := true }
def SumWorksUptoSaid : Prop := sumWorksUptoRow.holds Tryd.pinned (OpenSpec.upto sumWorksSpec)

/-- 'blotterlaw09.SumBack', WHERE WHAT IT READS IS OF BULK AT MOST 1048576: true; the input reads as it did. -/
def sumBackUptoRow : OpenClaim := { program := "ytbnkpbphahjomaadoor", sum := "f55f80117f3cb6b5182d661c3f7753acf46456ca58773cc1967ed6b8f6f5f64f", func := "blotter/blotterlaw09.SumBack", spec := "sumBack", named := ["blotter/sum.fours"], apart := false, laid := [("blotter/sum.fours", laid_blotter_sum_fours)], narrowed := true }
def SumBackUptoSaid : Prop := sumBackUptoRow.holds Tryd.pinned (OpenSpec.upto sumBackSpec)

/-- 'blotterlaw09.SumTells', WHERE WHAT IT READS IS OF BULK AT MOST 1048576: true; the input reads as it did. -/
def sumTellsUptoRow : OpenClaim := { program := "ytbnkpbphahjomaadoor", sum := "f55f80117f3cb6b5182d661c3f7753acf46456ca58773cc1967ed6b8f6f5f64f", func := "blotter/blotterlaw09.SumTells", spec := "sumTells", named := ["blotter/sum.fours"], apart := false, laid := [("blotter/sum.fours", laid_blotter_sum_fours)], narrowed := true }
def SumTellsUptoSaid : Prop := sumTellsUptoRow.holds Tryd.pinned (OpenSpec.upto sumTellsSpec)

/-- 'blotterlaw09.SumOrder', WHERE WHAT IT READS IS OF BULK AT MOST 1048576: true; the input reads as it did. -/
def sumOrderUptoRow : OpenClaim := { program := "ytbnkpbphahjomaadoor", sum := "f55f80117f3cb6b5182d661c3f7753acf46456ca58773cc1967ed6b8f6f5f64f", func := "blotter/blotterlaw09.SumOrder", spec := "sumOrder", named := ["blotter/sum.fours"], apart := false, laid := [("blotter/sum.fours", laid_blotter_sum_fours)], narrowed := true }
def SumOrderUptoSaid : Prop := sumOrderUptoRow.holds Tryd.pinned (OpenSpec.upto sumOrderSpec)

end Rows
end Go.Proofs.YtbnkpbphahjomaaDoor
