/-
  No cell of these rows narrows 'for every input' (looked for: loops, veiled, ifaces, maps, wideKeys, modest, calm, conditions, laid).
  DERIVED. THE GIVEN ROWS OF THIS SEAT. 4 by the template 'for every input the law returns true; each argument reads behind the call as it read before'; 0 by the template 'total and deterministic' (their statements: YtpinmkoaihjhfaaTotals.lean).
  GIVEN WITH THE SEED: the statements are not yours to turn. If you find one false, say at which input.
  Laid BY PROGRAM, IN A SANDBOX (cutbox-rows.mjs): the forced cells as the released guide's own fill.sh prints them over the translation c6b55cd1b4208b84… (all of the seat's roots in one cut). By AI agents, Wed Nov 11 2026. No macro, syntax, notation, axiom, sorry.
-/
import Derived.Test.YtpinmkoaihjhfaaChecked
import GoSem.Claim
import GoSem.ClaimJoined
import GoSem.ClaimMapViews
import Derived.JoinedTies
import Derived.KernelRfl
namespace Go.Proofs.Ytpinmkoaihjhfaa
/- THE CELL 'sum', in the pinned program and in every row, IS THE sha256 OF THE DUMP (.gsa) THAT YtpinmkoaihjhfaaProg.lean LOADS. Nothing in Lean hashes anything: it is a label: what it is worth is what the hold of that sum in a sandbox is worth. -/
noncomputable def Try.pinned : Pinned := { name := "ytpinmkoaihjhfaa", sum := "c6b55cd1b4208b84a6018e57b773a34ae7e876f3e5cb791932728bf4d5541cd5", checked := Try.checked }
namespace Rows
def none {H : Type} : Left H := { results := [], args := [] }

/-- 'blotterlaw11.TupleWorks': WHATEVER THE INPUT: true; the input reads as it did. -/
def tupleWorksSpec : ChangeSpec := { name := "tupleWorks", fn := fun _ => fun
  | [d1, d2, d3] => { results := [.lit (.bool true)], args := [d1, d2, d3] }
  | _ => none }
def tupleWorksRow : OpenClaim := { program := "ytpinmkoaihjhfaa", sum := "c6b55cd1b4208b84a6018e57b773a34ae7e876f3e5cb791932728bf4d5541cd5", func := "blotter/blotterlaw11.TupleWorks", spec := "tupleWorks", unfollowed := true, recurses := true, apart := false }
def TupleWorksSaid : Prop := tupleWorksRow.holds Try.pinned (OpenSpec.ofChange tupleWorksSpec)

/-- ITS FALSE NEIGHBOUR: 'it returns false'. Refute it at one input. -/
def tupleWorksWrong : ChangeSpec := { name := "tupleWorks", fn := fun _ => fun
  | [d1, d2, d3] => { results := [.lit (.bool false)], args := [d1, d2, d3] }
  | _ => none }
def TupleWorksWrongFalsely : Prop := tupleWorksRow.holds Try.pinned (OpenSpec.ofChange tupleWorksWrong)

/-- 'blotterlaw11.TupleOrder': WHATEVER THE INPUT: true; the input reads as it did. -/
def tupleOrderSpec : ChangeSpec := { name := "tupleOrder", fn := fun _ => fun
  | [d1, d2] => { results := [.lit (.bool true)], args := [d1, d2] }
  | _ => none }
def tupleOrderRow : OpenClaim := { program := "ytpinmkoaihjhfaa", sum := "c6b55cd1b4208b84a6018e57b773a34ae7e876f3e5cb791932728bf4d5541cd5", func := "blotter/blotterlaw11.TupleOrder", spec := "tupleOrder", unfollowed := true, recurses := true, apart := false }
def TupleOrderSaid : Prop := tupleOrderRow.holds Try.pinned (OpenSpec.ofChange tupleOrderSpec)

/-- ITS FALSE NEIGHBOUR: 'it returns false'. Refute it at one input. -/
def tupleOrderWrong : ChangeSpec := { name := "tupleOrder", fn := fun _ => fun
  | [d1, d2] => { results := [.lit (.bool false)], args := [d1, d2] }
  | _ => none }
def TupleOrderWrongFalsely : Prop := tupleOrderRow.holds Try.pinned (OpenSpec.ofChange tupleOrderWrong)

/-- 'blotterlaw11.TupleBack': WHATEVER THE INPUT: true; the input reads as it did. -/
def tupleBackSpec : ChangeSpec := { name := "tupleBack", fn := fun _ => fun
  | [d1, d2] => { results := [.lit (.bool true)], args := [d1, d2] }
  | _ => none }
def tupleBackRow : OpenClaim := { program := "ytpinmkoaihjhfaa", sum := "c6b55cd1b4208b84a6018e57b773a34ae7e876f3e5cb791932728bf4d5541cd5", func := "blotter/blotterlaw11.TupleBack", spec := "tupleBack", unfollowed := true, recurses := true, apart := false }
def TupleBackSaid : Prop := tupleBackRow.holds Try.pinned (OpenSpec.ofChange tupleBackSpec)

/-- ITS FALSE NEIGHBOUR: 'it returns false'. Refute it at one input. -/
def tupleBackWrong : ChangeSpec := { name := "tupleBack", fn := fun _ => fun
  | [d1, d2] => { results := [.lit (.bool false)], args := [d1, d2] }
  | _ => none }
def TupleBackWrongFalsely : Prop := tupleBackRow.holds Try.pinned (OpenSpec.ofChange tupleBackWrong)

/-- 'blotterlaw11.TupleMore': WHATEVER THE INPUT: true; the input reads as it did. -/
def tupleMoreSpec : ChangeSpec := { name := "tupleMore", fn := fun _ => fun
  | [d1, d2] => { results := [.lit (.bool true)], args := [d1, d2] }
  | _ => none }
def tupleMoreRow : OpenClaim := { program := "ytpinmkoaihjhfaa", sum := "c6b55cd1b4208b84a6018e57b773a34ae7e876f3e5cb791932728bf4d5541cd5", func := "blotter/blotterlaw11.TupleMore", spec := "tupleMore", unfollowed := true, recurses := true, apart := false }
def TupleMoreSaid : Prop := tupleMoreRow.holds Try.pinned (OpenSpec.ofChange tupleMoreSpec)

/-- ITS FALSE NEIGHBOUR: 'it returns false'. Refute it at one input. -/
def tupleMoreWrong : ChangeSpec := { name := "tupleMore", fn := fun _ => fun
  | [d1, d2] => { results := [.lit (.bool false)], args := [d1, d2] }
  | _ => none }
def TupleMoreWrongFalsely : Prop := tupleMoreRow.holds Try.pinned (OpenSpec.ofChange tupleMoreWrong)

/- THE SECOND FORM. 'bulk': how many values and letters a reading holds, each counted each time it is reached (what is shared counts as often as it is met; a slice's spare places count too). A statement '..UptoSaid' is the law's where the arguments, and the package variables that the reading takes, are together of bulk at most 1048576: NARROWER than '..Said'. Prove '..Said' where nothing that the law and all that it calls make is longer than what came in: it says more and counts as full. Else prove '..UptoSaid'. A law counts once. -/
mutual
def uptoBulk {H : Type} : DataW H → Nat
  | .lit (.string bytes) => bytes.length + 1
  | .lit _ => 1
  | .nil => 1
  | .ptr d => uptoBulk d + 1
  | .slice elems spare => uptoBulkAll elems + uptoBulkAll spare + 1
  | .agg parts => uptoBulkAll parts + 1
  | .iface _ d => uptoBulk d + 1
  | .map entries => uptoBulkEntries entries + 1
  | .held _ => 1
def uptoBulkAll {H : Type} : List (DataW H) → Nat
  | [] => 0
  | d :: r => uptoBulk d + uptoBulkAll r
def uptoBulkEntries {H : Type} : List (Lit × DataW H) → Nat
  | [] => 0
  | x :: r => uptoBulkEntry x + uptoBulkEntries r
def uptoBulkEntry {H : Type} : Lit × DataW H → Nat
  | (.string bytes, d) => bytes.length + uptoBulk d + 1
  | (_, d) => uptoBulk d + 1
 end
def uptoSmall : (H : Type) → List (DataW H) → Bool := fun _ ds => decide (uptoBulkAll ds ≤ 1048576)
def OpenSpec.upto (s : _root_.Go.ChangeSpec) : _root_.Go.OpenSpec := { _root_.Go.OpenSpec.ofChange s with cond := some uptoSmall }

/-- 'blotterlaw11.TupleWorks', WHERE WHAT IT READS IS OF BULK AT MOST 1048576: true; the input reads as it did. -/
def tupleWorksUptoRow : OpenClaim := { program := "ytpinmkoaihjhfaa", sum := "c6b55cd1b4208b84a6018e57b773a34ae7e876f3e5cb791932728bf4d5541cd5", func := "blotter/blotterlaw11.TupleWorks", spec := "tupleWorks", unfollowed := true, recurses := true, apart := false, narrowed := true }
def TupleWorksUptoSaid : Prop := tupleWorksUptoRow.holds Try.pinned (OpenSpec.upto tupleWorksSpec)

/-- 'blotterlaw11.TupleOrder', WHERE WHAT IT READS IS OF BULK AT MOST 1048576: true; the input reads as it did. -/
def tupleOrderUptoRow : OpenClaim := { program := "ytpinmkoaihjhfaa", sum := "c6b55cd1b4208b84a6018e57b773a34ae7e876f3e5cb791932728bf4d5541cd5", func := "blotter/blotterlaw11.TupleOrder", spec := "tupleOrder", unfollowed := true, recurses := true, apart := false, narrowed := true }
def TupleOrderUptoSaid : Prop := tupleOrderUptoRow.holds Try.pinned (OpenSpec.upto tupleOrderSpec)

/-- 'blotterlaw11.TupleBack', WHERE WHAT IT READS IS OF BULK AT MOST 1048576: true; the input reads as it did. -/
def tupleBackUptoRow : OpenClaim := { program := "ytpinmkoaihjhfaa", sum := "c6b55cd1b4208b84a6018e57b773a34ae7e876f3e5cb791932728bf4d5541cd5", func := "blotter/blotterlaw11.TupleBack", spec := "tupleBack", unfollowed := true, recurses := true, apart := false, narrowed := true }
def TupleBackUptoSaid : Prop := tupleBackUptoRow.holds Try.pinned (OpenSpec.upto tupleBackSpec)

/-- 'blotterlaw11.TupleMore', WHERE WHAT IT READS IS OF BULK AT MOST 1048576: true; the input reads as it did. -/
def tupleMoreUptoRow : OpenClaim := { program := "ytpinmkoaihjhfaa", sum := "c6b55cd1b4208b84a6018e57b773a34ae7e876f3e5cb791932728bf4d5541cd5", func := "blotter/blotterlaw11.TupleMore", spec := "tupleMore", unfollowed := true, recurses := true, apart := false, narrowed := true }
def TupleMoreUptoSaid : Prop := tupleMoreUptoRow.holds Try.pinned (OpenSpec.upto tupleMoreSpec)

end Rows
end Go.Proofs.Ytpinmkoaihjhfaa
