/-
  No cell of these rows narrows 'for every input' (looked for: loops, veiled, ifaces, maps, wideKeys, modest, calm, conditions, laid).
  DERIVED. THE GIVEN ROWS OF THIS SEAT. 2 by the template 'for every input the law returns true; each argument reads behind the call as it read before'; 0 by the template 'total and deterministic' (their statements: YtchceolbbkhnnaaTotals.lean).
  GIVEN WITH THE SEED: the statements are not yours to turn. If you find one false, say at which input.
  Laid BY PROGRAM, IN A SANDBOX (cutbox-rows.mjs): the forced cells as the released guide's own fill.sh prints them over the translation 535a8aa3144a1ad6… (all of the seat's roots in one cut). By AI agents, Wed Nov 11 2026. No macro, syntax, notation, axiom, sorry.
-/
import Derived.Test.YtchceolbbkhnnaaChecked
import GoSem.Claim
import GoSem.ClaimJoined
import GoSem.ClaimMapViews
import Derived.JoinedTies
import Derived.KernelRfl
namespace Go.Proofs.Ytchceolbbkhnnaa
/- THE CELL 'sum', in the pinned program and in every row, IS THE sha256 OF THE DUMP (.gsa) THAT YtchceolbbkhnnaaProg.lean LOADS. Nothing in Lean hashes anything: it is a label: what it is worth is what the hold of that sum in a sandbox is worth. -/
noncomputable def Try.pinned : Pinned := { name := "ytchceolbbkhnnaa", sum := "535a8aa3144a1ad69bb0da52c469e4b175731c5fdfb8f0839d6bf391fed0a063", checked := Try.checked }
namespace Rows
def none {H : Type} : Left H := { results := [], args := [] }

/-- 'blotterlaw06.ComposeWorks': WHATEVER THE INPUT: true; the input reads as it did. -/
def composeWorksSpec : ChangeSpec := { name := "composeWorks", fn := fun _ => fun
  | [d1, d2, d3] => { results := [.lit (.bool true)], args := [d1, d2, d3] }
  | _ => none }
def composeWorksRow : OpenClaim := { program := "ytchceolbbkhnnaa", sum := "535a8aa3144a1ad69bb0da52c469e4b175731c5fdfb8f0839d6bf391fed0a063", func := "blotter/blotterlaw06.ComposeWorks", spec := "composeWorks", inPlace := ["internal/abi.NoEscape", "internal/bytealg.abigen_runtime_cmpstring"], unfollowed := true, recurses := true, apart := false }
def ComposeWorksSaid : Prop := composeWorksRow.holds Try.pinned (OpenSpec.ofChange composeWorksSpec)

/-- ITS FALSE NEIGHBOUR: 'it returns false'. Refute it at one input. -/
def composeWorksWrong : ChangeSpec := { name := "composeWorks", fn := fun _ => fun
  | [d1, d2, d3] => { results := [.lit (.bool false)], args := [d1, d2, d3] }
  | _ => none }
def ComposeWorksWrongFalsely : Prop := composeWorksRow.holds Try.pinned (OpenSpec.ofChange composeWorksWrong)

/-- 'blotterlaw07.FollowWorks': WHATEVER THE INPUT: true; the input reads as it did. -/
def followWorksSpec : ChangeSpec := { name := "followWorks", fn := fun _ => fun
  | [d1, d2, d3, d4] => { results := [.lit (.bool true)], args := [d1, d2, d3, d4] }
  | _ => none }
def followWorksRow : OpenClaim := { program := "ytchceolbbkhnnaa", sum := "535a8aa3144a1ad69bb0da52c469e4b175731c5fdfb8f0839d6bf391fed0a063", func := "blotter/blotterlaw07.FollowWorks", spec := "followWorks", inPlace := ["internal/abi.NoEscape", "internal/bytealg.abigen_runtime_cmpstring"], unfollowed := true, recurses := true, apart := false }
def FollowWorksSaid : Prop := followWorksRow.holds Try.pinned (OpenSpec.ofChange followWorksSpec)

/-- ITS FALSE NEIGHBOUR: 'it returns false'. Refute it at one input. -/
def followWorksWrong : ChangeSpec := { name := "followWorks", fn := fun _ => fun
  | [d1, d2, d3, d4] => { results := [.lit (.bool false)], args := [d1, d2, d3, d4] }
  | _ => none }
def FollowWorksWrongFalsely : Prop := followWorksRow.holds Try.pinned (OpenSpec.ofChange followWorksWrong)

/- THE SECOND FORM. 'bulk': how many values and letters a reading holds, each counted each time it is reached (what is shared counts as often as it is met; a slice's spare places count too). A statement '..UptoSaid' is the law's where the arguments, and the package variables that the reading takes, are together of bulk at most 1048576: NARROWER than '..Said'. Prove '..Said' where nothing that the law and all that it calls make is longer than what came in: it says more and counts as full. Else prove '..UptoSaid'. A law counts once. -/
mutual
def uptoBulk {H : Type} : DataW H → Nat
  | .lit (.string bytes) => bytes.length + 1
  | .lit _ => 1
  | .nil => 1
  | .ptr d => uptoBulk d + 1
  | .slice elems spare => uptoBulkAll elems + uptoBulkAll spare + 1
  | .agg parts => uptoBulkAll parts + 1
  | .iface _ d => uptoBulk d + 1
  | .map entries => uptoBulkEntries entries + 1
  | .held _ => 1
def uptoBulkAll {H : Type} : List (DataW H) → Nat
  | [] => 0
  | d :: r => uptoBulk d + uptoBulkAll r
def uptoBulkEntries {H : Type} : List (Lit × DataW H) → Nat
  | [] => 0
  | x :: r => uptoBulkEntry x + uptoBulkEntries r
def uptoBulkEntry {H : Type} : Lit × DataW H → Nat
  | (.string bytes, d) => bytes.length + uptoBulk d + 1
  | (_, d) => uptoBulk d + 1
 end
def uptoSmall : (H : Type) → List (DataW H) → Bool := fun _ ds => decide (uptoBulkAll ds ≤ 1048576)
def OpenSpec.upto (s : _root_.Go.ChangeSpec) : _root_.Go.OpenSpec := { _root_.Go.OpenSpec.ofChange s with cond := some uptoSmall }

/-- 'blotterlaw06.ComposeWorks', WHERE WHAT IT READS IS OF BULK AT MOST 1048576: true; the input reads as it did. -/
def composeWorksUptoRow : OpenClaim := { program := "ytchceolbbkhnnaa", sum := "535a8aa3144a1ad69bb0da52c469e4b175731c5fdfb8f0839d6bf391fed0a063", func := "blotter/blotterlaw06.ComposeWorks", spec := "composeWorks", inPlace := ["internal/abi.NoEscape", "internal/bytealg.abigen_runtime_cmpstring"], unfollowed := true, recurses := true, apart := false, narrowed := true }
def ComposeWorksUptoSaid : Prop := composeWorksUptoRow.holds Try.pinned (OpenSpec.upto composeWorksSpec)

/-- 'blotterlaw07.FollowWorks', WHERE WHAT IT READS IS OF BULK AT MOST 1048576: true; the input reads as it did. -/
def followWorksUptoRow : OpenClaim := { program := "ytchceolbbkhnnaa", sum := "535a8aa3144a1ad69bb0da52c469e4b175731c5fdfb8f0839d6bf391fed0a063", func := "blotter/blotterlaw07.FollowWorks", spec := "followWorks", inPlace := ["internal/abi.NoEscape", "internal/bytealg.abigen_runtime_cmpstring"], unfollowed := true, recurses := true, apart := false, narrowed := true }
def FollowWorksUptoSaid : Prop := followWorksUptoRow.holds Try.pinned (OpenSpec.upto followWorksSpec)

end Rows
end Go.Proofs.Ytchceolbbkhnnaa
