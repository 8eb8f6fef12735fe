/-
  No cell of these rows narrows 'for every input' (looked for: loops, veiled, ifaces, maps, wideKeys, modest, calm, conditions, laid).
  DERIVED. THE GIVEN ROWS OF THIS SEAT. 9 by the template 'for every input the law returns true; each argument reads behind the call as it read before'; 0 by the template 'total and deterministic' (their statements: YtlgpihboojgpmaaTotals.lean).
  GIVEN WITH THE SEED: the statements are not yours to turn. If you find one false, say at which input.
  Laid BY PROGRAM, IN A SANDBOX (cutbox-rows.mjs): the forced cells as the released guide's own fill.sh prints them over the translation ab2122dff93e2ab2… (all of the seat's roots in one cut). By AI agents, Wed Nov 11 2026. No macro, syntax, notation, axiom, sorry.
-/
import Derived.Test.YtlgpihboojgpmaaChecked
import GoSem.Claim
import GoSem.ClaimJoined
import GoSem.ClaimMapViews
import Derived.JoinedTies
import Derived.KernelRfl
namespace Go.Proofs.Ytlgpihboojgpmaa
/- THE CELL 'sum', in the pinned program and in every row, IS THE sha256 OF THE DUMP (.gsa) THAT YtlgpihboojgpmaaProg.lean LOADS. Nothing in Lean hashes anything: it is a label: what it is worth is what the hold of that sum in a sandbox is worth. -/
noncomputable def Try.pinned : Pinned := { name := "ytlgpihboojgpmaa", sum := "ab2122dff93e2ab21fff7cc2e6dfa298e6a2284660dd68a4fe97161cfb59bf23", checked := Try.checked }
namespace Rows
def none {H : Type} : Left H := { results := [], args := [] }

/-- 'blotterlaw06.ComposeWorks': WHATEVER THE INPUT: true; the input reads as it did. -/
def composeWorksSpec : ChangeSpec := { name := "composeWorks", fn := fun _ => fun
  | [d1, d2, d3] => { results := [.lit (.bool true)], args := [d1, d2, d3] }
  | _ => none }
def composeWorksRow : OpenClaim := { program := "ytlgpihboojgpmaa", sum := "ab2122dff93e2ab21fff7cc2e6dfa298e6a2284660dd68a4fe97161cfb59bf23", func := "blotter/blotterlaw06.ComposeWorks", spec := "composeWorks", inPlace := ["internal/abi.NoEscape", "internal/bytealg.abigen_runtime_cmpstring"], unfollowed := true, recurses := true, apart := false }
def ComposeWorksSaid : Prop := composeWorksRow.holds Try.pinned (OpenSpec.ofChange composeWorksSpec)

/-- ITS FALSE NEIGHBOUR: 'it returns false'. Refute it at one input. -/
def composeWorksWrong : ChangeSpec := { name := "composeWorks", fn := fun _ => fun
  | [d1, d2, d3] => { results := [.lit (.bool false)], args := [d1, d2, d3] }
  | _ => none }
def ComposeWorksWrongFalsely : Prop := composeWorksRow.holds Try.pinned (OpenSpec.ofChange composeWorksWrong)

/-- 'blotterlaw06.ComposeNothing': WHATEVER THE INPUT: true; the input reads as it did. -/
def composeNothingSpec : ChangeSpec := { name := "composeNothing", fn := fun _ => fun
  | [d] => { results := [.lit (.bool true)], args := [d] }
  | _ => none }
def composeNothingRow : OpenClaim := { program := "ytlgpihboojgpmaa", sum := "ab2122dff93e2ab21fff7cc2e6dfa298e6a2284660dd68a4fe97161cfb59bf23", func := "blotter/blotterlaw06.ComposeNothing", spec := "composeNothing", inPlace := ["internal/abi.NoEscape", "internal/bytealg.abigen_runtime_cmpstring"], unfollowed := true, recurses := true, apart := false }
def ComposeNothingSaid : Prop := composeNothingRow.holds Try.pinned (OpenSpec.ofChange composeNothingSpec)

/-- ITS FALSE NEIGHBOUR: 'it returns false'. Refute it at one input. -/
def composeNothingWrong : ChangeSpec := { name := "composeNothing", fn := fun _ => fun
  | [d] => { results := [.lit (.bool false)], args := [d] }
  | _ => none }
def ComposeNothingWrongFalsely : Prop := composeNothingRow.holds Try.pinned (OpenSpec.ofChange composeNothingWrong)

/-- 'blotterlaw06.ComposeThree': WHATEVER THE INPUT: true; the input reads as it did. -/
def composeThreeSpec : ChangeSpec := { name := "composeThree", fn := fun _ => fun
  | [d1, d2, d3] => { results := [.lit (.bool true)], args := [d1, d2, d3] }
  | _ => none }
def composeThreeRow : OpenClaim := { program := "ytlgpihboojgpmaa", sum := "ab2122dff93e2ab21fff7cc2e6dfa298e6a2284660dd68a4fe97161cfb59bf23", func := "blotter/blotterlaw06.ComposeThree", spec := "composeThree", inPlace := ["internal/abi.NoEscape", "internal/bytealg.abigen_runtime_cmpstring"], unfollowed := true, recurses := true, apart := false }
def ComposeThreeSaid : Prop := composeThreeRow.holds Try.pinned (OpenSpec.ofChange composeThreeSpec)

/-- ITS FALSE NEIGHBOUR: 'it returns false'. Refute it at one input. -/
def composeThreeWrong : ChangeSpec := { name := "composeThree", fn := fun _ => fun
  | [d1, d2, d3] => { results := [.lit (.bool false)], args := [d1, d2, d3] }
  | _ => none }
def ComposeThreeWrongFalsely : Prop := composeThreeRow.holds Try.pinned (OpenSpec.ofChange composeThreeWrong)

/-- 'blotterlaw06.ComposeLong': WHATEVER THE INPUT: true; the input reads as it did. -/
def composeLongSpec : ChangeSpec := { name := "composeLong", fn := fun _ => fun
  | [d1, d2] => { results := [.lit (.bool true)], args := [d1, d2] }
  | _ => none }
def composeLongRow : OpenClaim := { program := "ytlgpihboojgpmaa", sum := "ab2122dff93e2ab21fff7cc2e6dfa298e6a2284660dd68a4fe97161cfb59bf23", func := "blotter/blotterlaw06.ComposeLong", spec := "composeLong", inPlace := ["internal/abi.NoEscape", "internal/bytealg.abigen_runtime_cmpstring"], unfollowed := true, recurses := true, apart := false }
def ComposeLongSaid : Prop := composeLongRow.holds Try.pinned (OpenSpec.ofChange composeLongSpec)

/-- ITS FALSE NEIGHBOUR: 'it returns false'. Refute it at one input. -/
def composeLongWrong : ChangeSpec := { name := "composeLong", fn := fun _ => fun
  | [d1, d2] => { results := [.lit (.bool false)], args := [d1, d2] }
  | _ => none }
def ComposeLongWrongFalsely : Prop := composeLongRow.holds Try.pinned (OpenSpec.ofChange composeLongWrong)

/-- 'blotterlaw07.FollowWorks': WHATEVER THE INPUT: true; the input reads as it did. -/
def followWorksSpec : ChangeSpec := { name := "followWorks", fn := fun _ => fun
  | [d1, d2, d3, d4] => { results := [.lit (.bool true)], args := [d1, d2, d3, d4] }
  | _ => none }
def followWorksRow : OpenClaim := { program := "ytlgpihboojgpmaa", sum := "ab2122dff93e2ab21fff7cc2e6dfa298e6a2284660dd68a4fe97161cfb59bf23", func := "blotter/blotterlaw07.FollowWorks", spec := "followWorks", inPlace := ["internal/abi.NoEscape", "internal/bytealg.abigen_runtime_cmpstring"], unfollowed := true, recurses := true, apart := false }
def FollowWorksSaid : Prop := followWorksRow.holds Try.pinned (OpenSpec.ofChange followWorksSpec)

/-- ITS FALSE NEIGHBOUR: 'it returns false'. Refute it at one input. -/
def followWorksWrong : ChangeSpec := { name := "followWorks", fn := fun _ => fun
  | [d1, d2, d3, d4] => { results := [.lit (.bool false)], args := [d1, d2, d3, d4] }
  | _ => none }
def FollowWorksWrongFalsely : Prop := followWorksRow.holds Try.pinned (OpenSpec.ofChange followWorksWrong)

/-- 'blotterlaw07.FollowMeets': WHATEVER THE INPUT: true; the input reads as it did. -/
def followMeetsSpec : ChangeSpec := { name := "followMeets", fn := fun _ => fun
  | [d1, d2, d3] => { results := [.lit (.bool true)], args := [d1, d2, d3] }
  | _ => none }
def followMeetsRow : OpenClaim := { program := "ytlgpihboojgpmaa", sum := "ab2122dff93e2ab21fff7cc2e6dfa298e6a2284660dd68a4fe97161cfb59bf23", func := "blotter/blotterlaw07.FollowMeets", spec := "followMeets", inPlace := ["internal/abi.NoEscape", "internal/bytealg.abigen_runtime_cmpstring"], unfollowed := true, recurses := true, apart := false }
def FollowMeetsSaid : Prop := followMeetsRow.holds Try.pinned (OpenSpec.ofChange followMeetsSpec)

/-- ITS FALSE NEIGHBOUR: 'it returns false'. Refute it at one input. -/
def followMeetsWrong : ChangeSpec := { name := "followMeets", fn := fun _ => fun
  | [d1, d2, d3] => { results := [.lit (.bool false)], args := [d1, d2, d3] }
  | _ => none }
def FollowMeetsWrongFalsely : Prop := followMeetsRow.holds Try.pinned (OpenSpec.ofChange followMeetsWrong)

/-- 'blotterlaw07.FollowNothing': WHATEVER THE INPUT: true; the input reads as it did. -/
def followNothingSpec : ChangeSpec := { name := "followNothing", fn := fun _ => fun
  | [d1, d2] => { results := [.lit (.bool true)], args := [d1, d2] }
  | _ => none }
def followNothingRow : OpenClaim := { program := "ytlgpihboojgpmaa", sum := "ab2122dff93e2ab21fff7cc2e6dfa298e6a2284660dd68a4fe97161cfb59bf23", func := "blotter/blotterlaw07.FollowNothing", spec := "followNothing", inPlace := ["internal/abi.NoEscape", "internal/bytealg.abigen_runtime_cmpstring"], unfollowed := true, recurses := true, apart := false }
def FollowNothingSaid : Prop := followNothingRow.holds Try.pinned (OpenSpec.ofChange followNothingSpec)

/-- ITS FALSE NEIGHBOUR: 'it returns false'. Refute it at one input. -/
def followNothingWrong : ChangeSpec := { name := "followNothing", fn := fun _ => fun
  | [d1, d2] => { results := [.lit (.bool false)], args := [d1, d2] }
  | _ => none }
def FollowNothingWrongFalsely : Prop := followNothingRow.holds Try.pinned (OpenSpec.ofChange followNothingWrong)

/-- 'blotterlaw07.FollowLong': WHATEVER THE INPUT: true; the input reads as it did. -/
def followLongSpec : ChangeSpec := { name := "followLong", fn := fun _ => fun
  | [d1, d2, d3] => { results := [.lit (.bool true)], args := [d1, d2, d3] }
  | _ => none }
def followLongRow : OpenClaim := { program := "ytlgpihboojgpmaa", sum := "ab2122dff93e2ab21fff7cc2e6dfa298e6a2284660dd68a4fe97161cfb59bf23", func := "blotter/blotterlaw07.FollowLong", spec := "followLong", inPlace := ["internal/abi.NoEscape", "internal/bytealg.abigen_runtime_cmpstring"], unfollowed := true, recurses := true, apart := false }
def FollowLongSaid : Prop := followLongRow.holds Try.pinned (OpenSpec.ofChange followLongSpec)

/-- ITS FALSE NEIGHBOUR: 'it returns false'. Refute it at one input. -/
def followLongWrong : ChangeSpec := { name := "followLong", fn := fun _ => fun
  | [d1, d2, d3] => { results := [.lit (.bool false)], args := [d1, d2, d3] }
  | _ => none }
def FollowLongWrongFalsely : Prop := followLongRow.holds Try.pinned (OpenSpec.ofChange followLongWrong)

/-- 'blotterlaw07.FollowGone': WHATEVER THE INPUT: true; the input reads as it did. -/
def followGoneSpec : ChangeSpec := { name := "followGone", fn := fun _ => fun
  | [d1, d2] => { results := [.lit (.bool true)], args := [d1, d2] }
  | _ => none }
def followGoneRow : OpenClaim := { program := "ytlgpihboojgpmaa", sum := "ab2122dff93e2ab21fff7cc2e6dfa298e6a2284660dd68a4fe97161cfb59bf23", func := "blotter/blotterlaw07.FollowGone", spec := "followGone", inPlace := ["internal/abi.NoEscape", "internal/bytealg.abigen_runtime_cmpstring"], unfollowed := true, recurses := true, apart := false }
def FollowGoneSaid : Prop := followGoneRow.holds Try.pinned (OpenSpec.ofChange followGoneSpec)

/-- ITS FALSE NEIGHBOUR: 'it returns false'. Refute it at one input. -/
def followGoneWrong : ChangeSpec := { name := "followGone", fn := fun _ => fun
  | [d1, d2] => { results := [.lit (.bool false)], args := [d1, d2] }
  | _ => none }
def FollowGoneWrongFalsely : Prop := followGoneRow.holds Try.pinned (OpenSpec.ofChange followGoneWrong)

/- THE SECOND FORM. 'bulk': how many values and letters a reading holds, each counted each time it is reached (what is shared counts as often as it is met; a slice's spare places count too). A statement '..UptoSaid' is the law's where the arguments, and the package variables that the reading takes, are together of bulk at most 1048576: NARROWER than '..Said'. Prove '..Said' where nothing that the law and all that it calls make is longer than what came in: it says more and counts as full. Else prove '..UptoSaid'. A law counts once. -/
mutual
def uptoBulk {H : Type} : DataW H → Nat
  | .lit (.string bytes) => bytes.length + 1
  | .lit _ => 1
  | .nil => 1
  | .ptr d => uptoBulk d + 1
  | .slice elems spare => uptoBulkAll elems + uptoBulkAll spare + 1
  | .agg parts => uptoBulkAll parts + 1
  | .iface _ d => uptoBulk d + 1
  | .map entries => uptoBulkEntries entries + 1
  | .held _ => 1
def uptoBulkAll {H : Type} : List (DataW H) → Nat
  | [] => 0
  | d :: r => uptoBulk d + uptoBulkAll r
def uptoBulkEntries {H : Type} : List (Lit × DataW H) → Nat
  | [] => 0
  | x :: r => uptoBulkEntry x + uptoBulkEntries r
def uptoBulkEntry {H : Type} : Lit × DataW H → Nat
  | (.string bytes, d) => bytes.length + uptoBulk d + 1
  | (_, d) => uptoBulk d + 1
 end
def uptoSmall : (H : Type) → List (DataW H) → Bool := fun _ ds => decide (uptoBulkAll ds ≤ 1048576)
def OpenSpec.upto (s : _root_.Go.ChangeSpec) : _root_.Go.OpenSpec := { _root_.Go.OpenSpec.ofChange s with cond := some uptoSmall }

/-- 'blotterlaw06.ComposeWorks', WHERE WHAT IT READS IS OF BULK AT MOST 1048576: true; the input reads as it did. -/
def composeWorksUptoRow : OpenClaim := { program := "ytlgpihboojgpmaa", sum := "ab2122dff93e2ab21fff7cc2e6dfa298e6a2284660dd68a4fe97161cfb59bf23", func := "blotter/blotterlaw06.ComposeWorks", spec := "composeWorks", inPlace := ["internal/abi.NoEscape", "internal/bytealg.abigen_runtime_cmpstring"], unfollowed := true, recurses := true, apart := false, narrowed := true }
def ComposeWorksUptoSaid : Prop := composeWorksUptoRow.holds Try.pinned (OpenSpec.upto composeWorksSpec)

/-- 'blotterlaw06.ComposeNothing', WHERE WHAT IT READS IS OF BULK AT MOST 1048576: true; the input reads as it did. -/
def composeNothingUptoRow : OpenClaim := { program := "ytlgpihboojgpmaa", sum := "ab2122dff93e2ab21fff7cc2e6dfa298e6a2284660dd68a4fe97161cfb59bf23", func := "blotter/blotterlaw06.ComposeNothing", spec := "composeNothing", inPlace := ["internal/abi.NoEscape", "internal/bytealg.abigen_runtime_cmpstring"], unfollowed := true, recurses := true, apart := false, narrowed := true }
def ComposeNothingUptoSaid : Prop := composeNothingUptoRow.holds Try.pinned (OpenSpec.upto composeNothingSpec)

/-- 'blotterlaw06.ComposeThree', WHERE WHAT IT READS IS OF BULK AT MOST 1048576: true; the input reads as it did. -/
def composeThreeUptoRow : OpenClaim := { program := "ytlgpihboojgpmaa", sum := "ab2122dff93e2ab21fff7cc2e6dfa298e6a2284660dd68a4fe97161cfb59bf23", func := "blotter/blotterlaw06.ComposeThree", spec := "composeThree", inPlace := ["internal/abi.NoEscape", "internal/bytealg.abigen_runtime_cmpstring"], unfollowed := true, recurses := true, apart := false, narrowed := true }
def ComposeThreeUptoSaid : Prop := composeThreeUptoRow.holds Try.pinned (OpenSpec.upto composeThreeSpec)

/-- 'blotterlaw06.ComposeLong', WHERE WHAT IT READS IS OF BULK AT MOST 1048576: true; the input reads as it did. -/
def composeLongUptoRow : OpenClaim := { program := "ytlgpihboojgpmaa", sum := "ab2122dff93e2ab21fff7cc2e6dfa298e6a2284660dd68a4fe97161cfb59bf23", func := "blotter/blotterlaw06.ComposeLong", spec := "composeLong", inPlace := ["internal/abi.NoEscape", "internal/bytealg.abigen_runtime_cmpstring"], unfollowed := true, recurses := true, apart := false, narrowed := true }
def ComposeLongUptoSaid : Prop := composeLongUptoRow.holds Try.pinned (OpenSpec.upto composeLongSpec)

/-- 'blotterlaw07.FollowWorks', WHERE WHAT IT READS IS OF BULK AT MOST 1048576: true; the input reads as it did. -/
def followWorksUptoRow : OpenClaim := { program := "ytlgpihboojgpmaa", sum := "ab2122dff93e2ab21fff7cc2e6dfa298e6a2284660dd68a4fe97161cfb59bf23", func := "blotter/blotterlaw07.FollowWorks", spec := "followWorks", inPlace := ["internal/abi.NoEscape", "internal/bytealg.abigen_runtime_cmpstring"], unfollowed := true, recurses := true, apart := false, narrowed := true }
def FollowWorksUptoSaid : Prop := followWorksUptoRow.holds Try.pinned (OpenSpec.upto followWorksSpec)

/-- 'blotterlaw07.FollowMeets', WHERE WHAT IT READS IS OF BULK AT MOST 1048576: true; the input reads as it did. -/
def followMeetsUptoRow : OpenClaim := { program := "ytlgpihboojgpmaa", sum := "ab2122dff93e2ab21fff7cc2e6dfa298e6a2284660dd68a4fe97161cfb59bf23", func := "blotter/blotterlaw07.FollowMeets", spec := "followMeets", inPlace := ["internal/abi.NoEscape", "internal/bytealg.abigen_runtime_cmpstring"], unfollowed := true, recurses := true, apart := false, narrowed := true }
def FollowMeetsUptoSaid : Prop := followMeetsUptoRow.holds Try.pinned (OpenSpec.upto followMeetsSpec)

/-- 'blotterlaw07.FollowNothing', WHERE WHAT IT READS IS OF BULK AT MOST 1048576: true; the input reads as it did. -/
def followNothingUptoRow : OpenClaim := { program := "ytlgpihboojgpmaa", sum := "ab2122dff93e2ab21fff7cc2e6dfa298e6a2284660dd68a4fe97161cfb59bf23", func := "blotter/blotterlaw07.FollowNothing", spec := "followNothing", inPlace := ["internal/abi.NoEscape", "internal/bytealg.abigen_runtime_cmpstring"], unfollowed := true, recurses := true, apart := false, narrowed := true }
def FollowNothingUptoSaid : Prop := followNothingUptoRow.holds Try.pinned (OpenSpec.upto followNothingSpec)

/-- 'blotterlaw07.FollowLong', WHERE WHAT IT READS IS OF BULK AT MOST 1048576: true; the input reads as it did. -/
def followLongUptoRow : OpenClaim := { program := "ytlgpihboojgpmaa", sum := "ab2122dff93e2ab21fff7cc2e6dfa298e6a2284660dd68a4fe97161cfb59bf23", func := "blotter/blotterlaw07.FollowLong", spec := "followLong", inPlace := ["internal/abi.NoEscape", "internal/bytealg.abigen_runtime_cmpstring"], unfollowed := true, recurses := true, apart := false, narrowed := true }
def FollowLongUptoSaid : Prop := followLongUptoRow.holds Try.pinned (OpenSpec.upto followLongSpec)

/-- 'blotterlaw07.FollowGone', WHERE WHAT IT READS IS OF BULK AT MOST 1048576: true; the input reads as it did. -/
def followGoneUptoRow : OpenClaim := { program := "ytlgpihboojgpmaa", sum := "ab2122dff93e2ab21fff7cc2e6dfa298e6a2284660dd68a4fe97161cfb59bf23", func := "blotter/blotterlaw07.FollowGone", spec := "followGone", inPlace := ["internal/abi.NoEscape", "internal/bytealg.abigen_runtime_cmpstring"], unfollowed := true, recurses := true, apart := false, narrowed := true }
def FollowGoneUptoSaid : Prop := followGoneUptoRow.holds Try.pinned (OpenSpec.upto followGoneSpec)

end Rows
end Go.Proofs.Ytlgpihboojgpmaa
