/- strings.Clone: the same bytes, in new memory. -/
import Derived.Test.YtpjblmhhcadcbabDoorOffset
namespace Go.Proofs.YtpjblmhhcadcbabDoor
open Go.RowKit Rn

theorem clone_any (s : ByteArray) (w : World) (hs : s.size ≤ 281474976710656) :
    Calls Tryd.prog 17 #[.string s] w fun e w' => e = .returned (.string s) ∧ Below w.heap.size w w' := by
  go_enter Tryd.func17, Tryd.ntmps17
  go_wp2_with fail
  refine (Tryd.stringslite_Clone s _ hs).mono ?_
  rintro e w1 ⟨rfl, hb1⟩
  go_wp2_with fail
  go_ret
  exact ⟨rfl, hb1⟩
end Go.Proofs.YtpjblmhhcadcbabDoor
