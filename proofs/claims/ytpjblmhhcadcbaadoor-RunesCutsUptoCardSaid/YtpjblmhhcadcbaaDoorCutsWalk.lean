/- The law RunesCuts, walked. -/
import Derived.Test.YtpjblmhhcadcbaaDoorRefCut
namespace Go.Proofs.YtpjblmhhcadcbaaDoor
open Go.RowKit Rn

set_option maxRecDepth 100000 in
set_option maxHeartbeats 1000000 in
theorem cuts_walk (s : ByteArray) (a b : Int) (m : Int) (w : World) (hs : s.size ≤ 1048576) (hm : w.cell? ⟨0, 0, none⟩ = some (.int .i64 m)) :
    Calls Tryd.prog 3 #[.string s, .int .i64 a, .int .i64 b] w fun e w' => e = .returned (.bool true) ∧ Below w.heap.size w w' := by
  have HM := Lib.hid hm
  clear hm
  have hs' : s.size ≤ maxLen := by unfold maxLen; omega
  go_enter Tryd.func3, Tryd.ntmps3
  go_wp2_with fail
  refine (awake_any m _ HM.out).mono ?_
  rintro e w1 ⟨rfl, b1⟩
  have s1 := b1.size
  go_wp2_with fail
  refine (count_any s _ hs').mono ?_
  rintro e w2 ⟨rfl, b2⟩
  have s2 := b2.size
  go_wp2_with fail
  refine (cut_any s a b _ hs').mono ?_
  rintro e w3 ⟨rfl, b3⟩
  have s3 := b3.size
  go_wp2_with fail
  refine (place_any s a _ hs').mono ?_
  rintro e w4 ⟨rfl, b4⟩
  have s4 := b4.size
  have b04 : Below w.heap.size w w4 := ((b1.trans (b2.mono s1)).trans (b3.mono (by omega))).trans (b4.mono (by omega))
  clear b1 b2 b3 b4
  go_wp2_with fail
  refine (refCount_any s _ hs).mono ?_
  rintro e w5 ⟨rfl, b5⟩
  have s5 := b5.size
  go_wp2_with fail
  refine (refCut_any s a b _ hs).mono ?_
  rintro e w6 ⟨rfl, b6⟩
  have s6 := b6.size
  go_wp2_with fail
  refine (refPlace_any s a _ hs).mono ?_
  rintro e w7 ⟨rfl, b7⟩
  go_wp2_with fail
  go_ret
  exact ⟨rfl, ((b04.trans (b5.mono (by omega))).trans (b6.mono (by omega))).trans (b7.mono (by omega))⟩
end Go.Proofs.YtpjblmhhcadcbaaDoor
