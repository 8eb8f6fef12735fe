/- The laws RunesSplices and RunesAlike, walked. -/
import Derived.Test.YtpjblmhhcadcbaaDoorRefBehind2
namespace Go.Proofs.YtpjblmhhcadcbaaDoor
open Go.RowKit Rn

set_option maxRecDepth 100000 in
set_option maxHeartbeats 1000000 in
theorem splices_walk (s : ByteArray) (a g : Int) (p : ByteArray) (m : Int) (w : World) (hs : s.size ≤ 1048576) (hp : p.size ≤ 1048576) (hm : w.cell? ⟨0, 0, none⟩ = some (.int .i64 m)) :
    Calls Tryd.prog 4 #[.string s, .int .i64 a, .int .i64 g, .string p] w fun e w' => e = .returned (.bool true) ∧ Below w.heap.size w w' := by
  have HM := Lib.hid hm
  clear hm
  go_enter Tryd.func4, Tryd.ntmps4
  go_wp2_with fail
  refine (awake_any m _ HM.out).mono ?_
  rintro e w1 ⟨rfl, b1⟩
  have s1 := b1.size
  go_wp2_with fail
  refine (splice_any s p a g _ (by unfold maxLen; omega) (by unfold maxLen; omega)).mono ?_
  rintro e w2 ⟨rfl, b2⟩
  have s2 := b2.size
  go_wp2_with fail
  refine (refSplice_any s p a g _ hs hp).mono ?_
  rintro e w3 ⟨rfl, b3⟩
  go_wp2_with fail
  go_ret
  exact ⟨rfl, (b1.trans (b2.mono s1)).trans (b3.mono (by omega))⟩

set_option maxRecDepth 100000 in
set_option maxHeartbeats 1000000 in
theorem alike_walk (s p : ByteArray) (m : Int) (w : World) (hs : s.size ≤ 1048576) (hp : p.size ≤ 1048576) (hm : w.cell? ⟨0, 0, none⟩ = some (.int .i64 m)) :
    Calls Tryd.prog 5 #[.string s, .string p] w fun e w' => e = .returned (.bool true) ∧ Below w.heap.size w w' := by
  have HM := Lib.hid hm
  clear hm
  have hs' : s.size ≤ maxLen := by unfold maxLen; omega
  have hp' : p.size ≤ maxLen := by unfold maxLen; omega
  go_enter Tryd.func5, Tryd.ntmps5
  go_wp2_with fail
  refine (awake_any m _ HM.out).mono ?_
  rintro e w1 ⟨rfl, b1⟩
  have s1 := b1.size
  go_wp2_with fail
  refine (Ahead_any s p _ hs' hp').mono ?_
  rintro e w2 ⟨rfl, b2⟩
  have s2 := b2.size
  go_wp2_with fail
  refine (Behind_any s p _ hs' hp').mono ?_
  rintro e w3 ⟨rfl, b3⟩
  have s3 := b3.size
  have b03 : Below w.heap.size w w3 := (b1.trans (b2.mono s1)).trans (b3.mono (by omega))
  clear b1 b2 b3
  go_wp2_with fail
  refine (refAhead_any s p _ hs hp).mono ?_
  rintro e w4 ⟨rfl, b4⟩
  have s4 := b4.size
  go_wp2_with fail
  refine (refBehind_any s p _ hs hp).mono ?_
  rintro e w5 ⟨rfl, b5⟩
  go_wp2_with fail
  go_ret
  exact ⟨rfl, (b03.trans (b4.mono (by omega))).trans (b5.mono (by omega))⟩
end Go.Proofs.YtpjblmhhcadcbaaDoor
