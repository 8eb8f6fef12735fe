/- The law AttrsRights, walked. -/
import Derived.Test.YtcdmkloddeieaaaAtAwake
import Derived.Test.YtcdmkloddeieaaaAtSame
namespace Go.Proofs.Ytcdmkloddeieaaa
open Go.RowKit At

set_option maxHeartbeats 2000000 in
theorem rights_walk (v u : Value) (a b : List (ByteArray × ByteArray)) (w : World) (hv : AtRow w v a) (hu : AtRow w u b) (ha : Sized a) (_hb : Sized b) :
    Calls Try.prog 3 #[v, u] w fun e w' => e = .returned (.bool true) ∧ Below w.heap.size w w' := by
  have Hv := Lib.hid hv
  have Hu := Lib.hid hu
  have Ha := Lib.hid ha
  have hs : sameB a a = true := decide_eq_true rfl
  have Hs := Lib.hid hs
  clear hv hu ha hs
  go_enter Try.func3, Try.ntmps3
  go_wp2_with fail
  refine (awake_any _).mono ?_
  rintro e w1 ⟨rfl, b1⟩
  have B1 := Lib.hid b1
  clear b1
  go_wp2_with fail
  refine (same_any v u a b _ (Hv.out.below B1.out) (Hu.out.below B1.out)).mono ?_
  rintro e w2 ⟨rfl, k2, rfl⟩
  go_wp2_with fail
  refine (same_any v v a a _ (Hv.out.below (below_drewN B1.out _)) (Hv.out.below (below_drewN B1.out _))).mono ?_
  rw [Hs.out]
  rintro e w3 ⟨rfl, k3, rfl⟩
  go_wp2_with fail
  refine (rightD_any v a _ (Hv.out.below (below_drewN B1.out _)) Ha.out).mono ?_
  rintro e w4 ⟨rfl, b4⟩
  have B4 := Lib.hid ((below_drewN B1.out _).trans (b4.mono B1.out.size))
  clear b4
  go_wp2_with fail
  refine (right_any v a _ (Hv.out.below B4.out) Ha.out).mono ?_
  rintro e w5 ⟨rfl, k5, rfl⟩
  go_wp2_with fail
  refine (changeD_any v a _ (Hv.out.below (below_drewN B4.out _)) Ha.out).mono ?_
  rintro e w6 ⟨rfl, b6⟩
  have B6 := Lib.hid ((below_drewN B4.out _).trans (b6.mono B4.out.size))
  clear b6
  go_wp2_with fail
  refine (change_any v a _ (Hv.out.below B6.out) Ha.out).mono ?_
  rintro e w7 ⟨rfl, k7, rfl⟩
  go_wp2_with fail
  refine (refSame_any v u a b _ (Hv.out.below (below_drewN B6.out _)) (Hu.out.below (below_drewN B6.out _))).mono ?_
  rintro e w8 ⟨rfl, k8, rfl⟩
  go_wp2_with fail
  go_ret
  exact ⟨by simp, below_drewN B6.out _⟩
end Go.Proofs.Ytcdmkloddeieaaa
