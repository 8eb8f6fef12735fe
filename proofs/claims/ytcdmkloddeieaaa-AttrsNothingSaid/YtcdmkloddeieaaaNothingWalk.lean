/- The law AttrsNothing, walked. -/
import Derived.Test.YtcdmkloddeieaaaAtLaws
import Derived.Deep.DeepCutAuto
namespace Go.Proofs.Ytcdmkloddeieaaa
open Go.RowKit At

set_option maxRecDepth 100000 in
set_option maxHeartbeats 8000000 in
theorem nothing_walk (v0 v1 : Value) (l c : List (ByteArray × ByteArray)) (first : Bool) (w : World) (h0 : AtRow w v0 l) (h1 : AtRow w v1 c) (s0 : Sized l) (s1 : Sized c) :
    Calls Try.prog 7 #[v0, v1, .bool first] w fun e w' => e = .returned (.bool true) ∧ Below w.heap.size w w' := by
  have H0 := Lib.hid h0
  have H1 := Lib.hid h1
  have S0 := Lib.hid s0
  have S1 := Lib.hid s1
  have hs : sameB l l = true := decide_eq_true rfl
  have Hs := Lib.hid hs
  have hsc : sameB c c = true := decide_eq_true rfl
  have Hsc := Lib.hid hsc
  clear h0 h1 s0 s1 hs hsc
  go_enter Try.func7, Try.ntmps7
  go_wp2_with fail
  refine (awake_any _).mono ?_
  rintro e w1 ⟨rfl, b1⟩
  have B1 := Lib.hid b1
  clear b1
  go_wp2_with fail
  refine (rightD_any v0 l _ (H0.out.below B1.out) S0.out).mono ?_
  rintro e w2 ⟨rfl, b2⟩
  have B2 := Lib.hid (B1.out.trans (b2.mono B1.out.size))
  clear b2
  go_upto_if 25 with fail
  go_cut [8] (fun _ wx => Below w.heap.size w wx)
  case first =>
    cases hr : rgtB l with
    | false =>
      have hE : rgtE l = 20 := by unfold rgtE; rw [hr]; rfl
      rw [hE]
      clear hE hr
      go_wp2_with fail
      go_meet
      case rel => exact B2.out
    | true =>
      have hE : rgtE l = 0 := by unfold rgtE; rw [hr]; rfl
      have HN := Lib.hid (nothing_l hr)
      rw [hE]
      clear hE hr
      go_wp2_with fail
      refine (applyH v0 _ l [] _ (H0.out.below B2.out) (row_nil _) S0.out sized_nil).mono ?_
      rw [HN.out.1, HN.out.2.1]
      rintro e w3 ⟨ax, cx, rfl, rx, b3⟩
      have B3 := Lib.hid (B2.out.trans (b3.mono B2.out.size))
      have Rx := Lib.hid rx
      clear b3 rx
      go_wp2_with fail
      refine (invertH v0 _ l [] _ (H0.out.below B3.out) (row_nil _) S0.out sized_nil).mono ?_
      rw [HN.out.2.2.1, HN.out.2.2.2]
      rintro e w4 ⟨ay, cy, rfl, ry, b4⟩
      have B4 := Lib.hid (B3.out.trans (b4.mono B3.out.size))
      have Rx4 := Lib.hid (Rx.out.below b4)
      clear b4 ry
      go_wp2_with fail
      refine (same_any _ v0 l l _ Rx4.out (H0.out.below B4.out)).mono ?_
      rw [Hs.out]
      rintro e w5 ⟨rfl, k5, rfl⟩
      go_wp2_with fail
      go_meet
      case rel => exact below_drewN B4.out _
  case rest =>
    clear B1 B2
    have B3 := Lib.hid hcut
    clear hcut
    go_wp2_with fail
    refine (changeD_any v1 c _ (H1.out.below B3.out) S1.out).mono ?_
    rintro e w4 ⟨rfl, b4⟩
    have B4 := Lib.hid (B3.out.trans (b4.mono B3.out.size))
    clear b4
    cases hr : chgB c with
    | false =>
      have hE : chgE c = 20 := by unfold chgE; rw [hr]; rfl
      rw [hE]
      clear hE hr
      go_wp2_with fail
      go_ret
      exact ⟨rfl, B4.out⟩
    | true =>
      have hE : chgE c = 0 := by unfold chgE; rw [hr]; rfl
      have HN := Lib.hid (nothing_c first hr)
      rw [hE]
      clear hE hr
      go_wp2_with fail
      refine (composeH _ v1 [] c _ (row_nil _) (H1.out.below B4.out) sized_nil S1.out).mono ?_
      rw [HN.out.1.1, HN.out.1.2]
      rintro e w5 ⟨ax, cx, rfl, rx, b5⟩
      have B5 := Lib.hid (B4.out.trans (b5.mono B4.out.size))
      have Rx := Lib.hid rx
      clear b5 rx
      go_wp2_with fail
      refine (composeH v1 _ c [] _ (H1.out.below B5.out) (row_nil _) S1.out sized_nil).mono ?_
      rw [HN.out.2.1.1, HN.out.2.1.2]
      rintro e w6 ⟨ay, cy, rfl, ry, b6⟩
      have B6 := Lib.hid (B5.out.trans (b6.mono B5.out.size))
      have Rx6 := Lib.hid (Rx.out.below b6)
      have Ry := Lib.hid ry
      clear b6 ry
      go_wp2_with fail
      refine (followH first _ v1 [] c _ (row_nil _) (H1.out.below B6.out) sized_nil S1.out).mono ?_
      rw [HN.out.2.2.1.1, HN.out.2.2.1.2]
      rintro e w7 ⟨az, cz, rfl, rz, b7⟩
      have B7 := Lib.hid (B6.out.trans (b7.mono B6.out.size))
      have Rx7 := Lib.hid (Rx6.out.below b7)
      have Ry7 := Lib.hid (Ry.out.below b7)
      have Rz := Lib.hid rz
      clear b7 rz
      go_wp2_with fail
      refine (followH first v1 _ c [] _ (H1.out.below B7.out) (row_nil _) S1.out sized_nil).mono ?_
      rw [HN.out.2.2.2.1, HN.out.2.2.2.2]
      rintro e w8 ⟨aw, cw, rfl, rw8, b8⟩
      have B8 := Lib.hid (B7.out.trans (b8.mono B7.out.size))
      have Rx8 := Lib.hid (Rx7.out.below b8)
      have Ry8 := Lib.hid (Ry7.out.below b8)
      have Rz8 := Lib.hid (Rz.out.below b8)
      clear b8 rw8
      go_wp2_with fail
      refine (same_any _ v1 c c _ Rx8.out (H1.out.below B8.out)).mono ?_
      rw [Hsc.out]
      rintro e w9 ⟨rfl, k9, rfl⟩
      have Q9 := Lib.hid (below_drewN (Below.refl w8.heap.size w8) k9)
      have B9 := Lib.hid (below_drewN B8.out k9)
      generalize w8.drewN k9 = w9 at *
      go_wp2_with fail
      refine (same_any _ v1 c c _ (Ry8.out.below Q9.out) (H1.out.below B9.out)).mono ?_
      rw [Hsc.out]
      rintro e w10 ⟨rfl, k10, rfl⟩
      have Q10 := Lib.hid (below_drewN Q9.out k10)
      have B10 := Lib.hid (below_drewN B9.out k10)
      generalize w9.drewN k10 = w10 at *
      go_wp2_with fail
      refine (same_any _ v1 c c _ (Rz8.out.below Q10.out) (H1.out.below B10.out)).mono ?_
      rw [Hsc.out]
      rintro e w11 ⟨rfl, k11, rfl⟩
      go_wp2_with fail
      go_ret
      exact ⟨rfl, below_drewN B10.out _⟩
end Go.Proofs.Ytcdmkloddeieaaa
