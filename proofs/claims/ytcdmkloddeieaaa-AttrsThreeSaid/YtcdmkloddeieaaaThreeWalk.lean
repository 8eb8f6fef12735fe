/- The law AttrsThree, walked. -/
import Derived.Test.YtcdmkloddeieaaaAtLaws
namespace Go.Proofs.Ytcdmkloddeieaaa
open Go.RowKit At

set_option maxRecDepth 100000 in
set_option maxHeartbeats 4000000 in
theorem three_walk (v0 v1 v2 : Value) (a b c : List (ByteArray × ByteArray)) (w : World) (h0 : AtRow w v0 a) (h1 : AtRow w v1 b) (h2 : AtRow w v2 c) (s0 : Sized a) (s1 : Sized b) (s2 : Sized c) :
    Calls Try.prog 8 #[v0, v1, v2] w fun e w' => e = .returned (.bool true) ∧ Below w.heap.size w w' := by
  have H0 := Lib.hid h0
  have H1 := Lib.hid h1
  have H2 := Lib.hid h2
  have S0 := Lib.hid s0
  have S1 := Lib.hid s1
  have S2 := Lib.hid s2
  clear h0 h1 h2 s0 s1 s2
  by_cases hE : composeE a b = 0
  · have HE := Lib.hid hE
    by_cases hE2 : composeE b c = 0
    · have HE2 := Lib.hid hE2
      have HM := Lib.hid (three_all hE hE2)
      obtain ⟨E, hEE⟩ : ∃ E, E = composeE a (composeR b c) := ⟨_, rfl⟩
      have HEE := Lib.hid hEE
      have HEE2 := Lib.hid (HM.out.1.trans hEE.symm)
      have hs : sameB (composeR a (composeR b c)) (composeR a (composeR b c)) = true := decide_eq_true rfl
      have Hs := Lib.hid hs
      clear hs hE hE2 hEE
      go_enter Try.func8, Try.ntmps8
      go_wp2_with fail
      refine (awake_any _).mono ?_
      rintro e w1 ⟨rfl, b1⟩
      have B1 := Lib.hid b1
      clear b1
      go_wp2_with fail
      refine (composeH v0 v1 a b _ (H0.out.below B1.out) (H1.out.below B1.out) S0.out S1.out).mono ?_
      rw [HE.out]
      rintro e w2 ⟨ax, cx, rfl, rx, b2⟩
      have B2 := Lib.hid (B1.out.trans (b2.mono B1.out.size))
      have Rx := Lib.hid rx
      clear b2 rx
      go_wp2_with fail
      refine (composeH v1 v2 b c _ (H1.out.below B2.out) (H2.out.below B2.out) S1.out S2.out).mono ?_
      rw [HE2.out]
      rintro e w3 ⟨ay, cy, rfl, ry, b3⟩
      have B3 := Lib.hid (B2.out.trans (b3.mono B2.out.size))
      have Rx3 := Lib.hid (Rx.out.below b3)
      have Ry := Lib.hid ry
      clear b3 ry
      go_wp2_with fail
      refine (composeH _ v2 (composeR a b) c _ Rx3.out (H2.out.below B3.out) (sized_composeR a b) S2.out).mono ?_
      rw [HEE2.out, HM.out.2]
      rintro e w4 ⟨az, cz, rfl, rz, b4⟩
      have B4 := Lib.hid (B3.out.trans (b4.mono B3.out.size))
      have Ry4 := Lib.hid (Ry.out.below b4)
      have Rz := Lib.hid rz
      clear b4 rz
      go_wp2_with fail
      refine (composeH v0 _ a (composeR b c) _ (H0.out.below B4.out) Ry4.out S0.out (sized_composeR b c)).mono ?_
      rw [← HEE.out]
      rintro e w5 ⟨aw, cw, rfl, rw5, b5⟩
      have B5 := Lib.hid (B4.out.trans (b5.mono B4.out.size))
      have Rz5 := Lib.hid (Rz.out.below b5)
      have Rw := Lib.hid rw5
      clear b5 rw5
      have t1 : (E == E) = true := by simp
      go_wp2_with fail
      refine (same_any _ _ _ _ _ Rz5.out Rw.out).mono ?_
      rw [Hs.out]
      rintro e w8 ⟨rfl, k8, rfl⟩
      go_wp2_with fail
      go_ret
      exact ⟨rfl, below_drewN B5.out _⟩
    · have t1 : (composeE b c == 0) = false := by rw [beq_eq_false_iff_ne]; exact hE2
      have t2 : (composeE b c != 0) = true := by rw [bne_iff_ne]; exact hE2
      clear hE hE2
      go_enter Try.func8, Try.ntmps8
      go_wp2_with fail
      refine (awake_any _).mono ?_
      rintro e w1 ⟨rfl, b1⟩
      have B1 := Lib.hid b1
      clear b1
      go_wp2_with fail
      refine (composeH v0 v1 a b _ (H0.out.below B1.out) (H1.out.below B1.out) S0.out S1.out).mono ?_
      rw [HE.out]
      rintro e w2 ⟨ax, cx, rfl, rx, b2⟩
      have B2 := Lib.hid (B1.out.trans (b2.mono B1.out.size))
      clear b2 rx
      go_wp2_with fail
      refine (composeH v1 v2 b c _ (H1.out.below B2.out) (H2.out.below B2.out) S1.out S2.out).mono ?_
      rintro e w3 ⟨ay, cy, rfl, ry, b3⟩
      have B3 := Lib.hid (B2.out.trans (b3.mono B2.out.size))
      clear b3 ry
      go_wp2_with fail
      go_ret
      exact ⟨rfl, B3.out⟩
  · have t1 : (composeE a b == 0) = false := by rw [beq_eq_false_iff_ne]; exact hE
    have t2 : (composeE a b != 0) = true := by rw [bne_iff_ne]; exact hE
    clear hE
    go_enter Try.func8, Try.ntmps8
    go_wp2_with fail
    refine (awake_any _).mono ?_
    rintro e w1 ⟨rfl, b1⟩
    have B1 := Lib.hid b1
    clear b1
    go_wp2_with fail
    refine (composeH v0 v1 a b _ (H0.out.below B1.out) (H1.out.below B1.out) S0.out S1.out).mono ?_
    rintro e w2 ⟨ax, cx, rfl, rx, b2⟩
    have B2 := Lib.hid (B1.out.trans (b2.mono B1.out.size))
    clear b2 rx
    go_wp2_with fail
    refine (composeH v1 v2 b c _ (H1.out.below B2.out) (H2.out.below B2.out) S1.out S2.out).mono ?_
    rintro e w3 ⟨ay, cy, rfl, ry, b3⟩
    have B3 := Lib.hid (B2.out.trans (b3.mono B2.out.size))
    clear b3 ry
    go_wp2_with fail
    go_ret
    exact ⟨rfl, B3.out⟩
end Go.Proofs.Ytcdmkloddeieaaa
