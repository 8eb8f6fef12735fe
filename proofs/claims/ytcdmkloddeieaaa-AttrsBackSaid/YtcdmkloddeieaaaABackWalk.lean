/- The law AttrsBack, walked. -/
import Derived.Test.YtcdmkloddeieaaaAtLaws
namespace Go.Proofs.Ytcdmkloddeieaaa
open Go.RowKit At

set_option maxRecDepth 100000 in
set_option maxHeartbeats 4000000 in
theorem back_walk (v0 v1 v2 : Value) (l a b : List (ByteArray × ByteArray)) (w : World) (h0 : AtRow w v0 l) (h1 : AtRow w v1 a) (h2 : AtRow w v2 b) (s0 : Sized l) (s1 : Sized a) (s2 : Sized b) :
    Calls Try.prog 5 #[v0, v1, v2] w fun e w' => e = .returned (.bool true) ∧ Below w.heap.size w w' := by
  have H0 := Lib.hid h0
  have H1 := Lib.hid h1
  have H2 := Lib.hid h2
  have S0 := Lib.hid s0
  have S1 := Lib.hid s1
  have S2 := Lib.hid s2
  clear h0 h1 h2 s0 s1 s2
  by_cases hE : applyE l a = 0
  · have HE := Lib.hid hE
    have HB := Lib.hid (back_all hE)
    have hs : sameB l l = true := decide_eq_true rfl
    have Hs := Lib.hid hs
    clear hs
    go_enter Try.func5, Try.ntmps5
    clear hE
    go_wp2_with fail
    refine (awake_any _).mono ?_
    rintro e w1 ⟨rfl, b1⟩
    have B1 := Lib.hid b1
    clear b1
    go_wp2_with fail
    refine (applyH v0 v1 l a _ (H0.out.below B1.out) (H1.out.below B1.out) S0.out S1.out).mono ?_
    rw [HE.out]
    rintro e w2 ⟨ax, cx, rfl, rx, b2⟩
    have B2 := Lib.hid (B1.out.trans (b2.mono B1.out.size))
    have Rx := Lib.hid rx
    clear b2 rx
    go_wp2_with fail
    refine (invertH v0 v1 l a _ (H0.out.below B2.out) (H1.out.below B2.out) S0.out S1.out).mono ?_
    rw [HB.out.1]
    rintro e w3 ⟨au, cu, rfl, ru, b3⟩
    have B3 := Lib.hid (B2.out.trans (b3.mono B2.out.size))
    have Rx3 := Lib.hid (Rx.out.below b3)
    have Ru := Lib.hid ru
    clear b3 ru
    go_wp2_with fail
    refine (applyH _ _ (applyR l a) (invertR l a) _ Rx3.out Ru.out (sized_applyR l a) (sized_invertR l a)).mono ?_
    rw [HB.out.2.1, HB.out.2.2]
    rintro e w4 ⟨ab, cb, rfl, rb, b4⟩
    have B4 := Lib.hid (B3.out.trans (b4.mono B3.out.size))
    have Rx4 := Lib.hid (Rx3.out.below b4)
    have Rb := Lib.hid rb
    clear b4 rb
    go_wp2_with fail
    refine (same_any _ v0 l l _ Rb.out (H0.out.below B4.out)).mono ?_
    rw [Hs.out]
    rintro e w5 ⟨rfl, k5, rfl⟩
    have B5 := Lib.hid (below_drewN B4.out k5)
    have Rx5 := Lib.hid (Rx4.out.below (below_drewN (Below.refl w4.heap.size w4) k5))
    generalize w4.drewN k5 = w5 at *
    by_cases hE2 : applyE (applyR l a) b = 0
    · have HE2 := Lib.hid hE2
      by_cases hE3 : composeE a b = 0
      · have HE3 := Lib.hid hE3
        have HT := Lib.hid (two_all HE.out hE2 hE3)
        have hs2 : sameB (applyR (applyR l a) b) (applyR (applyR l a) b) = true := decide_eq_true rfl
        have Hs2 := Lib.hid hs2
        clear hE2 hE3 hs2
        go_wp2_with fail
        refine (applyH _ v2 (applyR l a) b _ Rx5.out (H2.out.below B5.out) (sized_applyR l a) S2.out).mono ?_
        rw [HE2.out]
        rintro e w6 ⟨ay, cy, rfl, ry, b6⟩
        have B6 := Lib.hid (B5.out.trans (b6.mono B5.out.size))
        have Ry := Lib.hid ry
        clear b6 ry
        go_wp2_with fail
        refine (composeH v1 v2 a b _ (H1.out.below B6.out) (H2.out.below B6.out) S1.out S2.out).mono ?_
        rw [HE3.out]
        rintro e w7 ⟨ac, cc, rfl, rc, b7⟩
        have B7 := Lib.hid (B6.out.trans (b7.mono B6.out.size))
        have Ry7 := Lib.hid (Ry.out.below b7)
        have Rc := Lib.hid rc
        clear b7 rc
        go_wp2_with fail
        refine (applyH v0 _ l (composeR a b) _ (H0.out.below B7.out) Rc.out S0.out (sized_composeR a b)).mono ?_
        rw [HT.out.1, HT.out.2]
        rintro e w8 ⟨az, cz, rfl, rz, b8⟩
        have B8 := Lib.hid (B7.out.trans (b8.mono B7.out.size))
        have Ry8 := Lib.hid (Ry7.out.below b8)
        have Rz := Lib.hid rz
        clear b8 rz
        go_wp2_with fail
        refine (same_any _ _ (applyR (applyR l a) b) (applyR (applyR l a) b) _ Ry8.out Rz.out).mono ?_
        rw [Hs2.out]
        rintro e w9 ⟨rfl, k9, rfl⟩
        go_wp2_with fail
        go_ret
        exact ⟨rfl, below_drewN B8.out _⟩
      · have t1 : (composeE a b == 0) = false := by rw [beq_eq_false_iff_ne]; exact hE3
        have t2 : (composeE a b != 0) = true := by rw [bne_iff_ne]; exact hE3
        clear hE2 hE3
        go_wp2_with fail
        refine (applyH _ v2 (applyR l a) b _ Rx5.out (H2.out.below B5.out) (sized_applyR l a) S2.out).mono ?_
        rw [HE2.out]
        rintro e w6 ⟨ay, cy, rfl, ry, b6⟩
        have B6 := Lib.hid (B5.out.trans (b6.mono B5.out.size))
        clear b6 ry
        go_wp2_with fail
        refine (composeH v1 v2 a b _ (H1.out.below B6.out) (H2.out.below B6.out) S1.out S2.out).mono ?_
        rintro e w7 ⟨ac, cc, rfl, rc, b7⟩
        have B7 := Lib.hid (B6.out.trans (b7.mono B6.out.size))
        clear b7 rc
        go_wp2_with fail
        go_ret
        exact ⟨rfl, B7.out⟩
    · have t1 : (applyE (applyR l a) b == 0) = false := by rw [beq_eq_false_iff_ne]; exact hE2
      have t2 : (applyE (applyR l a) b != 0) = true := by rw [bne_iff_ne]; exact hE2
      clear hE2
      go_wp2_with fail
      refine (applyH _ v2 (applyR l a) b _ Rx5.out (H2.out.below B5.out) (sized_applyR l a) S2.out).mono ?_
      rintro e w6 ⟨ay, cy, rfl, ry, b6⟩
      have B6 := Lib.hid (B5.out.trans (b6.mono B5.out.size))
      clear b6 ry
      go_wp2_with fail
      refine (composeH v1 v2 a b _ (H1.out.below B6.out) (H2.out.below B6.out) S1.out S2.out).mono ?_
      rintro e w7 ⟨ac, cc, rfl, rc, b7⟩
      have B7 := Lib.hid (B6.out.trans (b7.mono B6.out.size))
      clear b7 rc
      go_wp2_with fail
      go_ret
      exact ⟨rfl, B7.out⟩
  · have HR := Lib.hid (applyR_bad hE)
    have t1 : (applyE l a == 0) = false := by rw [beq_eq_false_iff_ne]; exact hE
    have t2 : (applyE l a != 0) = true := by rw [bne_iff_ne]; exact hE
    clear hE
    go_enter Try.func5, Try.ntmps5
    go_wp2_with fail
    refine (awake_any _).mono ?_
    rintro e w1 ⟨rfl, b1⟩
    have B1 := Lib.hid b1
    clear b1
    go_wp2_with fail
    refine (applyH v0 v1 l a _ (H0.out.below B1.out) (H1.out.below B1.out) S0.out S1.out).mono ?_
    rw [HR.out]
    rintro e w2 ⟨ax, cx, rfl, rx, b2⟩
    have B2 := Lib.hid (B1.out.trans (b2.mono B1.out.size))
    clear b2 rx
    go_wp2_with fail
    go_ret
    exact ⟨rfl, B2.out⟩
end Go.Proofs.Ytcdmkloddeieaaa
