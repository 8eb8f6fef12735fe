/- The law AttrsMeets, walked. -/
import Derived.Test.YtcdmkloddeieaaaAtLaws
namespace Go.Proofs.Ytcdmkloddeieaaa
open Go.RowKit At

set_option maxRecDepth 100000 in
set_option maxHeartbeats 4000000 in
theorem meets_walk (v0 v1 v2 : Value) (l a b : List (ByteArray × ByteArray)) (first : Bool) (w : World) (h0 : AtRow w v0 l) (h1 : AtRow w v1 a) (h2 : AtRow w v2 b) (s0 : Sized l) (s1 : Sized a) (s2 : Sized b) :
    Calls Try.prog 6 #[v0, v1, v2, .bool first] w fun e w' => e = .returned (.bool true) ∧ Below w.heap.size w w' := by
  have H0 := Lib.hid h0
  have H1 := Lib.hid h1
  have H2 := Lib.hid h2
  have S0 := Lib.hid s0
  have S1 := Lib.hid s1
  have S2 := Lib.hid s2
  clear h0 h1 h2 s0 s1 s2
  by_cases hE : applyE l a = 0
  · have HE := Lib.hid hE
    by_cases hE2 : applyE l b = 0
    · have HE2 := Lib.hid hE2
      have HM := Lib.hid (meets_all first hE hE2)
      obtain ⟨E, hEE⟩ : ∃ E, E = applyE (applyR l b) (followR (!first) b a) := ⟨_, rfl⟩
      have HEE := Lib.hid hEE
      have HEE2 := Lib.hid (HM.out.2.2.1.trans hEE.symm)
      have hs : sameB (applyR (applyR l b) (followR (!first) b a)) (applyR (applyR l b) (followR (!first) b a)) = true := decide_eq_true rfl
      have Hs := Lib.hid hs
      clear hs hE hE2 hEE
      go_enter Try.func6, Try.ntmps6
      go_wp2_with fail
      refine (awake_any _).mono ?_
      rintro e w1 ⟨rfl, b1⟩
      have B1 := Lib.hid b1
      clear b1
      go_wp2_with fail
      refine (applyH v0 v1 l a _ (H0.out.below B1.out) (H1.out.below B1.out) S0.out S1.out).mono ?_
      rw [HE.out]
      rintro e w2 ⟨ax, cx, rfl, rx, b2⟩
      have B2 := Lib.hid (B1.out.trans (b2.mono B1.out.size))
      have Rx := Lib.hid rx
      clear b2 rx
      go_wp2_with fail
      refine (applyH v0 v2 l b _ (H0.out.below B2.out) (H2.out.below B2.out) S0.out S2.out).mono ?_
      rw [HE2.out]
      rintro e w3 ⟨ay, cy, rfl, ry, b3⟩
      have B3 := Lib.hid (B2.out.trans (b3.mono B2.out.size))
      have Rx3 := Lib.hid (Rx.out.below b3)
      have Ry := Lib.hid ry
      clear b3 ry
      go_wp2_with fail
      refine (followH first v1 v2 a b _ (H1.out.below B3.out) (H2.out.below B3.out) S1.out S2.out).mono ?_
      rw [HM.out.1]
      rintro e w4 ⟨ap, cp, rfl, rp, b4⟩
      have B4 := Lib.hid (B3.out.trans (b4.mono B3.out.size))
      have Rx4 := Lib.hid (Rx3.out.below b4)
      have Ry4 := Lib.hid (Ry.out.below b4)
      have Rp := Lib.hid rp
      clear b4 rp
      go_wp2_with fail
      refine (followH (!first) v2 v1 b a _ (H2.out.below B4.out) (H1.out.below B4.out) S2.out S1.out).mono ?_
      rw [HM.out.2.1]
      rintro e w5 ⟨aq, cq, rfl, rq, b5⟩
      have B5 := Lib.hid (B4.out.trans (b5.mono B4.out.size))
      have Rx5 := Lib.hid (Rx4.out.below b5)
      have Ry5 := Lib.hid (Ry4.out.below b5)
      have Rp5 := Lib.hid (Rp.out.below b5)
      have Rq := Lib.hid rq
      clear b5 rq
      go_wp2_with fail
      refine (applyH _ _ (applyR l a) (followR first a b) _ Rx5.out Rp5.out (sized_applyR l a) (sized_followR first a b)).mono ?_
      rw [HEE2.out, HM.out.2.2.2]
      rintro e w6 ⟨az, cz, rfl, rz, b6⟩
      have B6 := Lib.hid (B5.out.trans (b6.mono B5.out.size))
      have Ry6 := Lib.hid (Ry5.out.below b6)
      have Rq6 := Lib.hid (Rq.out.below b6)
      have Rz := Lib.hid rz
      clear b6 rz
      go_wp2_with fail
      refine (applyH _ _ (applyR l b) (followR (!first) b a) _ Ry6.out Rq6.out (sized_applyR l b) (sized_followR (!first) b a)).mono ?_
      rw [← HEE.out]
      rintro e w7 ⟨aw, cw, rfl, rw7, b7⟩
      have B7 := Lib.hid (B6.out.trans (b7.mono B6.out.size))
      have Rz7 := Lib.hid (Rz.out.below b7)
      have Rw := Lib.hid rw7
      clear b7 rw7
      by_cases h0 : E = 0
      · subst h0
        go_wp2_with fail
        refine (same_any _ _ _ _ _ Rz7.out Rw.out).mono ?_
        rw [Hs.out]
        rintro e w8 ⟨rfl, k8, rfl⟩
        go_wp2_with fail
        go_ret
        exact ⟨rfl, below_drewN B7.out _⟩
      · have t1 : (E == 0) = false := by rw [beq_eq_false_iff_ne]; exact h0
        have t2 : (E != 0) = true := by rw [bne_iff_ne]; exact h0
        clear h0
        go_wp2_with fail
        go_ret
        exact ⟨rfl, B7.out⟩
    · have t1 : (applyE l b == 0) = false := by rw [beq_eq_false_iff_ne]; exact hE2
      have t2 : (applyE l b != 0) = true := by rw [bne_iff_ne]; exact hE2
      clear hE hE2
      go_enter Try.func6, Try.ntmps6
      go_wp2_with fail
      refine (awake_any _).mono ?_
      rintro e w1 ⟨rfl, b1⟩
      have B1 := Lib.hid b1
      clear b1
      go_wp2_with fail
      refine (applyH v0 v1 l a _ (H0.out.below B1.out) (H1.out.below B1.out) S0.out S1.out).mono ?_
      rw [HE.out]
      rintro e w2 ⟨ax, cx, rfl, rx, b2⟩
      have B2 := Lib.hid (B1.out.trans (b2.mono B1.out.size))
      clear b2 rx
      go_wp2_with fail
      refine (applyH v0 v2 l b _ (H0.out.below B2.out) (H2.out.below B2.out) S0.out S2.out).mono ?_
      rintro e w3 ⟨ay, cy, rfl, ry, b3⟩
      have B3 := Lib.hid (B2.out.trans (b3.mono B2.out.size))
      clear b3 ry
      go_wp2_with fail
      go_ret
      exact ⟨rfl, B3.out⟩
  · have t1 : (applyE l a == 0) = false := by rw [beq_eq_false_iff_ne]; exact hE
    have t2 : (applyE l a != 0) = true := by rw [bne_iff_ne]; exact hE
    clear hE
    go_enter Try.func6, Try.ntmps6
    go_wp2_with fail
    refine (awake_any _).mono ?_
    rintro e w1 ⟨rfl, b1⟩
    have B1 := Lib.hid b1
    clear b1
    go_wp2_with fail
    refine (applyH v0 v1 l a _ (H0.out.below B1.out) (H1.out.below B1.out) S0.out S1.out).mono ?_
    rintro e w2 ⟨ax, cx, rfl, rx, b2⟩
    have B2 := Lib.hid (B1.out.trans (b2.mono B1.out.size))
    clear b2 rx
    go_wp2_with fail
    refine (applyH v0 v2 l b _ (H0.out.below B2.out) (H2.out.below B2.out) S0.out S2.out).mono ?_
    rintro e w3 ⟨ay, cy, rfl, ry, b3⟩
    have B3 := Lib.hid (B2.out.trans (b3.mono B2.out.size))
    clear b3 ry
    go_wp2_with fail
    go_ret
    exact ⟨rfl, B3.out⟩
end Go.Proofs.Ytcdmkloddeieaaa
