/- How two rows of parts stand, and are they the same: the document's Order and Same. -/
import Derived.Test.YtpinmkoaihjhfaaTe
namespace Go.Proofs.Ytpinmkoaihjhfaa
open Go.RowKit Su Tp

set_option maxRecDepth 100000 in
set_option maxHeartbeats 8000000 in
theorem one_any (p q : Pt) (w : World) : Calls Try.prog 29 #[valP p, valP q] w fun e w' => e = .returned (.int .i64 (opP p q)) ∧ Below w.heap.size w w' := by
  obtain ⟨x1, x2, s⟩ := p
  obtain ⟨y1, y2, t⟩ := q
  have hL := less_tx s t
  have hQ := tx_beqS s t
  have h4 := cm_zero s t
  have h5 := cm_three s t
  obtain ⟨R, hR⟩ : ∃ R, R = opP (x1, x2, s) (y1, y2, t) := ⟨_, rfl⟩
  rw [← hR]
  have HR := Lib.hid (show R = if ci x1 y1 = 0 then (if ci x2 y2 = 0 then cm s t else ci x2 y2) else ci x1 y1 from hR)
  clear hR
  unfold valP
  simp only
  generalize cm s t = r3 at *
  generalize txB s = S at *
  generalize txB t = T at *
  obtain ⟨W, hW⟩ : ∃ W, W = (w.alloc (.cells #[.int .i64 x1, .int .i64 x2, .string S] 25)).alloc (.cells #[.int .i64 y1, .int .i64 y2, .string T] 25) := ⟨_, rfl⟩
  have BW := Lib.hid (show Below w.heap.size w W by rw [hW]; exact ((Below.refl _ _).alloc (Nat.le_refl _) _).alloc (by simp) _)
  have c0 : W.cell? ⟨w.heap.size, 0, none⟩ = some (.int .i64 x1) := by rw [hW]; go_simp
  have c1 : W.cell? ⟨w.heap.size, 1, none⟩ = some (.int .i64 x2) := by rw [hW]; go_simp
  have c2 : W.cell? ⟨w.heap.size, 2, none⟩ = some (.string S) := by rw [hW]; go_simp
  have d0 : W.cell? ⟨w.heap.size + 1, 0, none⟩ = some (.int .i64 y1) := by rw [hW]; go_simp
  have d1 : W.cell? ⟨w.heap.size + 1, 1, none⟩ = some (.int .i64 y2) := by rw [hW]; go_simp
  have d2 : W.cell? ⟨w.heap.size + 1, 2, none⟩ = some (.string T) := by rw [hW]; go_simp
  have HW := Lib.hid hW
  clear hW
  go_enter Try.func29, Try.ntmps29
  by_cases hk : x1 = y1
  · have k1 : (x1 == y1) = true := by simp [hk]
    have k2 : (x1 != y1) = false := by simp [hk]
    by_cases hi : x2 = y2
    · have i1 : (x2 == y2) = true := by simp [hi]
      have i2 : decide (x2 < y2) = false := decide_eq_false (by omega)
      have hr : R = r3 := by rw [HR.out, if_pos ((ci_zero _ _).2 hk), if_pos ((ci_zero _ _).2 hi)]
      subst hr
      rcases h5 with rfl | rfl | rfl
      · have l1 : Op.bytesLess S.toList T.toList = true := by rw [hL]; rfl
        clear hL hQ h4 HR hk hi
        go_wp2_with fail
        rw [← HW.out]
        go_wp2_with fail
        go_ret
        exact ⟨rfl, BW.out⟩
      · have l1 : Op.bytesLess S.toList T.toList = false := by rw [hL]; rfl
        have l2 : (S.toList == T.toList) = true := by rw [hQ]; exact decide_eq_true (h4.1 rfl)
        clear hL hQ h4 HR hk hi
        go_wp2_with fail
        rw [← HW.out]
        go_wp2_with fail
        go_ret
        exact ⟨rfl, BW.out⟩
      · have l1 : Op.bytesLess S.toList T.toList = false := by rw [hL]; rfl
        have l2 : (S.toList == T.toList) = false := by rw [hQ]; exact decide_eq_false fun e => by have := h4.2 e; omega
        clear hL hQ h4 HR hk hi
        go_wp2_with fail
        rw [← HW.out]
        go_wp2_with fail
        go_ret
        exact ⟨rfl, BW.out⟩
    · have i1 : (x2 == y2) = false := by simp [hi]
      by_cases hlt : x2 < y2
      · have i2 : decide (x2 < y2) = true := decide_eq_true hlt
        have hr : R = -1 := by rw [HR.out, if_pos ((ci_zero _ _).2 hk)]; unfold ci; rw [if_pos hlt]; rfl
        subst hr
        clear hL hQ h4 h5 HR hk hi
        go_wp2_with fail
        rw [← HW.out]
        go_wp2_with fail
        go_ret
        exact ⟨rfl, BW.out⟩
      · have i2 : decide (x2 < y2) = false := decide_eq_false hlt
        have hr : R = 1 := by rw [HR.out, if_pos ((ci_zero _ _).2 hk)]; unfold ci; rw [if_neg hlt, if_pos (show y2 < x2 by omega)]; rfl
        subst hr
        clear hL hQ h4 h5 HR hk hi
        go_wp2_with fail
        rw [← HW.out]
        go_wp2_with fail
        go_ret
        exact ⟨rfl, BW.out⟩
  · have k1 : (x1 == y1) = false := by simp [hk]
    have k2 : (x1 != y1) = true := by simp [hk]
    by_cases hlt : x1 < y1
    · have i2 : decide (x1 < y1) = true := decide_eq_true hlt
      have hr : R = -1 := by rw [HR.out]; unfold ci; rw [if_pos hlt]; rfl
      subst hr
      clear hL hQ h4 h5 HR hk
      go_wp2_with fail
      rw [← HW.out]
      go_wp2_with fail
      go_ret
      exact ⟨rfl, BW.out⟩
    · have i2 : decide (x1 < y1) = false := decide_eq_false hlt
      have hr : R = 1 := by rw [HR.out]; unfold ci; rw [if_neg hlt, if_pos (show y1 < x1 by omega)]; rfl
      subst hr
      clear hL hQ h4 h5 HR hk
      go_wp2_with fail
      rw [← HW.out]
      go_wp2_with fail
      go_ret
      exact ⟨rfl, BW.out⟩
end Go.Proofs.Ytpinmkoaihjhfaa
