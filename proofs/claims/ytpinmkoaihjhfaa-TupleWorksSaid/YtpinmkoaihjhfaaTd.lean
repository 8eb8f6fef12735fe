/- How two ints, two texts, two parts stand: the library's Compare and Or, the program's Order. -/
import Derived.Test.YtpinmkoaihjhfaaTc
import Derived.Laws.Cover1
import Derived.StillTailTactics
namespace Go.Proofs.Ytpinmkoaihjhfaa
open Go.RowKit Su Tp

theorem nanI_any (n : Int) (w : World) : Calls Try.prog 33 #[.int .i64 n] w fun e w' => e = .returned (.bool false) ∧ w' = w := by
  have h : (n != n) = false := by simp
  go_enter Try.func33, Try.ntmps33
  go_wp2_with fail
  go_ret
  exact ⟨rfl, rfl⟩
theorem nanS_any (t : ByteArray) (w : World) : Calls Try.prog 34 #[.string t] w fun e w' => e = .returned (.bool false) ∧ w' = w := by
  have h : (t.toList == t.toList) = true := by simp
  have h' : (t.toList != t.toList) = false := by simp
  go_enter Try.func34, Try.ntmps34
  go_wp2_with fail
  go_ret
  exact ⟨rfl, rfl⟩
set_option maxHeartbeats 2000000 in
theorem compI_any (m n : Int) (w : World) : Calls Try.prog 25 #[.int .i64 m, .int .i64 n] w fun e w' => e = .returned (.int .i64 (ci m n)) ∧ w' = w := by
  have N1 := Lib.hid (nanI_any m w)
  have N2 := Lib.hid (nanI_any n w)
  obtain ⟨R, hR⟩ : ∃ R, R = ci m n := ⟨_, rfl⟩
  rw [← hR]
  have HR := Lib.hid hR
  clear hR
  go_enter Try.func25, Try.ntmps25
  go_wp2_with fail
  refine N1.out.mono ?_
  rintro e w1 ⟨rfl, rfl⟩
  go_wp2_with fail
  refine N2.out.mono ?_
  rintro e w1 ⟨rfl, rfl⟩
  by_cases h : m < n
  · have hr : R = -1 := by rw [HR.out]; unfold ci; rw [if_pos h]
    subst hr
    have t1 : decide (m < n) = true := decide_eq_true h
    clear HR
    go_wp2_with fail
    go_ret
    exact ⟨rfl, rfl⟩
  · have t1 : decide (m < n) = false := decide_eq_false h
    by_cases h' : n < m
    · have hr : R = 1 := by rw [HR.out]; unfold ci; rw [if_neg h, if_pos h']
      subst hr
      have t2 : decide (n < m) = true := decide_eq_true h'
      clear HR
      go_wp2_with fail
      go_ret
      exact ⟨rfl, rfl⟩
    · have hr : R = 0 := by rw [HR.out]; unfold ci; rw [if_neg h, if_neg h']
      subst hr
      have t2 : decide (n < m) = false := decide_eq_false h'
      clear HR
      go_wp2_with fail
      go_ret
      exact ⟨rfl, rfl⟩
theorem less_tx (s t : List UInt8) : Op.bytesLess (txB s).toList (txB t).toList = decide (cm s t < 0) := by rw [tx_list, tx_list, cm_less]
set_option maxHeartbeats 2000000 in
theorem compS_any (s t : List UInt8) (w : World) : Calls Try.prog 26 #[.string (txB s), .string (txB t)] w fun e w' => e = .returned (.int .i64 (cm s t)) ∧ w' = w := by
  have N1 := Lib.hid (nanS_any (txB s) w)
  have N2 := Lib.hid (nanS_any (txB t) w)
  have h1 := less_tx s t
  have h2 := less_tx t s
  have h3 := tx_beqS s t
  have h4 := cm_zero s t
  rw [cm_neg s t] at h2
  have h5 := cm_three s t
  generalize cm s t = R at *
  generalize txB s = S at *
  generalize txB t = T at *
  obtain ⟨B1, hB1⟩ : ∃ b, b = Op.bytesLess S.toList T.toList := ⟨_, rfl⟩
  obtain ⟨B3, hB3⟩ : ∃ b, b = (S.toList == T.toList) := ⟨_, rfl⟩
  rw [← hB1] at h1
  rw [← hB3] at h3
  have e1 := hB1.symm
  have e3 := hB3.symm
  clear hB1 hB3 h2
  rcases h5 with rfl | rfl | rfl
  · obtain rfl : B1 = true := by rw [h1]; rfl
    clear h1 h3 h4
    go_enter Try.func26, Try.ntmps26
    go_wp2_with fail
    refine N1.out.mono ?_
    rintro e w1 ⟨rfl, rfl⟩
    go_wp2_with fail
    refine N2.out.mono ?_
    rintro e w1 ⟨rfl, rfl⟩
    go_wp2_with fail
    go_ret
    exact ⟨rfl, rfl⟩
  · obtain rfl : B1 = false := by rw [h1]; rfl
    obtain rfl : B3 = true := by rw [h3]; exact decide_eq_true (h4.1 rfl)
    clear h1 h3 h4
    go_enter Try.func26, Try.ntmps26
    go_wp2_with fail
    refine N1.out.mono ?_
    rintro e w1 ⟨rfl, rfl⟩
    go_wp2_with fail
    refine N2.out.mono ?_
    rintro e w1 ⟨rfl, rfl⟩
    go_wp2_with fail
    go_ret
    exact ⟨rfl, rfl⟩
  · obtain rfl : B1 = false := by rw [h1]; rfl
    obtain rfl : B3 = false := by rw [h3]; exact decide_eq_false fun e => by have := h4.2 e; omega
    clear h1 h3 h4
    go_enter Try.func26, Try.ntmps26
    go_wp2_with fail
    refine N1.out.mono ?_
    rintro e w1 ⟨rfl, rfl⟩
    go_wp2_with fail
    refine N2.out.mono ?_
    rintro e w1 ⟨rfl, rfl⟩
    go_wp2_with fail
    go_ret
    exact ⟨rfl, rfl⟩
def or3 (x y z : Int) : Int := if x = 0 then (if y = 0 then z else y) else x
set_option maxHeartbeats 4000000 in
theorem or_any (b : Nat) (x y z : Int) (w : World) (c0 : w.cell? ⟨b, 0, none⟩ = some (.int .i64 x)) (c1 : w.cell? ⟨b, 1, none⟩ = some (.int .i64 y)) (c2 : w.cell? ⟨b, 2, none⟩ = some (.int .i64 z)) :
    Calls Try.prog 24 #[.slice (some ⟨b, 0, none⟩) 3 3] w fun e w' => e = .returned (.int .i64 (or3 x y z)) ∧ w' = w := by
  obtain ⟨R, hR⟩ : ∃ R, R = or3 x y z := ⟨_, rfl⟩
  rw [← hR]
  have HR := Lib.hid hR
  clear hR
  go_enter Try.func24, Try.ntmps24
  go_wp2_with fail
  refine wp_loop_rounds 4 ?_
  rw [rounds_succ]
  by_cases hx : x = 0
  · have t1 : (x != 0) = false := by simp [hx]
    by_cases hy : y = 0
    · have t2 : (y != 0) = false := by simp [hy]
      by_cases hz : z = 0
      · have t3 : (z != 0) = false := by simp [hz]
        have hr : R = 0 := by rw [HR.out]; unfold or3; rw [if_pos hx, if_pos hy, hz]
        subst hr
        clear hx hy hz HR
        go_wp2_with fail
        rw [rounds_succ]
        go_wp2_with fail
        rw [rounds_succ]
        go_wp2_with fail
        rw [rounds_succ]
        go_wp2_with fail
        go_ret
        exact ⟨rfl, rfl⟩
      · have t3 : (z != 0) = true := by simp [hz]
        have hr : R = z := by rw [HR.out]; unfold or3; rw [if_pos hx, if_pos hy]
        subst hr
        clear hx hy hz HR
        go_wp2_with fail
        rw [rounds_succ]
        go_wp2_with fail
        rw [rounds_succ]
        go_wp2_with fail
        go_ret
        exact ⟨rfl, rfl⟩
    · have t2 : (y != 0) = true := by simp [hy]
      have hr : R = y := by rw [HR.out]; unfold or3; rw [if_pos hx, if_neg hy]
      subst hr
      clear hx hy HR
      go_wp2_with fail
      rw [rounds_succ]
      go_wp2_with fail
      go_ret
      exact ⟨rfl, rfl⟩
  · have t1 : (x != 0) = true := by simp [hx]
    have hr : R = x := by rw [HR.out]; unfold or3; rw [if_neg hx]
    subst hr
    clear hx HR
    go_wp2_with fail
    go_ret
    exact ⟨rfl, rfl⟩
theorem or3_eq (p q : Pt) : or3 (ci p.1 q.1) (ci p.2.1 q.2.1) (cm p.2.2 q.2.2) = opP p q := rfl
set_option maxRecDepth 100000 in
set_option maxHeartbeats 8000000 in
theorem order1_any (p q : Pt) (w : World) : Calls Try.prog 23 #[valP p, valP q] w fun e w' => e = .returned (.int .i64 (opP p q)) ∧ Below w.heap.size w w' := by
  obtain ⟨x1, x2, s⟩ := p
  obtain ⟨y1, y2, t⟩ := q
  have HE := Lib.hid (or3_eq (x1, x2, s) (y1, y2, t))
  generalize opP (x1, x2, s) (y1, y2, t) = R at *
  have C1 := Lib.hid (fun W => compI_any x1 y1 W)
  have C2 := Lib.hid (fun W => compI_any x2 y2 W)
  have C3 := Lib.hid (fun W => compS_any s t W)
  unfold valP
  simp only [] at HE
  generalize ci x1 y1 = r1 at *
  generalize ci x2 y2 = r2 at *
  generalize cm s t = r3 at *
  generalize txB s = S at *
  generalize txB t = T at *
  obtain ⟨W, hW⟩ : ∃ W, W = (w.alloc (.cells #[.int .i64 x1, .int .i64 x2, .string S] 25)).alloc (.cells #[.int .i64 y1, .int .i64 y2, .string T] 25) := ⟨_, rfl⟩
  have BW := Lib.hid (show Below w.heap.size w W by rw [hW]; exact ((Below.refl _ _).alloc (Nat.le_refl _) _).alloc (by simp) _)
  have c0 : W.cell? ⟨w.heap.size, 0, none⟩ = some (.int .i64 x1) := by rw [hW]; go_simp
  have c1 : W.cell? ⟨w.heap.size, 1, none⟩ = some (.int .i64 x2) := by rw [hW]; go_simp
  have c2 : W.cell? ⟨w.heap.size, 2, none⟩ = some (.string S) := by rw [hW]; go_simp
  have d0 : W.cell? ⟨w.heap.size + 1, 0, none⟩ = some (.int .i64 y1) := by rw [hW]; go_simp
  have d1 : W.cell? ⟨w.heap.size + 1, 1, none⟩ = some (.int .i64 y2) := by rw [hW]; go_simp
  have d2 : W.cell? ⟨w.heap.size + 1, 2, none⟩ = some (.string T) := by rw [hW]; go_simp
  have HW := Lib.hid hW
  clear hW
  go_enter Try.func23, Try.ntmps23
  go_wp2_with fail
  rw [← HW.out]
  refine wp_region_still_tail 15 (by kernel_rfl) (by kernel_rfl) ?_
  simp only [List.take_succ_cons, List.take_zero, List.drop_succ_cons, List.drop_zero]
  still_step
  still_step
  still_step
  still_step
  still_call (C1.out _)
  still_step
  still_step
  still_step
  still_step
  still_call (C2.out _)
  still_step
  still_step
  still_step
  still_step
  still_call (C3.out _)
  refine wpStill_nil ?_
  change wpList _ _ _ _ _ W.drew
  have HO := Lib.hid (or_any W.heap.size r1 r2 r3 (W.drew.alloc (.cells #[.int .i64 r1, .int .i64 r2, .int .i64 r3] 3)) (by go_simp) (by go_simp) (by go_simp))
  have HB := Lib.hid ((BW.out.drew).alloc BW.out.size (.cells #[.int .i64 r1, .int .i64 r2, .int .i64 r3] 3))
  go_wp2_with fail
  refine HO.out.mono ?_
  rintro e w1 ⟨rfl, rfl⟩
  go_wp2_with fail
  go_ret
  exact ⟨by rw [HE.out]; rfl, HB.out⟩
end Go.Proofs.Ytpinmkoaihjhfaa
