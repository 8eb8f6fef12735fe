/- Is a row a tuple: the program's right. -/
import Derived.Test.YtpinmkoaihjhfaaTg
namespace Go.Proofs.Ytpinmkoaihjhfaa
open Go.RowKit Su Tp

set_option maxRecDepth 100000 in
set_option maxHeartbeats 8000000 in
theorem bad_any (p : Pt) (w : World) : Calls Try.prog 31 #[valP p] w fun e w' => e = .returned (.bool (!decide (okP p))) ∧ Below w.heap.size w w' := by
  obtain ⟨x1, x2, s⟩ := p
  have hQ := tx_list s
  have HR := Lib.hid (show okP (x1, x2, s) ↔ (x1 = 1 ∧ s = []) ∨ (x1 = 2 ∧ x2 = 0) from Iff.rfl)
  unfold valP
  simp only
  generalize txB s = S at *
  obtain ⟨R, hR⟩ : ∃ R, R = decide (okP (x1, x2, s)) := ⟨_, rfl⟩
  rw [← hR]
  have HD := Lib.hid hR
  clear hR
  have BW := Lib.hid ((Below.refl w.heap.size w).alloc (Nat.le_refl _) (.cells #[.int .i64 x1, .int .i64 x2, .string S] 25))
  go_enter Try.func31, Try.ntmps31
  by_cases h1 : x1 = 1
  · have k1 : (x1 == 1) = true := by simp [h1]
    have k2 : (x1 == 2) = false := by rw [h1]; rfl
    by_cases hs : s = []
    · have k3 : S.toList = [] := by rw [hQ]; exact hs
      have k4 : S.toList.isEmpty = true := by rw [k3]; rfl
      have hr : R = true := by rw [HD.out]; exact decide_eq_true (HR.out.2 (.inl ⟨h1, hs⟩))
      subst hr
      clear h1 hs hQ
      go_wp2_with fail
      go_ret
      exact ⟨rfl, BW.out⟩
    · have k3 : ¬ S.toList = [] := by rw [hQ]; exact hs
      have k4 : S.toList.isEmpty = false := by rw [hQ]; simpa using hs
      have hr : R = false := by rw [HD.out]; refine decide_eq_false fun e => ?_; rcases HR.out.1 e with ⟨_, h⟩ | ⟨h, _⟩ <;> first | exact hs h | omega
      subst hr
      clear h1 hs hQ
      go_wp2_with fail
      go_ret
      exact ⟨rfl, BW.out⟩
  · have k1 : (x1 == 1) = false := by simp [h1]
    by_cases h2 : x1 = 2
    · have k2 : (x1 == 2) = true := by simp [h2]
      by_cases h3 : x2 = 0
      · have k3 : (x2 == 0) = true := by simp [h3]
        have hr : R = true := by rw [HD.out]; exact decide_eq_true (HR.out.2 (.inr ⟨h2, h3⟩))
        subst hr
        clear h1 h2 h3 hQ
        go_wp2_with fail
        go_ret
        exact ⟨rfl, BW.out⟩
      · have k3 : (x2 == 0) = false := by simp [h3]
        have hr : R = false := by rw [HD.out]; refine decide_eq_false fun e => ?_; rcases HR.out.1 e with ⟨h, _⟩ | ⟨_, h⟩ <;> first | exact h1 h | exact h3 h
        subst hr
        clear h1 h2 h3 hQ
        go_wp2_with fail
        go_ret
        exact ⟨rfl, BW.out⟩
    · have k2 : (x1 == 2) = false := by simp [h2]
      have hr : R = false := by rw [HD.out]; refine decide_eq_false fun e => ?_; rcases HR.out.1 e with ⟨h, _⟩ | ⟨h, _⟩ <;> first | exact h1 h | exact h2 h
      subst hr
      clear h1 h2 hQ
      go_wp2_with fail
      go_ret
      exact ⟨rfl, BW.out⟩
set_option maxRecDepth 100000 in
set_option maxHeartbeats 8000000 in
theorem index_any (v : Value) (a : List Pt) (w : World) (hv : PRow w v a) :
    Calls Try.prog 37 #[v, .func (.func 31) #[] #[]] w fun e w' => (∃ i : Int, e = .returned (.int .i64 i) ∧ (decide (0 ≤ i) = !decide (∀ p ∈ a, okP p))) ∧ Below w.heap.size w w' := by
  obtain ⟨aa, ac, rfl, hac, hac2⟩ := hv.shape
  have HA := Lib.hid hv
  have hn : a.length ≤ 9223372036854775807 := Nat.le_trans hac hac2
  have HO := Lib.hid (fun (p : Pt) (W : World) => bad_any p W)
  clear hv hac hac2
  go_enter Try.func37, Try.ntmps37
  go_wp2_with fail
  go_loopw [8] (fun i wr => ∃ n : Nat, i = .int .i64 (n : Int) ∧ n ≤ a.length ∧ (∀ j (h1 : j < a.length), j < n → okP a[j]) ∧ Below w.heap.size w wr) (fun i _ => a.length - (intOf i).toNat)
  case atStart => exact ⟨0, rfl, by omega, fun j _ h => by omega, Below.refl _ _⟩
  case round =>
    obtain ⟨n, rfl, hk, hall, hb⟩ := hrel
    have hs := hb.size
    by_cases hlt : n < a.length
    · obtain ⟨b1, o1, rfl, _, hb1, x0, x1, x2⟩ := (HA.out.below hb).at n hlt
      have Step := Lib.hid (show okP a[n] → ∀ j (h1 : j < a.length), j < n + 1 → okP a[j] from fun hh j hj1 hjk => by
        by_cases e : j = n
        · subst e; exact hh
        · exact hall j hj1 (by omega))
      have Bad := Lib.hid (show ¬ okP a[n] → ¬ ∀ p ∈ a, okP p from fun h hh => h (hh _ (List.getElem_mem hlt)))
      have hlt' : (n : Int) < (a.length : Int) := by omega
      clear hall
      generalize a[n] = p at *
      have HC := Lib.hid (fun W => HO.out p W)
      obtain ⟨p0, p1, ps⟩ := p
      unfold valP at HC
      simp only at x0 x1 x2 HC
      generalize txB ps = PS at *
      have HB0 := Lib.hid hb
      clear hb
      by_cases h : okP (p0, p1, ps)
      · have hst := Lib.hid (Step.out h)
        rw [decide_eq_true h] at HC
        rw [show (!true) = false from rfl] at HC
        clear h
        go_wp2_with fail
        refine (HC.out wr).mono ?_
        rintro e w1 ⟨rfl, hb1⟩
        have HB1 := Lib.hid (below_trans HB0.out hb1)
        clear hb1
        go_wp2_with fail
        refine ⟨⟨n + 1, by rw [Int.natCast_add]; rfl, by omega, hst.out, HB1.out⟩, ?_⟩
        simp only [intOf]; omega
      · have hst := Lib.hid (Bad.out h)
        rw [decide_eq_false h] at HC
        rw [show (!false) = true from rfl] at HC
        clear h
        go_wp2_with fail
        refine (HC.out wr).mono ?_
        rintro e w1 ⟨rfl, hb1⟩
        have HB1 := Lib.hid (below_trans HB0.out hb1)
        clear hb1
        go_wp2_with fail
        go_ret
        exact ⟨⟨_, rfl, by rw [decide_eq_false hst.out]; simp⟩, HB1.out⟩
    · have hln : n = a.length := by omega
      subst hln
      have hR := Lib.hid (show ∀ p ∈ a, okP p from fun p hp => by
        obtain ⟨j, hj, rfl⟩ := List.getElem_of_mem hp
        exact hall j hj hj)
      clear hall
      go_wp2_with fail
      go_ret
      exact ⟨⟨_, rfl, by rw [decide_eq_true hR.out]; rfl⟩, hb⟩
theorem contains_any (v : Value) (a : List Pt) (w : World) (hv : PRow w v a) :
    Calls Try.prog 30 #[v, .func (.func 31) #[] #[]] w fun e w' => e = .returned (.bool (!decide (∀ p ∈ a, okP p))) ∧ Below w.heap.size w w' := by
  have HC := Lib.hid (index_any v a w hv)
  clear hv
  go_enter Try.func30, Try.ntmps30
  go_wp2_with fail
  refine HC.out.mono ?_
  rintro e w1 ⟨⟨i, rfl, hi⟩, hb⟩
  have HI := Lib.hid hi
  clear hi
  go_wp2_with fail
  go_ret
  exact ⟨by rw [← HI.out]; rfl, hb⟩
set_option maxRecDepth 100000 in
set_option maxHeartbeats 8000000 in
theorem right_any (v : Value) (a : List Pt) (w : World) (hv : PRow w v a) :
    Calls Try.prog 19 #[v] w fun e w' => e = .returned (.bool (decide (right a))) ∧ Below w.heap.size w w' := by
  have HC := Lib.hid (contains_any v a w hv)
  obtain ⟨aa, ac, rfl, hac, hac2⟩ := hv.shape
  have hn : a.length ≤ 9223372036854775807 := Nat.le_trans hac hac2
  obtain ⟨R, hR⟩ : ∃ R, R = decide (right a) := ⟨_, rfl⟩
  rw [← hR]
  have HR := Lib.hid hR
  clear hv hac hac2 hR
  by_cases h0 : 0 < a.length
  · have t0 : decide ((0 : Int) < (a.length : Int)) = true := decide_eq_true (by omega)
    by_cases h8 : a.length ≤ 8
    · have t1 : decide ((a.length : Int) ≤ 8) = true := decide_eq_true (by omega)
      have hr : R = decide (∀ p ∈ a, okP p) := by rw [HR.out]; exact decide_eq_decide.2 ⟨fun h => h.2.2, fun h => ⟨h0, h8, h⟩⟩
      have HR := Lib.hid hr
      clear hr
      generalize decide (∀ p ∈ a, okP p) = D at *
      go_enter Try.func19, Try.ntmps19
      go_wp2_with fail
      refine HC.out.mono ?_
      rintro e w1 ⟨rfl, hb⟩
      go_wp2_with fail
      go_ret
      exact ⟨by rw [HR.out]; cases D <;> rfl, hb⟩
    · have t1 : decide ((a.length : Int) ≤ 8) = false := decide_eq_false (by omega)
      have hr : R = false := by rw [HR.out]; refine decide_eq_false ?_; unfold right; rintro ⟨_, h, _⟩; exact h8 h
      subst hr
      go_enter Try.func19, Try.ntmps19
      go_wp2_with fail
      go_ret
      exact ⟨rfl, Below.refl _ _⟩
  · have t0 : decide ((0 : Int) < (a.length : Int)) = false := decide_eq_false (by omega)
    have hr : R = false := by rw [HR.out]; refine decide_eq_false ?_; unfold right; rintro ⟨h, _⟩; exact h0 h
    subst hr
    go_enter Try.func19, Try.ntmps19
    go_wp2_with fail
    go_ret
    exact ⟨rfl, Below.refl _ _⟩
end Go.Proofs.Ytpinmkoaihjhfaa
