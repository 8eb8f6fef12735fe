/- Is a row a tuple: the document's Right. What is behind a beginning: the document's After. -/
import Derived.Test.YtpinmkoaihjhfaaTg
namespace Go.Proofs.Ytpinmkoaihjhfaa
open Go.RowKit Su Tp

set_option maxRecDepth 100000 in
set_option maxHeartbeats 8000000 in
theorem refRight_any (v : Value) (a : List Pt) (w : World) (hv : PRow w v a) :
    Calls Try.prog 28 #[v] w fun e w' => e = .returned (.bool (decide (right a))) ∧ Below w.heap.size w w' := by
  obtain ⟨aa, ac, rfl, hac, hac2⟩ := hv.shape
  have HA := Lib.hid hv
  have hn : a.length ≤ 9223372036854775807 := Nat.le_trans hac hac2
  obtain ⟨R, hR⟩ : ∃ R, R = decide (right a) := ⟨_, rfl⟩
  rw [← hR]
  have HR := Lib.hid hR
  clear hv hac hac2 hR
  go_enter Try.func28, Try.ntmps28
  go_wp2_with fail
  go_loopw [3] (fun i wr => ∃ n : Nat, i = .int .i64 (n : Int) ∧ n ≤ a.length ∧ (∀ j (h1 : j < a.length), j < n → okP a[j]) ∧ Below w.heap.size w wr) (fun i _ => a.length - (intOf i).toNat)
  case atStart => exact ⟨0, rfl, by omega, fun j _ h => by omega, Below.refl _ _⟩
  case round =>
    obtain ⟨n, rfl, hk, hall, hb⟩ := hrel
    have hs := hb.size
    by_cases hlt : n < a.length
    · obtain ⟨b1, o1, rfl, _, hb1, x0, x1, x2⟩ := (HA.out.below hb).at n hlt
      have Step := Lib.hid (show okP a[n] → ∀ j (h1 : j < a.length), j < n + 1 → okP a[j] from fun hh j hj1 hjk => by
        by_cases e : j = n
        · subst e; exact hh
        · exact hall j hj1 (by omega))
      have Bad := Lib.hid (show ¬ okP a[n] → ¬ right a from fun h hh => h (hh.2.2 _ (List.getElem_mem hlt)))
      have hlt' : (n : Int) < (a.length : Int) := by omega
      clear hall
      generalize a[n] = p at *
      obtain ⟨p0, p1, ps⟩ := p
      simp only at x0 x1 x2
      have hQ := tx_list ps
      have HO := Lib.hid (show okP (p0, p1, ps) ↔ (p0 = 1 ∧ ps = []) ∨ (p0 = 2 ∧ p1 = 0) from Iff.rfl)
      generalize txB ps = S at *
      have HB0 := Lib.hid (hb.alloc hs (.cells #[.int .i64 p0, .int .i64 p1, .string S] 25))
      clear hb
      by_cases h1 : p0 = 1
      · have k1 : (p0 == 1) = true := by simp [h1]
        have k2 : (p0 == 2) = false := by rw [h1]; rfl
        by_cases hse : ps = []
        · have k3 : S.toList = [] := by rw [hQ]; exact hse
          have k4 : S.toList.isEmpty = true := by rw [k3]; rfl
          have hst := Lib.hid (Step.out (HO.out.2 (.inl ⟨h1, hse⟩)))
          clear h1 hse hQ
          go_wp2_with fail
          refine ⟨⟨n + 1, by rw [Int.natCast_add]; rfl, by omega, hst.out, HB0.out⟩, ?_⟩
          simp only [intOf]; omega
        · have k3 : ¬ S.toList = [] := by rw [hQ]; exact hse
          have k4 : S.toList.isEmpty = false := by rw [hQ]; simpa using hse
          have hr : R = false := by
            rw [HR.out]; refine decide_eq_false (Bad.out fun e => ?_)
            rcases HO.out.1 e with ⟨_, h⟩ | ⟨h, _⟩ <;> first | exact hse h | omega
          subst hr
          clear h1 hse hQ
          go_wp2_with fail
          go_ret
          exact ⟨rfl, HB0.out⟩
      · have k1 : (p0 == 1) = false := by simp [h1]
        by_cases h2 : p0 = 2
        · have k2 : (p0 == 2) = true := by simp [h2]
          by_cases h3 : p1 = 0
          · have k3 : (p1 == 0) = true := by simp [h3]
            have hst := Lib.hid (Step.out (HO.out.2 (.inr ⟨h2, h3⟩)))
            clear h1 h2 h3 hQ
            go_wp2_with fail
            refine ⟨⟨n + 1, by rw [Int.natCast_add]; rfl, by omega, hst.out, HB0.out⟩, ?_⟩
            simp only [intOf]; omega
          · have k3 : (p1 == 0) = false := by simp [h3]
            have hr : R = false := by
              rw [HR.out]; refine decide_eq_false (Bad.out fun e => ?_)
              rcases HO.out.1 e with ⟨h, _⟩ | ⟨_, h⟩ <;> first | exact h1 h | exact h3 h
            subst hr
            clear h1 h2 h3 hQ
            go_wp2_with fail
            go_ret
            exact ⟨rfl, HB0.out⟩
        · have k2 : (p0 == 2) = false := by simp [h2]
          have hr : R = false := by
            rw [HR.out]; refine decide_eq_false (Bad.out fun e => ?_)
            rcases HO.out.1 e with ⟨h, _⟩ | ⟨h, _⟩ <;> first | exact h1 h | exact h2 h
          subst hr
          clear h1 h2 hQ
          go_wp2_with fail
          go_ret
          exact ⟨rfl, HB0.out⟩
    · have hln : n = a.length := by omega
      have hall2 : ∀ p ∈ a, okP p := fun p hp => by
        obtain ⟨j, hj, rfl⟩ := List.getElem_of_mem hp
        exact hall j hj (by omega)
      have HB0 := Lib.hid hb
      subst hln
      clear hall hb
      by_cases h0 : 1 ≤ a.length
      · have t0 : decide (1 ≤ (a.length : Int)) = true := decide_eq_true (by omega)
        by_cases h8 : a.length ≤ 8
        · have t1 : decide ((a.length : Int) ≤ 8) = true := decide_eq_true (by omega)
          have hr : R = true := by rw [HR.out]; exact decide_eq_true ⟨h0, h8, hall2⟩
          subst hr
          clear hall2
          go_wp2_with fail
          go_ret
          exact ⟨rfl, HB0.out⟩
        · have t1 : decide ((a.length : Int) ≤ 8) = false := decide_eq_false (by omega)
          have hr : R = false := by rw [HR.out]; exact decide_eq_false fun h => h8 h.2.1
          subst hr
          clear hall2
          go_wp2_with fail
          go_ret
          exact ⟨rfl, HB0.out⟩
      · have t0 : decide (1 ≤ (a.length : Int)) = false := decide_eq_false (by omega)
        have hr : R = false := by rw [HR.out]; exact decide_eq_false fun h => h0 h.1
        subst hr
        clear hall2
        go_wp2_with fail
        go_ret
        exact ⟨rfl, HB0.out⟩
theorem aft_at {l : List UInt8} {m : Nat} (hm : m < l.length) (h : ∀ x ∈ l.drop (m + 1), x = 255) (hne : l[m] ≠ 255) : aft l = l.take m ++ [l[m] + 1] := by
  have e : l = (l.take m ++ [l[m]]) ++ l.drop (m + 1) := by
    rw [← List.take_succ_eq_append_getElem hm, List.take_append_drop]
  conv => lhs; rw [e]
  rw [aft_top _ _ h, aft_snoc _ _ hne]
end Go.Proofs.Ytpinmkoaihjhfaa
