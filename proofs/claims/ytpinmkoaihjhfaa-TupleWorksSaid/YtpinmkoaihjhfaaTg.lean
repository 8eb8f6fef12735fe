/- How two rows of parts stand, and are they the same: the document's Order and Same. -/
import Derived.Test.YtpinmkoaihjhfaaTf
namespace Go.Proofs.Ytpinmkoaihjhfaa
open Go.RowKit Su Tp

set_option maxRecDepth 100000 in
set_option maxHeartbeats 8000000 in
theorem refOrder_any (v u : Value) (a b : List Pt) (w : World) (hv : PRow w v a) (hu : PRow w u b) :
    Calls Try.prog 15 #[v, u] w fun e w' => e = .returned (.int .i64 (ord a b)) ∧ Below w.heap.size w w' := by
  obtain ⟨aa, ac, rfl, hac, hac2⟩ := hv.shape
  obtain ⟨ba, bc, rfl, hbc, hbc2⟩ := hu.shape
  have HA := Lib.hid hv
  have HB := Lib.hid hu
  have hn : a.length ≤ 9223372036854775807 := Nat.le_trans hac hac2
  have hn' : b.length ≤ 9223372036854775807 := Nat.le_trans hbc hbc2
  have HO := Lib.hid (fun (p q : Pt) (W : World) => one_any p q W)
  clear hv hu hac hac2 hbc hbc2
  go_enter Try.func15, Try.ntmps15
  go_wp2_with fail
  go_loopw [5] (fun i wr => ∃ n : Nat, i = .int .i64 (n : Int) ∧ n ≤ a.length ∧ (∀ j (h1 : j < a.length) (h2 : j < b.length), j < n → a[j] = b[j]) ∧ n ≤ b.length ∧ Below w.heap.size w wr) (fun i _ => a.length - (intOf i).toNat)
  case atStart => exact ⟨0, rfl, by omega, fun j _ _ h => by omega, by omega, Below.refl _ _⟩
  case round =>
    obtain ⟨n, rfl, hk, hall, hk2, hb⟩ := hrel
    have hs := hb.size
    by_cases hlt : n < a.length
    · have ht1 : decide ((n : Int) < (a.length : Int)) = true := decide_eq_true (by omega)
      by_cases hlt2 : n < b.length
      · have ht2 : decide ((n : Int) < (b.length : Int)) = true := decide_eq_true (by omega)
        obtain ⟨b1, o1, rfl, _, hb1, x0, x1, x2⟩ := (HA.out.below hb).at n hlt
        obtain ⟨b2, o2, rfl, _, hb2, y0, y1, y2⟩ := (HB.out.below hb).at n hlt2
        have Step := Lib.hid (show a[n] = b[n] → ∀ j (h1 : j < a.length) (h2 : j < b.length), j < n + 1 → a[j] = b[j] from fun hh j hj1 hj2 hjk => by
          by_cases e : j = n
          · subst e; exact hh
          · exact hall j hj1 hj2 (by omega))
        have Bad := Lib.hid (fun h => ord_at hall hlt hlt2 h)
        have hlt' : (n : Int) < (a.length : Int) := by omega
        have hlt2' : (n : Int) < (b.length : Int) := by omega
        clear hall
        generalize a[n] = p at *
        generalize b[n] = q at *
        have HZ := Lib.hid (opP_zero p q)
        have HC := Lib.hid (fun W => HO.out p q W)
        obtain ⟨p0, p1, ps⟩ := p
        obtain ⟨q0, q1, qs⟩ := q
        unfold valP at HC
        simp only at x0 x1 x2 y0 y1 y2 HC
        generalize txB ps = PS at *
        generalize txB qs = QS at *
        have HB0 := Lib.hid hb.drew
        go_wp2_with fail
        refine wp_region_still_tail 8 (by kernel_rfl) (by kernel_rfl) ?_
        simp only [List.take_succ_cons, List.take_zero, List.drop_succ_cons, List.drop_zero]
        repeat still_step
        refine wpStill_nil ?_
        change wpList _ _ _ _ _ wr.drew
        go_wp2_with fail
        refine (HC.out wr.drew).mono ?_
        rintro e w1 ⟨rfl, hb1⟩
        have HB1 := Lib.hid (below_trans HB0.out hb1)
        clear hb1
        by_cases hz : opP (p0, p1, ps) (q0, q1, qs) = 0
        · have hst := Step.out (HZ.out.1 hz)
          have tz : (opP (p0, p1, ps) (q0, q1, qs) != 0) = false := by simp [hz]
          go_wp2_with fail
          refine ⟨⟨n + 1, by rw [Int.natCast_add]; rfl, by omega, hst, by omega, HB1.out⟩, ?_⟩
          simp only [intOf]; omega
        · have hst := Lib.hid (Bad.out hz)
          have tz : (opP (p0, p1, ps) (q0, q1, qs) != 0) = true := by simp [hz]
          go_wp2_with fail
          go_ret
          exact ⟨by rw [hst.out]; rfl, HB1.out⟩
      · have hln : n = b.length := by omega
        subst hln
        have ht2 : decide ((b.length : Int) < (b.length : Int)) = false := decide_eq_false (by omega)
        have ht3 : decide ((a.length : Int) < (b.length : Int)) = false := decide_eq_false (by omega)
        have ht4 : decide ((b.length : Int) < (a.length : Int)) = true := decide_eq_true (by omega)
        have hR := Lib.hid (ord_long hall hlt)
        clear hall
        go_wp2_with fail
        go_ret
        exact ⟨by rw [hR.out]; rfl, hb⟩
    · have hln : n = a.length := by omega
      subst hln
      have ht1 : decide ((a.length : Int) < (a.length : Int)) = false := decide_eq_false (by omega)
      by_cases hl : a.length < b.length
      · have ht2 : decide ((a.length : Int) < (b.length : Int)) = true := decide_eq_true (by omega)
        have hR := Lib.hid (ord_short hall hl)
        clear hall
        go_wp2_with fail
        go_ret
        exact ⟨by rw [hR.out]; rfl, hb⟩
      · have hR := Lib.hid (ord_same hall (by omega))
        have ht2 : decide ((a.length : Int) < (b.length : Int)) = false := decide_eq_false (by omega)
        have ht3 : decide ((b.length : Int) < (a.length : Int)) = false := decide_eq_false (by omega)
        clear hall
        go_wp2_with fail
        go_ret
        exact ⟨by rw [hR.out]; rfl, hb⟩
theorem rows_eq {a b : List Pt} (hl : a.length = b.length) (h : ∀ j (h1 : j < a.length) (h2 : j < b.length), j < a.length → a[j] = b[j]) : a = b :=
  List.ext_getElem hl fun j h1 h2 => h j h1 h2 h1
theorem rows_ne {a b : List Pt} {n : Nat} (h1 : n < a.length) (h2 : n < b.length) (h : a[n] ≠ b[n]) : a ≠ b := by
  rintro rfl; exact h rfl
set_option maxRecDepth 100000 in
set_option maxHeartbeats 8000000 in
theorem same_any (v u : Value) (a b : List Pt) (w : World) (hv : PRow w v a) (hu : PRow w u b) :
    Calls Try.prog 10 #[v, u] w fun e w' => e = .returned (.bool (decide (a = b))) ∧ Below w.heap.size w w' := by
  obtain ⟨aa, ac, rfl, hac, hac2⟩ := hv.shape
  obtain ⟨ba, bc, rfl, hbc, hbc2⟩ := hu.shape
  have HA := Lib.hid hv
  have HB := Lib.hid hu
  have hn : a.length ≤ 9223372036854775807 := Nat.le_trans hac hac2
  have hn' : b.length ≤ 9223372036854775807 := Nat.le_trans hbc hbc2
  clear hv hu hac hac2 hbc hbc2
  by_cases hl : a.length = b.length
  · have HL := Lib.hid hl
    have e1 : ((a.length : Int) != (b.length : Int)) = false := by simp [hl]
    clear hl
    go_enter Try.func10, Try.ntmps10
    go_wp2_with fail
    go_loopw [5] (fun i wr => ∃ n : Nat, i = .int .i64 (n : Int) ∧ n ≤ a.length ∧ (∀ j (h1 : j < a.length) (h2 : j < b.length), j < n → a[j] = b[j]) ∧ Below w.heap.size w wr) (fun i _ => a.length - (intOf i).toNat)
    case atStart => exact ⟨0, rfl, by omega, fun j _ _ h => by omega, Below.refl _ _⟩
    case round =>
      obtain ⟨n, rfl, hk, hall, hb⟩ := hrel
      have hs := hb.size
      by_cases hlt : n < a.length
      · have hlt2 : n < b.length := by have := HL.out; omega
        obtain ⟨b1, o1, rfl, _, hb1, x0, x1, x2⟩ := (HA.out.below hb).at n hlt
        obtain ⟨b2, o2, rfl, _, hb2, y0, y1, y2⟩ := (HB.out.below hb).at n hlt2
        have Step := Lib.hid (show a[n] = b[n] → ∀ j (h1 : j < a.length) (h2 : j < b.length), j < n + 1 → a[j] = b[j] from fun hh j hj1 hj2 hjk => by
          by_cases e : j = n
          · subst e; exact hh
          · exact hall j hj1 hj2 (by omega))
        have Bad := Lib.hid (fun h => rows_ne hlt hlt2 h)
        have hlt' : (n : Int) < (a.length : Int) := by omega
        have hlt2' : (n : Int) < (b.length : Int) := by omega
        clear hall
        generalize a[n] = p at *
        generalize b[n] = q at *
        obtain ⟨p0, p1, ps⟩ := p
        obtain ⟨q0, q1, qs⟩ := q
        simp only at x0 x1 x2 y0 y1 y2
        have HQ := Lib.hid (tx_beqS ps qs)
        generalize txB ps = PS at *
        generalize txB qs = QS at *
        have HB0 := Lib.hid (fun n => below_drewN hb n)
        by_cases h0 : p0 = q0
        · have t0 : (p0 == q0) = true := by simp [h0]
          by_cases h1 : p1 = q1
          · have t1 : (p1 == q1) = true := by simp [h1]
            by_cases h2 : ps = qs
            · have t2 : (PS.toList == QS.toList) = true := by rw [HQ.out]; exact decide_eq_true h2
              have hst := Lib.hid (Step.out (by rw [h0, h1, h2]))
              clear h0 h1 h2
              go_wp2_with fail
              go_quiet (fail)
              go_wp2_with fail
              refine ⟨⟨n + 1, by rw [Int.natCast_add]; rfl, by omega, hst.out, HB0.out _⟩, ?_⟩
              simp only [intOf]; omega
            · have t2 : (PS.toList == QS.toList) = false := by rw [HQ.out]; exact decide_eq_false h2
              have hst := Lib.hid (Bad.out (fun e => h2 (by simpa using congrArg (fun p => p.2.2) e)))
              clear h0 h1 h2
              go_wp2_with fail
              go_quiet (fail)
              go_wp2_with fail
              go_ret
              exact ⟨by rw [decide_eq_false hst.out]; rfl, HB0.out _⟩
          · have t1 : (p1 == q1) = false := by simp [h1]
            have hst := Lib.hid (Bad.out (fun e => h1 (by simpa using congrArg (fun p => p.2.1) e)))
            clear h0 h1
            go_wp2_with fail
            go_quiet (fail)
            go_wp2_with fail
            go_ret
            exact ⟨by rw [decide_eq_false hst.out]; rfl, HB0.out _⟩
        · have t0 : (p0 == q0) = false := by simp [h0]
          have hst := Lib.hid (Bad.out (fun e => h0 (by simpa using congrArg (fun p => p.1) e)))
          clear h0
          go_wp2_with fail
          go_quiet (fail)
          go_wp2_with fail
          go_ret
          exact ⟨by rw [decide_eq_false hst.out]; rfl, HB0.out _⟩
      · have hln : n = a.length := by omega
        subst hln
        have hR := Lib.hid (rows_eq HL.out hall)
        clear hall
        go_wp2_with fail
        go_ret
        exact ⟨by rw [decide_eq_true hR.out]; rfl, hb⟩
  · have e1 : ((a.length : Int) != (b.length : Int)) = true := by simp; omega
    have hne : a ≠ b := fun e => hl (by rw [e])
    have HN := Lib.hid hne
    clear hl hne
    go_enter Try.func10, Try.ntmps10
    go_wp2_with fail
    go_ret
    exact ⟨by rw [decide_eq_false HN.out]; rfl, Below.refl _ _⟩
end Go.Proofs.Ytpinmkoaihjhfaa
