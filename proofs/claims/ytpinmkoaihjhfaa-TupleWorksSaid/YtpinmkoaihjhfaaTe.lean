/- How two rows of parts stand: the program's Order. -/
import Derived.Test.YtpinmkoaihjhfaaTd
namespace Go.Proofs.Ytpinmkoaihjhfaa
open Go.RowKit Su Tp

theorem ord_drop {a b : List Pt} {n : Nat} (h : ∀ j (h1 : j < a.length) (h2 : j < b.length), j < n → a[j] = b[j]) (ha : n ≤ a.length) (hb : n ≤ b.length) : ord a b = ord (a.drop n) (b.drop n) := by
  induction n generalizing a b with
  | zero => rfl
  | succ n ih =>
    cases a with
    | nil => simp at ha
    | cons p a =>
      cases b with
      | nil => simp at hb
      | cons q b =>
        have h0 : p = q := h 0 (by simp) (by simp) (by omega)
        subst h0
        rw [ord, (opP_zero p p).2 rfl, if_pos rfl, List.drop_succ_cons, List.drop_succ_cons]
        exact ih (fun j h1 h2 hj => h (j + 1) (by simpa using h1) (by simpa using h2) (by omega)) (by simpa using ha) (by simpa using hb)
theorem ord_at {a b : List Pt} {n : Nat} (h : ∀ j (h1 : j < a.length) (h2 : j < b.length), j < n → a[j] = b[j]) (ha : n < a.length) (hb : n < b.length) (hne : opP a[n] b[n] ≠ 0) : ord a b = opP a[n] b[n] := by
  rw [ord_drop h (by omega) (by omega), List.drop_eq_getElem_cons ha, List.drop_eq_getElem_cons hb, ord, if_neg hne]
theorem ord_long {a b : List Pt} (h : ∀ j (h1 : j < a.length) (h2 : j < b.length), j < b.length → a[j] = b[j]) (hl : b.length < a.length) : ord a b = 1 := by
  rw [ord_drop h (by omega) (Nat.le_refl _), List.drop_length, List.drop_eq_getElem_cons hl]; rfl
theorem ord_short {a b : List Pt} (h : ∀ j (h1 : j < a.length) (h2 : j < b.length), j < a.length → a[j] = b[j]) (hl : a.length < b.length) : ord a b = -1 := by
  rw [ord_drop h (Nat.le_refl _) (by omega), List.drop_length, List.drop_eq_getElem_cons hl]; rfl
theorem ord_same {a b : List Pt} (h : ∀ j (h1 : j < a.length) (h2 : j < b.length), j < a.length → a[j] = b[j]) (hl : a.length = b.length) : ord a b = 0 := by
  rw [ord_drop h (Nat.le_refl _) (by omega), List.drop_length, hl, List.drop_length]; rfl
set_option maxRecDepth 100000 in
set_option maxHeartbeats 8000000 in
theorem compF_any (v u : Value) (a b : List Pt) (w : World) (hv : PRow w v a) (hu : PRow w u b) :
    Calls Try.prog 22 #[v, u, .func (.func 23) #[] #[]] w fun e w' => e = .returned (.int .i64 (ord a b)) ∧ Below w.heap.size w w' := by
  obtain ⟨aa, ac, rfl, hac, hac2⟩ := hv.shape
  obtain ⟨ba, bc, rfl, hbc, hbc2⟩ := hu.shape
  have HA := Lib.hid hv
  have HB := Lib.hid hu
  have hn : a.length ≤ 9223372036854775807 := Nat.le_trans hac hac2
  have hn' : b.length ≤ 9223372036854775807 := Nat.le_trans hbc hbc2
  have HO := Lib.hid (fun (p q : Pt) (W : World) => order1_any p q W)
  clear hv hu hac hac2 hbc hbc2
  go_enter Try.func22, Try.ntmps22
  go_wp2_with fail
  go_loopw [13] (fun i wr => ∃ n : Nat, i = .int .i64 (n : Int) ∧ n ≤ a.length ∧ (∀ j (h1 : j < a.length) (h2 : j < b.length), j < n → a[j] = b[j]) ∧ n ≤ b.length ∧ Below w.heap.size w wr) (fun i _ => a.length - (intOf i).toNat)
  case atStart => exact ⟨0, rfl, by omega, fun j _ _ h => by omega, by omega, Below.refl _ _⟩
  case round =>
    obtain ⟨n, rfl, hk, hall, hk2, hb⟩ := hrel
    have hs := hb.size
    by_cases hlt : n < a.length
    · obtain ⟨b1, o1, rfl, _, hb1, x0, x1, x2⟩ := (HA.out.below hb).at n hlt
      by_cases hlt2 : n < b.length
      · obtain ⟨b2, o2, rfl, _, hb2, y0, y1, y2⟩ := (HB.out.below hb).at n hlt2
        have Step := Lib.hid (show a[n] = b[n] → ∀ j (h1 : j < a.length) (h2 : j < b.length), j < n + 1 → a[j] = b[j] from fun hh j hj1 hj2 hjk => by
          by_cases e : j = n
          · subst e; exact hh
          · exact hall j hj1 hj2 (by omega))
        have Bad := Lib.hid (fun h => ord_at hall hlt hlt2 h)
        have ht1 : decide ((b.length : Int) ≤ (n : Int)) = false := decide_eq_false (by omega)
        have hlt' : (n : Int) < (a.length : Int) := by omega
        have hlt2' : (n : Int) < (b.length : Int) := by omega
        clear hall
        generalize a[n] = p at *
        generalize b[n] = q at *
        have HZ := Lib.hid (opP_zero p q)
        have HC := Lib.hid (fun W => HO.out p q W)
        obtain ⟨p0, p1, ps⟩ := p
        obtain ⟨q0, q1, qs⟩ := q
        unfold valP at HC
        simp only at x0 x1 x2 y0 y1 y2 HC
        generalize txB ps = PS at *
        generalize txB qs = QS at *
        obtain ⟨X, hX⟩ : ∃ X, X = (wr.alloc (.cells #[.int .i64 p0, .int .i64 p1, .string PS] 25)).alloc (.cells #[.int .i64 q0, .int .i64 q1, .string QS] 25) := ⟨_, rfl⟩
        have BX := Lib.hid (show Below w.heap.size w X by rw [hX]; exact (hb.alloc hs _).alloc (by simp; omega) _)
        have e0 : X.cell? ⟨wr.heap.size, 0, none⟩ = some (.int .i64 p0) := by rw [hX]; go_simp
        have e1 : X.cell? ⟨wr.heap.size, 1, none⟩ = some (.int .i64 p1) := by rw [hX]; go_simp
        have e2 : X.cell? ⟨wr.heap.size, 2, none⟩ = some (.string PS) := by rw [hX]; go_simp
        have f0 : X.cell? ⟨wr.heap.size + 1, 0, none⟩ = some (.int .i64 q0) := by rw [hX]; go_simp
        have f1 : X.cell? ⟨wr.heap.size + 1, 1, none⟩ = some (.int .i64 q1) := by rw [hX]; go_simp
        have f2 : X.cell? ⟨wr.heap.size + 1, 2, none⟩ = some (.string QS) := by rw [hX]; go_simp
        have hsX : X.heap.size = wr.heap.size + 2 := by rw [hX]; simp
        have HX := Lib.hid hX
        clear hX
        go_wp2_with fail
        rw [← HX.out]
        go_wp2_with fail
        refine (HC.out X).mono ?_
        rintro e w1 ⟨rfl, hb1⟩
        have HB1 := Lib.hid (below_trans BX.out hb1)
        clear hb1
        by_cases hz : opP (p0, p1, ps) (q0, q1, qs) = 0
        · have hst := Step.out (HZ.out.1 hz)
          have tz : (opP (p0, p1, ps) (q0, q1, qs) != 0) = false := by simp [hz]
          go_wp2_with fail
          refine ⟨⟨n + 1, by rw [Int.natCast_add]; rfl, by omega, hst, by omega, HB1.out⟩, ?_⟩
          simp only [intOf]; omega
        · have hst := Bad.out hz
          have tz : (opP (p0, p1, ps) (q0, q1, qs) != 0) = true := by simp [hz]
          go_wp2_with fail
          go_ret
          exact ⟨by rw [hst]; rfl, HB1.out⟩
      · have hln : n = b.length := by omega
        subst hln
        have ht1 : decide ((b.length : Int) ≤ (b.length : Int)) = true := decide_eq_true (by omega)
        have hlt' : (b.length : Int) < (a.length : Int) := by omega
        have hR := ord_long hall hlt
        have HB1 := Lib.hid (hb.alloc hs (.cells #[.int .i64 (a[b.length]).1, .int .i64 (a[b.length]).2.1, .string (txB (a[b.length]).2.2)] 25))
        clear hall
        go_wp2_with fail
        go_ret
        exact ⟨rfl, HB1.out⟩
    · have hln : n = a.length := by omega
      subst hln
      have hlt' : ¬ ((a.length : Int) < (a.length : Int)) := by omega
      by_cases hl : a.length < b.length
      · have ht2 : decide ((a.length : Int) < (b.length : Int)) = true := decide_eq_true (by omega)
        have hR := ord_short hall hl
        clear hall
        go_wp2_with fail
        go_ret
        exact ⟨rfl, hb⟩
      · have ht2 : decide ((a.length : Int) < (b.length : Int)) = false := decide_eq_false (by omega)
        have hR := ord_same hall (by omega)
        clear hall
        go_wp2_with fail
        go_ret
        exact ⟨rfl, hb⟩
theorem order_any (v u : Value) (a b : List Pt) (w : World) (hv : PRow w v a) (hu : PRow w u b) :
    Calls Try.prog 9 #[v, u] w fun e w' => e = .returned (.int .i64 (ord a b)) ∧ Below w.heap.size w w' := by
  have HC := Lib.hid (compF_any v u a b w hv hu)
  clear hv hu
  go_enter Try.func9, Try.ntmps9
  go_wp2_with fail
  refine HC.out.mono ?_
  rintro e w1 ⟨rfl, hb⟩
  go_wp2_with fail
  go_ret
  exact ⟨rfl, hb⟩
end Go.Proofs.Ytpinmkoaihjhfaa
