/- Numbers as bytes, and read: the document's own, and the program's reading. -/
import Derived.Test.YtbnkpbphahjomaaDoorSn
namespace Go.Proofs.YtbnkpbphahjomaaDoor
open Go.RowKit Su

theorem small_pow (n s : Nat) (hn : n < 256 ^ s) : n / 256 ^ s = 0 := Nat.div_eq_of_lt hn
set_option maxRecDepth 100000 in
set_option maxHeartbeats 2000000 in
theorem refNumber_in (n s : Nat) (w : World) (h1 : 1 ≤ s) (h8 : s ≤ 8) (hm : n ≤ 9223372036854775807) :
    Calls Tryd.prog 17 #[.int .i64 (n : Int), .int .i64 (s : Int)] w fun e w' => (n < 256 ^ s → ∃ v, e = .returned (.tuple #[v, .int .i64 0]) ∧ OwnU w' w.heap.size v (be s n)) ∧ (¬ n < 256 ^ s → e = .returned (.tuple #[.slice none 0 0, .int .i64 1])) ∧ Below w.heap.size w w' := by
  have hmk := make_dig s n h8 w
  have d1 : decide ((s : Int) < 1) = false := decide_eq_false (by omega)
  have d2 : decide (8 < (s : Int)) = false := decide_eq_false (by omega)
  have d3 : decide ((n : Int) < 0) = false := decide_eq_false (by omega)
  have HD := Lib.hid (fun d => dig_set s d n)
  go_enter Tryd.func17, Tryd.ntmps17
  go_wp2_with fail
  go_loopw [0, 7] (fun m i wr => ∃ d j : Nat, j + d = s ∧ m = .int .i64 ((n / 256 ^ d : Nat) : Int) ∧ i = .int .i64 ((j : Int) - 1) ∧ wr = w.alloc (.cells (dig s d n) 5)) (fun _ i _ => (intOf i + 1).toNat)
  case atStart => exact ⟨0, s, rfl, by simp, rfl, rfl⟩
  case round =>
    obtain ⟨d, j, hj, rfl, rfl, rfl⟩ := hrel
    have hq : n / 256 ^ d ≤ 9223372036854775807 := Nat.le_trans (Nat.div_le_self _ _) hm
    have HQ := Lib.hid (show n / 256 ^ (d + 1) = n / 256 ^ d / 256 by rw [Nat.pow_succ, Nat.div_div_eq_div_mul])
    obtain ⟨q, hqq⟩ : ∃ q, q = n / 256 ^ d := ⟨_, rfl⟩
    cases j with
    | zero =>
      have HJ := Lib.hid (show d = s by omega)
      rw [show ((0 : Nat) : Int) - 1 = -1 from rfl]
      rw [← hqq]
      have HQQ := Lib.hid hqq
      clear hj hqq
      by_cases h0 : 0 < q
      · have h0' : decide (0 < (q : Int)) = true := decide_eq_true (by omega)
        go_wp2_with fail
        go_ret2
        have hbig : ¬ n < 256 ^ s := fun h => by
          have h2 := small_pow n s h
          rw [← HJ.out, ← HQQ.out] at h2
          omega
        exact ⟨fun h => absurd h hbig, fun _ => rfl, (Below.refl _ _).alloc (Nat.le_refl _) _⟩
      · have h0' : decide (0 < (q : Int)) = false := decide_eq_false (by omega)
        go_wp2_with fail
        go_ret2
        have hsm : n < 256 ^ s := by
          have h2 : n / 256 ^ s = 0 := by rw [← HJ.out, ← HQQ.out]; omega
          exact (Nat.div_eq_zero_iff_lt (Nat.pow_pos (by decide))).1 h2
        rw [HJ.out]
        exact ⟨fun _ => ⟨_, rfl, dig_own s n h8 w⟩, fun h => absurd hsm h, (Below.refl _ _).alloc (Nat.le_refl _) _⟩
    | succ c =>
      have hc : c < s := by omega
      rw [show ((c + 1 : Nat) : Int) - 1 = (c : Int) by omega]
      have hz := dig_size s d n (by omega)
      have hx : ∃ u, (dig s d n)[c]? = some u := ⟨_, Array.getElem?_eq_getElem (by omega)⟩
      obtain ⟨u, hu⟩ := hx
      have HS := Lib.hid (HD.out d (by omega))
      rw [show s - d - 1 = c by omega, ← hqq] at HS
      rw [← hqq] at HQ hq ⊢
      have hq0 : 0 ≤ (q : Int) := by omega
      have HJ := Lib.hid hj
      clear hqq hj
      go_wp2_with fail
      refine ⟨⟨d + 1, c, by have := HJ.out; omega, by rw [HQ.out]; rfl, rfl, ?_⟩, ?_⟩
      · rw [← HS.out]
        first
          | (congr 4; done)
          | (congr 4; rw [UInt8.toNat_ofNat']; rfl)
      · simp only [intOf]
        omega
set_option maxRecDepth 100000 in
set_option maxHeartbeats 2000000 in
theorem refNumber_out (n s : Int) (w : World) (hf : s < 1 ∨ 8 < s ∨ n < 0) :
    Calls Tryd.prog 17 #[.int .i64 n, .int .i64 s] w fun e w' => e = .returned (.tuple #[.slice none 0 0, .int .i64 1]) ∧ w = w' := by
  by_cases h1 : s < 1
  · have d1 : decide (s < 1) = true := decide_eq_true h1
    clear hf
    go_enter Tryd.func17, Tryd.ntmps17
    go_wp2_with fail
    go_ret2
    exact ⟨rfl, by trivial⟩
  · have d1 : decide (s < 1) = false := decide_eq_false h1
    by_cases h2 : 8 < s
    · have d2 : decide (8 < s) = true := decide_eq_true h2
      clear hf
      go_enter Tryd.func17, Tryd.ntmps17
      go_wp2_with fail
      go_ret2
      exact ⟨rfl, by trivial⟩
    · have d2 : decide (8 < s) = false := decide_eq_false h2
      have d3 : decide (n < 0) = true := decide_eq_true (by omega)
      clear hf
      go_enter Tryd.func17, Tryd.ntmps17
      go_wp2_with fail
      go_ret2
      exact ⟨rfl, by trivial⟩
/-- What Number answers: the bytes and no error, or nothing and the error. -/
def NumOut (n s : Int) (w : World) (e : Ending) (w' : World) : Prop :=
  ∃ v, ((fitsN n s ∧ e = .returned (.tuple #[v, .int .i64 0]) ∧ OwnU w' w.heap.size v (be s.toNat n.toNat)) ∨ (¬ fitsN n s ∧ v = .slice none 0 0 ∧ e = .returned (.tuple #[v, .int .i64 1]))) ∧ Below w.heap.size w w'
theorem fits_in {n s : Int} (h : fitsN n s) : ∃ k t : Nat, n = k ∧ s = t ∧ 1 ≤ t ∧ t ≤ 8 ∧ k < 256 ^ t := by
  obtain ⟨h1, h2, h3, h4⟩ := h
  obtain ⟨k, rfl⟩ := Int.eq_ofNat_of_zero_le h3
  obtain ⟨t, rfl⟩ := Int.eq_ofNat_of_zero_le (show 0 ≤ s by omega)
  refine ⟨k, t, rfl, rfl, by omega, by omega, ?_⟩
  rw [Int.toNat_natCast] at h4
  have : ((k : Nat) : Int) < ((256 ^ t : Nat) : Int) := by simpa using h4
  omega
theorem fits_of {k t : Nat} (h1 : 1 ≤ t) (h8 : t ≤ 8) (h : k < 256 ^ t) : fitsN (k : Int) (t : Int) := by
  refine ⟨by omega, by omega, by omega, ?_⟩
  rw [Int.toNat_natCast]
  have : ((k : Nat) : Int) < ((256 ^ t : Nat) : Int) := by omega
  simpa using this
theorem number_any (n s : Int) (w : World) (hn : -9223372036854775808 ≤ n) (hn' : n ≤ 9223372036854775807) (hs : -9223372036854775808 ≤ s) (hs' : s ≤ 9223372036854775807) :
    Calls Tryd.prog 14 #[.int .i64 n, .int .i64 s] w (NumOut n s w) := by
  by_cases h : fitsN n s
  · obtain ⟨k, t, rfl, rfl, h1, h8, hlt⟩ := fits_in h
    refine (number_ok k t w h1 h8 hlt (by omega)).mono ?_
    rintro e w' ⟨v, rfl, ho, hb⟩
    exact ⟨v, .inl ⟨h, rfl, by simpa using ho⟩, hb⟩
  · refine (number_bad n s w hn hn' hs hs' h).mono ?_
    rintro e w' ⟨rfl, rfl⟩
    exact ⟨_, .inr ⟨h, rfl, rfl⟩, Below.refl _ _⟩
theorem refNumber_any (n s : Int) (w : World) (hn' : n ≤ 9223372036854775807) :
    Calls Tryd.prog 17 #[.int .i64 n, .int .i64 s] w (NumOut n s w) := by
  by_cases h : s < 1 ∨ 8 < s ∨ n < 0
  · refine (refNumber_out n s w h).mono ?_
    rintro e w' ⟨rfl, rfl⟩
    exact ⟨_, .inr ⟨fun hf => by have := hf.1; have := hf.2.1; have := hf.2.2.1; omega, rfl, rfl⟩, Below.refl _ _⟩
  · obtain ⟨k, rfl⟩ := Int.eq_ofNat_of_zero_le (show 0 ≤ n by omega)
    obtain ⟨t, rfl⟩ := Int.eq_ofNat_of_zero_le (show 0 ≤ s by omega)
    refine (refNumber_in k t w (by omega) (by omega) (by omega)).mono ?_
    rintro e w' ⟨h1, h2, hb⟩
    by_cases hf : k < 256 ^ t
    · obtain ⟨v, rfl, ho⟩ := h1 hf
      exact ⟨v, .inl ⟨fits_of (by omega) (by omega) hf, rfl, by simpa using ho⟩, hb⟩
    · obtain rfl := h2 hf
      exact ⟨_, .inr ⟨fun hh => by
        obtain ⟨k', t', e1, e2, _, _, h3⟩ := fits_in hh
        obtain rfl : k = k' := by omega
        obtain rfl : t = t' := by omega
        exact hf h3, rfl, rfl⟩, hb⟩
end Go.Proofs.YtbnkpbphahjomaaDoor
