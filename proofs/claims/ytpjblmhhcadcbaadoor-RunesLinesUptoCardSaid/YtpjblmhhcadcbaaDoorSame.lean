/- runes.ahead, alike and the two functions that compare: at every two rows of runes. -/
import Derived.Test.YtpjblmhhcadcbaaDoorSplice
import Derived.RegionTactic
import Derived.ChangeAlike
import Derived.Deep.QuietTactic
import Derived.BigQuiet
import Derived.Deep.RegionHeld3
namespace Go.Proofs.YtpjblmhhcadcbaaDoor
open Go.RowKit Rn

/-- A slice value that reads as a row of numbers of that kind. -/
def Holds (k : IntKind) (w : World) (v : Value) (cs : List Nat) : Prop :=
  ∃ a cap, v = .slice a cs.length cap ∧ cs.length ≤ cap ∧ ∀ i, i < cs.length → ∃ b off, a = some ⟨b, off, none⟩ ∧ b < w.heap.size ∧ w.cell? ⟨b, off + i, none⟩ = some (.int k (cs.getD i 0 : Nat))

set_option maxHeartbeats 400000 in
theorem ahead1_any (b1 o1 n1 c1 b2 o2 n2 c2 : Nat) (p1 p2 : Addr) (x y : Nat) (i : Nat) (w : World) (h1 : w.cell? p1 = some (.slice (some ⟨b1, o1, none⟩) n1 c1)) (h2 : w.cell? p2 = some (.slice (some ⟨b2, o2, none⟩) n2 c2))
    (hi1 : i < n1) (hi2 : i < n2) (hx : w.cell? ⟨b1, o1 + i, none⟩ = some (.int .i32 (x : Int))) (hy : w.cell? ⟨b2, o2 + i, none⟩ = some (.int .i32 (y : Int))) :
    Calls Tryd.prog 42 #[.int .i64 (i : Int), .pointer (some p1), .pointer (some p2)] w fun e w' => e = .returned (.bool ((x : Int) == (y : Int))) ∧ ∃ n, w' = w.drewN n := by
  have hi1' : (i : Int) < (n1 : Int) := by omega
  have hi2' : (i : Int) < (n2 : Int) := by omega
  go_enter Tryd.func42, Tryd.ntmps42
  go_wp2
  go_quiet (fail)
  go_wp2
  go_ret
  exact ⟨rfl, _, rfl⟩

set_option maxHeartbeats 400000 in
theorem behind1_any (b1 o1 n1 c1 b2 o2 n2 c2 : Nat) (p1 p2 : Addr) (x y : Nat) (i : Nat) (w : World) (h1 : w.cell? p1 = some (.slice (some ⟨b1, o1, none⟩) n1 c1)) (h2 : w.cell? p2 = some (.slice (some ⟨b2, o2, none⟩) n2 c2))
    (hm1 : n1 ≤ 100000) (hm2 : n2 ≤ 100000)
    (hi1 : i < n1) (hi2 : i < n2) (hx : w.cell? ⟨b1, o1 + (n1 - 1 - i), none⟩ = some (.int .i32 (x : Int))) (hy : w.cell? ⟨b2, o2 + (n2 - 1 - i), none⟩ = some (.int .i32 (y : Int))) :
    Calls Tryd.prog 34 #[.int .i64 (i : Int), .pointer (some p1), .pointer (some p2)] w fun e w' => e = .returned (.bool ((x : Int) == (y : Int))) ∧ ∃ n, w' = w.drewN n := by
  have q1 : (n1 : Int) - 1 - (i : Int) < (n1 : Int) := by omega
  have q2 : (n2 : Int) - 1 - (i : Int) < (n2 : Int) := by omega
  have q3 : 0 ≤ (n1 : Int) - 1 - (i : Int) := by omega
  have q4 : 0 ≤ (n2 : Int) - 1 - (i : Int) := by omega
  go_enter Tryd.func34, Tryd.ntmps34
  go_wp2
  go_quiet (fail)
  go_wp2
  go_ret
  exact ⟨rfl, _, rfl⟩

/-- How many from the first on are so. -/
def lead (p : Nat → Bool) : Nat → Nat
  | 0 => 0
  | n + 1 => if lead p n = n ∧ p n = true then n + 1 else lead p n
theorem lead_spec (p : Nat → Bool) (n : Nat) : lead p n ≤ n ∧ (∀ j, j < lead p n → p j = true) ∧ (lead p n = n ∨ p (lead p n) = false) := by
  induction n with
  | zero => exact ⟨Nat.le_refl _, fun j h => absurd h (by simp [lead]), Or.inl rfl⟩
  | succ n ih =>
    obtain ⟨i1, i2, i3⟩ := ih
    unfold lead
    split
    · rename_i h
      refine ⟨Nat.le_refl _, fun j hj => ?_, Or.inl rfl⟩
      rcases Nat.lt_succ_iff_lt_or_eq.1 hj with h2 | h2
      · exact i2 j (by rw [h.1]; exact h2)
      · rw [h2]; exact h.2
    · rename_i h
      refine ⟨by omega, i2, Or.inr ?_⟩
      rcases i3 with i3 | i3
      · rw [i3]
        cases hp : p n with
        | false => rfl
        | true => exact absurd ⟨i3, hp⟩ h
      · exact i3
theorem lead_eq {p : Nat → Bool} {n k : Nat} (h : k ≤ n) (hp : ∀ j, j < k → p j = true) (hk : k = n ∨ p k = false) : lead p n = k := by
  obtain ⟨i1, i2, i3⟩ := lead_spec p n
  rcases Nat.lt_trichotomy (lead p n) k with h1 | h1 | h1
  · rcases i3 with i3 | i3
    · omega
    · rw [hp _ h1] at i3; cases i3
  · exact h1
  · rcases hk with hk | hk
    · omega
    · rw [i2 _ h1] at hk; cases hk

set_option maxHeartbeats 400000 in
theorem alike_ahead (n : Nat) (p1 p2 : Addr) (p : Nat → Bool) (w : World) (hn : n ≤ 100000)
    (H : Hid (∀ i, i < n → ∀ m, Calls Tryd.prog 42 #[.int .i64 (i : Int), .pointer (some p1), .pointer (some p2)] (w.drewN m) fun e w' => e = .returned (.bool (p i)) ∧ ∃ n, w' = (w.drewN m).drewN n)) :
    Calls Tryd.prog 33 #[.int .i64 (n : Int), .func (.func 42) #[] #[.pointer (some p1), .pointer (some p2)]] w fun e w' => e = .returned (.int .i64 (lead p n : Nat)) ∧ ∃ n, w' = w.drewN n := by
  go_enter Tryd.func33, Tryd.ntmps33
  go_wp2
  go_loopw [5] (fun v wr => ∃ (k m : Nat), v = .int .i64 (k : Int) ∧ k ≤ n ∧ Hid (∀ j, j < k → p j = true) ∧ wr = w.drewN m) (fun v _ => n - (intOf v).toNat)
  case atStart => exact ⟨0, 0, rfl, by omega, fun j hj => by omega, rfl⟩
  case round =>
    obtain ⟨k, m, rfl, hk, hp, rfl⟩ := hrel
    by_cases hlt : k < n
    · have hlt' : (k : Int) < (n : Int) := by omega
      cases hpk : p k with
      | true =>
        have Hpk := Lib.hid hpk
        clear hpk
        go_wp2_with (go_at_call 42; refine (H.out k hlt m).mono ?_; rintro e w' ⟨rfl, m2, rfl⟩; rw [Hpk.out])
        go_roundw
        case rel => exact ⟨k + 1, m + m2, by go_num, by omega, fun j hj => by rcases Nat.lt_succ_iff_lt_or_eq.1 hj with h | h; exact hp.out j h; rw [h]; exact Hpk.out, rfl⟩
        case measure => simp [intOf]; omega
      | false =>
        have Hpk := Lib.hid hpk
        clear hpk
        go_wp2_with (go_at_call 42; refine (H.out k hlt m).mono ?_; rintro e w' ⟨rfl, m2, rfl⟩; rw [Hpk.out])
        go_ret
        rw [lead_eq (k := k) (by omega) hp.out (Or.inr Hpk.out)]
        exact ⟨rfl, m + m2, rfl⟩
    · have hkn : k = n := by omega
      subst hkn
      go_wp2_with fail
      go_ret
      rw [lead_eq (k := k) (by omega) hp.out (Or.inl rfl)]
      exact ⟨rfl, m, rfl⟩

set_option maxHeartbeats 400000 in
theorem alike_behind (n : Nat) (p1 p2 : Addr) (p : Nat → Bool) (w : World) (hn : n ≤ 100000)
    (H : Hid (∀ i, i < n → ∀ m, Calls Tryd.prog 34 #[.int .i64 (i : Int), .pointer (some p1), .pointer (some p2)] (w.drewN m) fun e w' => e = .returned (.bool (p i)) ∧ ∃ n, w' = (w.drewN m).drewN n)) :
    Calls Tryd.prog 33 #[.int .i64 (n : Int), .func (.func 34) #[] #[.pointer (some p1), .pointer (some p2)]] w fun e w' => e = .returned (.int .i64 (lead p n : Nat)) ∧ ∃ n, w' = w.drewN n := by
  go_enter Tryd.func33, Tryd.ntmps33
  go_wp2
  go_loopw [5] (fun v wr => ∃ (k m : Nat), v = .int .i64 (k : Int) ∧ k ≤ n ∧ Hid (∀ j, j < k → p j = true) ∧ wr = w.drewN m) (fun v _ => n - (intOf v).toNat)
  case atStart => exact ⟨0, 0, rfl, by omega, fun j hj => by omega, rfl⟩
  case round =>
    obtain ⟨k, m, rfl, hk, hp, rfl⟩ := hrel
    by_cases hlt : k < n
    · have hlt' : (k : Int) < (n : Int) := by omega
      cases hpk : p k with
      | true =>
        have Hpk := Lib.hid hpk
        clear hpk
        go_wp2_with (go_at_call 34; refine (H.out k hlt m).mono ?_; rintro e w' ⟨rfl, m2, rfl⟩; rw [Hpk.out])
        go_roundw
        case rel => exact ⟨k + 1, m + m2, by go_num, by omega, fun j hj => by rcases Nat.lt_succ_iff_lt_or_eq.1 hj with h | h; exact hp.out j h; rw [h]; exact Hpk.out, rfl⟩
        case measure => simp [intOf]; omega
      | false =>
        have Hpk := Lib.hid hpk
        clear hpk
        go_wp2_with (go_at_call 34; refine (H.out k hlt m).mono ?_; rintro e w' ⟨rfl, m2, rfl⟩; rw [Hpk.out])
        go_ret
        rw [lead_eq (k := k) (by omega) hp.out (Or.inr Hpk.out)]
        exact ⟨rfl, m + m2, rfl⟩
    · have hkn : k = n := by omega
      subst hkn
      go_wp2_with fail
      go_ret
      rw [lead_eq (k := k) (by omega) hp.out (Or.inl rfl)]
      exact ⟨rfl, m, rfl⟩

end Go.Proofs.YtpjblmhhcadcbaaDoor
