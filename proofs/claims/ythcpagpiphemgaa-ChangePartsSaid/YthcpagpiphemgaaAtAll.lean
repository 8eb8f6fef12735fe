/- The program's key, plain, and their closures: which bytes, all of them, how many. -/
import Derived.Test.YthcpagpiphemgaaAtRow
import Derived.BigQuiet
namespace Go.Proofs.Ythcpagpiphemgaa
open Go.RowKit

set_option maxHeartbeats 1000000 in
theorem plain1_any (c : Nat) (w : World) : Calls Try.prog 68 #[.int .u8 (c : Int)] w fun e w' => e = .returned (.bool (okv c)) ∧ w' = w := by
  go_enter Try.func68, Try.ntmps68
  go_wp2_with fail
  all_goals
    go_ret
    refine ⟨congrArg (fun b => Ending.returned (Value.bool b)) ?_, rfl⟩
    unfold okv
    rw [Bool.eq_iff_iff]
    simp
    omega

set_option maxHeartbeats 1000000 in
theorem key1_any (c : Nat) (w : World) : Calls Try.prog 71 #[.int .u8 (c : Int)] w fun e w' => e = .returned (.bool (okc c)) ∧ w' = w := by
  go_enter Try.func71, Try.ntmps71
  go_wp2_with fail
  all_goals
    go_ret
    refine ⟨congrArg (fun b => Ending.returned (Value.bool b)) ?_, rfl⟩
    unfold okc
    rw [Bool.eq_iff_iff]
    simp
    omega

def allB (q : Nat → Bool) (s : ByteArray) : Bool := decide (allC q s)
theorem allB_bad {q : Nat → Bool} {s : ByteArray} {k : Nat} (hk : k < s.size) (h : q (s[k].toNat) = false) : allB q s = false :=
  decide_eq_false fun hh => by
    have := hh k hk
    rw [h] at this
    cases this
theorem allB_all {q : Nat → Bool} {s : ByteArray} (h : ∀ k (h : k < s.size), q (s[k].toNat) = true) : allB q s = true := decide_eq_true h

set_option maxHeartbeats 1000000 in
theorem allPlain_any (s : ByteArray) (w : World) (hs : s.size ≤ maxLen) : Calls Try.prog 67 #[.string s, .func (.func 68) #[] #[]] w fun e w' => e = .returned (.bool (allB okv s)) ∧ w' = w := by
  have hs' : s.size ≤ 9223372036854775807 := hs
  go_enter Try.func67, Try.ntmps67
  go_wp2_with fail
  go_loopw [8] (fun i wr => ∃ k : Nat, i = .int .i64 (k : Int) ∧ k ≤ s.size ∧ (∀ j (h : j < s.size), j < k → okv (s[j].toNat) = true) ∧ wr = w) (fun i _ => s.size - (intOf i).toNat)
  case atStart => exact ⟨0, rfl, by omega, fun j _ h => by omega, rfl⟩
  case round =>
    obtain ⟨k, rfl, hk, hall, rfl⟩ := hrel
    have Hall := Lib.hid hall
    clear hall
    by_cases hlt : k < s.size
    · have hlt' : (k : Int) < (s.size : Int) := by omega
      go_wp2_with fail
      refine (plain1_any _ _).mono ?_
      rintro e w1 ⟨rfl, rfl⟩
      cases hq : okv (s[k].toNat) with
      | true =>
        have step : ∀ j (h : j < s.size), j < k + 1 → okv (s[j].toNat) = true := fun j hj hjk => by
          by_cases e : j = k
          · subst e; exact hq
          · exact Hall.out j hj (by omega)
        have Step := Lib.hid step
        clear step Hall
        go_wp2_with fail
        go_roundw
        case rel => exact ⟨k + 1, by go_num, by omega, Step.out, by trivial⟩
        case measure => simp [intOf]; omega
      | false =>
        have hb := Lib.hid (allB_bad hlt hq)
        clear Hall
        go_wp2_with fail
        go_ret
        rw [hb.out]
        exact ⟨rfl, rfl⟩
    · have hkn : k = s.size := by omega
      subst hkn
      have hb := Lib.hid (allB_all fun j h => Hall.out j h h)
      clear Hall
      go_wp2_with fail
      go_ret
      rw [hb.out]
      exact ⟨rfl, rfl⟩
set_option maxHeartbeats 1000000 in
theorem allKey_any (s : ByteArray) (w : World) (hs : s.size ≤ maxLen) : Calls Try.prog 67 #[.string s, .func (.func 71) #[] #[]] w fun e w' => e = .returned (.bool (allB okc s)) ∧ w' = w := by
  have hs' : s.size ≤ 9223372036854775807 := hs
  go_enter Try.func67, Try.ntmps67
  go_wp2_with fail
  go_loopw [8] (fun i wr => ∃ k : Nat, i = .int .i64 (k : Int) ∧ k ≤ s.size ∧ (∀ j (h : j < s.size), j < k → okc (s[j].toNat) = true) ∧ wr = w) (fun i _ => s.size - (intOf i).toNat)
  case atStart => exact ⟨0, rfl, by omega, fun j _ h => by omega, rfl⟩
  case round =>
    obtain ⟨k, rfl, hk, hall, rfl⟩ := hrel
    have Hall := Lib.hid hall
    clear hall
    by_cases hlt : k < s.size
    · have hlt' : (k : Int) < (s.size : Int) := by omega
      go_wp2_with fail
      refine (key1_any _ _).mono ?_
      rintro e w1 ⟨rfl, rfl⟩
      cases hq : okc (s[k].toNat) with
      | true =>
        have step : ∀ j (h : j < s.size), j < k + 1 → okc (s[j].toNat) = true := fun j hj hjk => by
          by_cases e : j = k
          · subst e; exact hq
          · exact Hall.out j hj (by omega)
        have Step := Lib.hid step
        clear step Hall
        go_wp2_with fail
        go_roundw
        case rel => exact ⟨k + 1, by go_num, by omega, Step.out, by trivial⟩
        case measure => simp [intOf]; omega
      | false =>
        have hb := Lib.hid (allB_bad hlt hq)
        clear Hall
        go_wp2_with fail
        go_ret
        rw [hb.out]
        exact ⟨rfl, rfl⟩
    · have hkn : k = s.size := by omega
      subst hkn
      have hb := Lib.hid (allB_all fun j h => Hall.out j h h)
      clear Hall
      go_wp2_with fail
      go_ret
      rw [hb.out]
      exact ⟨rfl, rfl⟩

def NE (s : ByteArray) : Bool := !(s.toList == [])
theorem valB_eq (s : ByteArray) : valB s = (decide (s.size ≤ 64) && allB okv s) := by
  unfold valB allB
  rw [Bool.eq_iff_iff]
  simp
  exact And.comm
theorem keyB_eq (s : ByteArray) : keyB s = (decide (1 ≤ s.size) && (decide (s.size ≤ 32) && allB okc s)) := by
  unfold keyB allB
  rw [Bool.eq_iff_iff]
  simp
  constructor
  · exact fun ⟨h1, h2, h3⟩ => ⟨h2, h3, h1⟩
  · exact fun ⟨h2, h3, h1⟩ => ⟨h1, h2, h3⟩
theorem size_nil {s : ByteArray} : s.toList = [] ↔ s.size = 0 := by
  rw [ByteArray.toList_eq]
  constructor
  · intro h
    have := congrArg List.length h
    simpa using this
  · intro h
    exact List.eq_nil_of_length_eq_zero (by simpa using h)

set_option maxHeartbeats 1000000 in
theorem plain_any (s : ByteArray) (w : World) (hs : s.size ≤ maxLen) : Calls Try.prog 56 #[.string s] w fun e w' => e = .returned (.bool (valB s)) ∧ w' = w := by
  have hs' : s.size ≤ 9223372036854775807 := hs
  have hv := valB_eq s
  by_cases h64 : s.size ≤ 64
  · have h64' : (s.size : Int) ≤ 64 := by omega
    have hv2 : valB s = allB okv s := by rw [hv, decide_eq_true h64]; rfl
    have Hv := Lib.hid hv2
    clear hv hv2
    go_enter Try.func56, Try.ntmps56
    go_wp2_with fail
    refine (allPlain_any _ _ hs).mono ?_
    rintro e w1 ⟨rfl, rfl⟩
    go_wp2_with fail
    go_ret
    rw [Hv.out]
    exact ⟨rfl, rfl⟩
  · have h64' : decide ((s.size : Int) ≤ 64) = false := by rw [decide_eq_false_iff_not]; omega
    have hv2 : valB s = false := by rw [hv, decide_eq_false h64]; rfl
    have Hv := Lib.hid hv2
    clear hv hv2 h64
    go_enter Try.func56, Try.ntmps56
    go_wp2_with fail
    go_ret
    rw [Hv.out]
    exact ⟨rfl, rfl⟩

/-- A value that is not empty. -/
def valNE (s : ByteArray) : Bool := decide (1 ≤ s.size) && valB s
set_option maxHeartbeats 1000000 in
theorem right1_any (s : ByteArray) (w : World) (hs : s.size ≤ maxLen) : Calls Try.prog 58 #[.string s] w fun e w' => e = .returned (.bool (valNE s)) ∧ w' = w := by
  by_cases h0 : 1 ≤ s.size
  · have hv2 : valNE s = valB s := by unfold valNE; rw [decide_eq_true h0]; rfl
    have Hv := Lib.hid hv2
    have t1 : (s.toList == []) = false := by rw [beq_eq_false_iff_ne]; exact fun e => by have := size_nil.1 e; omega
    have t2 : (s.toList != []) = true := by rw [bne, t1]; rfl
    have t3 : s.toList.isEmpty = false := by cases h : s.toList with | nil => rw [h] at t1; cases t1 | cons _ _ => rfl
    clear hv2
    go_enter Try.func58, Try.ntmps58
    go_wp2_with fail
    refine (plain_any _ _ hs).mono ?_
    rintro e w1 ⟨rfl, rfl⟩
    go_wp2_with fail
    go_ret
    rw [Hv.out]
    exact ⟨rfl, rfl⟩
  · have hv2 : valNE s = false := by unfold valNE; rw [decide_eq_false h0]; rfl
    have Hv := Lib.hid hv2
    have t0 : s.toList = [] := size_nil.2 (by omega)
    have t3 : s.toList.isEmpty = true := by rw [t0]; rfl
    clear hv2 h0
    go_enter Try.func58, Try.ntmps58
    go_wp2_with fail
    go_ret
    rw [Hv.out]
    exact ⟨rfl, rfl⟩

set_option maxHeartbeats 1000000 in
theorem keyD_any (s : ByteArray) (w : World) (hs : s.size ≤ maxLen) : Calls Try.prog 66 #[.string s] w fun e w' => e = .returned (.bool (keyB s)) ∧ w' = w := by
  have hs' : s.size ≤ 9223372036854775807 := hs
  have hv := keyB_eq s
  by_cases h0 : 1 ≤ s.size
  · have t1 : (s.toList == []) = false := by rw [beq_eq_false_iff_ne]; exact fun e => by have := size_nil.1 e; omega
    have t3 : s.toList.isEmpty = false := by cases h : s.toList with | nil => rw [h] at t1; cases t1 | cons _ _ => rfl
    by_cases h32 : s.size ≤ 32
    · have h32' : (s.size : Int) ≤ 32 := by omega
      have hv2 : keyB s = allB okc s := by rw [hv, decide_eq_true h0, decide_eq_true h32]; rfl
      have Hv := Lib.hid hv2
      clear hv hv2
      go_enter Try.func66, Try.ntmps66
      go_wp2_with fail
      refine (allKey_any _ _ hs).mono ?_
      rintro e w1 ⟨rfl, rfl⟩
      go_wp2_with fail
      go_ret
      rw [Hv.out]
      exact ⟨rfl, rfl⟩
    · have h32' : decide ((s.size : Int) ≤ 32) = false := by rw [decide_eq_false_iff_not]; omega
      have hv2 : keyB s = false := by rw [hv, decide_eq_true h0, decide_eq_false h32]; rfl
      have Hv := Lib.hid hv2
      clear hv hv2 h32
      go_enter Try.func66, Try.ntmps66
      go_wp2_with fail
      go_ret
      rw [Hv.out]
      exact ⟨rfl, rfl⟩
  · have hv2 : keyB s = false := by rw [hv, decide_eq_false h0]; rfl
    have Hv := Lib.hid hv2
    have t0 : s.toList = [] := size_nil.2 (by omega)
    have t3 : s.toList.isEmpty = true := by rw [t0]; rfl
    clear hv hv2 h0
    go_enter Try.func66, Try.ntmps66
    go_wp2_with fail
    go_ret
    rw [Hv.out]
    exact ⟨rfl, rfl⟩
end Go.Proofs.Ythcpagpiphemgaa
