/- What a key is, what a value is: the document's own answers. -/
import Derived.Test.YthcpagpiphemgaaAt
import Derived.Lib.Hide
import Derived.Below
import Derived.WalkKit
import Derived.WalkLawsBesides
import Derived.WalkSpells
import Derived.Deep.CutBlock
import Derived.Deep.DeepCutAuto
import Derived.Deep.LoopGhost
import Derived.Lib.OthersKept
namespace Go.Proofs.Ythcpagpiphemgaa
open Go.RowKit At

def okc (n : Nat) : Bool := decide (65 ≤ n ∧ n ≤ 90 ∨ 97 ≤ n ∧ n ≤ 122 ∨ 48 ≤ n ∧ n ≤ 57 ∨ n = 45 ∨ n = 95)
def okv (n : Nat) : Bool := decide (32 ≤ n ∧ n ≤ 126)
def allC (q : Nat → Bool) (s : ByteArray) : Prop := ∀ k (h : k < s.size), q (s[k].toNat) = true
instance (q : Nat → Bool) (s : ByteArray) : Decidable (allC q s) := inferInstanceAs (Decidable (∀ k (h : k < s.size), _))
def keyB (s : ByteArray) : Bool := decide (allC okc s ∧ 1 ≤ s.size ∧ s.size ≤ 32)
def valB (s : ByteArray) : Bool := decide (allC okv s ∧ s.size ≤ 64)

theorem keyB_bad {s : ByteArray} {k : Nat} (hk : k < s.size) (h : okc (s[k].toNat) = false) : keyB s = false :=
  decide_eq_false fun hh => by
    have := hh.1 k hk
    rw [h] at this
    cases this
theorem valB_bad {s : ByteArray} {k : Nat} (hk : k < s.size) (h : okv (s[k].toNat) = false) : valB s = false :=
  decide_eq_false fun hh => by
    have := hh.1 k hk
    rw [h] at this
    cases this

set_option maxHeartbeats 4000000 in
theorem key_any (s : ByteArray) (w : World) (hs : s.size ≤ maxLen) : Calls Try.prog 61 #[.string s] w fun e w' => e = .returned (.bool (keyB s)) ∧ w' = w := by
  have hs' : s.size ≤ 9223372036854775807 := hs
  go_enter Try.func61, Try.ntmps61
  go_wp2_with fail
  go_loopw [3, 4] (fun i _ wr => ∃ k : Nat, i = .int .i64 (k : Int) ∧ k ≤ s.size ∧ (∀ j (h : j < s.size), j < k → okc (s[j].toNat) = true) ∧ wr = w) (fun i _ _ => s.size - (intOf i).toNat)
  case atStart => exact ⟨0, rfl, by omega, fun j _ h => by omega, rfl⟩
  case round =>
    obtain ⟨k, rfl, hk, hall, rfl⟩ := hrel
    have Hall := Lib.hid hall
    clear hall
    by_cases hlt : k < s.size
    · have hlt' : (k : Int) < (s.size : Int) := by omega
      have step : okc (s[k].toNat) = true → ∀ j (h : j < s.size), j < k + 1 → okc (s[j].toNat) = true := fun h0 j hj hjk => by
        by_cases e : j = k
        · subst e; exact h0
        · exact Hall.out j hj (by omega)
      have Step := Lib.hid step
      have Bad := Lib.hid (fun h => keyB_bad (s := s) hlt h)
      clear step
      go_wp2_with fail
      all_goals
        first
          | (refine ⟨⟨k + 1, by go_num, by omega, Step.out ?_, by trivial⟩, by simp [intOf]; omega⟩
             clear Hall Step Bad
             unfold okc
             rw [decide_eq_true_iff]
             generalize s[k].toNat = c at *
             simp at *
             omega)
          | (go_ret
             refine ⟨(congrArg (fun b => Ending.returned (Value.bool b)) (Bad.out ?_).symm : Ending.returned (.bool false) = _), by trivial⟩
             clear Hall Step Bad
             unfold okc
             rw [decide_eq_false_iff_not]
             generalize s[k].toNat = c at *
             simp at *
             omega)
          | skip
    · have hkn : k = s.size := by omega
      subst hkn
      have hd : keyB s = decide (1 ≤ s.size ∧ s.size ≤ 32) := by
        unfold keyB
        congr 1
        exact propext ⟨fun h => h.2, fun h => ⟨fun j hj => Hall.out j hj hj, h⟩⟩
      have Hd := Lib.hid hd
      clear hd
      by_cases h1 : 1 ≤ s.size
      · have h1' : (1 : Int) ≤ (s.size : Int) := by omega
        have hd2 : (decide ((s.size : Int) ≤ 32)) = keyB s := by
          rw [Hd.out]
          by_cases h2 : s.size ≤ 32
          · rw [decide_eq_true (show (s.size : Int) ≤ 32 by omega), decide_eq_true ⟨h1, h2⟩]
          · rw [decide_eq_false (show ¬ (s.size : Int) ≤ 32 by omega), decide_eq_false fun h => h2 h.2]
        have Hd2 := Lib.hid hd2
        clear hd2
        go_wp2_with fail
        go_ret
        exact ⟨congrArg (fun b => Ending.returned (Value.bool b)) Hd2.out, rfl⟩
      · have hz : s.size = 0 := by omega
        have hd2 : false = keyB s := by
          rw [Hd.out, decide_eq_false fun h => h1 h.1]
        have Hd2 := Lib.hid hd2
        clear hd2
        have h1' : decide ((1 : Int) ≤ (s.size : Int)) = false := by rw [hz]; rfl
        clear hz
        go_wp2_with fail
        go_ret
        exact ⟨congrArg (fun b => Ending.returned (Value.bool b)) Hd2.out, rfl⟩

set_option maxHeartbeats 4000000 in
theorem value_any (s : ByteArray) (w : World) (hs : s.size ≤ maxLen) : Calls Try.prog 62 #[.string s] w fun e w' => e = .returned (.bool (valB s)) ∧ w' = w := by
  have hs' : s.size ≤ 9223372036854775807 := hs
  go_enter Try.func62, Try.ntmps62
  go_wp2_with fail
  go_loopw [3] (fun i wr => ∃ k : Nat, i = .int .i64 (k : Int) ∧ k ≤ s.size ∧ (∀ j (h : j < s.size), j < k → okv (s[j].toNat) = true) ∧ wr = w) (fun i _ => s.size - (intOf i).toNat)
  case atStart => exact ⟨0, rfl, by omega, fun j _ h => by omega, rfl⟩
  case round =>
    obtain ⟨k, rfl, hk, hall, rfl⟩ := hrel
    have Hall := Lib.hid hall
    clear hall
    by_cases hlt : k < s.size
    · have hlt' : (k : Int) < (s.size : Int) := by omega
      have step : okv (s[k].toNat) = true → ∀ j (h : j < s.size), j < k + 1 → okv (s[j].toNat) = true := fun h0 j hj hjk => by
        by_cases e : j = k
        · subst e; exact h0
        · exact Hall.out j hj (by omega)
      have Step := Lib.hid step
      have Bad := Lib.hid (fun h => valB_bad (s := s) hlt h)
      clear step
      go_wp2_with fail
      all_goals
        first
          | (refine ⟨⟨k + 1, by go_num, by omega, Step.out ?_, by trivial⟩, by simp [intOf]; omega⟩
             clear Hall Step Bad
             unfold okv
             rw [decide_eq_true_iff]
             generalize s[k].toNat = c at *
             simp at *
             omega)
          | (go_ret
             refine ⟨(congrArg (fun b => Ending.returned (Value.bool b)) (Bad.out ?_).symm : Ending.returned (.bool false) = _), by trivial⟩
             clear Hall Step Bad
             unfold okv
             rw [decide_eq_false_iff_not]
             generalize s[k].toNat = c at *
             simp at *
             omega)
          | skip
    · have hkn : k = s.size := by omega
      subst hkn
      have hd : decide ((s.size : Int) ≤ 64) = valB s := by
        unfold valB
        by_cases h2 : s.size ≤ 64
        · rw [decide_eq_true (show (s.size : Int) ≤ 64 by omega), decide_eq_true ⟨fun j hj => Hall.out j hj hj, h2⟩]
        · rw [decide_eq_false (show ¬ (s.size : Int) ≤ 64 by omega), decide_eq_false fun h => h2 h.2]
      have Hd := Lib.hid hd
      clear hd
      go_wp2_with fail
      go_ret
      exact ⟨congrArg (fun b => Ending.returned (Value.bool b)) Hd.out, rfl⟩
end Go.Proofs.Ythcpagpiphemgaa
