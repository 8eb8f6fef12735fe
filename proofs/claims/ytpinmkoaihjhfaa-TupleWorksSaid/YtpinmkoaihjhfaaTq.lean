/- A number read: the program's readNumber. -/
import Derived.Test.YtpinmkoaihjhfaaTj
import Derived.Test.YtpinmkoaihjhfaaTk
namespace Go.Proofs.Ytpinmkoaihjhfaa
open Go.RowKit Su Tp

/-- The number that eight bytes say. -/
def numV (s : List UInt8) : Int := (val (s.take 8) : Int) - 9223372036854775808
theorem val_take (s : List UInt8) (i : Nat) (h : i < s.length) : val (s.take (i + 1)) = val (s.take i) * 256 + s[i].toNat := by
  rw [List.take_succ_eq_append_getElem h, val_snoc]
theorem val_take_lt (s : List UInt8) (i : Nat) (_h : i ≤ 8) : val (s.take i) < 256 ^ i := by
  refine Nat.lt_of_lt_of_le (val_lt _) (Nat.pow_le_pow_right (by decide) ?_)
  rw [List.length_take]; omega
theorem or_low (v x : Nat) (hv : v < 72057594037927936) (hx : x < 256) : bits .or .u64 ((v : Int) * 256) (x : Int) = ((v * 256 + x : Nat) : Int) := by
  have h := u64_or_nat (v * 256) x (by omega) (by omega)
  rw [show ((v * 256 : Nat) : Int) = (v : Int) * 256 by simp] at h
  rw [h]
  congr 1
  have := Nat.two_pow_add_eq_or_of_lt (i := 8) (b := x) (by omega) v
  rw [show 2 ^ 8 * v = v * 256 by omega] at this
  exact this.symm
theorem low_xor (v : Nat) (h : v < 18446744073709551616) : wrap64 (bits .xor .u64 (v : Int) 9223372036854775808) = (v : Int) - 9223372036854775808 := by
  have := u64_xor_nat v 9223372036854775808 h (by omega)
  rw [show ((9223372036854775808 : Nat) : Int) = 9223372036854775808 from rfl] at this
  rw [this, xor_top _ h]
  unfold wrap64
  omega
set_option maxRecDepth 100000 in
set_option maxHeartbeats 8000000 in
theorem readNumber_any (s : List UInt8) (w : World) (hs : s.length ≤ 140737488355328) :
    Calls Try.prog 35 #[.string (txB s)] w fun e w' => e = .returned (if s.length < 8 then .tuple #[.int .i64 0, .int .i64 0] else .tuple #[.int .i64 (numV s), .int .i64 8]) ∧ w' = w := by
  have hz := tx_size s
  by_cases h8 : s.length < 8
  · rw [if_pos h8]
    have t0 : decide ((s.length : Int) < 8) = true := decide_eq_true (by omega)
    go_enter Try.func35, Try.ntmps35
    go_wp2_with fail
    go_ret2
    exact ⟨rfl, rfl⟩
  · rw [if_neg h8]
    have t0 : decide ((s.length : Int) < 8) = false := decide_eq_false (by omega)
    have HV := Lib.hid (show numV s = (val (s.take 8) : Int) - 9223372036854775808 from rfl)
    go_enter Try.func35, Try.ntmps35
    go_wp2_with fail
    go_loopw [4, 9] (fun v i wr => ∃ k : Nat, i = .int .i64 (k : Int) ∧ k ≤ 8 ∧ v = .int .u64 (val (s.take k) : Int) ∧ wr = w) (fun _ i _ => 8 - (intOf i).toNat)
    case atStart => exact ⟨0, rfl, by omega, rfl, rfl⟩
    case round =>
      obtain ⟨k, rfl, hk, rfl, rfl⟩ := hrel
      by_cases hlt : k < 8
      · have hks : k < s.length := by omega
        have hml : (k : Int) < (s.length : Int) := by omega
        have hg := tx_get s k hks (by rw [hz]; exact hks)
        have HT := Lib.hid (val_take s k hks)
        have hv : val (s.take k) < 72057594037927936 := Nat.lt_of_lt_of_le (val_take_lt s k hk) (Nat.pow_le_pow_right (n := 256) (by decide) (show k ≤ 7 by omega))
        have hbyte := u8_lt s[k]
        have HO := Lib.hid (or_low (val (s.take k)) s[k].toNat hv hbyte)
        generalize s[k] = x at *
        generalize val (s.take k) = n at *
        go_wp2_with fail
        refine ⟨⟨k + 1, by rw [Int.natCast_add]; rfl, by omega, by rw [HO.out, HT.out], trivial⟩, ?_⟩
        simp only [intOf]; omega
      · have hk8 : k = 8 := by omega
        subst hk8
        have HX := Lib.hid (low_xor (val (s.take 8)) (val_take_lt s 8 (by omega)))
        go_wp2_with fail
        go_ret2
        exact ⟨by rw [HV.out, ← HX.out]; rfl, rfl⟩
end Go.Proofs.Ytpinmkoaihjhfaa
