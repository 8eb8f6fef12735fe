/- Words turned; what a round takes: the program's RotateLeft32 and round. -/
import Derived.Test.YtigdmgpejmfceaaBb
import Derived.Test.YtigdmgpejmfceaaYh
namespace Go.Proofs.Ytigdmgpejmfceaa
open Go.RowKit Su Yh

theorem u32_rot (x : Nat) (hx : x < 4294967296) (n : Nat) (hn : n ≤ 32) : bits .or .u32 ((x * 2 ^ n % 4294967296 : Nat) : Int) ((x / 2 ^ (32 - n) : Nat) : Int) = (rot n x : Int) := by
  rw [u32_or_nat _ _ (Nat.mod_lt _ (by omega)) (Nat.lt_of_le_of_lt (Nat.div_le_self _ _) hx), rot_or n x hn hx]
set_option maxRecDepth 100000 in
set_option maxHeartbeats 2000000 in
theorem rot_any (n : Nat) (x : Nat) (w : World) (hx : x < 4294967296) (hn : n = 1 ∨ n = 5 ∨ n = 30) :
    Calls Try.prog 37 #[.int .u32 (x : Int), .int .i64 (n : Int)] w fun e w' => e = .returned (.int .u32 (rot n x : Int)) ∧ w = w' := by
  have q := u32_rot x hx n (by omega)
  have HR := Lib.hid (rot_lt n hx)
  rcases hn with rfl | rfl | rfl
  · have q : bits .or .u32 ((x : Int) * 2 % 4294967296) ((x : Int) / 2147483648) = (rot 1 x : Int) := q
    have q2 : bits .and .u64 1 31 = 1 := by decide
    generalize rot 1 x = y at *
    rw [show ((1 : Nat) : Int) = 1 from rfl]
    go_enter Try.func37, Try.ntmps37
    go_wp2_with fail
    go_ret
    exact ⟨rfl, by trivial⟩
  · have q : bits .or .u32 ((x : Int) * 32 % 4294967296) ((x : Int) / 134217728) = (rot 5 x : Int) := q
    have q2 : bits .and .u64 5 31 = 5 := by decide
    generalize rot 5 x = y at *
    rw [show ((5 : Nat) : Int) = 5 from rfl]
    go_enter Try.func37, Try.ntmps37
    go_wp2_with fail
    go_ret
    exact ⟨rfl, by trivial⟩
  · have q : bits .or .u32 ((x : Int) * 1073741824 % 4294967296) ((x : Int) / 4) = (rot 30 x : Int) := q
    have q2 : bits .and .u64 30 31 = 30 := by decide
    generalize rot 30 x = y at *
    rw [show ((30 : Nat) : Int) = 30 from rfl]
    go_enter Try.func37, Try.ntmps37
    go_wp2_with fail
    go_ret
    exact ⟨rfl, by trivial⟩

theorem xor_ones (b : Nat) (hb : b < 4294967296) : 4294967295 ^^^ b = 4294967295 - b := by
  have h : (BitVec.allOnes 32 ^^^ BitVec.ofNat 32 b).toNat = (~~~ (BitVec.ofNat 32 b)).toNat := by rw [BitVec.xor_comm, BitVec.xor_allOnes]
  rw [BitVec.toNat_xor, BitVec.toNat_not, BitVec.toNat_allOnes, BitVec.toNat_ofNat, Nat.mod_eq_of_lt (by omega)] at h
  exact h
theorem bits_not (b : Nat) (hb : b < 4294967296) : bits .xor .u32 IntKind.u32.max (b : Int) = ((4294967295 - b : Nat) : Int) := by
  rw [show IntKind.u32.max = ((4294967295 : Nat) : Int) from rfl, u32_xor_nat 4294967295 b (by omega) hb, xor_ones b hb]
set_option maxRecDepth 100000 in
set_option maxHeartbeats 2000000 in
theorem round_any (i b c d : Nat) (w : World) (hi : i < 80) (hb : b < 4294967296) (hc : c < 4294967296) (hd : d < 4294967296) :
    Calls Try.prog 36 #[.int .i64 (i : Int), .int .u32 (b : Int), .int .u32 (c : Int), .int .u32 (d : Int)] w fun e w' => e = .returned (.tuple #[.int .u32 (fOf i b c d : Int), .int .u32 (kOf i : Int)]) ∧ w = w' := by
  have x1 := u32_xor_nat b c hb hc
  have x2 := u32_xor_nat (b ^^^ c) d (xor_lt hb hc) hd
  have x3 := u32_and_nat b c hb hc
  have x4 := u32_and_nat (4294967295 - b) d (by omega) hd
  have x5 := u32_or_nat (b &&& c) ((4294967295 - b) &&& d) (and_lt hb) (and_lt (by omega))
  have x6 := u32_and_nat b d hb hd
  have x7 := u32_and_nat c d hc hd
  have x8 := u32_or_nat (b &&& c) (b &&& d) (and_lt hb) (and_lt hb)
  have x9 := u32_or_nat (b &&& c ||| b &&& d) (c &&& d) (or_lt (and_lt hb) (and_lt hb)) (and_lt hc)
  have xn := bits_not b hb
  generalize hnb : 4294967295 - b = nb at *
  have HNB := Lib.hid hnb
  clear hnb
  rcases (show i < 20 ∨ (20 ≤ i ∧ i < 40) ∨ (40 ≤ i ∧ i < 60) ∨ 60 ≤ i by omega) with h | h | h | h
  · have HF := Lib.hid (show fOf i b c d = (b &&& c ||| nb &&& d) by unfold fOf; rw [if_pos (by omega), HNB.out])
    have HK := Lib.hid (show kOf i = 1518500249 by unfold kOf; rw [if_pos (by omega)])
    have t0 : ((i : Int) / 20 == 0) = true := by simp; omega
    clear h
    generalize fOf i b c d = F at *
    generalize kOf i = K at *
    go_enter Try.func36, Try.ntmps36
    go_wp2_with fail
    go_ret2
    exact ⟨by rw [HF.out, HK.out]; rfl, by trivial⟩
  · have HF := Lib.hid (show fOf i b c d = (b ^^^ c ^^^ d) by unfold fOf; rw [if_neg (by omega), if_pos (by omega)])
    have HK := Lib.hid (show kOf i = 1859775393 by unfold kOf; rw [if_neg (by omega), if_pos (by omega)])
    have t0 : ((i : Int) / 20 == 0) = false := by simp; omega
    have t1 : ((i : Int) / 20 == 1) = true := by simp; omega
    clear h
    generalize fOf i b c d = F at *
    generalize kOf i = K at *
    go_enter Try.func36, Try.ntmps36
    go_wp2_with fail
    go_ret2
    exact ⟨by rw [HF.out, HK.out]; rfl, by trivial⟩
  · have HF := Lib.hid (show fOf i b c d = (b &&& c ||| b &&& d ||| c &&& d) by unfold fOf; rw [if_neg (by omega), if_neg (by omega), if_pos (by omega)])
    have HK := Lib.hid (show kOf i = 2400959708 by unfold kOf; rw [if_neg (by omega), if_neg (by omega), if_pos (by omega)])
    have t0 : ((i : Int) / 20 == 0) = false := by simp; omega
    have t1 : ((i : Int) / 20 == 1) = false := by simp; omega
    have t2 : ((i : Int) / 20 == 2) = true := by simp; omega
    clear h
    generalize fOf i b c d = F at *
    generalize kOf i = K at *
    go_enter Try.func36, Try.ntmps36
    go_wp2_with fail
    go_ret2
    exact ⟨by rw [HF.out, HK.out]; rfl, by trivial⟩
  · have HF := Lib.hid (show fOf i b c d = (b ^^^ c ^^^ d) by unfold fOf; rw [if_neg (by omega), if_neg (by omega), if_neg (by omega)])
    have HK := Lib.hid (show kOf i = 3395469782 by unfold kOf; rw [if_neg (by omega), if_neg (by omega), if_neg (by omega)])
    have t0 : ((i : Int) / 20 == 0) = false := by simp; omega
    have t1 : ((i : Int) / 20 == 1) = false := by simp; omega
    have t2 : ((i : Int) / 20 == 2) = false := by simp; omega
    clear h
    generalize fOf i b c d = F at *
    generalize kOf i = K at *
    go_enter Try.func36, Try.ntmps36
    go_wp2_with fail
    go_ret2
    exact ⟨by rw [HF.out, HK.out]; rfl, by trivial⟩
end Go.Proofs.Ytigdmgpejmfceaa
