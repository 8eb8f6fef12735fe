/- Plain maths of SHA-1 and tags by a key: words, rounds, blocks. No program. -/
import Derived.Test.YtigdmgpejmfceaaSu
namespace Go.Proofs.Ytigdmgpejmfceaa
namespace Yh
open Su

/-- A number of 32 bits, turned by one. -/
def rot1 (x : Nat) : Nat := x * 2 % 4294967296 + x / 2147483648
def rot : Nat → Nat → Nat
  | 0, x => x
  | n + 1, x => rot1 (rot n x)
theorem rot1_lt {x : Nat} (h : x < 4294967296) : rot1 x < 4294967296 := by unfold rot1; omega
theorem rot_lt {x : Nat} (n : Nat) (h : x < 4294967296) : rot n x < 4294967296 := by
  induction n with
  | zero => exact h
  | succ n ih => exact rot1_lt ih
theorem rot_pow (n x : Nat) (hn : n ≤ 32) (h : x < 4294967296) : rot n x = x % 2 ^ (32 - n) * 2 ^ n + x / 2 ^ (32 - n) := by
  induction n with
  | zero => simp [rot]; omega
  | succ n ih =>
    rw [rot, ih (by omega)]
    obtain ⟨k, hk⟩ : ∃ k, 32 - n = k + 1 := ⟨31 - n, by omega⟩
    have hk2 : 32 - (n + 1) = k := by omega
    rw [hk, hk2]
    have e1 : x % 2 ^ (k + 1) = x / 2 ^ k % 2 * 2 ^ k + x % 2 ^ k := by
      rw [Nat.pow_succ, Nat.mod_mul, Nat.mul_comm]
      omega
    have e2 : x / 2 ^ (k + 1) = x / 2 ^ k / 2 := by rw [Nat.pow_succ, Nat.div_div_eq_div_mul]
    have hp : 2 ^ k * 2 ^ n * 2 = 4294967296 := by
      rw [← Nat.pow_add, ← Nat.pow_succ, show (k + n).succ = 32 by omega]
    have hq : x / 2 ^ k < 2 * 2 ^ n := by
      rw [Nat.div_lt_iff_lt_mul (Nat.two_pow_pos k)]
      have : 2 * 2 ^ n * 2 ^ k = 2 ^ k * 2 ^ n * 2 := by
        rw [Nat.mul_comm (2 * 2 ^ n), Nat.mul_comm 2, ← Nat.mul_assoc]
      omega
    have hr : x % 2 ^ k < 2 ^ k := Nat.mod_lt _ (Nat.two_pow_pos k)
    rw [e1, e2, Nat.pow_succ]
    generalize hA : 2 ^ k = A at *
    generalize hN : 2 ^ n = N at *
    generalize x % A = r at *
    generalize x / A = q at *
    have hrN2 : r * N + N ≤ A * N := by
      have : (r + 1) * N ≤ A * N := Nat.mul_le_mul_right _ hr
      rwa [Nat.add_mul, Nat.one_mul] at this
    unfold rot1
    have hm2 : (q % 2 * A + r) * N = q % 2 * (A * N) + r * N := by rw [Nat.add_mul, Nat.mul_assoc]
    rw [hm2, ← Nat.mul_assoc r N 2]
    generalize r * N = rn at *
    generalize A * N = an at *
    rcases Nat.mod_two_eq_zero_or_one q with hq2 | hq2
    · rw [hq2]; omega
    · rw [hq2]; omega
/-- Turned by n, with shifts. -/
theorem rot_or (n x : Nat) (hn : n ≤ 32) (h : x < 4294967296) : x * 2 ^ n % 4294967296 ||| x / 2 ^ (32 - n) = rot n x := by
  have e : x * 2 ^ n % 4294967296 = x % 2 ^ (32 - n) * 2 ^ n := by
    have hp : (4294967296 : Nat) = 2 ^ (32 - n) * 2 ^ n := by rw [← Nat.pow_add, show 32 - n + n = 32 by omega]
    rw [hp, Nat.mul_mod_mul_right]
  have hd : x / 2 ^ (32 - n) < 2 ^ n := by
    rw [Nat.div_lt_iff_lt_mul (Nat.two_pow_pos _), ← Nat.pow_add, show n + (32 - n) = 32 by omega]
    exact h
  rw [e, Nat.mul_comm, ← Nat.two_pow_add_eq_or_of_lt hd, rot_pow n x hn h, Nat.mul_comm]

/-- Five numbers. -/
structure H5 where
  a : Nat
  b : Nat
  c : Nat
  d : Nat
  e : Nat
def H5.Ok (h : H5) : Prop := h.a < 4294967296 ∧ h.b < 4294967296 ∧ h.c < 4294967296 ∧ h.d < 4294967296 ∧ h.e < 4294967296
def fOf (i b c d : Nat) : Nat := if i < 20 then b &&& c ||| (4294967295 - b) &&& d else if i < 40 then b ^^^ c ^^^ d else if i < 60 then b &&& c ||| b &&& d ||| c &&& d else b ^^^ c ^^^ d
def kOf (i : Nat) : Nat := if i < 20 then 1518500249 else if i < 40 then 1859775393 else if i < 60 then 2400959708 else 3395469782
theorem and_lt {a b : Nat} (ha : a < 4294967296) : a &&& b < 4294967296 := Nat.lt_of_le_of_lt Nat.and_le_left ha
theorem or_lt {a b : Nat} (ha : a < 4294967296) (hb : b < 4294967296) : a ||| b < 4294967296 := Nat.or_lt_two_pow (n := 32) (by omega) (by omega)
theorem fOf_lt {i b c d : Nat} (hb : b < 4294967296) (hc : c < 4294967296) (hd : d < 4294967296) : fOf i b c d < 4294967296 := by
  unfold fOf
  split
  · exact or_lt (and_lt hb) (and_lt (by omega))
  · split
    · exact xor_lt (xor_lt hb hc) hd
    · split
      · exact or_lt (or_lt (and_lt hb) (and_lt hb)) (and_lt hc)
      · exact xor_lt (xor_lt hb hc) hd
theorem kOf_lt (i : Nat) : kOf i < 4294967296 := by unfold kOf; split <;> (try split) <;> (try split) <;> omega
def step (i w : Nat) (x : H5) : H5 := ⟨(rot 5 x.a + fOf i x.b x.c x.d + x.e + kOf i + w) % 4294967296, x.a, rot 30 x.b, x.c, x.d⟩
theorem step_ok {i w : Nat} {x : H5} (h : x.Ok) : (step i w x).Ok := ⟨Nat.mod_lt _ (by omega), h.1, rot_lt _ h.2.1, h.2.2.1, h.2.2.2.1⟩
/-- The words of 64 bytes, and those that are made of them. -/
def w16 (b : List UInt8) : List Nat := (List.range 16).map fun i => val ((b.drop (4 * i)).take 4)
def nxt (l : List Nat) : Nat := rot 1 (l.getD (l.length - 3) 0 ^^^ l.getD (l.length - 8) 0 ^^^ l.getD (l.length - 14) 0 ^^^ l.getD (l.length - 16) 0)
def ext : Nat → List Nat → List Nat
  | 0, l => l
  | n + 1, l => ext n (l ++ [nxt l])
def words (b : List UInt8) : List Nat := ext 64 (w16 b)
theorem ext_snoc (n : Nat) (l : List Nat) : ext (n + 1) l = ext n l ++ [nxt (ext n l)] := by
  induction n generalizing l with
  | zero => rfl
  | succ n ih => rw [ext, ih]; rfl
theorem ext_len (n : Nat) (l : List Nat) : (ext n l).length = l.length + n := by
  induction n generalizing l with
  | zero => rfl
  | succ n ih => rw [ext, ih]; simp; omega
theorem w16_len (b : List UInt8) : (w16 b).length = 16 := by simp [w16]
theorem words_len (b : List UInt8) : (words b).length = 80 := by rw [words, ext_len, w16_len]
theorem nxt_lt (l : List Nat) (h : ∀ x ∈ l, x < 4294967296) : nxt l < 4294967296 := by
  have hg : ∀ i, l.getD i 0 < 4294967296 := fun i => by
    rw [List.getD_eq_getElem?_getD]
    cases hi : l[i]? with
    | none => simp
    | some x => exact h x (List.mem_of_getElem? hi)
  exact rot_lt _ (xor_lt (xor_lt (xor_lt (hg _) (hg _)) (hg _)) (hg _))
theorem ext_lt (n : Nat) (l : List Nat) (h : ∀ x ∈ l, x < 4294967296) : ∀ x ∈ ext n l, x < 4294967296 := by
  induction n generalizing l with
  | zero => exact h
  | succ n ih =>
    refine ih _ fun x hx => ?_
    rcases List.mem_append.1 hx with hx | hx
    · exact h x hx
    · rw [List.mem_singleton.1 hx]; exact nxt_lt l h
theorem val4_lt (l : List UInt8) : val (l.take 4) < 4294967296 := Nat.lt_of_lt_of_le (val_lt _) (Nat.le_trans (Nat.pow_le_pow_right (by decide) (show (l.take 4).length ≤ 4 by rw [List.length_take]; omega)) (by decide))
theorem w16_lt (b : List UInt8) : ∀ x ∈ w16 b, x < 4294967296 := by
  intro x hx
  obtain ⟨i, _, rfl⟩ := List.mem_map.1 hx
  exact val4_lt _
theorem words_lt (b : List UInt8) : ∀ x ∈ words b, x < 4294967296 := ext_lt _ _ (w16_lt b)
/-- So many rounds. -/
def rounds (b : List UInt8) : Nat → H5 → H5
  | 0, x => x
  | i + 1, x => step i ((words b).getD i 0) (rounds b i x)
theorem rounds_ok (b : List UInt8) (i : Nat) {x : H5} (h : x.Ok) : (rounds b i x).Ok := by
  induction i with
  | zero => exact h
  | succ i ih => exact step_ok ih
def add5 (x y : H5) : H5 := ⟨(x.a + y.a) % 4294967296, (x.b + y.b) % 4294967296, (x.c + y.c) % 4294967296, (x.d + y.d) % 4294967296, (x.e + y.e) % 4294967296⟩
theorem add5_ok (x y : H5) : (add5 x y).Ok := ⟨Nat.mod_lt _ (by omega), Nat.mod_lt _ (by omega), Nat.mod_lt _ (by omega), Nat.mod_lt _ (by omega), Nat.mod_lt _ (by omega)⟩
def stir (h : H5) (b : List UInt8) : H5 := add5 h (rounds b 80 h)
def h0 : H5 := ⟨1732584193, 4023233417, 2562383102, 271733878, 3285377520⟩
theorem h0_ok : h0.Ok := by unfold H5.Ok h0; decide
/-- All 64 bytes of a row, the first k of them. -/
def stirs (m : List UInt8) : Nat → H5 → H5
  | 0, h => h
  | k + 1, h => stir (stirs m k h) ((m.drop (k * 64)).take 64)
theorem stirs_ok (m : List UInt8) (k : Nat) {h : H5} (hh : h.Ok) : (stirs m k h).Ok := by
  cases k with
  | zero => exact hh
  | succ k => exact add5_ok _ _
/-- What is put behind so many bytes. -/
def zeros (n : Nat) : Nat := (119 - n % 64) % 64
def ending (n : Nat) : List UInt8 := 128 :: (List.replicate (zeros n) 0 ++ be 8 (8 * n))
theorem ending_len (n : Nat) : (ending n).length = 9 + zeros n := by simp [ending, be_len]; omega
theorem zeros_lt (n : Nat) : zeros n < 64 := Nat.mod_lt _ (by omega)
theorem padded_len (n : Nat) : (n + (ending n).length) % 64 = 0 := by rw [ending_len]; unfold zeros; omega
def out5 (h : H5) : List UInt8 := be 4 h.a ++ be 4 h.b ++ be 4 h.c ++ be 4 h.d ++ be 4 h.e
theorem out5_len (h : H5) : (out5 h).length = 20 := by simp [out5, be_len]
def padded (l : List UInt8) : List UInt8 := l ++ ending l.length
def sha (l : List UInt8) : List UInt8 := out5 (stirs (padded l) ((padded l).length / 64) h0)
theorem sha_len (l : List UInt8) : (sha l).length = 20 := out5_len _
/-- The first blocks of a row, and those of the rest. -/
theorem stirs_append (A B : List UInt8) (p k : Nat) (h : H5) (hA : A.length = p * 64) : stirs (A ++ B) (p + k) h = stirs B k (stirs A p h) := by
  have hd : ∀ j, j < p → ((A ++ B).drop (j * 64)).take 64 = (A.drop (j * 64)).take 64 := fun j hj => by
    rw [List.drop_append_of_le_length (by omega), List.take_append_of_le_length (by rw [List.length_drop]; omega)]
  induction k with
  | zero =>
    have H : ∀ j, j ≤ p → stirs (A ++ B) j h = stirs A j h := fun j => by
      induction j with
      | zero => exact fun _ => rfl
      | succ j ih => intro hj; rw [stirs, stirs, ih (by omega), hd j (by omega)]
    exact H p (Nat.le_refl _)
  | succ k ih =>
    rw [← Nat.add_assoc, stirs, stirs, ih]
    congr 2
    rw [Nat.add_mul, ← List.drop_drop, ← hA, List.drop_left]
/-- A key as a tag takes it. -/
def key64 (k : List UInt8) : List UInt8 := (if 64 < k.length then sha k else k) ++ List.replicate (64 - (if 64 < k.length then sha k else k).length) 0
theorem key64_len (k : List UInt8) : (key64 k).length = 64 := by
  unfold key64
  split
  · simp [sha_len]
  · simp; omega
def mask (k : List UInt8) (x : UInt8) : List UInt8 := (key64 k).map (· ^^^ x)
theorem mask_len (k : List UInt8) (x : UInt8) : (mask k x).length = 64 := by simp [mask, key64_len]
def tag (k b : List UInt8) : List UInt8 := sha (mask k 92 ++ sha (mask k 54 ++ b))
theorem tag_len (k b : List UInt8) : (tag k b).length = 20 := sha_len _
set_option maxRecDepth 100000 in
theorem sha_abc : sha [97, 98, 99] = [169, 153, 62, 54, 71, 6, 129, 106, 186, 62, 37, 113, 120, 80, 194, 108, 156, 208, 216, 157] := by decide +kernel
end Yh
end Go.Proofs.Ytigdmgpejmfceaa
