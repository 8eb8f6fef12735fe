/- Plain maths of sums: a step, eight of them, a row of bytes; what was sealed is opened, and no row that is another in four neighbours. No program. -/
import Derived.WalkKit
namespace Go.Proofs.Ytpinmkoaihjhfaa
namespace Su

def step (n : Nat) : Nat := if n % 2 = 1 then n / 2 ^^^ 3988292384 else n / 2
def steps : Nat → Nat → Nat
  | 0, n => n
  | k + 1, n => steps k (step n)
theorem xor_half (a b : Nat) : (a ^^^ b) / 2 = a / 2 ^^^ b / 2 := Nat.xor_div_two
theorem xor_zero {a b : Nat} (h : a ^^^ b = 0) : a = b := by
  have e : (a ^^^ b) ^^^ b = 0 ^^^ b := by rw [h]
  rwa [Nat.xor_assoc, Nat.xor_self, Nat.xor_zero, Nat.zero_xor] at e
theorem step_xor (a b : Nat) : step (a ^^^ b) = step a ^^^ step b := by
  have h := @Nat.xor_mod_two_pow a b 1
  have h2 : (a ^^^ b) % 2 = a % 2 ^^^ b % 2 := by simpa using h
  unfold step
  rw [h2, xor_half]
  rcases Nat.mod_two_eq_zero_or_one a with ha | ha <;> rcases Nat.mod_two_eq_zero_or_one b with hb | hb <;> rw [ha, hb]
  · simp
  · simp [Nat.xor_assoc]
  · simp [Nat.xor_assoc, Nat.xor_comm (b / 2)]
  · have e : a / 2 ^^^ 3988292384 ^^^ (b / 2 ^^^ 3988292384) = a / 2 ^^^ b / 2 := by
      rw [Nat.xor_assoc, Nat.xor_comm (b / 2), ← Nat.xor_assoc 3988292384, Nat.xor_self, Nat.zero_xor]
    simp [e]
theorem steps_xor (k a b : Nat) : steps k (a ^^^ b) = steps k a ^^^ steps k b := by
  induction k generalizing a b with
  | zero => rfl
  | succ k ih => show steps k (step (a ^^^ b)) = _; rw [step_xor, ih]; rfl
theorem xor_lt {a b : Nat} (ha : a < 4294967296) (hb : b < 4294967296) : a ^^^ b < 4294967296 := Nat.xor_lt_two_pow (n := 32) (by omega) (by omega)
theorem step_lt {n : Nat} (h : n < 4294967296) : step n < 4294967296 := by
  unfold step
  split
  · exact xor_lt (by omega) (by omega)
  · omega
theorem steps_lt {k n : Nat} (h : n < 4294967296) : steps k n < 4294967296 := by
  induction k generalizing n with
  | zero => exact h
  | succ k ih => exact ih (step_lt h)
theorem step_zero {n : Nat} (h : n < 4294967296) (hz : step n = 0) : n = 0 := by
  unfold step at hz
  split at hz
  · have := xor_zero hz
    omega
  · omega
theorem steps_zero {k n : Nat} (h : n < 4294967296) (hz : steps k n = 0) : n = 0 := by
  induction k generalizing n with
  | zero => exact hz
  | succ k ih => exact step_zero h (ih (step_lt h) hz)
theorem steps_inj {k a b : Nat} (ha : a < 4294967296) (hb : b < 4294967296) (h : steps k a = steps k b) : a = b := by
  have h2 : steps k (a ^^^ b) = 0 := by rw [steps_xor, h, Nat.xor_self]
  exact xor_zero (steps_zero (xor_lt ha hb) h2)
theorem step_double (n : Nat) : step (2 * n) = n := by
  unfold step
  rw [if_neg (by omega)]
  omega
theorem steps_pow (k n : Nat) : steps k (2 ^ k * n) = n := by
  induction k generalizing n with
  | zero => show 2 ^ 0 * n = n; simp
  | succ k ih =>
    show steps k (step (2 ^ (k + 1) * n)) = n
    rw [show 2 ^ (k + 1) * n = 2 * (2 ^ k * n) by rw [Nat.pow_succ, Nat.mul_comm (2 ^ k) 2, Nat.mul_assoc], step_double, ih]
theorem steps_add (j k n : Nat) : steps (j + k) n = steps k (steps j n) := by
  induction j generalizing n with
  | zero => simp [steps]
  | succ j ih => rw [show j + 1 + k = (j + k) + 1 by omega]; exact ih _
theorem xor_low (k q r : Nat) (h : r < 2 ^ k) : 2 ^ k * q ^^^ r = 2 ^ k * q + r := by
  have hp := Nat.two_pow_pos k
  have h1 := @Nat.xor_div_two_pow (2 ^ k * q) r k
  have h2 := @Nat.xor_mod_two_pow (2 ^ k * q) r k
  rw [Nat.mul_div_cancel_left _ hp, Nat.div_eq_of_lt h, Nat.xor_zero] at h1
  rw [Nat.mul_mod_right, Nat.mod_eq_of_lt h, Nat.zero_xor] at h2
  have h3 := Nat.div_add_mod (2 ^ k * q ^^^ r) (2 ^ k)
  rw [h1, h2] at h3
  exact h3.symm
/-- So many steps leave of what is above but a shift. -/
theorem steps_split (k n : Nat) : steps k n = n / 2 ^ k ^^^ steps k (n % 2 ^ k) := by
  have h := xor_low k (n / 2 ^ k) (n % 2 ^ k) (Nat.mod_lt _ (Nat.two_pow_pos k))
  rw [Nat.div_add_mod] at h
  calc steps k n = steps k (2 ^ k * (n / 2 ^ k) ^^^ n % 2 ^ k) := by rw [h]
    _ = _ := by rw [steps_xor, steps_pow]
theorem four_eq (n : Nat) : steps 4 n = n / 16 ^^^ steps 4 (n % 16) := steps_split 4 n
theorem eight_eq (n : Nat) : steps 8 n = steps 4 (steps 4 n) := steps_add 4 4 n
/-- The table that the program has. -/
def fours : List Int := [0, 498536548, 997073096, 651767980, 1994146192, 1802195444, 1303535960, 1342533948, 3988292384, 4027552580, 3604390888, 3412177804, 2607071920, 2262029012, 2685067896, 3183342108]
theorem fours_at (i : Nat) (h : i < 16) : fours.getD i 0 = (steps 4 i : Nat) := by
  have H : ∀ i : Fin 16, fours.getD i.1 0 = (steps 4 i.1 : Nat) := by decide
  exact H ⟨i, h⟩
theorem byte_step (n x : Nat) (hx : x < 256) : steps 8 (n ^^^ x) = n / 256 ^^^ steps 8 (n % 256 ^^^ x) := by
  rw [steps_split 8 (n ^^^ x)]
  have h1 := @Nat.xor_div_two_pow n x 8
  have h2 := @Nat.xor_mod_two_pow n x 8
  rw [h1, h2, Nat.div_eq_of_lt (show x < 2 ^ 8 by omega), Nat.mod_eq_of_lt (show x < 2 ^ 8 by omega), Nat.xor_zero]

def reg (s : Nat) (l : List UInt8) : Nat := l.foldl (fun s x => steps 8 (s ^^^ x.toNat)) s
theorem reg_cons (s : Nat) (x : UInt8) (l : List UInt8) : reg s (x :: l) = reg (steps 8 (s ^^^ x.toNat)) l := rfl
theorem reg_append (s : Nat) (l m : List UInt8) : reg s (l ++ m) = reg (reg s l) m := by unfold reg; rw [List.foldl_append]
theorem reg_snoc (s : Nat) (l : List UInt8) (x : UInt8) : reg s (l ++ [x]) = steps 8 (reg s l ^^^ x.toNat) := by rw [reg_append]; rfl
theorem u8_lt (x : UInt8) : x.toNat < 256 := x.toNat_lt
theorem reg_lt {s : Nat} (h : s < 4294967296) (l : List UInt8) : reg s l < 4294967296 := by
  induction l generalizing s with
  | nil => exact h
  | cons x l ih => exact ih (steps_lt (xor_lt h (by have := u8_lt x; omega)))
theorem xor_cancel_r {a b c : Nat} (h : a ^^^ c = b ^^^ c) : a = b := by
  have : (a ^^^ c) ^^^ c = (b ^^^ c) ^^^ c := by rw [h]
  rwa [Nat.xor_assoc, Nat.xor_self, Nat.xor_zero, Nat.xor_assoc, Nat.xor_self, Nat.xor_zero] at this
theorem xor_cancel_l {a b c : Nat} (h : c ^^^ a = c ^^^ b) : a = b := by
  rw [Nat.xor_comm c, Nat.xor_comm c] at h
  exact xor_cancel_r h
theorem reg_inj {s t : Nat} (hs : s < 4294967296) (ht : t < 4294967296) (l : List UInt8) (h : reg s l = reg t l) : s = t := by
  induction l generalizing s t with
  | nil => exact h
  | cons x l ih =>
    have hx := u8_lt x
    exact xor_cancel_r (steps_inj (xor_lt hs (by omega)) (xor_lt ht (by omega)) (ih (steps_lt (xor_lt hs (by omega))) (steps_lt (xor_lt ht (by omega))) h))
/-- A row of bytes as a number, the lowest first. -/
def word : List UInt8 → Nat
  | [] => 0
  | x :: l => x.toNat + 256 * word l
theorem word_lt (l : List UInt8) : word l < 256 ^ l.length := by
  induction l with
  | nil => simp [word]
  | cons x l ih =>
    have := u8_lt x
    rw [word, List.length_cons, Nat.pow_succ]
    omega
theorem word_lt32 {l : List UInt8} (h : l.length ≤ 4) : word l < 4294967296 :=
  Nat.lt_of_lt_of_le (word_lt l) (Nat.le_trans (Nat.pow_le_pow_right (by decide) h) (by decide))
theorem word_inj {l m : List UInt8} (hl : l.length = m.length) (h : word l = word m) : l = m := by
  induction l generalizing m with
  | nil => cases m with
    | nil => rfl
    | cons y m => simp at hl
  | cons x l ih => cases m with
    | nil => simp at hl
    | cons y m =>
      have h1 := u8_lt x
      have h2 := u8_lt y
      rw [word, word] at h
      have e1 : x.toNat = y.toNat := by omega
      have e2 : word l = word m := by omega
      rw [UInt8.toNat_inj.1 e1, ih (by simpa using hl) e2]
theorem reg_word (s : Nat) (l : List UInt8) : reg s l = steps (8 * l.length) (s ^^^ word l) := by
  induction l generalizing s with
  | nil => simp [reg, word, steps]
  | cons x l ih =>
    have hx := u8_lt x
    rw [reg_cons, ih, List.length_cons, show 8 * (l.length + 1) = 8 + 8 * l.length by omega, steps_add]
    congr 1
    have e : word (x :: l) = x.toNat ^^^ 2 ^ 8 * word l := by
      rw [Nat.xor_comm, xor_low 8 _ _ (by omega), word]
      omega
    rw [e, ← Nat.xor_assoc, steps_xor 8 (s ^^^ x.toNat), steps_pow]
def sum (l : List UInt8) : Nat := reg 4294967295 l ^^^ 4294967295
theorem sum_lt (l : List UInt8) : sum l < 4294967296 := xor_lt (reg_lt (by omega) l) (by omega)
def le4 (n : Nat) : List UInt8 := [UInt8.ofNat n, UInt8.ofNat (n / 256), UInt8.ofNat (n / 65536), UInt8.ofNat (n / 16777216)]
theorem word_le4 {n : Nat} (h : n < 4294967296) : word (le4 n) = n := by
  simp only [le4, word, UInt8.toNat_ofNat']
  omega
theorem le4_len (n : Nat) : (le4 n).length = 4 := rfl
def sealed (l : List UInt8) : List UInt8 := l ++ le4 (sum l)
def openB (c : List UInt8) : Option (List UInt8) := if 4 ≤ c.length ∧ c.drop (c.length - 4) = le4 (sum (c.take (c.length - 4))) then some (c.take (c.length - 4)) else none
theorem seal_len (l : List UInt8) : (sealed l).length = l.length + 4 := by simp [sealed, le4_len]
theorem open_seal (l : List UInt8) : openB (sealed l) = some l := by
  unfold openB
  have e : (sealed l).length - 4 = l.length := by rw [seal_len]; omega
  rw [e, if_pos ⟨by rw [seal_len]; omega, by simp [sealed]⟩]
  simp [sealed]
theorem seal_open {c l : List UInt8} (h : openB c = some l) : sealed l = c := by
  unfold openB at h
  split at h
  · rename_i h1
    obtain rfl := Option.some.inj h
    unfold sealed
    rw [← h1.2, List.take_append_drop]
  · cases h
theorem tail_reg {b t : List UInt8} (ht : t.length = 4) : t = le4 (sum b) ↔ reg 4294967295 (b ++ t) = steps 32 4294967295 := by
  have hb : reg 4294967295 b < 4294967296 := reg_lt (by omega) b
  have hw : word t < 4294967296 := word_lt32 (by omega)
  rw [reg_append, reg_word _ t, ht]
  show _ ↔ steps 32 _ = _
  constructor
  · intro h
    rw [h, word_le4 (sum_lt b), sum, ← Nat.xor_assoc, Nat.xor_self, Nat.zero_xor]
  · intro h
    have h1 := steps_inj (xor_lt hb hw) (by omega) h
    have h2 : word t = sum b := by
      have : reg 4294967295 b ^^^ (reg 4294967295 b ^^^ word t) = reg 4294967295 b ^^^ 4294967295 := by rw [h1]
      rwa [← Nat.xor_assoc, Nat.xor_self, Nat.zero_xor] at this
    exact word_inj (by rw [ht]; rfl) (by rw [h2, word_le4 (sum_lt b)])
theorem openB_reg {c : List UInt8} (h : 4 ≤ c.length) : (openB c).isSome = true ↔ reg 4294967295 c = steps 32 4294967295 := by
  have e := tail_reg (b := c.take (c.length - 4)) (t := c.drop (c.length - 4)) (by simp; omega)
  rw [List.take_append_drop] at e
  rw [← e]
  unfold openB
  split
  · rename_i h1; simp [h1.2]
  · rename_i h1
    simp only [Option.isSome_none, Bool.false_eq_true, false_iff]
    exact fun h2 => h1 ⟨h, h2⟩
/-- Some of a sealed row's bytes are other ones, all within four that are neighbours: it is not opened. -/
theorem tells {l p w w' q : List UInt8} (hx : sealed l = p ++ w ++ q) (hw : w'.length = w.length) (h4 : w.length ≤ 4) : (openB (p ++ w' ++ q)).isSome = decide (w' = w) := by
  have hl := seal_len l
  rw [hx] at hl
  simp only [List.length_append] at hl
  have h1 := (openB_reg (c := p ++ w ++ q) (by simp; omega)).1 (by rw [← hx, open_seal]; rfl)
  have h2 := openB_reg (c := p ++ w' ++ q) (by simp; omega)
  rw [Bool.eq_iff_iff, h2, ← h1, decide_eq_true_iff]
  constructor
  · intro h
    rw [reg_append, reg_append, reg_append (4294967295), reg_append (4294967295) p w] at h
    have hp : reg 4294967295 p < 4294967296 := reg_lt (by omega) p
    have h3 := reg_inj (reg_lt hp w') (reg_lt hp w) q h
    rw [reg_word (reg 4294967295 p) w', reg_word (reg 4294967295 p) w, hw] at h3
    have h5 := steps_inj (xor_lt hp (word_lt32 (by omega))) (xor_lt hp (word_lt32 h4)) h3
    exact word_inj hw (xor_cancel_l h5)
  · rintro rfl; rfl

/-- A number as bytes, the highest first. -/
def be : Nat → Nat → List UInt8
  | 0, _ => []
  | k + 1, n => be k (n / 256) ++ [UInt8.ofNat n]
theorem be_len (k n : Nat) : (be k n).length = k := by
  induction k generalizing n with
  | zero => rfl
  | succ k ih => simp [be, ih]
theorem be_cons (k n : Nat) : be (k + 1) n = UInt8.ofNat (n / 256 ^ k) :: be k n := by
  induction k generalizing n with
  | zero => simp [be]
  | succ k ih =>
    rw [be, ih, be, List.cons_append, Nat.div_div_eq_div_mul, Nat.pow_succ, Nat.mul_comm 256]
def val (l : List UInt8) : Nat := l.foldl (fun v x => v * 256 + x.toNat) 0
theorem val_snoc (l : List UInt8) (x : UInt8) : val (l ++ [x]) = val l * 256 + x.toNat := by simp [val]
theorem val_be (k n : Nat) (h : n < 256 ^ k) : val (be k n) = n := by
  induction k generalizing n with
  | zero => simp at h; simp [be, val, h]
  | succ k ih =>
    rw [be, val_snoc, ih _ (by rw [Nat.pow_succ] at h; omega), UInt8.toNat_ofNat']
    omega
theorem val_lt (l : List UInt8) : val l < 256 ^ l.length := by
  have H : ∀ n (l : List UInt8), l.length = n → val l < 256 ^ n := by
    intro n
    induction n with
    | zero => intro l hl; rw [List.length_eq_zero_iff.1 hl]; simp [val]
    | succ n ih =>
      intro l hl
      have hne : l ≠ [] := by rintro rfl; simp at hl
      rw [← List.dropLast_concat_getLast hne, val_snoc, Nat.pow_succ]
      have h1 := ih l.dropLast (by simp; omega)
      have h2 := u8_lt (l.getLast hne)
      omega
  exact H _ l rfl
end Su
end Go.Proofs.Ytpinmkoaihjhfaa
