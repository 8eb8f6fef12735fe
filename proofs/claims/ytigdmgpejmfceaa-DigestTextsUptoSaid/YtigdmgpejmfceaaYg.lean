/- Plain maths of base 64 and base sixteen: bytes as signs by threes, bit by bit, and back. No program. -/
import Derived.Test.YtigdmgpejmfceaaSu
namespace Go.Proofs.Ytigdmgpejmfceaa
namespace Yg
open Su

def signsL : List UInt8 := [65, 66, 67, 68, 69, 70, 71, 72, 73, 74, 75, 76, 77, 78, 79, 80, 81, 82, 83, 84, 85, 86, 87, 88, 89, 90, 97, 98, 99, 100, 101, 102, 103, 104, 105, 106, 107, 108, 109, 110, 111, 112, 113, 114, 115, 116, 117, 118, 119, 120, 121, 122, 48, 49, 50, 51, 52, 53, 54, 55, 56, 57, 43, 47]
def digitsL : List UInt8 := [48, 49, 50, 51, 52, 53, 54, 55, 56, 57, 97, 98, 99, 100, 101, 102]
def sgn (n : Nat) : UInt8 := signsL.getD n 0
def dgt (n : Nat) : UInt8 := digitsL.getD n 0
/-- A sign's number; 64, if it is none. -/
def idx (c : UInt8) : Nat := signsL.idxOf c
def isSgn (c : UInt8) : Bool := (65 ≤ c.toNat && c.toNat ≤ 90) || (97 ≤ c.toNat && c.toNat ≤ 122) || (48 ≤ c.toNat && c.toNat ≤ 57) || c.toNat == 43 || c.toNat == 47
theorem idx_sgn (n : Nat) (h : n < 64) : idx (sgn n) = n := by
  have H : ∀ i : Fin 64, idx (sgn i.1) = i.1 := by decide +kernel
  exact H ⟨n, h⟩
theorem sgn_is (n : Nat) (h : n < 64) : isSgn (sgn n) = true := by
  have H : ∀ i : Fin 64, isSgn (sgn i.1) = true := by decide +kernel
  exact H ⟨n, h⟩
theorem sgn_ne (n : Nat) (h : n < 64) : sgn n ≠ 61 := by
  have H : ∀ i : Fin 64, sgn i.1 ≠ 61 := by decide +kernel
  exact H ⟨n, h⟩
theorem idx_le (c : UInt8) : idx c ≤ 64 := List.idxOf_le_length
theorem idx_fill : idx 61 = 64 := by decide
theorem sgn_idx (c : UInt8) (h : idx c < 64) : sgn (idx c) = c := by
  have h2 : idx c < signsL.length := h
  unfold sgn
  rw [List.getD_eq_getElem?_getD, List.getElem?_eq_getElem h2, Option.getD_some]
  exact List.getElem_idxOf h2
theorem sgn_at (k : Nat) (c : UInt8) (h : k < 64) : (sgn k = c) ↔ (idx c = k) := by
  constructor
  · rintro rfl; exact idx_sgn k h
  · rintro rfl; exact sgn_idx c h

/-- The four signs of one, two or three bytes. -/
def num3 (b : List UInt8) : Nat := (b.getD 0 0).toNat * 65536 + (b.getD 1 0).toNat * 256 + (b.getD 2 0).toNat
def signs4 (b : List UInt8) : List UInt8 := [sgn (num3 b / 262144), sgn (num3 b / 4096 % 64), if b.length < 2 then 61 else sgn (num3 b / 64 % 64), if b.length < 3 then 61 else sgn (num3 b % 64)]
theorem signs4_len (b : List UInt8) : (signs4 b).length = 4 := rfl
theorem num3_lt (b : List UInt8) : num3 b < 16777216 := by
  unfold num3
  have h0 := u8_lt (b.getD 0 0)
  have h1 := u8_lt (b.getD 1 0)
  have h2 := u8_lt (b.getD 2 0)
  omega
/-- Bytes in base 64. -/
def enc : List UInt8 → List UInt8
  | x :: y :: z :: l => signs4 [x, y, z] ++ enc l
  | [] => []
  | [x] => signs4 [x]
  | [x, y] => signs4 [x, y]
theorem enc_len (l : List UInt8) : (enc l).length = (l.length + 2) / 3 * 4 := by
  induction l using enc.induct with
  | case1 x y z l ih => rw [enc, List.length_append, signs4_len, ih]; simp only [List.length_cons]; omega
  | case2 => rfl
  | case3 x => rw [enc, signs4_len]; simp
  | case4 x y => rw [enc, signs4_len]; simp
/-- Three bytes and what is behind them. -/
theorem enc_drop (l : List UInt8) (h : l ≠ []) : enc l = signs4 (l.take 3) ++ enc (l.drop 3) := by
  match l, h with
  | [x], _ => simp [enc]
  | [x, y], _ => simp [enc]
  | x :: y :: z :: l, _ => simp [enc]

/-- What a sign counts as. -/
def mag (c : UInt8) : Nat := if idx c < 64 then idx c else 0
theorem mag_lt (c : UInt8) : mag c < 64 := by unfold mag; split <;> omega
theorem mag_sgn (n : Nat) (h : n < 64) : mag (sgn n) = n := by unfold mag; rw [idx_sgn n h, if_pos h]
theorem mag_fill : mag 61 = 0 := by decide
def num4 (a b c d : UInt8) : Nat := ((mag a * 64 + mag b) * 64 + mag c) * 64 + mag d
theorem num4_lt (a b c d : UInt8) : num4 a b c d < 16777216 := by
  unfold num4
  have h1 := mag_lt a
  have h2 := mag_lt b
  have h3 := mag_lt c
  have h4 := mag_lt d
  omega
def many (c d : UInt8) : Nat := if c = 61 then 1 else if d = 61 then 2 else 3
theorem many_in (c d : UInt8) : 1 ≤ many c d ∧ many c d ≤ 3 := by unfold many; split <;> (try split) <;> omega
def bytes3 (n : Nat) : List UInt8 := [UInt8.ofNat (n / 65536), UInt8.ofNat (n / 256), UInt8.ofNat n]
/-- The bytes of four signs. -/
def bytesOf (a b c d : UInt8) : List UInt8 := (bytes3 (num4 a b c d)).take (many c d)
theorem bytesOf_len (a b c d : UInt8) : (bytesOf a b c d).length = many c d := by
  unfold bytesOf bytes3
  rw [List.length_take]
  have := many_in c d
  simp
  omega
theorem u8_of (x : UInt8) (n : Nat) (h : n % 256 = x.toNat) : UInt8.ofNat n = x := by
  apply UInt8.toNat_inj.1
  rw [UInt8.toNat_ofNat']
  exact h
theorem bytes_signs1 {x p q r s : UInt8} (h : signs4 [x] = [p, q, r, s]) : bytesOf p q r s = [x] := by
  simp only [signs4, List.cons.injEq, and_true] at h
  obtain ⟨e1, e2, e3, e4⟩ := h
  have hn := num3_lt [x]
  have hx := u8_lt x
  simp only [List.length_singleton, Nat.reduceLT, if_true] at e3 e4
  subst e1; subst e2; subst e3; subst e4
  simp only [bytesOf, many, if_true, num4, mag_fill, bytes3, List.take_succ_cons, List.take_zero]
  rw [mag_sgn _ (by omega), mag_sgn _ (by omega)]
  simp only [num3, List.getD_cons_zero, List.getD_cons_succ, List.getD_nil] at *
  congr 1
  apply u8_of
  simp at *
  omega
theorem bytes_signs2 {x  y p q r s : UInt8} (h : signs4 [x, y] = [p, q, r, s]) : bytesOf p q r s = [x, y] := by
  simp only [signs4, List.cons.injEq, and_true] at h
  obtain ⟨e1, e2, e3, e4⟩ := h
  have hn := num3_lt [x, y]
  have hx := u8_lt x
  have hy := u8_lt y
  simp only [List.length_cons, List.length_nil, Nat.reduceAdd, Nat.reduceLT, if_true, if_false] at e3 e4
  subst e1; subst e2; subst e3; subst e4
  simp only [bytesOf, many, if_neg (sgn_ne _ (show num3 [x, y] / 64 % 64 < 64 by omega)), if_true, num4, mag_fill, bytes3, List.take_succ_cons, List.take_zero]
  rw [mag_sgn _ (by omega), mag_sgn _ (by omega), mag_sgn _ (by omega)]
  simp only [num3, List.getD_cons_zero, List.getD_cons_succ, List.getD_nil] at *
  congr 1
  · apply u8_of
    simp at *
    omega
  · congr 1
    apply u8_of
    simp at *
    omega
theorem bytes_signs3 {x  y  z p q r s : UInt8} (h : signs4 [x, y, z] = [p, q, r, s]) : bytesOf p q r s = [x, y, z] := by
  simp only [signs4, List.cons.injEq, and_true] at h
  obtain ⟨e1, e2, e3, e4⟩ := h
  have hn := num3_lt [x, y, z]
  have hx := u8_lt x
  have hy := u8_lt y
  have hz := u8_lt z
  simp only [List.length_cons, List.length_nil, Nat.reduceAdd, Nat.reduceLT, if_false] at e3 e4
  subst e1; subst e2; subst e3; subst e4
  simp only [bytesOf, many, if_neg (sgn_ne _ (show num3 [x, y, z] / 64 % 64 < 64 by omega)), if_neg (sgn_ne _ (show num3 [x, y, z] % 64 < 64 by omega)), num4, bytes3, List.take_succ_cons, List.take_zero]
  rw [mag_sgn _ (by omega), mag_sgn _ (by omega), mag_sgn _ (by omega), mag_sgn _ (by omega)]
  simp only [num3, List.getD_cons_zero, List.getD_cons_succ] at *
  congr 1
  · apply u8_of
    omega
  · congr 1
    · apply u8_of
      omega
    · congr 1
      apply u8_of
      omega
theorem bytes_signs {b : List UInt8} {p q r s : UInt8} (h1 : 1 ≤ b.length) (h3 : b.length ≤ 3) (h : signs4 b = [p, q, r, s]) : bytesOf p q r s = b := by
  rcases b with _ | ⟨x, _ | ⟨y, _ | ⟨z, _ | ⟨t, l⟩⟩⟩⟩
  · exact absurd h1 (by simp)
  · exact bytes_signs1 h
  · exact bytes_signs2 h
  · exact bytes_signs3 h
  · exact absurd h3 (by simp)
/-- The program's way back, four signs at a time. -/
def dec : List UInt8 → List UInt8 → Option (List UInt8)
  | a :: b :: c :: d :: s, out => if out.length % 3 = 0 ∧ signs4 (bytesOf a b c d) = [a, b, c, d] then dec s (out ++ bytesOf a b c d) else none
  | [], out => some out
  | _, _ => none
theorem dec_none (s out : List UInt8) (h : s.length % 4 ≠ 0) : dec s out = none := by
  induction s, out using dec.induct with
  | case1 a b c d s out hh ih => rw [dec, if_pos hh]; exact ih (by simp only [List.length_cons] at h; omega)
  | case2 a b c d s out hh => rw [dec, if_neg hh]
  | case3 out => simp at h
  | case4 s out h1 h2 =>
    match s, h1, h2 with
    | [], _, h2 => exact absurd rfl h2
    | [_], _, _ => rfl
    | [_, _], _, _ => rfl
    | [_, _, _], _, _ => rfl
    | a :: b :: c :: d :: s, h1, _ => exact absurd rfl (h1 a b c d s)
theorem dec_step (a b c d : UInt8) (s out : List UInt8) : dec (a :: b :: c :: d :: s) out = if out.length % 3 = 0 ∧ signs4 (bytesOf a b c d) = [a, b, c, d] then dec s (out ++ bytesOf a b c d) else none := by rw [dec]
theorem dec_odd (s out : List UInt8) (hs : s ≠ []) (h : out.length % 3 ≠ 0) : dec s out = none := by
  match s, hs with
  | [_], _ => rfl
  | [_, _], _ => rfl
  | [_, _, _], _ => rfl
  | a :: b :: c :: d :: s, _ => rw [dec, if_neg (fun hh => h hh.1)]
theorem dec_some {s out m : List UInt8} (h : dec s out = some m) (h3 : out.length % 3 = 0) : ∃ l, m = out ++ l ∧ enc l = s := by
  induction s, out using dec.induct with
  | case1 a b c d s out hh ih =>
    rw [dec, if_pos hh] at h
    have hl := bytesOf_len a b c d
    have hm := many_in c d
    by_cases e3 : many c d = 3
    · obtain ⟨l, rfl, he⟩ := ih h (by rw [List.length_append, hl]; omega)
      refine ⟨bytesOf a b c d ++ l, by simp, ?_⟩
      have hne : bytesOf a b c d ++ l ≠ [] := fun e => by
        have := congrArg List.length e
        rw [List.length_append, hl] at this
        simp at this
        omega
      rw [enc_drop _ hne, List.take_append_of_le_length (by omega), List.take_of_length_le (by omega), List.drop_append_of_le_length (by omega), List.drop_of_length_le (by omega), List.nil_append, he, hh.2]
      rfl
    · by_cases hs : s = []
      · subst hs
        rw [dec] at h
        obtain rfl := Option.some.inj h
        refine ⟨bytesOf a b c d, rfl, ?_⟩
        have hne : bytesOf a b c d ≠ [] := fun e => by
          have := congrArg List.length e
          rw [hl] at this
          simp at this
          omega
        rw [enc_drop _ hne, List.take_of_length_le (by omega), List.drop_of_length_le (by omega), hh.2]
        rfl
      · rw [dec_odd _ _ hs (by rw [List.length_append, hl]; omega)] at h
        cases h
  | case2 a b c d s out hh => rw [dec, if_neg hh] at h; cases h
  | case3 out =>
    rw [dec] at h
    obtain rfl := Option.some.inj h
    exact ⟨[], by simp, rfl⟩
  | case4 s out h1 h2 =>
    match s, h1, h2 with
    | [], _, h2 => exact absurd rfl h2
    | [_], _, _ => cases h
    | [_, _], _, _ => cases h
    | [_, _, _], _, _ => cases h
    | a :: b :: c :: d :: s, h1, _ => exact absurd rfl (h1 a b c d s)
theorem dec_four {b : List UInt8} (h1 : 1 ≤ b.length) (h3 : b.length ≤ 3) (s out : List UInt8) (ho : out.length % 3 = 0) : dec (signs4 b ++ s) out = dec s (out ++ b) := by
  obtain ⟨p, q, r, t, e⟩ : ∃ p q r t, signs4 b = [p, q, r, t] := ⟨_, _, _, _, rfl⟩
  have hb := bytes_signs h1 h3 e
  rw [e]
  show dec (p :: q :: r :: t :: s) out = _
  rw [dec, hb, if_pos ⟨ho, e⟩]
theorem dec_enc (l out : List UInt8) (ho : out.length % 3 = 0) : dec (enc l) out = some (out ++ l) := by
  induction l using enc.induct generalizing out with
  | case1 x y z l ih =>
    rw [enc, dec_four (by simp) (by simp) _ _ ho, ih _ (by simp; omega)]
    simp
  | case2 => rw [enc, dec]; simp
  | case3 x =>
    have := dec_four (b := [x]) (by simp) (by simp) [] out ho
    rw [List.append_nil] at this
    rw [enc, this, dec]
  | case4 x y =>
    have := dec_four (b := [x, y]) (by simp) (by simp) [] out ho
    rw [List.append_nil] at this
    rw [enc, this, dec]
/-- The bytes whose text s is. -/
def dcd (s : List UInt8) : Option (List UInt8) := dec s []
theorem dcd_iff (s l : List UInt8) : dcd s = some l ↔ enc l = s := by
  constructor
  · intro h
    obtain ⟨m, e, he⟩ := dec_some h rfl
    rw [List.nil_append] at e
    rw [e, he]
  · rintro rfl
    show dec (enc l) [] = some l
    rw [dec_enc l [] rfl, List.nil_append]

/-- The document's way: bit by bit. -/
abbrev BS := List UInt8 × Nat × Nat
def bitS (st : BS) (b : Nat) : BS := if st.2.2 + 1 = 6 then (st.1 ++ [sgn (st.2.1 * 2 + b)], 0, 0) else (st.1, st.2.1 * 2 + b, st.2.2 + 1)
def bitsN (x : Nat) : Nat → BS → BS
  | 0, st => st
  | j + 1, st => bitS (bitsN x j st) (x / 2 ^ (7 - j) % 2)
def encS (st : BS) (l : List UInt8) : BS := l.foldl (fun st x => bitsN x.toNat 8 st) st
theorem encS_cons (st : BS) (x : UInt8) (l : List UInt8) : encS st (x :: l) = encS (bitsN x.toNat 8 st) l := by simp only [encS, List.foldl_cons]
theorem encS_snoc (st : BS) (l : List UInt8) (x : UInt8) : encS st (l ++ [x]) = bitsN x.toNat 8 (encS st l) := by simp [encS]
theorem byte_at0 (out : List UInt8) (x : Nat) (h : x < 256) : bitsN x 8 (out, 0, 0) = (out ++ [sgn (x / 4)], x % 4, 2) := by
  have e : ((((((0 * 2 + x / 128 % 2) * 2 + x / 64 % 2) * 2 + x / 32 % 2) * 2 + x / 16 % 2) * 2 + x / 8 % 2) * 2 + x / 4 % 2) = x / 4 := by omega
  have e2 : (0 * 2 + x / 2 % 2) * 2 + x % 2 = x % 4 := by omega
  simp [bitsN, bitS] at *
  exact ⟨by rw [e], e2⟩
theorem byte_at2 (out : List UInt8) (n x : Nat) (hn : n < 4) (h : x < 256) : bitsN x 8 (out, n, 2) = (out ++ [sgn (n * 16 + x / 16)], x % 16, 4) := by
  have e : ((((n * 2 + x / 128 % 2) * 2 + x / 64 % 2) * 2 + x / 32 % 2) * 2 + x / 16 % 2) = n * 16 + x / 16 := by omega
  have e2 : (((0 * 2 + x / 8 % 2) * 2 + x / 4 % 2) * 2 + x / 2 % 2) * 2 + x % 2 = x % 16 := by omega
  simp [bitsN, bitS] at *
  exact ⟨by rw [e], e2⟩
theorem byte_at4 (out : List UInt8) (n x : Nat) (_hn : n < 16) (h : x < 256) : bitsN x 8 (out, n, 4) = (out ++ [sgn (n * 4 + x / 64), sgn (x % 64)], 0, 0) := by
  have e : ((n * 2 + x / 128 % 2) * 2 + x / 64 % 2) = n * 4 + x / 64 := by omega
  have e2 : (((((0 * 2 + x / 32 % 2) * 2 + x / 16 % 2) * 2 + x / 8 % 2) * 2 + x / 4 % 2) * 2 + x / 2 % 2) * 2 + x % 2 = x % 64 := by omega
  simp [bitsN, bitS] at *
  exact ⟨by rw [e], by rw [e2]⟩
/-- The bits that are left, filled up. -/
def fin (st : BS) : List UInt8 := if st.2.2 = 0 then st.1 else st.1 ++ [sgn (st.2.1 * 2 ^ (6 - st.2.2))]
def pad (o : List UInt8) : List UInt8 := o ++ List.replicate ((4 - o.length % 4) % 4) 61
def refEnc (l : List UInt8) : List UInt8 := pad (fin (encS ([], 0, 0) l))
theorem encS_nil (st : BS) : encS st [] = st := rfl
theorem fin2 (o : List UInt8) (n : Nat) : fin (o, n, 2) = o ++ [sgn (n * 16)] := by simp [fin]
theorem fin4 (o : List UInt8) (n : Nat) : fin (o, n, 4) = o ++ [sgn (n * 4)] := by simp [fin]
theorem pad_four (o m : List UInt8) (h : o.length % 4 = 0) : pad (o ++ m) = o ++ pad m := by
  unfold pad
  rw [List.length_append, List.append_assoc]
  congr 4
  omega
theorem three_st (out : List UInt8) (x y z : UInt8) (l : List UInt8) : encS (out, 0, 0) (x :: y :: z :: l) = encS (out ++ signs4 [x, y, z], 0, 0) l := by
  have hx := u8_lt x
  have hy := u8_lt y
  have hz := u8_lt z
  rw [encS_cons, encS_cons, encS_cons, byte_at0 _ _ hx, byte_at2 _ _ _ (by omega) hy, byte_at4 _ _ _ (by omega) hz]
  congr 2
  simp only [signs4, num3, List.getD_cons_zero, List.getD_cons_succ, List.length_cons, List.length_nil, Nat.reduceAdd, Nat.reduceLT, if_false, List.append_assoc, List.cons_append, List.nil_append]
  congr 2
  · congr 1; omega
  · congr 1
    · congr 1; omega
    · congr 1
      · congr 1; omega
      · congr 2; omega
theorem one_st (out : List UInt8) (x : UInt8) (h : out.length % 4 = 0) : pad (fin (encS (out, 0, 0) [x])) = out ++ signs4 [x] := by
  have hx := u8_lt x
  rw [encS_cons, byte_at0 _ _ hx]
  rw [encS_nil, fin2, List.append_assoc, pad_four _ _ h]
  apply congrArg (fun t => out ++ t)
  simp only [pad, signs4, num3, List.getD_cons_zero, List.getD_cons_succ, List.length_cons, List.length_nil, Nat.reduceAdd, Nat.reduceLT, if_true, List.cons_append, List.nil_append, List.getD_nil]
  simp
  constructor
  · congr 1; omega
  · congr 1; omega
theorem two_st (out : List UInt8) (x y : UInt8) (h : out.length % 4 = 0) : pad (fin (encS (out, 0, 0) [x, y])) = out ++ signs4 [x, y] := by
  have hx := u8_lt x
  have hy := u8_lt y
  rw [encS_cons, encS_cons, byte_at0 _ _ hx, byte_at2 _ _ _ (by omega) hy]
  rw [encS_nil, fin4, List.append_assoc, List.append_assoc, pad_four _ _ h]
  apply congrArg (fun t => out ++ t)
  simp only [pad, signs4, num3, List.getD_cons_zero, List.getD_cons_succ, List.length_cons, List.length_nil, Nat.reduceAdd, Nat.reduceLT, if_true, if_false, List.cons_append, List.nil_append, List.getD_nil]
  simp
  constructor
  · congr 1; omega
  · constructor
    · congr 1; omega
    · congr 1; omega
theorem enc_bits (l out : List UInt8) (h : out.length % 4 = 0) : pad (fin (encS (out, 0, 0) l)) = out ++ enc l := by
  induction l using enc.induct generalizing out with
  | case1 x y z l ih =>
    rw [three_st, ih _ (by simp [signs4_len]; omega), enc, List.append_assoc]
  | case2 => simp [encS, fin, pad, enc, h]
  | case3 x => rw [one_st _ _ h, enc]
  | case4 x y => rw [two_st _ _ _ h, enc]
theorem refEnc_eq (l : List UInt8) : refEnc l = enc l := by
  have := enc_bits l [] rfl
  simpa [refEnc] using this

/-- The document's way back: sign by sign. -/
def sexA (st : BS) (c : UInt8) : BS := if idx c < 64 then (st.1, st.2.1 * 64 + idx c, st.2.2 + 6) else st
def sexB (st : BS) : BS := if 8 ≤ st.2.2 then (st.1 ++ [UInt8.ofNat (st.2.1 / 2 ^ (st.2.2 - 8))], st.2.1 % 2 ^ (st.2.2 - 8), st.2.2 - 8) else st
def sexS (st : BS) (c : UInt8) : BS := sexB (sexA st c)
def decS (st : BS) (s : List UInt8) : BS := s.foldl sexS st
theorem decS_cons (st : BS) (c : UInt8) (s : List UInt8) : decS st (c :: s) = decS (sexS st c) s := rfl
theorem decS_snoc (st : BS) (s : List UInt8) (c : UInt8) : decS st (s ++ [c]) = sexS (decS st s) c := by simp [decS]
theorem decS_append (st : BS) (s t : List UInt8) : decS st (s ++ t) = decS (decS st s) t := by simp [decS]
theorem sex_fill (out : List UInt8) (n k : Nat) (h : k < 8) : sexS (out, n, k) 61 = (out, n, k) := by
  unfold sexS sexA
  rw [idx_fill, if_neg (by omega)]
  unfold sexB
  rw [if_neg (by show ¬ 8 ≤ k; omega)]
theorem sex_sgn (out : List UInt8) (n k i : Nat) (hi : i < 64) : sexS (out, n, k) (sgn i) = sexB (out, n * 64 + i, k + 6) := by
  unfold sexS sexA
  rw [idx_sgn i hi, if_pos hi]
theorem sex0 (out : List UInt8) (n i : Nat) (hi : i < 64) : sexS (out, n, 0) (sgn i) = (out, n * 64 + i, 6) := by
  rw [sex_sgn _ _ _ _ hi]; simp [sexB]
theorem sex6 (out : List UInt8) (n i : Nat) (hi : i < 64) : sexS (out, n, 6) (sgn i) = (out ++ [UInt8.ofNat ((n * 64 + i) / 16)], (n * 64 + i) % 16, 4) := by
  rw [sex_sgn _ _ _ _ hi]; simp [sexB]
theorem sex4 (out : List UInt8) (n i : Nat) (hi : i < 64) : sexS (out, n, 4) (sgn i) = (out ++ [UInt8.ofNat ((n * 64 + i) / 4)], (n * 64 + i) % 4, 2) := by
  rw [sex_sgn _ _ _ _ hi]; simp [sexB]
theorem sex2 (out : List UInt8) (n i : Nat) (hi : i < 64) : sexS (out, n, 2) (sgn i) = (out ++ [UInt8.ofNat (n * 64 + i)], 0, 0) := by
  rw [sex_sgn _ _ _ _ hi]; simp [sexB, Nat.mod_one]
theorem back_three (out : List UInt8) (x y z : UInt8) : decS (out, 0, 0) (signs4 [x, y, z]) = (out ++ [x, y, z], 0, 0) := by
  have hx := u8_lt x
  have hy := u8_lt y
  have hz := u8_lt z
  have hn := num3_lt [x, y, z]
  simp only [signs4, List.length_cons, List.length_nil, Nat.reduceAdd, Nat.reduceLT, if_false]
  rw [decS_cons, decS_cons, decS_cons, decS_cons, sex0 _ _ _ (by omega), sex6 _ _ _ (by omega), sex4 _ _ _ (by omega), sex2 _ _ _ (by omega)]
  simp only [num3, List.getD_cons_zero, List.getD_cons_succ, decS, List.foldl_nil, List.append_assoc, List.cons_append, List.nil_append] at *
  rw [u8_of x _ (by omega), u8_of y _ (by omega), u8_of z _ (by omega)]
theorem back_one (out : List UInt8) (x : UInt8) : (decS (out, 0, 0) (signs4 [x])).1 = out ++ [x] := by
  have hx := u8_lt x
  have hn := num3_lt [x]
  simp only [signs4, List.length_cons, List.length_nil, Nat.reduceAdd, Nat.reduceLT, if_true]
  rw [decS_cons, decS_cons, decS_cons, decS_cons, sex0 _ _ _ (by omega), sex6 _ _ _ (by omega), sex_fill _ _ 4 (by omega), sex_fill _ _ 4 (by omega)]
  simp only [num3, List.getD_cons_zero, List.getD_cons_succ, decS, List.foldl_nil, List.getD_nil] at *
  rw [u8_of x _ (by simp; omega)]
theorem back_two (out : List UInt8) (x y : UInt8) : (decS (out, 0, 0) (signs4 [x, y])).1 = out ++ [x, y] := by
  have hx := u8_lt x
  have hy := u8_lt y
  have hn := num3_lt [x, y]
  simp only [signs4, List.length_cons, List.length_nil, Nat.reduceAdd, Nat.reduceLT, if_true, if_false]
  rw [decS_cons, decS_cons, decS_cons, decS_cons, sex0 _ _ _ (by omega), sex6 _ _ _ (by omega), sex4 _ _ _ (by omega), sex_fill _ _ 2 (by omega)]
  simp only [num3, List.getD_cons_zero, List.getD_cons_succ, decS, List.foldl_nil, List.getD_nil, List.append_assoc, List.cons_append, List.nil_append] at *
  rw [u8_of x _ (by simp; omega), u8_of y _ (by simp; omega)]
theorem back_enc (l out : List UInt8) : (decS (out, 0, 0) (enc l)).1 = out ++ l := by
  induction l using enc.induct generalizing out with
  | case1 x y z l ih => rw [enc, decS_append, back_three, ih]; simp
  | case2 => simp [enc, decS]
  | case3 x => rw [enc, back_one]
  | case4 x y => rw [enc, back_two]
/-- The document's answer is the program's. -/
theorem ref_dcd (s : List UInt8) : (if enc (decS ([], 0, 0) s).1 = s then some (decS ([], 0, 0) s).1 else none) = dcd s := by
  by_cases h : enc (decS ([], 0, 0) s).1 = s
  · rw [if_pos h, (dcd_iff s _).2 h]
  · rw [if_neg h]
    cases hd : dcd s with
    | none => rfl
    | some l =>
      have e := (dcd_iff s l).1 hd
      have := back_enc l []
      rw [e, List.nil_append] at this
      rw [this] at h
      exact absurd e h
/-- What lies between two signs. -/
theorem sexS_in {st : BS} (c : UInt8) (h1 : st.2.2 < 8) (h2 : st.2.1 < 2 ^ st.2.2) : (sexS st c).2.2 < 8 ∧ (sexS st c).2.1 < 2 ^ (sexS st c).2.2 := by
  unfold sexS
  have hA : (sexA st c).2.2 ≤ 13 ∧ (sexA st c).2.1 < 2 ^ (sexA st c).2.2 ∧ True := by
    unfold sexA
    split
    · rename_i h
      refine ⟨by simp; omega, ?_, trivial⟩
      simp only [Nat.pow_add]
      have : st.2.1 + 1 ≤ 2 ^ st.2.2 := h2
      have := Nat.mul_le_mul_right 64 this
      omega
    · exact ⟨by omega, h2, trivial⟩
  unfold sexB
  split
  · rename_i h
    exact ⟨by simp; omega, Nat.mod_lt _ (Nat.two_pow_pos _)⟩
  · rename_i h
    exact ⟨by omega, hA.2.1⟩
theorem decS_in (s : List UInt8) : (decS ([], 0, 0) s).2.2 < 8 ∧ (decS ([], 0, 0) s).2.1 < 2 ^ (decS ([], 0, 0) s).2.2 := by
  have H : ∀ (s : List UInt8) (st : BS), st.2.2 < 8 → st.2.1 < 2 ^ st.2.2 → (decS st s).2.2 < 8 ∧ (decS st s).2.1 < 2 ^ (decS st s).2.2 := by
    intro s
    induction s with
    | nil => exact fun st h1 h2 => ⟨h1, h2⟩
    | cons c s ih =>
      intro st h1 h2
      rw [decS_cons]
      obtain ⟨h3, h4⟩ := sexS_in c h1 h2
      exact ih _ h3 h4
  exact H s _ (by simp) (by simp)
theorem decS_len (s : List UInt8) : (decS ([], 0, 0) s).1.length ≤ s.length := by
  have H : ∀ (s : List UInt8) (st : BS), (decS st s).1.length ≤ st.1.length + s.length := by
    intro s
    induction s with
    | nil => exact fun st => Nat.le_refl _
    | cons c s ih =>
      intro st
      rw [decS_cons]
      refine Nat.le_trans (ih _) ?_
      have : (sexS st c).1.length ≤ st.1.length + 1 := by
        unfold sexS sexB sexA
        split <;> split <;> simp
      simp only [List.length_cons]
      omega
  simpa using H s ([], 0, 0)

/-- Where the fills stand. -/
theorem enc_form (l : List UInt8) : ∃ body, enc l = body ++ List.replicate ((3 - l.length % 3) % 3) 61 ∧ ∀ c ∈ body, isSgn c = true := by
  induction l using enc.induct with
  | case1 x y z l ih =>
    obtain ⟨body, he, hb⟩ := ih
    have hn := num3_lt [x, y, z]
    refine ⟨signs4 [x, y, z] ++ body, ?_, ?_⟩
    · rw [enc, he, List.append_assoc, show (3 - (x :: y :: z :: l).length % 3) % 3 = (3 - l.length % 3) % 3 by simp only [List.length_cons]; omega]
    · intro c hc
      rcases List.mem_append.1 hc with hc | hc
      · simp only [signs4, List.length_cons, List.length_nil, Nat.reduceAdd, Nat.reduceLT, if_false, List.mem_cons, List.not_mem_nil, or_false] at hc
        rcases hc with rfl | rfl | rfl | rfl <;> exact sgn_is _ (by omega)
      · exact hb c hc
  | case2 => exact ⟨[], rfl, fun c hc => by cases hc⟩
  | case3 x =>
    have hn := num3_lt [x]
    refine ⟨[sgn (num3 [x] / 262144), sgn (num3 [x] / 4096 % 64)], rfl, fun c hc => ?_⟩
    simp only [List.mem_cons, List.not_mem_nil, or_false] at hc
    rcases hc with rfl | rfl <;> exact sgn_is _ (by omega)
  | case4 x y =>
    have hn := num3_lt [x, y]
    refine ⟨[sgn (num3 [x, y] / 262144), sgn (num3 [x, y] / 4096 % 64), sgn (num3 [x, y] / 64 % 64)], rfl, fun c hc => ?_⟩
    simp only [List.mem_cons, List.not_mem_nil, or_false] at hc
    rcases hc with rfl | rfl | rfl <;> exact sgn_is _ (by omega)
/-- Bytes in base sixteen. -/
def hexL : List UInt8 → List UInt8
  | [] => []
  | x :: l => dgt (x.toNat / 16) :: dgt (x.toNat % 16) :: hexL l
theorem hex_len (l : List UInt8) : (hexL l).length = 2 * l.length := by
  induction l with
  | nil => rfl
  | cons x l ih => simp only [hexL, List.length_cons, ih]; omega
theorem hex_append (l m : List UInt8) : hexL (l ++ m) = hexL l ++ hexL m := by
  induction l with
  | nil => rfl
  | cons x l ih => simp only [List.cons_append, hexL, ih]
theorem hex_snoc (l : List UInt8) (x : UInt8) : hexL (l ++ [x]) = hexL l ++ [dgt (x.toNat / 16), dgt (x.toNat % 16)] := by rw [hex_append]; rfl
def isHex (c : UInt8) : Bool := (48 ≤ c.toNat && c.toNat ≤ 57) || (97 ≤ c.toNat && c.toNat ≤ 102)
theorem dgt_is (n : Nat) (h : n < 16) : isHex (dgt n) = true := by
  have H : ∀ i : Fin 16, isHex (dgt i.1) = true := by decide +kernel
  exact H ⟨n, h⟩
theorem hex_is (l : List UInt8) : ∀ c ∈ hexL l, isHex c = true := by
  induction l with
  | nil => exact fun c hc => by cases hc
  | cons x l ih =>
    intro c hc
    have hx := u8_lt x
    simp only [hexL, List.mem_cons] at hc
    rcases hc with rfl | rfl | hc
    · exact dgt_is _ (by omega)
    · exact dgt_is _ (by omega)
    · exact ih c hc
end Yg
end Go.Proofs.Ytigdmgpejmfceaa
