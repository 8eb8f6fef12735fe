/- Plain maths of tuples: how parts stand, a part's bytes, a row's key, what a key says, what is behind a beginning. No program. -/
import Derived.Test.YtpinmkoaihjhfaaSu
namespace Go.Proofs.Ytpinmkoaihjhfaa
namespace Tp
open Su

/-- How two rows of bytes stand. -/
def cm : List UInt8 → List UInt8 → Int
  | [], [] => 0
  | [], _ :: _ => -1
  | _ :: _, [] => 1
  | a :: x, b :: y => if a < b then -1 else if b < a then 1 else cm x y
theorem u8_tri {a b : UInt8} (h : ¬ a < b) (h' : ¬ b < a) : a = b := by
  rw [UInt8.lt_iff_toNat_lt] at h h'
  exact UInt8.toNat_inj.1 (by omega)
theorem u8_asym {a b : UInt8} (h : a < b) : ¬ b < a := by
  rw [UInt8.lt_iff_toNat_lt] at h ⊢
  omega
theorem u8_irr (a : UInt8) : ¬ a < a := by rw [UInt8.lt_iff_toNat_lt]; omega
theorem cm_lt {a b : UInt8} (h : a < b) (x y : List UInt8) : cm (a :: x) (b :: y) = -1 := by rw [cm, if_pos h]
theorem cm_gt {a b : UInt8} (h : b < a) (x y : List UInt8) : cm (a :: x) (b :: y) = 1 := by rw [cm, if_neg (u8_asym h), if_pos h]
theorem cm_eq (a : UInt8) (x y : List UInt8) : cm (a :: x) (a :: y) = cm x y := by rw [cm, if_neg (u8_irr a), if_neg (u8_irr a)]
theorem cm_neg : ∀ x y : List UInt8, cm y x = -cm x y
  | [], [] => rfl
  | [], _ :: _ => rfl
  | _ :: _, [] => rfl
  | a :: x, b :: y => by
    by_cases h : a < b
    · rw [cm_lt h, cm_gt h]; decide
    · by_cases h' : b < a
      · rw [cm_lt h', cm_gt h']
      · obtain rfl := u8_tri h h'
        rw [cm_eq, cm_eq]; exact cm_neg x y
theorem cm_zero : ∀ x y : List UInt8, cm x y = 0 ↔ x = y
  | [], [] => by simp [cm]
  | [], _ :: _ => by simp [cm]
  | _ :: _, [] => by simp [cm]
  | a :: x, b :: y => by
    by_cases h : a < b
    · rw [cm_lt h]
      refine ⟨fun e => absurd e (by decide), fun e => ?_⟩
      rw [(List.cons.inj e).1] at h; exact absurd h (u8_irr _)
    · by_cases h' : b < a
      · rw [cm_gt h']
        refine ⟨fun e => absurd e (by decide), fun e => ?_⟩
        rw [(List.cons.inj e).1] at h'; exact absurd h' (u8_irr _)
      · obtain rfl := u8_tri h h'
        rw [cm_eq, cm_zero x y]
        simp
theorem cm_self (x : List UInt8) : cm x x = 0 := (cm_zero x x).2 rfl
theorem cm_three : ∀ x y : List UInt8, cm x y = -1 ∨ cm x y = 0 ∨ cm x y = 1
  | [], [] => .inr (.inl rfl)
  | [], _ :: _ => .inl rfl
  | _ :: _, [] => .inr (.inr rfl)
  | a :: x, b :: y => by
    rw [cm]
    split
    · exact .inl rfl
    · split
      · exact .inr (.inr rfl)
      · exact cm_three x y
theorem cm_less : ∀ x y : List UInt8, Op.bytesLess x y = decide (cm x y < 0)
  | [], [] => rfl
  | [], _ :: _ => rfl
  | _ :: _, [] => rfl
  | a :: x, b :: y => by
    rw [Op.bytesLess, cm, cm_less x y]
    by_cases h : a < b
    · simp [h]
    · by_cases h' : b < a
      · have : ¬ a = b := by rintro rfl; exact u8_irr _ h'
        simp [h, h', this]
      · have e := u8_tri h h'
        simp [e]
theorem cm_pre (p x y : List UInt8) : cm (p ++ x) (p ++ y) = cm x y := by
  induction p with
  | nil => rfl
  | cons a p ih => rw [List.cons_append, List.cons_append, cm, if_neg (u8_irr a), if_neg (u8_irr a), ih]

/-- Numbers: their bytes stand as they do. -/
theorem cm_be (k m n : Nat) (hm : m < 256 ^ k) (hn : n < 256 ^ k) (s t : List UInt8) : cm (be k m ++ s) (be k n ++ t) = if m < n then -1 else if n < m then 1 else cm s t := by
  induction k generalizing m n s t with
  | zero =>
    have : m = 0 := by simpa using hm
    have : n = 0 := by simpa using hn
    subst m; subst n; rfl
  | succ k ih =>
    rw [Nat.pow_succ] at hm hn
    rw [be, be, List.append_assoc, List.append_assoc, ih _ _ (by omega) (by omega), List.singleton_append, List.singleton_append, cm]
    have e1 : (UInt8.ofNat m < UInt8.ofNat n) ↔ m % 256 < n % 256 := by rw [UInt8.lt_iff_toNat_lt, UInt8.toNat_ofNat', UInt8.toNat_ofNat']
    have e2 : (UInt8.ofNat n < UInt8.ofNat m) ↔ n % 256 < m % 256 := by rw [UInt8.lt_iff_toNat_lt, UInt8.toNat_ofNat', UInt8.toNat_ofNat']
    simp only [e1, e2]
    by_cases a1 : m / 256 < n / 256
    · rw [if_pos a1, if_pos (by omega)]
    · rw [if_neg a1]
      by_cases a2 : n / 256 < m / 256
      · rw [if_pos a2, if_neg (by omega), if_pos (by omega)]
      · rw [if_neg a2]
        by_cases a3 : m % 256 < n % 256
        · rw [if_pos a3, if_pos (by omega)]
        · rw [if_neg a3, if_neg (show ¬ m < n by omega)]
          by_cases a4 : n % 256 < m % 256
          · rw [if_pos a4, if_pos (by omega)]
          · rw [if_neg a4, if_neg (show ¬ n < m by omega)]
theorem be_val (l : List UInt8) : be l.length (val l) = l := by
  have H : ∀ n (l : List UInt8), l.length = n → be n (val l) = l := by
    intro n
    induction n with
    | zero => intro l hl; rw [List.length_eq_zero_iff.1 hl]; rfl
    | succ n ih =>
      intro l hl
      have hne : l ≠ [] := by rintro rfl; simp at hl
      have hd := List.dropLast_concat_getLast hne
      have hb := u8_lt (l.getLast hne)
      rw [be, show val l = val l.dropLast * 256 + (l.getLast hne).toNat by rw [← val_snoc, hd], show (val l.dropLast * 256 + (l.getLast hne).toNat) / 256 = val l.dropLast by omega, ih _ (by simp; omega)]
      conv => rhs; rw [← hd]
      congr 2
      apply UInt8.toNat_inj.1
      rw [UInt8.toNat_ofNat']
      omega
  exact H _ l rfl

/-- A part: kind, number, text. -/
abbrev Pt := Int × Int × List UInt8
def inI (n : Int) : Prop := -9223372036854775808 ≤ n ∧ n ≤ 9223372036854775807
/-- Its numbers are ints. -/
def InP (p : Pt) : Prop := inI p.1 ∧ inI p.2.1
def okP (p : Pt) : Prop := (p.1 = 1 ∧ p.2.2 = []) ∨ (p.1 = 2 ∧ p.2.1 = 0)
instance (p : Pt) : Decidable (okP p) := by unfold okP; infer_instance
def allP (l : List Pt) : Prop := ∀ p ∈ l, okP p ∧ InP p
def lift (n : Int) : Nat := (n + 9223372036854775808).toNat
def esc : List UInt8 → List UInt8
  | [] => []
  | c :: s => if c = 0 then 0 :: 255 :: esc s else c :: esc s
theorem esc_append (s t : List UInt8) : esc (s ++ t) = esc s ++ esc t := by
  induction s with
  | nil => rfl
  | cons c s ih =>
    rw [List.cons_append, esc, esc, ih]
    split <;> rfl
theorem esc_len (s : List UInt8) : s.length ≤ (esc s).length ∧ (esc s).length ≤ 2 * s.length := by
  induction s with
  | nil => exact ⟨Nat.le_refl _, Nat.le_refl _⟩
  | cons c s ih =>
    rw [esc]
    split <;> simp only [List.length_cons] <;> omega
def partK (p : Pt) : List UInt8 := if p.1 = 1 then 1 :: be 8 (lift p.2.1) else 2 :: (esc p.2.2 ++ [0, 0])
def keyB (l : List Pt) : List UInt8 := l.flatMap partK
theorem keyB_cons (p : Pt) (l : List Pt) : keyB (p :: l) = partK p ++ keyB l := rfl
theorem keyB_append (l m : List Pt) : keyB (l ++ m) = keyB l ++ keyB m := by simp [keyB]
theorem keyB_snoc (l : List Pt) (p : Pt) : keyB (l ++ [p]) = keyB l ++ partK p := by simp [keyB]
theorem partK_ne (p : Pt) : partK p ≠ [] := by unfold partK; split <;> simp
theorem keyB_nil {l : List Pt} (h : keyB l = []) : l = [] := by
  cases l with
  | nil => rfl
  | cons p l => rw [keyB_cons] at h; exact absurd (List.append_eq_nil_iff.1 h).1 (partK_ne p)

/-- How parts stand. -/
def ci (a b : Int) : Int := if a < b then -1 else if b < a then 1 else 0
theorem ci_neg (a b : Int) : ci b a = -ci a b := by unfold ci; repeat' split <;> first | rfl | omega
theorem ci_zero (a b : Int) : ci a b = 0 ↔ a = b := by unfold ci; repeat' split <;> constructor <;> intro h <;> first | omega | (cases h)
def opP (p q : Pt) : Int := if ci p.1 q.1 = 0 then (if ci p.2.1 q.2.1 = 0 then cm p.2.2 q.2.2 else ci p.2.1 q.2.1) else ci p.1 q.1
theorem opP_neg (p q : Pt) : opP q p = -opP p q := by
  unfold opP
  rw [ci_neg p.1 q.1, ci_neg p.2.1 q.2.1, cm_neg p.2.2 q.2.2]
  by_cases h1 : ci p.1 q.1 = 0
  · rw [if_pos (by omega), if_pos h1]
    by_cases h2 : ci p.2.1 q.2.1 = 0
    · rw [if_pos (by omega), if_pos h2]
    · rw [if_neg (by omega), if_neg h2]
  · rw [if_neg (by omega), if_neg h1]
theorem opP_zero (p q : Pt) : opP p q = 0 ↔ p = q := by
  unfold opP
  by_cases h1 : ci p.1 q.1 = 0
  · rw [if_pos h1]
    by_cases h2 : ci p.2.1 q.2.1 = 0
    · rw [if_pos h2, cm_zero]
      rw [ci_zero] at h1 h2
      exact ⟨fun h => Prod.ext h1 (Prod.ext h2 h), fun h => by rw [h]⟩
    · rw [if_neg h2]
      exact ⟨fun h => absurd h h2, fun h => by rw [h, ci_zero]⟩
  · rw [if_neg h1]
    exact ⟨fun h => absurd h h1, fun h => by rw [h, ci_zero]⟩
def ord : List Pt → List Pt → Int
  | [], [] => 0
  | [], _ :: _ => -1
  | _ :: _, [] => 1
  | p :: a, q :: b => if opP p q = 0 then ord a b else opP p q
theorem ord_neg : ∀ a b : List Pt, ord b a = -ord a b
  | [], [] => rfl
  | [], _ :: _ => rfl
  | _ :: _, [] => rfl
  | p :: a, q :: b => by
    rw [ord, ord, opP_neg p q, ord_neg a b]
    by_cases h : opP p q = 0
    · rw [if_pos (by omega), if_pos h]
    · rw [if_neg (by omega), if_neg h]
theorem ord_zero : ∀ a b : List Pt, ord a b = 0 ↔ a = b
  | [], [] => by simp [ord]
  | [], _ :: _ => by simp [ord]
  | _ :: _, [] => by simp [ord]
  | p :: a, q :: b => by
    rw [ord]
    by_cases h : opP p q = 0
    · rw [if_pos h, ord_zero a b, (opP_zero p q).1 h]; simp
    · rw [if_neg h]
      refine ⟨fun e => absurd e h, fun e => ?_⟩
      rw [(List.cons.inj e).1, opP_zero]

theorem esc_z (s : List UInt8) : esc (0 :: s) = 0 :: 255 :: esc s := rfl
theorem esc_nz {c : UInt8} (h : c ≠ 0) (s : List UInt8) : esc (c :: s) = c :: esc s := by rw [esc, if_neg h]
theorem cm_esc : ∀ s t x y : List UInt8, cm (esc s ++ 0 :: 0 :: x) (esc t ++ 0 :: 0 :: y) = if cm s t = 0 then cm x y else cm s t
  | [], [], x, y => by
    show cm (0 :: 0 :: x) (0 :: 0 :: y) = _
    rw [cm_eq, cm_eq]; rfl
  | [], b :: t, x, y => by
    show cm (0 :: 0 :: x) (esc (b :: t) ++ 0 :: 0 :: y) = -1
    by_cases h : b = 0
    · subst h
      rw [esc_z, List.cons_append, List.cons_append, cm_eq, cm_lt (by decide)]
    · rw [esc_nz h, List.cons_append, cm_lt (UInt8.pos_iff_ne_zero.2 h)]
  | a :: s, [], x, y => by
    show cm (esc (a :: s) ++ 0 :: 0 :: x) (0 :: 0 :: y) = 1
    by_cases h : a = 0
    · subst h
      rw [esc_z, List.cons_append, List.cons_append, cm_eq, cm_gt (by decide)]
    · rw [esc_nz h, List.cons_append, cm_gt (UInt8.pos_iff_ne_zero.2 h)]
  | a :: s, b :: t, x, y => by
    have ih := cm_esc s t x y
    by_cases h : a < b
    · have hb : b ≠ 0 := by rintro rfl; rw [UInt8.lt_iff_toNat_lt] at h; simp at h
      rw [cm_lt h, esc_nz hb, List.cons_append]
      by_cases ha : a = 0
      · subst ha; rw [esc_z, List.cons_append, cm_lt (UInt8.pos_iff_ne_zero.2 hb)]; rfl
      · rw [esc_nz ha, List.cons_append, cm_lt h]; rfl
    · by_cases h' : b < a
      · have ha : a ≠ 0 := by rintro rfl; rw [UInt8.lt_iff_toNat_lt] at h'; simp at h'
        rw [cm_gt h', esc_nz ha, List.cons_append]
        by_cases hb : b = 0
        · subst hb; rw [esc_z, List.cons_append, cm_gt (UInt8.pos_iff_ne_zero.2 ha)]; rfl
        · rw [esc_nz hb, List.cons_append, cm_gt h']; rfl
      · obtain rfl := u8_tri h h'
        rw [cm_eq, ← ih]
        by_cases ha : a = 0
        · subst ha; rw [esc_z, esc_z, List.cons_append, List.cons_append, List.cons_append, List.cons_append, cm_eq, cm_eq]
        · rw [esc_nz ha, esc_nz ha, List.cons_append, List.cons_append, cm_eq]
theorem lift_lt {n : Int} (h : inI n) : lift n < 256 ^ 8 := by unfold lift inI at *; omega
theorem cm_part {p q : Pt} (hp : okP p ∧ InP p) (hq : okP q ∧ InP q) (x y : List UInt8) : cm (partK p ++ x) (partK q ++ y) = if opP p q = 0 then cm x y else opP p q := by
  obtain ⟨⟨h1, h2⟩ | ⟨h1, h2⟩, _, h3⟩ := hp <;> obtain ⟨⟨g1, g2⟩ | ⟨g1, g2⟩, _, g3⟩ := hq
  · have e : opP p q = ci p.2.1 q.2.1 := by
      unfold opP
      rw [h1, g1, h2, g2, if_pos (by simp [ci])]
      split
      · rename_i h; rw [h]; rfl
      · rfl
    rw [e]
    unfold partK
    rw [if_pos h1, if_pos g1, List.cons_append, List.cons_append, cm_eq, cm_be 8 _ _ (lift_lt h3) (lift_lt g3)]
    unfold ci lift
    unfold inI at h3 g3
    by_cases a1 : p.2.1 < q.2.1
    · rw [if_pos (show (p.2.1 + 9223372036854775808).toNat < (q.2.1 + 9223372036854775808).toNat by omega), if_pos a1]; rfl
    · rw [if_neg (show ¬ (p.2.1 + 9223372036854775808).toNat < (q.2.1 + 9223372036854775808).toNat by omega), if_neg a1]
      by_cases a2 : q.2.1 < p.2.1
      · rw [if_pos (show (q.2.1 + 9223372036854775808).toNat < (p.2.1 + 9223372036854775808).toNat by omega), if_pos a2]; rfl
      · rw [if_neg (show ¬ (q.2.1 + 9223372036854775808).toNat < (p.2.1 + 9223372036854775808).toNat by omega), if_neg a2]; rfl
  · have e : opP p q = -1 := by unfold opP; rw [h1, g1]; rfl
    rw [e]
    unfold partK
    rw [if_pos h1, if_neg (by omega), List.cons_append, List.cons_append, cm_lt (by decide)]; rfl
  · have e : opP p q = 1 := by unfold opP; rw [h1, g1]; rfl
    rw [e]
    unfold partK
    rw [if_neg (by omega), if_pos g1, List.cons_append, List.cons_append, cm_gt (by decide)]; rfl
  · have e : opP p q = cm p.2.2 q.2.2 := by unfold opP; rw [h1, g1, h2, g2, if_pos (by simp [ci]), if_pos (by simp [ci])]
    rw [e]
    unfold partK
    rw [if_neg (by omega), if_neg (by omega), List.cons_append, List.cons_append, cm_eq, List.append_assoc, List.append_assoc]
    exact cm_esc _ _ x y
/-- Keys stand as their tuples do. -/
theorem cm_key : ∀ a b : List Pt, allP a → allP b → cm (keyB a) (keyB b) = ord a b
  | [], [], _, _ => rfl
  | [], q :: b, _, _ => by
    show cm [] (partK q ++ keyB b) = -1
    cases h : partK q with
    | nil => exact absurd h (partK_ne q)
    | cons _ _ => rfl
  | p :: a, [], _, _ => by
    show cm (partK p ++ keyB a) [] = 1
    cases h : partK p with
    | nil => exact absurd h (partK_ne p)
    | cons _ _ => rfl
  | p :: a, q :: b, ha, hb => by
    rw [keyB_cons, keyB_cons, cm_part (ha p (by simp)) (hb q (by simp)), ord, cm_key a b (fun x hx => ha x (by simp [hx])) (fun x hx => hb x (by simp [hx]))]
/-- Two rows whose keys begin alike begin alike. -/
theorem part_cut {p q : Pt} (hp : okP p ∧ InP p) (hq : okP q ∧ InP q) {x y : List UInt8} (h : partK p ++ x = partK q ++ y) : p = q ∧ x = y := by
  have h1 := cm_part hp hq x y
  rw [h, cm_self] at h1
  have e : opP p q = 0 := by
    by_cases h2 : opP p q = 0
    · exact h2
    · rw [if_neg h2] at h1; exact absurd h1.symm h2
  have e2 := (opP_zero p q).1 e
  subst e2
  exact ⟨rfl, List.append_cancel_left h⟩
theorem key_cut : ∀ (a b : List Pt) (x : List UInt8), allP a → allP b → keyB b = keyB a ++ x → ∃ c, b = a ++ c ∧ keyB c = x
  | [], b, x, _, _, h => ⟨b, rfl, by simpa [keyB] using h⟩
  | p :: a, [], x, _, _, h => by
    rw [keyB_cons, List.append_assoc] at h
    exact absurd (List.append_eq_nil_iff.1 h.symm).1 (partK_ne p)
  | p :: a, q :: b, x, ha, hb, h => by
    rw [keyB_cons, keyB_cons, List.append_assoc] at h
    obtain ⟨rfl, h2⟩ := part_cut (hb q (by simp)) (ha p (by simp)) h
    obtain ⟨c, rfl, h3⟩ := key_cut a b x (fun x hx => ha x (by simp [hx])) (fun x hx => hb x (by simp [hx])) h2
    exact ⟨c, rfl, h3⟩
theorem key_inj {a b : List Pt} (ha : allP a) (hb : allP b) (h : keyB a = keyB b) : a = b := by
  have := cm_key a b ha hb
  rw [h, cm_self] at this
  exact (ord_zero a b).1 this.symm

/-- What is behind a beginning. -/
def aft : List UInt8 → List UInt8
  | [] => []
  | x :: l => if aft l = [] then (if x = 255 then [] else [x + 1]) else x :: aft l
theorem add_one {x : UInt8} (h : x ≠ 255) : (x + 1).toNat = x.toNat + 1 := by
  have h1 : x.toNat ≠ 255 := fun e => h (UInt8.toNat_inj.1 e)
  have h2 := u8_lt x
  rw [UInt8.toNat_add]
  show (x.toNat + 1) % 256 = _
  omega
theorem aft_nil_iff (l : List UInt8) : aft l = [] ↔ ∀ x ∈ l, x = 255 := by
  induction l with
  | nil => simp [aft]
  | cons x l ih =>
    rw [aft]
    by_cases h : aft l = []
    · rw [if_pos h]
      by_cases hx : x = 255
      · rw [if_pos hx]; simp only [true_iff]; intro y hy
        rcases List.mem_cons.1 hy with rfl | hy
        · exact hx
        · exact ih.1 h y hy
      · rw [if_neg hx]
        simp only [List.cons_ne_nil, false_iff]
        exact fun hh => hx (hh x (by simp))
    · rw [if_neg h]
      simp only [List.cons_ne_nil, false_iff]
      exact fun hh => h (ih.2 fun y hy => hh y (by simp [hy]))
theorem aft_top (l r : List UInt8) (h : ∀ x ∈ r, x = 255) : aft (l ++ r) = aft l := by
  induction l with
  | nil => rw [List.nil_append, (aft_nil_iff r).2 h]; rfl
  | cons x l ih => rw [List.cons_append, aft, aft, ih]
theorem aft_snoc (l : List UInt8) (x : UInt8) (h : x ≠ 255) : aft (l ++ [x]) = l ++ [x + 1] := by
  induction l with
  | nil => simp [aft, h]
  | cons y l ih =>
    rw [List.cons_append, aft, ih, if_neg (by simp)]; rfl
theorem aft_head (x : UInt8) (l : List UInt8) (h : x ≠ 255) : aft (x :: l) ≠ [] := by
  intro e
  exact h ((aft_nil_iff _).1 e x (by simp))
theorem aft_range : ∀ x y : List UInt8, aft x ≠ [] → ((0 ≤ cm y x ∧ cm y (aft x) < 0) ↔ x <+: y)
  | [], _, h => absurd rfl h
  | a :: x, [], h => by
    show ((0 : Int) ≤ -1 ∧ _) ↔ _
    simp
  | a :: x, b :: y, h => by
    rw [aft] at h ⊢
    rw [List.cons_prefix_cons, cm]
    by_cases e : aft x = []
    · rw [if_pos e] at h ⊢
      by_cases ha : a = 255
      · rw [if_pos ha] at h; exact absurd rfl h
      · rw [if_neg ha, cm]
        have hs := add_one ha
        have hall := (aft_nil_iff x).1 e
        by_cases h1 : b < a
        · rw [if_pos h1]
          constructor
          · rintro ⟨h2, _⟩; omega
          · rintro ⟨rfl, _⟩; exact absurd h1 (u8_irr _)
        · rw [if_neg h1]
          by_cases h2 : a < b
          · rw [if_pos h2]
            have h3 : ¬ b < a + 1 := by rw [UInt8.lt_iff_toNat_lt] at h2 ⊢; omega
            rw [if_neg h3]
            constructor
            · rintro ⟨_, h4⟩
              split at h4
              · omega
              · rename_i h5
                cases y <;> simp [cm] at h4
            · rintro ⟨rfl, _⟩; exact absurd h2 (u8_irr _)
          · rw [if_neg h2]
            obtain rfl := u8_tri h1 h2
            have h3 : b < b + 1 := by rw [UInt8.lt_iff_toNat_lt]; omega
            rw [if_pos h3]
            have H : ∀ x y : List UInt8, (∀ z ∈ x, z = 255) → (0 ≤ cm y x ↔ x <+: y) := by
              intro x
              induction x with
              | nil => intro y _; cases y <;> simp [cm]
              | cons c x ih =>
                intro y hx
                obtain rfl := hx c (by simp)
                cases y with
                | nil => simp [cm]
                | cons d y =>
                  rw [List.cons_prefix_cons, cm]
                  by_cases g : d = 255
                  · subst g
                    rw [if_neg (u8_irr _), if_neg (u8_irr _), ih y fun z hz => hx z (by simp [hz])]; simp
                  · have : d < 255 := by
                      have h1 : d.toNat ≠ 255 := fun e => g (UInt8.toNat_inj.1 e)
                      have h2 := u8_lt d
                      rw [UInt8.lt_iff_toNat_lt]; show d.toNat < 255; omega
                    rw [if_pos this]
                    constructor
                    · intro h; omega
                    · rintro ⟨h, _⟩; exact absurd h.symm g
            rw [H x y hall]
            simp
    · rw [if_neg e, cm]
      have ih := aft_range x y e
      by_cases h1 : b < a
      · rw [if_pos h1]
        constructor
        · rintro ⟨h2, _⟩; omega
        · rintro ⟨rfl, _⟩; exact absurd h1 (u8_irr _)
      · rw [if_neg h1]
        by_cases h2 : a < b
        · rw [if_pos h2, if_neg h1, if_pos h2]
          constructor
          · rintro ⟨_, h4⟩; omega
          · rintro ⟨rfl, _⟩; exact absurd h2 (u8_irr _)
        · rw [if_neg h2, if_neg h1, if_neg h2, ih]
          obtain rfl := u8_tri h1 h2
          simp
theorem prefix_take {x y : List UInt8} : x <+: y ↔ x.length ≤ y.length ∧ y.take x.length = x := by
  constructor
  · intro h; exact ⟨h.length_le, (List.prefix_iff_eq_take.1 h).symm⟩
  · rintro ⟨_, h⟩; exact List.prefix_iff_eq_take.2 h.symm

/-- The text ahead of its end. -/
theorem esc_zero (x t : List UInt8) : ∀ s, esc s ++ 0 :: 0 :: x = 0 :: 0 :: t → s = [] ∧ x = t
  | [], h => ⟨rfl, by simpa [esc] using h⟩
  | c :: s, h => by
    rw [esc] at h
    split at h
    · simp at h
    · rename_i hc; simp at h; exact absurd h.1 hc
def right (l : List Pt) : Prop := 0 < l.length ∧ l.length ≤ 8 ∧ ∀ p ∈ l, okP p
instance (l : List Pt) : Decidable (right l) := by unfold right; infer_instance
/-- A row's key, or what is wrong. -/
def keyE (l : List Pt) : Int := if right l then (if (keyB l).length ≤ 100 then 0 else 2) else 110
def keyT (l : List Pt) : List UInt8 := if keyE l = 0 then keyB l else []
theorem keyE_zero {l : List Pt} : keyE l = 0 ↔ right l ∧ (keyB l).length ≤ 100 := by
  unfold keyE
  by_cases h : right l
  · rw [if_pos h]
    by_cases h2 : (keyB l).length ≤ 100
    · rw [if_pos h2]; simp [h, h2]
    · rw [if_neg h2]; simp [h2]
  · rw [if_neg h]; simp [h]
end Tp
end Go.Proofs.Ytpinmkoaihjhfaa
