import Derived.Test.YtadookafnfnaoaaGreatDoorGS7
import Derived.Lib.ItoaNum
import Derived.Lib.ItoaMem
import Derived.Lib.AtoiAll
/- Plain maths of changesets as text: how each thing is written, how it is read; what was written is read, what was read is written so. -/
namespace Go.Proofs.YtadookafnfnaoaaGreatDoor
namespace Sp
open Go.Lib Ch

def ctl (b : UInt8) : Bool := decide (b.toNat < 32 ∨ b.toNat = 127)
def hexd (n : Nat) : UInt8 := UInt8.ofNat (if n < 10 then 48 + n else 87 + n)
def hexv (b : UInt8) : Option Nat :=
  if 48 ≤ b.toNat ∧ b.toNat ≤ 57 then some (b.toNat - 48) else if 97 ≤ b.toNat ∧ b.toNat ≤ 102 then some (b.toNat - 87) else none
/-- A byte in quotes. -/
def qb (b : UInt8) : List UInt8 :=
  if b = 10 then [92, 110] else if ctl b = true then [92, 120, hexd (b.toNat / 16), hexd (b.toNat % 16)] else if b = 34 ∨ b = 92 then [92, b] else [b]
/-- A text in quotes. -/
def qt (l : List UInt8) : List UInt8 := 34 :: (l.flatMap qb ++ [34])

/-- What reading comes to: a value and how many bytes it is of; or how far on the first wrong thing stands. -/
inductive R (α : Type) where
  | ok (v : α) (n : Nat)
  | bad (k : Nat)
def R.shift {α : Type} (d : Nat) : R α → R α
  | .ok v n => .ok v (d + n)
  | .bad k => .bad (d + k)
def bnd {α β : Type} (p : List UInt8 → R α) (q : α → List UInt8 → R β) (l : List UInt8) : R β :=
  match p l with
  | .ok v n => (q v (l.drop n)).shift n
  | .bad k => .bad k
def ret {α : Type} (v : α) (_ : List UInt8) : R α := .ok v 0
theorem bnd_ok {α β : Type} {p : List UInt8 → R α} {q : α → List UInt8 → R β} {l : List UInt8} {v : α} {n : Nat} (h : p l = .ok v n) : bnd p q l = (q v (l.drop n)).shift n := by unfold bnd; rw [h]
theorem bnd_bad {α β : Type} {p : List UInt8 → R α} {q : α → List UInt8 → R β} {l : List UInt8} {k : Nat} (h : p l = .bad k) : bnd p q l = .bad k := by unfold bnd; rw [h]
theorem shift_ok {α : Type} {d n : Nat} {x : R α} {v : α} (h : x.shift d = .ok v n) : ∃ m, x = .ok v m ∧ n = d + m := by
  cases x with
  | ok u m => simp only [R.shift, R.ok.injEq] at h; exact ⟨m, by rw [h.1], h.2.symm⟩
  | bad k => cases h
theorem bnd_inv {α β : Type} {p : List UInt8 → R α} {q : α → List UInt8 → R β} {l : List UInt8} {v : β} {n : Nat} (h : bnd p q l = .ok v n) : ∃ u i j, p l = .ok u i ∧ q u (l.drop i) = .ok v j ∧ n = i + j := by
  unfold bnd at h
  cases hp : p l with
  | bad k => rw [hp] at h; cases h
  | ok u i =>
    rw [hp] at h
    obtain ⟨j, h1, h2⟩ := shift_ok h
    exact ⟨u, i, j, rfl, h1, h2⟩

def must (c : UInt8) (l : List UInt8) : R Unit := if l.head? = some c then .ok () 1 else .bad 0
def digit16 : List UInt8 → R Nat
  | [] => .bad 0
  | b :: _ => match hexv b with
    | some n => .ok n 1
    | none => .bad 0
/-- The byte behind a 92, and what follows it: the 92's own place is d ahead. -/
def hexes (l : List UInt8) : R UInt8 :=
  match digit16 l with
  | .bad k => .bad (2 + k)
  | .ok h _ => match digit16 (l.drop 1) with
    | .bad k => .bad (3 + k)
    | .ok g _ => if ctl (UInt8.ofNat (h * 16 + g)) = true ∧ UInt8.ofNat (h * 16 + g) ≠ 10 then .ok (UInt8.ofNat (h * 16 + g)) 4 else .bad 0
def inside : List UInt8 → R UInt8
  | [] => .bad 0
  | b :: t => if ctl b = true then .bad 0 else if b ≠ 92 then .ok b 1 else match t with
    | [] => .bad 1
    | c :: u => if c = 34 ∨ c = 92 then .ok c 2 else if c = 110 then .ok 10 2 else if c = 120 then hexes u else .bad 1
def body : Nat → List UInt8 → R (List UInt8)
  | 0, _ => .bad 0
  | f + 1, l => if l.head? = some 34 then .ok [] 1 else bnd inside (fun b => bnd (body f) fun r => ret (b :: r)) l
def quoted : List UInt8 → R (List UInt8) := bnd (must 34) fun _ l => body (l.length + 1) l
def dig (b : UInt8) : Bool := decide (48 ≤ b.toNat ∧ b.toNat ≤ 57)
def kb (b : UInt8) : Bool := decide (65 ≤ b.toNat ∧ b.toNat ≤ 90 ∨ 97 ≤ b.toNat ∧ b.toNat ≤ 122 ∨ 48 ≤ b.toNat ∧ b.toNat ≤ 57 ∨ b.toNat = 45 ∨ b.toNat = 95)
def val (d : List UInt8) : Nat := d.foldl (fun a b => a * 10 + (b.toNat - 48)) 0
def numOk (d : List UInt8) : Prop := d ≠ [] ∧ d.length ≤ 18 ∧ (d.head? = some 48 → d = [48])
instance (d : List UInt8) : Decidable (numOk d) := inferInstanceAs (Decidable (_ ∧ _ ∧ (_ → _)))
def number (l : List UInt8) : R Nat := if numOk (l.takeWhile dig) then .ok (val (l.takeWhile dig)) (l.takeWhile dig).length else .bad 0
def key (l : List UInt8) : R (List UInt8) := if l.takeWhile kb = [] then .bad 0 else .ok (l.takeWhile kb) (l.takeWhile kb).length
def ba (l : List UInt8) : ByteArray := ⟨l.toArray⟩
abbrev A := ByteArray × ByteArray
def attr : List UInt8 → R A := bnd key fun k => bnd (must 58) fun _ => bnd quoted fun v => ret (ba k, ba v)
def more : Nat → List UInt8 → R (List A)
  | 0, _ => .bad 0
  | f + 1, l => if l.head? = some 44 then bnd (must 44) (fun _ => bnd attr fun a => bnd (more f) fun r => ret (a :: r)) l else bnd (must 125) (fun _ => ret []) l
def attrs : List UInt8 → R (List A) := bnd (must 123) fun _ => bnd attr fun a => bnd (fun l => more (l.length + 1) l) fun r => ret (a :: r)
def opt (l : List UInt8) : R (List A) := if l.head? = some 123 then attrs l else .ok [] 0
def none0 : ByteArray := ⟨#[]⟩
def kind (b : UInt8) : List UInt8 → R OpD :=
  if b = 45 then bnd number fun n => ret ⟨3, n, none0, []⟩
  else if b = 61 then bnd number fun n => bnd opt fun a => ret ⟨1, n, none0, a⟩
  else bnd quoted fun t => bnd opt fun a => ret ⟨2, 0, ba t, a⟩
def op (l : List UInt8) : R OpD :=
  match l with
  | [] => .bad 0
  | b :: t => if b = 45 ∨ b = 61 ∨ b = 43 then (kind b t).shift 1 else .bad 0
def ops : Nat → List UInt8 → R (List OpD)
  | 0, _ => .bad 0
  | f + 1, l => if l = [] then .ok [] 0 else bnd (must 32) (fun _ => bnd op fun o => bnd (ops f) fun r => ret (o :: r)) l
def change : List UInt8 → R (Nat × List OpD) := bnd number fun n => bnd (fun l => ops (l.length + 1) l) fun r => ret (n, r)

/-! ### How it is written -/
def pAttr (x : A) : List UInt8 := x.1.data.toList ++ 58 :: qt x.2.data.toList
def pMore (r : List A) : List UInt8 := r.flatMap (fun y => 44 :: pAttr y) ++ [125]
def pAttrs : List A → List UInt8
  | [] => []
  | x :: r => 123 :: (pAttr x ++ pMore r)
def pKind (o : OpD) : List UInt8 := if o.kind = 1 then 61 :: itoa o.n else if o.kind = 3 then 45 :: itoa o.n else if o.kind = 2 then 43 :: qt o.text.data.toList else []
def pOp (o : OpD) : List UInt8 := 32 :: (pKind o ++ pAttrs o.attrs)
def pCh (f : Int) (l : List OpD) : List UInt8 := itoa f ++ l.flatMap pOp

/-! ### Bytes -/
theorem b_eq {a b : UInt8} : a = b ↔ a.toNat = b.toNat := ⟨fun h => by rw [h], fun h => UInt8.toNat_inj.1 h⟩
theorem b_lt (a : UInt8) : a.toNat < 256 := a.toNat_lt
theorem of_nat {n : Nat} (h : n < 256) : (UInt8.ofNat n).toNat = n := by simp; omega
theorem hexv_hexd {n : Nat} (h : n < 16) : hexv (hexd n) = some n := by
  unfold hexv hexd
  split <;> rw [of_nat (by omega)]
  · rw [if_pos (by omega)]; congr 1; omega
  · rw [if_neg (by omega), if_pos (by omega)]; congr 1; omega
theorem hexd_hexv {b : UInt8} {n : Nat} (h : hexv b = some n) : b = hexd n ∧ n < 16 := by
  have hb := b_lt b
  unfold hexv at h
  split at h
  · obtain rfl := Option.some.inj h
    refine ⟨b_eq.2 ?_, by omega⟩
    unfold hexd
    rw [if_pos (by omega), of_nat (by omega)]; omega
  · split at h
    · obtain rfl := Option.some.inj h
      refine ⟨b_eq.2 ?_, by omega⟩
      unfold hexd
      rw [if_neg (by omega), of_nat (by omega)]; omega
    · cases h
theorem hex_join (b : UInt8) : UInt8.ofNat (b.toNat / 16 * 16 + b.toNat % 16) = b := b_eq.2 (by have := b_lt b; rw [of_nat (by omega)]; omega)

theorem digit16_ok {b : UInt8} {n : Nat} (h : hexv b = some n) (t : List UInt8) : digit16 (b :: t) = .ok n 1 := by
  show (match hexv b with | some n => R.ok n 1 | none => R.bad 0) = _
  rw [h]
theorem digit16_bad {b : UInt8} (h : hexv b = none) (t : List UInt8) : digit16 (b :: t) = .bad 0 := by
  show (match hexv b with | some n => R.ok n 1 | none => R.bad 0) = _
  rw [h]

/-! ### What was written is read -/
theorem inside_qb (b : UInt8) (r : List UInt8) : inside (qb b ++ r) = .ok b (qb b).length := by
  have hb := b_lt b
  unfold qb
  by_cases h1 : b = 10
  · subst h1
    rw [if_pos rfl]; rfl
  rw [if_neg h1]
  by_cases h2 : ctl b = true
  · rw [if_pos h2]
    have e1 := digit16_ok (hexv_hexd (show b.toNat / 16 < 16 by omega)) (hexd (b.toNat % 16) :: r)
    have e2 := digit16_ok (hexv_hexd (show b.toNat % 16 < 16 by omega)) r
    have e3 : hexes (hexd (b.toNat / 16) :: hexd (b.toNat % 16) :: r) = .ok b 4 := by
      unfold hexes
      rw [e1]
      simp only [List.drop_succ_cons, List.drop_zero]
      rw [e2]
      simp only [hex_join]
      rw [if_pos ⟨h2, h1⟩]
    exact e3
  rw [if_neg h2]
  by_cases h3 : b = 34 ∨ b = 92
  · rw [if_pos h3]
    rcases h3 with rfl | rfl <;> rfl
  · rw [if_neg h3]
    show (if ctl b = true then R.bad 0 else if b ≠ 92 then R.ok b 1 else _) = _
    rw [if_neg h2, if_pos (fun h => h3 (.inr h))]; rfl
theorem qb_head (b : UInt8) : (qb b).head? ≠ some 34 ∧ qb b ≠ [] := by
  unfold qb
  by_cases h1 : b = 10
  · rw [if_pos h1]; exact ⟨by decide, by simp⟩
  rw [if_neg h1]
  by_cases h2 : ctl b = true
  · rw [if_pos h2]; exact ⟨by simp, by simp⟩
  rw [if_neg h2]
  by_cases h3 : b = 34 ∨ b = 92
  · rw [if_pos h3]; exact ⟨by simp, by simp⟩
  · rw [if_neg h3]; exact ⟨by simp only [List.head?_cons, ne_eq, Option.some.injEq]; exact fun h => h3 (.inl h), by simp⟩
theorem body_qt (l r : List UInt8) : ∀ f, l.length < f → body f (l.flatMap qb ++ 34 :: r) = .ok l (l.flatMap qb ++ [34]).length := by
  induction l with
  | nil => intro f hf; cases f with
    | zero => exact absurd hf (Nat.not_lt_zero _)
    | succ f => rfl
  | cons b l ih =>
    intro f hf
    cases f with
    | zero => exact absurd hf (Nat.not_lt_zero _)
    | succ f =>
      have hq := qb_head b
      have e : (b :: l).flatMap qb ++ 34 :: r = qb b ++ (l.flatMap qb ++ 34 :: r) := by simp
      have hh : ((b :: l).flatMap qb ++ 34 :: r).head? ≠ some 34 := by
        rw [e]
        cases hx : qb b with
        | nil => exact absurd hx hq.2
        | cons x t => intro h; apply hq.1; rw [hx]; exact h
      unfold body
      rw [if_neg hh, e, bnd_ok (inside_qb b _), List.drop_left, bnd_ok (ih f (by simpa using hf))]
      simp [ret, R.shift]
theorem quoted_qt (l r : List UInt8) : quoted (qt l ++ r) = .ok l (qt l).length := by
  have h1 : must 34 (qt l ++ r) = .ok () 1 := rfl
  have e : (qt l ++ r).drop 1 = l.flatMap qb ++ 34 :: r := by simp [qt]
  unfold quoted
  rw [bnd_ok h1, e, body_qt l r _ (by
    have : ∀ m : List UInt8, m.length ≤ (m.flatMap qb).length := fun m => by
      induction m with
      | nil => simp
      | cons b m ih =>
        have := (qb_head b).2
        have h2 : 1 ≤ (qb b).length := by cases hx : qb b with
          | nil => exact absurd hx this
          | cons _ _ => simp
        simp only [List.flatMap_cons, List.length_append, List.length_cons]; omega
    have := this l
    simp only [List.length_append, List.length_cons]; omega)]
  simp [R.shift, qt]; omega

/-! Numbers -/
theorem dg_nat {n : Nat} (h : n < 10) : (UInt8.ofNat (48 + n)).toNat = 48 + n := of_nat (by omega)
theorem dec_dig (u : Nat) : ∀ b ∈ decDigits u, dig b = true := by
  induction u using Nat.strongRecOn with
  | ind u ih =>
    intro b hb
    rw [decDigits] at hb
    split at hb
    · obtain rfl := List.mem_singleton.1 hb
      unfold dig; rw [dg_nat (by omega)]; exact decide_eq_true (by omega)
    · rcases List.mem_append.1 hb with h | h
      · exact ih _ (by omega) b h
      · obtain rfl := List.mem_singleton.1 h
        unfold dig; rw [dg_nat (by omega)]; exact decide_eq_true (by omega)
theorem val_snoc (d : List UInt8) (b : UInt8) : val (d ++ [b]) = val d * 10 + (b.toNat - 48) := by unfold val; rw [List.foldl_append]; rfl
theorem val_dec (u : Nat) : val (decDigits u) = u := by
  induction u using Nat.strongRecOn with
  | ind u ih =>
    rw [decDigits]
    split
    · show 0 * 10 + ((UInt8.ofNat (48 + u)).toNat - 48) = u
      rw [dg_nat (by omega)]; omega
    · rw [val_snoc, ih _ (by omega), dg_nat (by omega)]; omega
theorem dec_ne (u : Nat) : decDigits u ≠ [] := by
  rw [decDigits]; split <;> simp
theorem dec_len (k : Nat) : ∀ u : Nat, u < 10 ^ (k + 1) → (decDigits u).length ≤ k + 1 := by
  induction k with
  | zero => intro u h; rw [decDigits, dif_pos (by omega)]; simp
  | succ k ih =>
    intro u h
    rw [decDigits]
    split
    · simp
    · have := ih (u / 10) (by rw [Nat.pow_succ] at h; omega)
      simp only [List.length_append, List.length_cons, List.length_nil]; omega
theorem dec_head (u : Nat) (h : 1 ≤ u) : (decDigits u).head? ≠ some 48 := by
  induction u using Nat.strongRecOn with
  | ind u ih =>
    rw [decDigits]
    split
    · intro h2
      simp only [List.head?_cons, Option.some.injEq] at h2
      have := congrArg UInt8.toNat h2
      rw [dg_nat (by omega)] at this
      have e : (48 : UInt8).toNat = 48 := rfl
      omega
    · have h2 := ih (u / 10) (by omega) (by omega)
      cases hx : decDigits (u / 10) with
      | nil => exact absurd hx (dec_ne _)
      | cons a t => rw [hx] at h2; exact h2
theorem dec_numOk {u : Nat} (h : u < 1000000000000000000) : numOk (decDigits u) := by
  refine ⟨dec_ne u, dec_len 17 u (by simpa using h), fun h1 => ?_⟩
  rcases Nat.eq_zero_or_pos u with rfl | h2
  · rw [decDigits, dif_pos (by omega)]; rfl
  · exact absurd h1 (dec_head u h2)
theorem takeWhile_app {p : UInt8 → Bool} {d r : List UInt8} (hd : ∀ b ∈ d, p b = true) (hr : ∀ b, r.head? = some b → p b = false) : (d ++ r).takeWhile p = d := by
  induction d with
  | nil =>
    cases r with
    | nil => rfl
    | cons b t => rw [List.nil_append, List.takeWhile_cons, hr b rfl]; rfl
  | cons a d ih =>
    rw [List.cons_append, List.takeWhile_cons, hd a (List.mem_cons_self ..)]
    simp only [if_true]
    rw [ih fun b hb => hd b (List.mem_cons_of_mem _ hb)]
theorem number_dec {u : Nat} {r : List UInt8} (h : u < 1000000000000000000) (hr : ∀ b, r.head? = some b → dig b = false) : number (decDigits u ++ r) = .ok u (decDigits u).length := by
  unfold number
  rw [takeWhile_app (dec_dig u) hr, if_pos (dec_numOk h), val_dec]
theorem dec_inv {d : List UInt8} (hd : ∀ b ∈ d, dig b = true) (h : numOk d) : decDigits (val d) = d := by
  have key : ∀ n, ∀ d : List UInt8, d.length = n → (∀ b ∈ d, dig b = true) → d ≠ [] → (d.head? = some 48 → d = [48]) → decDigits (val d) = d := by
    intro n
    induction n with
    | zero => intro d h0 _ h1; exact absurd (List.length_eq_zero_iff.1 h0) h1
    | succ n ih =>
      intro d hl hd hne hz
      rcases List.eq_nil_or_concat d with rfl | ⟨e, b, rfl⟩
      · exact absurd rfl hne
      rw [List.concat_eq_append] at hl hd hz ⊢
      have hb : dig b = true := hd b (by simp)
      have hb' := of_decide_eq_true hb
      cases he : e with
      | nil =>
        subst he
        have e1 : val ([] ++ [b]) = b.toNat - 48 := by rw [val_snoc]; unfold val; simp
        rw [e1, decDigits, dif_pos (by omega)]
        rw [List.nil_append]
        congr 1
        exact b_eq.2 (by rw [of_nat (by omega)]; omega)
      | cons x t =>
        rw [← he]
        have hne' : e ≠ [] := by rw [he]; simp
        have hz' : e.head? = some 48 → e = [48] := fun h => by
          exfalso
          have h2 := hz (by rw [he] at h ⊢; exact h)
          rw [he] at h2
          simp at h2
        have h3 := ih e (by simp at hl; omega) (fun c hc => hd c (by simp [hc])) hne' hz'
        have h4 : 1 ≤ val e := by
          rcases Nat.eq_zero_or_pos (val e) with h5 | h5
          · exfalso
            rw [h5, decDigits, dif_pos (by omega)] at h3
            have h6 := hz (by rw [← h3]; rfl)
            rw [← h3] at h6
            simp at h6
          · exact h5
        rw [val_snoc, decDigits, dif_neg (by omega)]
        have e2 : (val e * 10 + (b.toNat - 48)) / 10 = val e := by omega
        have e3 : (val e * 10 + (b.toNat - 48)) % 10 = b.toNat - 48 := by omega
        rw [e2, e3, h3]
        congr 1
        congr 1
        exact b_eq.2 (by rw [of_nat (by omega)]; omega)
  exact key _ d rfl hd h.1 h.2.2
theorem val_lt (d : List UInt8) (hd : ∀ b ∈ d, dig b = true) : val d < 10 ^ d.length := by
  have key : ∀ n, ∀ d : List UInt8, d.length = n → (∀ b ∈ d, dig b = true) → val d < 10 ^ n := by
    intro n
    induction n with
    | zero => intro d h _; rw [List.length_eq_zero_iff.1 h]; simp [val]
    | succ n ih =>
      intro d hl hd
      rcases List.eq_nil_or_concat d with rfl | ⟨e, b, rfl⟩
      · simp at hl
      rw [List.concat_eq_append] at hl hd ⊢
      have hb := of_decide_eq_true (show dig b = true from hd b (by simp))
      have := ih e (by simp at hl; omega) fun c hc => hd c (by simp [hc])
      rw [val_snoc, Nat.pow_succ]
      omega
  exact key _ d rfl hd
theorem tw_mem {p : UInt8 → Bool} (l : List UInt8) : ∀ b ∈ l.takeWhile p, p b = true := by
  induction l with
  | nil => intro b h; cases h
  | cons a t ih =>
    intro b h
    rw [List.takeWhile_cons] at h
    split at h
    · rename_i h1
      rcases List.mem_cons.1 h with rfl | h
      · exact h1
      · exact ih b h
    · cases h
theorem tw_drop {p : UInt8 → Bool} (l : List UInt8) : l.takeWhile p ++ l.drop (l.takeWhile p).length = l := by
  induction l with
  | nil => rfl
  | cons a t ih =>
    rw [List.takeWhile_cons]
    split
    · simp [ih]
    · rfl

/-! Keys, attributes, operations -/
theorem ba_data (s : ByteArray) : ba s.data.toList = s := ba_eq rfl
theorem data_ba (l : List UInt8) : (ba l).data.toList = l := rfl
def goodK (k : ByteArray) : Prop := k.data.toList ≠ [] ∧ ∀ b ∈ k.data.toList, kb b = true
theorem key_p {k : ByteArray} {r : List UInt8} (h : goodK k) (hr : ∀ b, r.head? = some b → kb b = false) : key (k.data.toList ++ r) = .ok k.data.toList k.data.toList.length := by
  unfold key
  rw [takeWhile_app h.2 hr, if_neg h.1]
theorem must_p (c : UInt8) (r : List UInt8) : must c (c :: r) = .ok () 1 := by simp [must]
theorem attr_p {x : A} (h : goodK x.1) (r : List UInt8) : attr (pAttr x ++ r) = .ok x (pAttr x).length := by
  have e : pAttr x ++ r = x.1.data.toList ++ (58 :: (qt x.2.data.toList ++ r)) := by simp [pAttr]
  unfold attr
  rw [e, bnd_ok (key_p h fun b hb => by obtain rfl := Option.some.inj hb; rfl), List.drop_left, bnd_ok (must_p 58 _)]
  rw [show (58 :: (qt x.2.data.toList ++ r)).drop 1 = qt x.2.data.toList ++ r from rfl, bnd_ok (quoted_qt _ r)]
  simp only [ret, R.shift, ba_data, pAttr, R.ok.injEq, List.length_append, List.length_cons, true_and]
  omega
theorem more_p {l : List A} (h : ∀ x ∈ l, goodK x.1) (r : List UInt8) : ∀ f, l.length < f → more f (pMore l ++ r) = .ok l (pMore l).length := by
  induction l with
  | nil =>
    intro f hf
    cases f with
    | zero => exact absurd hf (Nat.not_lt_zero _)
    | succ f =>
      unfold more
      rw [show pMore [] ++ r = 125 :: r from rfl, if_neg (by simp), bnd_ok (must_p 125 r)]
      rfl
  | cons x l ih =>
    intro f hf
    cases f with
    | zero => exact absurd hf (Nat.not_lt_zero _)
    | succ f =>
      have e : pMore (x :: l) ++ r = 44 :: (pAttr x ++ (pMore l ++ r)) := by simp [pMore]
      unfold more
      rw [e, if_pos (by rfl), bnd_ok (must_p 44 _), show (44 :: (pAttr x ++ (pMore l ++ r))).drop 1 = pAttr x ++ (pMore l ++ r) from rfl]
      rw [bnd_ok (attr_p (h x (List.mem_cons_self ..)) _), List.drop_left, bnd_ok (ih (fun y hy => h y (List.mem_cons_of_mem _ hy)) f (by simpa using hf))]
      simp only [ret, R.shift, pMore, R.ok.injEq, List.length_append, List.length_cons, List.length_nil, List.flatMap_cons, true_and]
      omega
theorem pMore_len (l : List A) : l.length < (pMore l).length := by
  induction l with
  | nil => simp [pMore]
  | cons x l ih => simp [pMore] at ih ⊢; omega
theorem attrs_p {x : A} {l : List A} (h : ∀ y ∈ x :: l, goodK y.1) (r : List UInt8) : attrs (pAttrs (x :: l) ++ r) = .ok (x :: l) (pAttrs (x :: l)).length := by
  have e : pAttrs (x :: l) ++ r = 123 :: (pAttr x ++ (pMore l ++ r)) := by simp [pAttrs]
  unfold attrs
  rw [e, bnd_ok (must_p 123 _), show (123 :: (pAttr x ++ (pMore l ++ r))).drop 1 = pAttr x ++ (pMore l ++ r) from rfl]
  rw [bnd_ok (attr_p (h x (List.mem_cons_self ..)) _), List.drop_left, bnd_ok (p := fun l => more (l.length + 1) l) (more_p (fun y hy => h y (List.mem_cons_of_mem _ hy)) r _ (by have := pMore_len l; simp only [List.length_append]; omega))]
  simp only [ret, R.shift, pAttrs, R.ok.injEq, List.length_append, List.length_cons, true_and]
  omega
theorem opt_p {l : List A} (h : ∀ y ∈ l, goodK y.1) {r : List UInt8} (hr : r.head? ≠ some 123) : opt (pAttrs l ++ r) = .ok l (pAttrs l).length := by
  unfold opt
  cases l with
  | nil => rw [if_neg (by exact hr)]; rfl
  | cons x l => rw [if_pos (by rfl)]; exact attrs_p h r
structure GoodO (o : OpD) : Prop where
  n0 : 0 ≤ o.n
  n1 : o.n < 1000000000000000000
  kind : o.kind = 1 ∨ o.kind = 2 ∨ o.kind = 3
  keys : ∀ y ∈ o.attrs, goodK y.1
  text : o.kind ≠ 2 → o.text = none0
  put : o.kind = 2 → o.n = 0
  cut : o.kind = 3 → o.attrs = []
theorem itoa_n {n : Int} (h : 0 ≤ n) : itoa n = decDigits n.toNat := by unfold itoa; rw [if_neg (by omega)]
theorem pAttrs_head {l : List A} {r : List UInt8} {b : UInt8} (hr : r.head? = none ∨ r.head? = some 32) (h : (pAttrs l ++ r).head? = some b) : b = 123 ∨ b = 32 := by
  cases l with
  | nil =>
    rcases hr with hr | hr
    · rw [show (pAttrs [] ++ r).head? = r.head? from rfl, hr] at h; cases h
    · rw [show (pAttrs [] ++ r).head? = r.head? from rfl, hr] at h; exact .inr (Option.some.inj h).symm
  | cons x l => exact .inl (Option.some.inj h).symm
theorem kind_p {o : OpD} (h : GoodO o) {r : List UInt8} (hr : r.head? = none ∨ r.head? = some 32) : op (pKind o ++ pAttrs o.attrs ++ r) = .ok o (pKind o ++ pAttrs o.attrs).length := by
  obtain ⟨k, n, t, a⟩ := o
  have hr' : r.head? ≠ some 123 := by rcases hr with hr | hr <;> rw [hr] <;> decide
  have hdig : ∀ b, (pAttrs a ++ r).head? = some b → dig b = false := fun b hb => by
    rcases pAttrs_head hr hb with rfl | rfl <;> rfl
  have hn : (n.toNat : Int) = n := Int.toNat_of_nonneg h.n0
  have hlt : n.toNat < 1000000000000000000 := by have := h.n1; simp only at this; omega
  rcases h.kind with h1 | h2 | h3
  · simp only at h1; subst h1
    have ht := h.text (show (1 : Int) ≠ 2 by decide); simp only at ht; subst ht
    have e : pKind ⟨1, n, none0, a⟩ ++ pAttrs a ++ r = 61 :: (decDigits n.toNat ++ (pAttrs a ++ r)) := by simp [pKind, itoa_n h.n0]
    have e2 : (pKind ⟨1, n, none0, a⟩ ++ pAttrs a).length = 1 + ((decDigits n.toNat).length + (pAttrs a).length) := by simp [pKind, itoa_n h.n0]; omega
    rw [e, e2]
    unfold op
    simp only
    rw [if_pos (by decide)]
    unfold kind
    rw [if_neg (by decide), if_pos rfl, bnd_ok (number_dec hlt hdig), List.drop_left, bnd_ok (opt_p h.keys hr')]
    simp [ret, R.shift, hn]
  · simp only at h2; subst h2
    have ht := h.put rfl; simp only at ht; subst ht
    have e : pKind ⟨2, 0, t, a⟩ ++ pAttrs a ++ r = 43 :: (qt t.data.toList ++ (pAttrs a ++ r)) := by simp [pKind]
    have e2 : (pKind ⟨2, 0, t, a⟩ ++ pAttrs a).length = 1 + ((qt t.data.toList).length + (pAttrs a).length) := by simp [pKind]; omega
    rw [e, e2]
    unfold op
    simp only
    rw [if_pos (by decide)]
    unfold kind
    rw [if_neg (by decide), if_neg (by decide), bnd_ok (quoted_qt _ _), List.drop_left, bnd_ok (opt_p h.keys hr')]
    simp [ret, R.shift, ba_data]
  · simp only at h3; subst h3
    have ht := h.text (show (3 : Int) ≠ 2 by decide); simp only at ht; subst ht
    have ha := h.cut rfl; simp only at ha; subst ha
    have e : pKind ⟨3, n, none0, []⟩ ++ pAttrs [] ++ r = 45 :: (decDigits n.toNat ++ (pAttrs [] ++ r)) := by simp [pKind, itoa_n h.n0]
    have e2 : (pKind ⟨3, n, none0, []⟩ ++ pAttrs []).length = 1 + (decDigits n.toNat).length := by simp [pKind, itoa_n h.n0, pAttrs]; omega
    rw [e, e2]
    unfold op
    simp only
    rw [if_pos (by decide)]
    unfold kind
    rw [if_pos rfl, bnd_ok (number_dec hlt hdig)]
    simp [ret, R.shift, hn]
theorem ops_p {l : List OpD} (h : ∀ o ∈ l, GoodO o) : ∀ f, l.length < f → ops f (l.flatMap pOp) = .ok l (l.flatMap pOp).length := by
  induction l with
  | nil =>
    intro f hf
    cases f with
    | zero => exact absurd hf (Nat.not_lt_zero _)
    | succ f => rfl
  | cons o l ih =>
    intro f hf
    cases f with
    | zero => exact absurd hf (Nat.not_lt_zero _)
    | succ f =>
      have e : (o :: l).flatMap pOp = 32 :: (pKind o ++ pAttrs o.attrs ++ l.flatMap pOp) := by simp [pOp]
      have hr : (l.flatMap pOp).head? = none ∨ (l.flatMap pOp).head? = some 32 := by
        cases l with
        | nil => exact .inl rfl
        | cons x l => exact .inr rfl
      unfold ops
      rw [e, if_neg (by simp), bnd_ok (must_p 32 _), show (32 :: (pKind o ++ pAttrs o.attrs ++ l.flatMap pOp)).drop 1 = pKind o ++ pAttrs o.attrs ++ l.flatMap pOp from rfl]
      rw [bnd_ok (kind_p (h o (List.mem_cons_self ..)) hr), List.drop_left, bnd_ok (ih (fun y hy => h y (List.mem_cons_of_mem _ hy)) f (by simpa using hf))]
      simp only [ret, R.shift, R.ok.injEq, List.length_append, List.length_cons, true_and]
      omega
theorem pOp_len (l : List OpD) : l.length ≤ (l.flatMap pOp).length := by
  induction l with
  | nil => simp
  | cons x l ih => simp [pOp] at ih ⊢; omega
theorem change_p {f : Int} {l : List OpD} (h0 : 0 ≤ f) (h1 : f < 1000000000000000000) (h : ∀ o ∈ l, GoodO o) : change (pCh f l) = .ok (f.toNat, l) (pCh f l).length := by
  have hr : ∀ b, (l.flatMap pOp).head? = some b → dig b = false := fun b hb => by
    cases l with
    | nil => cases hb
    | cons x l => obtain rfl := Option.some.inj hb; rfl
  unfold change pCh
  rw [itoa_n h0, bnd_ok (number_dec (by omega) hr), List.drop_left, bnd_ok (p := fun l => ops (l.length + 1) l) (ops_p h _ (by have := pOp_len l; omega))]
  simp [ret, R.shift]

/-! ### What was read is written so -/
/-- What p reads is written by pr. -/
def Says {α : Type} (p : List UInt8 → R α) (pr : α → List UInt8) : Prop := ∀ l v n, p l = .ok v n → l = pr v ++ l.drop n ∧ (pr v).length = n
theorem says_bnd {α β : Type} {p : List UInt8 → R α} {q : α → List UInt8 → R β} {pp : α → List UInt8} {pq : α → β → List UInt8} {pr : β → List UInt8}
    (hp : Says p pp) (hq : ∀ u, Says (q u) (pq u)) (he : ∀ l u i v j, p l = .ok u i → q u (l.drop i) = .ok v j → pr v = pp u ++ pq u v) : Says (bnd p q) pr := by
  intro l v n h
  obtain ⟨u, i, j, h1, h2, rfl⟩ := bnd_inv h
  obtain ⟨a1, a2⟩ := hp _ _ _ h1
  obtain ⟨b1, b2⟩ := hq _ _ _ _ h2
  rw [he l u i v j h1 h2]
  refine ⟨?_, by rw [List.length_append, a2, b2]⟩
  rw [List.append_assoc, ← List.drop_drop, ← b1]
  exact a1
theorem says_ret {α : Type} (v : α) {pr : α → List UInt8} (h : pr v = []) : Says (ret v) pr := by
  intro l u n hh
  simp only [ret, R.ok.injEq] at hh
  obtain ⟨rfl, rfl⟩ := hh
  rw [h]; exact ⟨rfl, rfl⟩
theorem says_must (c : UInt8) : Says (must c) fun _ => [c] := by
  intro l v n h
  unfold must at h
  split at h
  · rename_i h1
    simp only [R.ok.injEq] at h
    obtain ⟨_, rfl⟩ := h
    cases l with
    | nil => cases h1
    | cons a t => obtain rfl := Option.some.inj h1; exact ⟨rfl, rfl⟩
  · cases h
theorem hexes_ok {l : List UInt8} {v : UInt8} {n : Nat} (h : hexes l = .ok v n) : n = 4 ∧ ctl v = true ∧ v ≠ 10 ∧ ∃ r, l = hexd (v.toNat / 16) :: hexd (v.toNat % 16) :: r := by
  cases l with
  | nil => cases h
  | cons a t =>
    unfold hexes at h
    cases ha : hexv a with
    | none => rw [digit16_bad ha] at h; cases h
    | some x =>
      rw [digit16_ok ha] at h
      cases t with
      | nil => cases h
      | cons b u =>
        simp only [List.drop_succ_cons, List.drop_zero] at h
        cases hb : hexv b with
        | none => rw [digit16_bad hb] at h; cases h
        | some y =>
          rw [digit16_ok hb] at h
          simp only at h
          split at h
          · rename_i h1
            simp only [R.ok.injEq] at h
            obtain ⟨rfl, rfl⟩ := h
            obtain ⟨rfl, h2⟩ := hexd_hexv ha
            obtain ⟨rfl, h3⟩ := hexd_hexv hb
            have e : (UInt8.ofNat (x * 16 + y)).toNat = x * 16 + y := of_nat (by omega)
            refine ⟨rfl, h1.1, h1.2, u, ?_⟩
            rw [e, show (x * 16 + y) / 16 = x by omega, show (x * 16 + y) % 16 = y by omega]
          · cases h
theorem says_inside {l : List UInt8} {v : UInt8} {n : Nat} (h : inside l = .ok v n) (h34 : l.head? ≠ some 34) : l = qb v ++ l.drop n ∧ (qb v).length = n := by
  cases l with
  | nil => cases h
  | cons b t =>
    simp only [inside] at h
    split at h
    · cases h
    rename_i h1
    split at h
    · rename_i h2
      simp only [R.ok.injEq] at h
      obtain ⟨rfl, rfl⟩ := h
      have hb10 : b ≠ 10 := fun e => h1 (by rw [e]; rfl)
      have hb34 : b ≠ 34 := fun e => h34 (by rw [e]; rfl)
      have e : qb b = [b] := by unfold qb; rw [if_neg hb10, if_neg h1, if_neg (fun h => h.elim hb34 h2)]
      rw [e]; exact ⟨rfl, rfl⟩
    · rename_i h2
      have h2 : b = 92 := Classical.byContradiction h2
      subst h2
      cases t with
      | nil => cases h
      | cons c u =>
        simp only at h
        split at h
        · rename_i h3
          simp only [R.ok.injEq] at h
          obtain ⟨rfl, rfl⟩ := h
          rcases h3 with rfl | rfl <;> exact ⟨rfl, rfl⟩
        split at h
        · rename_i h3
          simp only [R.ok.injEq] at h
          obtain ⟨rfl, rfl⟩ := h
          subst h3; exact ⟨rfl, rfl⟩
        split at h
        · rename_i h3
          subst h3
          obtain ⟨rfl, a1, a2, r, rfl⟩ := hexes_ok h
          have e : qb v = [92, 120, hexd (v.toNat / 16), hexd (v.toNat % 16)] := by unfold qb; rw [if_neg a2, if_pos a1]
          rw [e]; exact ⟨rfl, rfl⟩
        · cases h
theorem says_body (f : Nat) : Says (body f) fun v => v.flatMap qb ++ [34] := by
  induction f with
  | zero => intro l v n h; cases h
  | succ f ih =>
    intro l v n h
    unfold body at h
    split at h
    · rename_i h1
      simp only [R.ok.injEq] at h
      obtain ⟨rfl, rfl⟩ := h
      cases l with
      | nil => cases h1
      | cons a t => obtain rfl := Option.some.inj h1; exact ⟨rfl, rfl⟩
    · rename_i h1
      obtain ⟨u, i, j, h2, h3, rfl⟩ := bnd_inv h
      obtain ⟨a1, a2⟩ := says_inside h2 h1
      obtain ⟨us, i2, j2, h4, h5, rfl⟩ := bnd_inv h3
      simp only [ret, R.ok.injEq] at h5
      obtain ⟨rfl, rfl⟩ := h5
      obtain ⟨b1, b2⟩ := ih _ _ _ h4
      dsimp only at b1 b2 ⊢
      have e : (u :: us).flatMap qb ++ [34] = qb u ++ (us.flatMap qb ++ [34]) := by simp
      rw [e]
      refine ⟨?_, by rw [List.length_append, a2, b2]; omega⟩
      rw [List.append_assoc, show l.drop (i + (i2 + 0)) = (l.drop i).drop i2 by rw [List.drop_drop, Nat.add_zero], ← b1]
      exact a1
theorem says_quoted : Says quoted qt := by
  refine says_bnd (pq := fun _ v => v.flatMap qb ++ [34]) (says_must 34) (fun _ l v n h => says_body _ _ _ _ h) fun l u i v j _ _ => ?_
  rfl
theorem says_number : Says number fun n => decDigits n := by
  intro l v n h
  unfold number at h
  split at h
  · rename_i h1
    simp only [R.ok.injEq] at h
    obtain ⟨rfl, rfl⟩ := h
    dsimp only
    rw [dec_inv (tw_mem l) h1]
    exact ⟨(tw_drop l).symm, rfl⟩
  · cases h
theorem says_key : Says key id := by
  intro l v n h
  unfold key at h
  split at h
  · cases h
  · simp only [R.ok.injEq] at h
    obtain ⟨rfl, rfl⟩ := h
    exact ⟨(tw_drop l).symm, rfl⟩
theorem says_attr : Says attr pAttr := by
  refine says_bnd (pq := fun _ x => 58 :: qt x.2.data.toList) says_key (fun k => ?_) fun l u i v j h1 h2 => ?_
  · refine says_bnd (pq := fun _ x => qt x.2.data.toList) (says_must 58) (fun _ => ?_) fun l u i v j _ _ => rfl
    refine says_bnd (pp := qt) (pq := fun _ _ => []) says_quoted (fun v => says_ret _ rfl) fun l u i v j _ h => ?_
    simp only [ret, R.ok.injEq] at h
    obtain ⟨rfl, rfl⟩ := h
    rw [data_ba, List.append_nil]
  · obtain ⟨_, _, _, _, h3, _⟩ := bnd_inv h2
    obtain ⟨_, _, _, _, h4, _⟩ := bnd_inv h3
    simp only [ret, R.ok.injEq] at h4
    obtain ⟨rfl, rfl⟩ := h4
    rfl
theorem says_more (f : Nat) : Says (more f) pMore := by
  induction f with
  | zero => intro l v n h; cases h
  | succ f ih =>
    intro l v n h
    unfold more at h
    split at h
    · refine says_bnd (pq := fun _ v => (pMore v).drop 1) (says_must 44) (fun _ => ?_) (fun l u i v j _ h2 => ?_) _ _ _ h
      · refine says_bnd (pp := pAttr) (pq := fun _ v => pMore (v.drop 1)) says_attr (fun a => ?_) fun l u i v j _ h2 => ?_
        · refine says_bnd (pp := pMore) (pq := fun _ _ => []) ih (fun r => says_ret _ rfl) fun l u i v j _ h2 => ?_
          simp only [ret, R.ok.injEq] at h2
          obtain ⟨rfl, rfl⟩ := h2
          simp
        · obtain ⟨_, _, _, _, h3, _⟩ := bnd_inv h2
          simp only [ret, R.ok.injEq] at h3
          obtain ⟨rfl, rfl⟩ := h3
          simp [pMore]
      · obtain ⟨_, _, _, _, h3, _⟩ := bnd_inv h2
        obtain ⟨_, _, _, _, h3, _⟩ := bnd_inv h3
        simp only [ret, R.ok.injEq] at h3
        obtain ⟨rfl, rfl⟩ := h3
        simp [pMore]
    · refine says_bnd (pq := fun _ _ => []) (says_must 125) (fun _ => says_ret _ rfl) (fun l u i v j _ h2 => ?_) _ _ _ h
      simp only [ret, R.ok.injEq] at h2
      obtain ⟨rfl, rfl⟩ := h2
      rfl
theorem says_attrs : Says attrs pAttrs := by
  refine says_bnd (pq := fun _ v => (pAttrs v).drop 1) (says_must 123) (fun _ => ?_) fun l u i v j _ h2 => ?_
  · refine says_bnd (pp := pAttr) (pq := fun _ v => pMore (v.drop 1)) says_attr (fun a => ?_) fun l u i v j _ h2 => ?_
    · refine says_bnd (pp := pMore) (pq := fun _ _ => []) (fun l v n h => says_more _ _ _ _ h) (fun r => says_ret _ rfl) fun l u i v j _ h2 => ?_
      simp only [ret, R.ok.injEq] at h2
      obtain ⟨rfl, rfl⟩ := h2
      simp
    · obtain ⟨_, _, _, _, h3, _⟩ := bnd_inv h2
      simp only [ret, R.ok.injEq] at h3
      obtain ⟨rfl, rfl⟩ := h3
      simp [pAttrs]
  · obtain ⟨_, _, _, _, h3, _⟩ := bnd_inv h2
    obtain ⟨_, _, _, _, h3, _⟩ := bnd_inv h3
    simp only [ret, R.ok.injEq] at h3
    obtain ⟨rfl, rfl⟩ := h3
    rfl
theorem says_opt : Says opt pAttrs := by
  intro l v n h
  unfold opt at h
  split at h
  · exact says_attrs _ _ _ h
  · simp only [R.ok.injEq] at h
    obtain ⟨rfl, rfl⟩ := h
    exact ⟨rfl, rfl⟩
theorem says_op : Says op fun o => pKind o ++ pAttrs o.attrs := by
  intro l v n h
  cases l with
  | nil => cases h
  | cons b t =>
    unfold op at h
    simp only at h
    split at h
    rotate_left
    · cases h
    rename_i hb
    obtain ⟨m, h, rfl⟩ := shift_ok h
    unfold kind at h
    split at h
    · rename_i hk; subst hk
      obtain ⟨u, i, j, h1, h2, rfl⟩ := bnd_inv h
      simp only [ret, R.ok.injEq] at h2
      obtain ⟨rfl, rfl⟩ := h2
      obtain ⟨a1, a2⟩ := says_number _ _ _ h1
      have e : pKind ⟨3, (u : Int), none0, []⟩ ++ pAttrs [] = 45 :: decDigits u := by simp [pKind, pAttrs, itoa_nonneg]
      simp only [e, Nat.add_zero, List.length_cons, a2]
      refine ⟨?_, by omega⟩
      rw [Nat.add_comm 1 i, List.drop_succ_cons, List.cons_append, ← a1]
    split at h
    · rename_i _ hk; subst hk
      obtain ⟨u, i, j, h1, h2, rfl⟩ := bnd_inv h
      obtain ⟨a, i2, j2, h3, h4, rfl⟩ := bnd_inv h2
      simp only [ret, R.ok.injEq] at h4
      obtain ⟨rfl, rfl⟩ := h4
      obtain ⟨a1, a2⟩ := says_number _ _ _ h1
      obtain ⟨b1, b2⟩ := says_opt _ _ _ h3
      have e : pKind ⟨1, (u : Int), none0, a⟩ ++ pAttrs a = 61 :: (decDigits u ++ pAttrs a) := by simp [pKind, itoa_nonneg]
      simp only [e, Nat.add_zero, List.length_cons, List.length_append, a2, b2]
      refine ⟨?_, by omega⟩
      rw [Nat.add_comm 1 (i + i2), List.drop_succ_cons, List.cons_append, List.append_assoc, ← List.drop_drop, ← b1, ← a1]
    · rename_i h45 h61
      obtain rfl : b = 43 := (hb.resolve_left h45).resolve_left h61
      obtain ⟨u, i, j, h1, h2, rfl⟩ := bnd_inv h
      obtain ⟨a, i2, j2, h3, h4, rfl⟩ := bnd_inv h2
      simp only [ret, R.ok.injEq] at h4
      obtain ⟨rfl, rfl⟩ := h4
      obtain ⟨a1, a2⟩ := says_quoted _ _ _ h1
      obtain ⟨b1, b2⟩ := says_opt _ _ _ h3
      have e : pKind ⟨2, 0, ba u, a⟩ ++ pAttrs a = 43 :: (qt u ++ pAttrs a) := by simp [pKind, data_ba]
      simp only [e, Nat.add_zero, List.length_cons, List.length_append, a2, b2]
      refine ⟨?_, by omega⟩
      rw [Nat.add_comm 1 (i + i2), List.drop_succ_cons, List.cons_append, List.append_assoc, ← List.drop_drop, ← b1, ← a1]
theorem says_ops (f : Nat) : Says (ops f) fun v => v.flatMap pOp := by
  induction f with
  | zero => intro l v n h; cases h
  | succ f ih =>
    intro l v n h
    unfold ops at h
    split at h
    · simp only [R.ok.injEq] at h
      obtain ⟨rfl, rfl⟩ := h
      exact ⟨rfl, rfl⟩
    · refine says_bnd (pq := fun _ v => (v.flatMap pOp).drop 1) (says_must 32) (fun _ => ?_) (fun l u i v j _ h2 => ?_) _ _ _ h
      · refine says_bnd (pp := fun o => pKind o ++ pAttrs o.attrs) (pq := fun _ v => (v.drop 1).flatMap pOp) says_op (fun a => ?_) fun l u i v j _ h2 => ?_
        · refine says_bnd (pp := fun v => v.flatMap pOp) (pq := fun _ _ => []) ih (fun r => says_ret _ rfl) fun l u i v j _ h2 => ?_
          simp only [ret, R.ok.injEq] at h2
          obtain ⟨rfl, rfl⟩ := h2
          simp
        · obtain ⟨_, _, _, _, h3, _⟩ := bnd_inv h2
          simp only [ret, R.ok.injEq] at h3
          obtain ⟨rfl, rfl⟩ := h3
          simp [pOp]
      · obtain ⟨_, _, _, _, h3, _⟩ := bnd_inv h2
        obtain ⟨_, _, _, _, h3, _⟩ := bnd_inv h3
        simp only [ret, R.ok.injEq] at h3
        obtain ⟨rfl, rfl⟩ := h3
        simp [pOp]
theorem says_change : Says change fun v => pCh v.1 v.2 := by
  refine says_bnd (pp := fun n => decDigits n) (pq := fun _ v => v.2.flatMap pOp) says_number (fun n => ?_) fun l u i v j _ h2 => ?_
  · refine says_bnd (pp := fun v => v.flatMap pOp) (pq := fun _ _ => []) (fun l v n h => says_ops _ _ _ _ h) (fun r => says_ret _ rfl) fun l u i v j _ h2 => ?_
    simp only [ret, R.ok.injEq] at h2
    obtain ⟨rfl, rfl⟩ := h2
    simp
  · obtain ⟨_, _, _, _, h3, _⟩ := bnd_inv h2
    simp only [ret, R.ok.injEq] at h3
    obtain ⟨rfl, rfl⟩ := h3
    simp [pCh, itoa_nonneg]

end Sp
end Go.Proofs.YtadookafnfnaoaaGreatDoor
