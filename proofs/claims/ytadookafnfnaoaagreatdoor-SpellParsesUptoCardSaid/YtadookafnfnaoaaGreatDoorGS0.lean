import Derived.WalkKit
import Derived.Shelf.Unicode.ValidAny
import Derived.Shelf.Strings.Builder1
import Derived.Shelf.Strings.BuilderF
import Derived.Shelf.Strings.BuilderK
import Derived.Shelf.Strconv.Atoi
import Derived.Shelf.Strconv.Itoa0
import Derived.Shelf.Strconv.Itoa1
import Derived.Shelf.LaysM
import Derived.Shelf.Strconv.Itoa2
import Derived.Shelf.Strconv.Itoa3
import Derived.Shelf.Strconv.Clone
import Derived.Shelf.Strconv.AtoiAll
import Derived.Shelf.Strings.Prefix
import Derived.Test.YtadookafnfnaoaaGreatDoorProg
import Derived.Lib.OthersKept
import Derived.WalkSpells
import Derived.WalkLawsBesides
/- Plain lists, no program: UTF-8 as the model decodes it, over a list of bytes; a text is a list of runes, and of no other list. -/
namespace Go.Proofs.YtadookafnfnaoaaGreatDoor
namespace Rn

/-- The model's decoding of the rune at the head of a list of bytes: by how many there are, and the first four. -/
def decN (n b0 b1 b2 b3 : Nat) : Nat × Nat :=
  if b0 < 128 then (b0, 1)
  else if b0 / 32 == 6 && (decide (1 < n) && b1 / 64 == 2) then
    if b0 % 32 * 64 + b1 % 64 ≥ 128 then (b0 % 32 * 64 + b1 % 64, 2) else (65533, 1)
  else if b0 / 16 == 14 && (decide (1 < n) && b1 / 64 == 2) && (decide (2 < n) && b2 / 64 == 2) then
    if decide (b0 % 16 * 4096 + b1 % 64 * 64 + b2 % 64 ≥ 2048) && Utf8.valid ((b0 % 16 * 4096 + b1 % 64 * 64 + b2 % 64 : Nat) : Int) then (b0 % 16 * 4096 + b1 % 64 * 64 + b2 % 64, 3) else (65533, 1)
  else if b0 / 8 == 30 && (decide (1 < n) && b1 / 64 == 2) && (decide (2 < n) && b2 / 64 == 2) && (decide (3 < n) && b3 / 64 == 2) then
    if decide (b0 % 8 * 262144 + b1 % 64 * 4096 + b2 % 64 * 64 + b3 % 64 ≥ 65536) && Utf8.valid ((b0 % 8 * 262144 + b1 % 64 * 4096 + b2 % 64 * 64 + b3 % 64 : Nat) : Int) then (b0 % 8 * 262144 + b1 % 64 * 4096 + b2 % 64 * 64 + b3 % 64, 4) else (65533, 1)
  else (65533, 1)
def dec (l : List UInt8) : Nat × Nat := decN l.length (l.getD 0 0).toNat (l.getD 1 0).toNat (l.getD 2 0).toNat (l.getD 3 0).toNat

theorem get_drop (s : ByteArray) (i k : Nat) : (s.get! (i + k)).toNat = ((s.data.toList.drop i).getD k 0).toNat := by
  have e : s.get! (i + k) = (s.data.toList.drop i).getD k 0 := by
    rw [List.getD_eq_getElem?_getD, List.getElem?_drop]
    show s.data[i + k]! = _
    rw [getElem!_def, Array.getElem?_toList]
    cases s.data[i + k]? <;> rfl
  rw [e]

theorem decode_eq (s : ByteArray) (i : Nat) : Utf8.decode s i = dec (s.data.toList.drop i) := by
  have hc : ∀ k, decide (i + k < s.size) = decide (k < (s.data.toList.drop i).length) := by
    intro k
    have : s.data.toList.length = s.size := by simp
    rw [List.length_drop, this]
    simp only [decide_eq_decide]
    omega
  unfold Utf8.decode dec decN
  simp only [get_drop, hc, Utf8.runeError]

/-- May a number be a rune? -/
def ok (c : Nat) : Prop := c < 55296 ∨ (57344 ≤ c ∧ c ≤ 1114111)
instance (c : Nat) : Decidable (ok c) := by unfold ok; infer_instance
theorem ok_valid (c : Nat) : Utf8.valid (c : Int) = decide (ok c) := by
  unfold Utf8.valid ok
  by_cases h : c < 55296 ∨ (57344 ≤ c ∧ c ≤ 1114111)
  · rw [decide_eq_true h]; simp; omega
  · rw [decide_eq_false h]; simp; omega

/-- A rune's bytes. -/
def enc (c : Nat) : List UInt8 :=
  if c < 128 then [UInt8.ofNat c]
  else if c < 2048 then [UInt8.ofNat (192 + c / 64), UInt8.ofNat (128 + c % 64)]
  else if c < 65536 then [UInt8.ofNat (224 + c / 4096), UInt8.ofNat (128 + c / 64 % 64), UInt8.ofNat (128 + c % 64)]
  else [UInt8.ofNat (240 + c / 262144), UInt8.ofNat (128 + c / 4096 % 64), UInt8.ofNat (128 + c / 64 % 64), UInt8.ofNat (128 + c % 64)]

theorem enc_pos (c : Nat) : 1 ≤ (enc c).length := by unfold enc; split <;> (try split) <;> (try split) <;> simp
theorem enc_le (c : Nat) : (enc c).length ≤ 4 := by unfold enc; split <;> (try split) <;> (try split) <;> simp

theorem byte_eq {n : Nat} {b : UInt8} (h : n = b.toNat) : UInt8.ofNat n = b := by
  subst h; simp

theorem dec_enc (c : Nat) (h : ok c) (r : List UInt8) : dec (enc c ++ r) = (c, (enc c).length) := by
  have hv := ok_valid c
  rw [decide_eq_true h] at hv
  unfold ok at h
  unfold enc
  split
  · rename_i h1
    have e1 : c % 256 = c := by omega
    simp [dec, decN, e1, h1]
  · split
    · rename_i h1 h2
      have e1 : (192 + c / 64) % 256 = 192 + c / 64 := by omega
      have e2 : (128 + c % 64) % 256 = 128 + c % 64 := by omega
      have a1 : ¬ (192 + c / 64 < 128) := by omega
      have a2 : (192 + c / 64) / 32 = 6 := by omega
      have a3 : (128 + c % 64) / 64 = 2 := by omega
      have a4 : (192 + c / 64) % 32 * 64 + (128 + c % 64) % 64 = c := by omega
      have a5 : 128 ≤ c := by omega
      simp only [dec, decN, List.cons_append, List.nil_append, List.getD_cons_zero, List.getD_cons_succ, UInt8.toNat_ofNat', List.length_cons]
      simp only [show (2 : Nat) ^ 8 = 256 from rfl, e1, e2, a1, if_false, a2, a3, a4, beq_self_eq_true, Bool.and_true]
      simp [a5]
    · split
      · rename_i h1 h2 h3
        have e1 : (224 + c / 4096) % 256 = 224 + c / 4096 := by omega
        have e2 : (128 + c / 64 % 64) % 256 = 128 + c / 64 % 64 := by omega
        have e3 : (128 + c % 64) % 256 = 128 + c % 64 := by omega
        have a1 : ¬ (224 + c / 4096 < 128) := by omega
        have a0 : ¬ ((224 + c / 4096) / 32 = 6) := by omega
        have a2 : (224 + c / 4096) / 16 = 14 := by omega
        have a3 : (128 + c / 64 % 64) / 64 = 2 := by omega
        have a3' : (128 + c % 64) / 64 = 2 := by omega
        have a4 : (224 + c / 4096) % 16 * 4096 + (128 + c / 64 % 64) % 64 * 64 + (128 + c % 64) % 64 = c := by omega
        have a5 : 2048 ≤ c := by omega
        simp only [dec, decN, List.cons_append, List.nil_append, List.getD_cons_zero, List.getD_cons_succ, UInt8.toNat_ofNat', List.length_cons]
        simp only [show (2 : Nat) ^ 8 = 256 from rfl, e1, e2, e3, a1, if_false, a2, a3, a3', a4, beq_self_eq_true, Bool.and_true]
        simp [a5, hv, a0]
      · rename_i h1 h2 h3
        have e1 : (240 + c / 262144) % 256 = 240 + c / 262144 := by omega
        have e2 : (128 + c / 4096 % 64) % 256 = 128 + c / 4096 % 64 := by omega
        have e3 : (128 + c / 64 % 64) % 256 = 128 + c / 64 % 64 := by omega
        have e4 : (128 + c % 64) % 256 = 128 + c % 64 := by omega
        have a1 : ¬ (240 + c / 262144 < 128) := by omega
        have a0 : ¬ ((240 + c / 262144) / 32 = 6) := by omega
        have a0' : ¬ ((240 + c / 262144) / 16 = 14) := by omega
        have a2 : (240 + c / 262144) / 8 = 30 := by omega
        have a3 : (128 + c / 4096 % 64) / 64 = 2 := by omega
        have a3' : (128 + c / 64 % 64) / 64 = 2 := by omega
        have a3'' : (128 + c % 64) / 64 = 2 := by omega
        have a4 : (240 + c / 262144) % 8 * 262144 + (128 + c / 4096 % 64) % 64 * 4096 + (128 + c / 64 % 64) % 64 * 64 + (128 + c % 64) % 64 = c := by omega
        have a5 : 65536 ≤ c := by omega
        simp only [dec, decN, List.cons_append, List.nil_append, List.getD_cons_zero, List.getD_cons_succ, UInt8.toNat_ofNat', List.length_cons]
        simp only [show (2 : Nat) ^ 8 = 256 from rfl, e1, e2, e3, e4, a1, if_false, a2, a3, a3', a3'', a4, beq_self_eq_true, Bool.and_true]
        simp [a5, hv, a0, a0']

/-- What stands at the head: no rune, or a rune's own bytes. -/
theorem dec_cases (l : List UInt8) (h : l ≠ []) : dec l = (65533, 1) ∨ (ok (dec l).1 ∧ (dec l).2 = (enc (dec l).1).length ∧ l = enc (dec l).1 ++ l.drop (dec l).2) := by
  have hb : ∀ k, (l.getD k 0).toNat < 256 := fun k => UInt8.toNat_lt _
  have hdrop : ∀ n, n ≤ l.length → l = l.take n ++ l.drop n := fun n _ => (List.take_append_drop n l).symm
  have ht : ∀ k, k < l.length → l.drop k = l.getD k 0 :: l.drop (k + 1) := by
    intro k hk
    rw [List.drop_eq_getElem_cons hk, List.getD_eq_getElem?_getD, List.getElem?_eq_getElem hk]; rfl
  have hpos : 0 < l.length := List.length_pos_iff.2 h
  have h0 := hb 0; have h1 := hb 1; have h2 := hb 2; have h3 := hb 3
  unfold dec decN
  generalize g0 : (l.getD 0 0) = b0 at *
  generalize g1 : (l.getD 1 0) = b1 at *
  generalize g2 : (l.getD 2 0) = b2 at *
  generalize g3 : (l.getD 3 0) = b3 at *
  by_cases c0 : b0.toNat < 128
  · right
    rw [if_pos c0]
    have e : enc b0.toNat = [b0] := by unfold enc; rw [if_pos c0]; simp
    refine ⟨Or.inl (by simp only; omega), by rw [e]; rfl, ?_⟩
    rw [e]
    have := ht 0 hpos
    rw [g0] at this
    simpa using this
  rw [if_neg c0]
  by_cases c1 : (b0.toNat / 32 == 6 && (decide (1 < l.length) && b1.toNat / 64 == 2)) = true
  · rw [if_pos c1]
    simp only [Bool.and_eq_true, beq_iff_eq, decide_eq_true_eq] at c1
    by_cases c2 : b0.toNat % 32 * 64 + b1.toNat % 64 ≥ 128
    · right
      rw [if_pos c2]
      have e : enc (b0.toNat % 32 * 64 + b1.toNat % 64) = [b0, b1] := by
        unfold enc
        rw [if_neg (by omega), if_pos (by omega)]
        rw [byte_eq (n := 192 + (b0.toNat % 32 * 64 + b1.toNat % 64) / 64) (b := b0) (by omega), byte_eq (n := 128 + (b0.toNat % 32 * 64 + b1.toNat % 64) % 64) (b := b1) (by omega)]
      refine ⟨Or.inl (by simp only; omega), by rw [e]; rfl, ?_⟩
      rw [e]
      have t0 := ht 0 hpos
      have t1 := ht 1 c1.2.1
      rw [g0, List.drop_zero] at t0
      rw [g1] at t1
      rw [t1] at t0
      exact t0
    · left; rw [if_neg c2]
  rw [if_neg c1]
  by_cases c1' : (b0.toNat / 16 == 14 && (decide (1 < l.length) && b1.toNat / 64 == 2) && (decide (2 < l.length) && b2.toNat / 64 == 2)) = true
  · rw [if_pos c1']
    simp only [Bool.and_eq_true, beq_iff_eq, decide_eq_true_eq] at c1'
    obtain ⟨⟨d0, d1, d2⟩, d3, d4⟩ := c1'
    by_cases c2 : (decide (b0.toNat % 16 * 4096 + b1.toNat % 64 * 64 + b2.toNat % 64 ≥ 2048) && Utf8.valid ((b0.toNat % 16 * 4096 + b1.toNat % 64 * 64 + b2.toNat % 64 : Nat) : Int)) = true
    · right
      rw [if_pos c2]
      rw [ok_valid] at c2
      simp only [Bool.and_eq_true, decide_eq_true_eq] at c2
      have e : enc (b0.toNat % 16 * 4096 + b1.toNat % 64 * 64 + b2.toNat % 64) = [b0, b1, b2] := by
        unfold enc
        rw [if_neg (by omega), if_neg (by omega), if_pos (by omega)]
        rw [byte_eq (n := 224 + (b0.toNat % 16 * 4096 + b1.toNat % 64 * 64 + b2.toNat % 64) / 4096) (b := b0) (by omega), byte_eq (n := 128 + (b0.toNat % 16 * 4096 + b1.toNat % 64 * 64 + b2.toNat % 64) / 64 % 64) (b := b1) (by omega), byte_eq (n := 128 + (b0.toNat % 16 * 4096 + b1.toNat % 64 * 64 + b2.toNat % 64) % 64) (b := b2) (by omega)]
      refine ⟨c2.2, by rw [e]; rfl, ?_⟩
      rw [e]
      have t0 := ht 0 hpos
      have t1 := ht 1 d1
      have t2 := ht 2 d3
      rw [g0, List.drop_zero] at t0
      rw [g1] at t1
      rw [g2] at t2
      rw [t1, t2] at t0
      exact t0
    · left; rw [if_neg c2]
  rw [if_neg c1']
  by_cases c1'' : (b0.toNat / 8 == 30 && (decide (1 < l.length) && b1.toNat / 64 == 2) && (decide (2 < l.length) && b2.toNat / 64 == 2) && (decide (3 < l.length) && b3.toNat / 64 == 2)) = true
  · rw [if_pos c1'']
    simp only [Bool.and_eq_true, beq_iff_eq, decide_eq_true_eq] at c1''
    obtain ⟨⟨⟨d0, d1, d2⟩, d3, d4⟩, d5, d6⟩ := c1''
    by_cases c2 : (decide (b0.toNat % 8 * 262144 + b1.toNat % 64 * 4096 + b2.toNat % 64 * 64 + b3.toNat % 64 ≥ 65536) && Utf8.valid ((b0.toNat % 8 * 262144 + b1.toNat % 64 * 4096 + b2.toNat % 64 * 64 + b3.toNat % 64 : Nat) : Int)) = true
    · right
      rw [if_pos c2]
      rw [ok_valid] at c2
      simp only [Bool.and_eq_true, decide_eq_true_eq] at c2
      have e : enc (b0.toNat % 8 * 262144 + b1.toNat % 64 * 4096 + b2.toNat % 64 * 64 + b3.toNat % 64) = [b0, b1, b2, b3] := by
        unfold enc
        rw [if_neg (by omega), if_neg (by omega), if_neg (by omega)]
        rw [byte_eq (n := 240 + (b0.toNat % 8 * 262144 + b1.toNat % 64 * 4096 + b2.toNat % 64 * 64 + b3.toNat % 64) / 262144) (b := b0) (by omega), byte_eq (n := 128 + (b0.toNat % 8 * 262144 + b1.toNat % 64 * 4096 + b2.toNat % 64 * 64 + b3.toNat % 64) / 4096 % 64) (b := b1) (by omega), byte_eq (n := 128 + (b0.toNat % 8 * 262144 + b1.toNat % 64 * 4096 + b2.toNat % 64 * 64 + b3.toNat % 64) / 64 % 64) (b := b2) (by omega), byte_eq (n := 128 + (b0.toNat % 8 * 262144 + b1.toNat % 64 * 4096 + b2.toNat % 64 * 64 + b3.toNat % 64) % 64) (b := b3) (by omega)]
      refine ⟨c2.2, by rw [e]; rfl, ?_⟩
      rw [e]
      have t0 := ht 0 hpos
      have t1 := ht 1 d1
      have t2 := ht 2 d3
      have t3 := ht 3 d5
      rw [g0, List.drop_zero] at t0
      rw [g1] at t1
      rw [g2] at t2
      rw [g3] at t3
      rw [t1, t2, t3] at t0
      exact t0
    · left; rw [if_neg c2]
  · left; rw [if_neg c1'']

/-- A text out of runes. -/
def txt (cs : List Nat) : List UInt8 := cs.flatMap enc
def allOk (cs : List Nat) : Prop := ∀ c ∈ cs, ok c
theorem txt_nil : txt [] = [] := rfl
theorem txt_cons (c : Nat) (cs : List Nat) : txt (c :: cs) = enc c ++ txt cs := rfl
theorem txt_append (a b : List Nat) : txt (a ++ b) = txt a ++ txt b := by simp [txt]
theorem txt_len (cs : List Nat) : cs.length ≤ (txt cs).length ∧ (txt cs).length ≤ 4 * cs.length := by
  induction cs with
  | nil => simp [txt]
  | cons c cs ih =>
    have := enc_pos c; have := enc_le c
    rw [txt_cons, List.length_append, List.length_cons]; omega

/-- The runes of a list of bytes, if it is a text of whatever length. -/
def runesF : Nat → List UInt8 → Option (List Nat)
  | _, [] => some []
  | 0, _ :: _ => none
  | f + 1, b :: r => if dec (b :: r) = (65533, 1) then none else (runesF f ((b :: r).drop (dec (b :: r)).2)).map ((dec (b :: r)).1 :: ·)
def runes (l : List UInt8) : Option (List Nat) := runesF l.length l

theorem runesF_txt (cs : List Nat) (h : allOk cs) (f : Nat) (hf : (txt cs).length ≤ f) : runesF f (txt cs) = some cs := by
  induction cs generalizing f with
  | nil => cases f <;> rfl
  | cons c cs ih =>
    have hc : ok c := h c (by simp)
    have hd := dec_enc c hc (txt cs)
    have hp := enc_pos c
    rw [txt_cons] at hf ⊢
    rw [List.length_append] at hf
    match f, hf with
    | 0, hf => omega
    | f + 1, hf =>
      match he : enc c, hp with
      | b :: e, _ =>
        rw [he] at hd hf
        rw [List.cons_append] at hd ⊢
        rw [runesF, hd]
        have hne : (c, (b :: e).length) ≠ (65533, 1) := by
          intro hh
          simp only [Prod.mk.injEq] at hh
          obtain ⟨rfl, hh⟩ := hh
          have : (enc 65533).length = 3 := by decide
          rw [he] at this
          omega
        rw [if_neg hne]
        simp only
        rw [← List.cons_append, List.drop_left, ih (fun x hx => h x (by simp [hx])) f (by simp only [List.length_cons] at hf; omega)]
        rfl
theorem runes_txt (cs : List Nat) (h : allOk cs) : runes (txt cs) = some cs := runesF_txt cs h _ (Nat.le_refl _)

theorem runesF_some (f : Nat) (l : List UInt8) (cs : List Nat) (h : runesF f l = some cs) : allOk cs ∧ l = txt cs := by
  induction f generalizing l cs with
  | zero => cases l with
    | nil => simp [runesF] at h; subst h; exact ⟨fun _ h => by simp at h, rfl⟩
    | cons b r => simp [runesF] at h
  | succ f ih => cases l with
    | nil => simp [runesF] at h; subst h; exact ⟨fun _ h => by simp at h, rfl⟩
    | cons b r =>
      rw [runesF] at h
      split at h
      · cases h
      · rename_i hn
        rcases dec_cases (b :: r) (by simp) with hb | ⟨h1, h2, h3⟩
        · exact absurd hb hn
        · cases hr : runesF f ((b :: r).drop (dec (b :: r)).2) with
          | none => rw [hr] at h; cases h
          | some ds =>
            rw [hr] at h
            simp only [Option.map_some, Option.some.injEq] at h
            subst h
            obtain ⟨i1, i2⟩ := ih _ _ hr
            refine ⟨?_, ?_⟩
            · intro c hc
              rcases List.mem_cons.1 hc with rfl | hc
              · exact h1
              · exact i1 c hc
            · rw [txt_cons, ← i2]; exact h3
theorem runes_some {l : List UInt8} {cs : List Nat} (h : runes l = some cs) : allOk cs ∧ l = txt cs := runesF_some _ _ _ h

/-- Behind the runes that were read: what is left decides. -/
theorem runes_append (a : List Nat) (ha : allOk a) (r : List UInt8) : runes (txt a ++ r) = (runes r).map (a ++ ·) := by
  cases hr : runes r with
  | some cs =>
    obtain ⟨h1, rfl⟩ := runes_some hr
    rw [← txt_append, runes_txt _ (fun c hc => by rcases List.mem_append.1 hc with h | h; exact ha c h; exact h1 c h)]
    rfl
  | none =>
    cases hs : runes (txt a ++ r) with
    | none => rfl
    | some cs =>
      exfalso
      obtain ⟨h1, h2⟩ := runes_some hs
      -- the runes of the whole begin with a's
      have key : ∀ (a cs : List Nat), allOk a → allOk cs → ∀ r, txt a ++ r = txt cs → ∃ ds, allOk ds ∧ r = txt ds := by
        intro a
        induction a with
        | nil => intro cs _ h r e; exact ⟨cs, h, e⟩
        | cons c a ih =>
          intro cs ha h r e
          cases cs with
          | nil =>
            have hp := enc_pos c
            have e2 := congrArg List.length e
            rw [txt_cons, txt_nil, List.length_append, List.length_append, List.length_nil] at e2
            omega
          | cons d cs =>
            rw [txt_cons, txt_cons, List.append_assoc] at e
            have e1 := dec_enc c (ha c (by simp)) (txt a ++ r)
            have e2 := dec_enc d (h d (by simp)) (txt cs)
            rw [e, e2] at e1
            simp only [Prod.mk.injEq] at e1
            obtain ⟨rfl, _⟩ := e1
            exact ih cs (fun x hx => ha x (by simp [hx])) (fun x hx => h x (by simp [hx])) r (List.append_cancel_left e)
      obtain ⟨ds, hd, rfl⟩ := key a cs ha h1 r h2
      rw [runes_txt ds hd] at hr
      cases hr

theorem runes_bad (l : List UInt8) (h : l ≠ []) (hb : dec l = (65533, 1)) : runes l = none := by
  cases l with
  | nil => exact absurd rfl h
  | cons b r => unfold runes; rw [List.length_cons, runesF, if_pos hb]

/-- A text of at most so many runes as the document lets: its runes. -/
def rd (l : List UInt8) : Option (List Nat) := match runes l with
  | some cs => if cs.length ≤ 20000 then some cs else none
  | none => none
theorem rd_txt (cs : List Nat) (h : allOk cs) (hn : cs.length ≤ 20000) : rd (txt cs) = some cs := by unfold rd; rw [runes_txt cs h]; simp [hn]
theorem rd_some {l : List UInt8} {cs : List Nat} (h : rd l = some cs) : allOk cs ∧ l = txt cs ∧ cs.length ≤ 20000 := by
  unfold rd at h
  cases hr : runes l with
  | none => rw [hr] at h; cases h
  | some ds =>
    rw [hr] at h
    simp only at h
    split at h
    · simp only [Option.some.injEq] at h; subst h
      obtain ⟨h1, h2⟩ := runes_some hr
      exact ⟨h1, h2, ‹_›⟩
    · cases h

/-- The bytes EF BF BD, which stand for 'no rune' where they are asked for. -/
theorem bad_iff (l : List UInt8) (h : l ≠ []) : dec l = (65533, 1) ↔ ((dec l).1 = 65533 ∧ ([239, 191, 189] : List UInt8).isPrefixOf l = false) := by
  constructor
  · intro hb
    refine ⟨by rw [hb], ?_⟩
    cases hp : ([239, 191, 189] : List UInt8).isPrefixOf l with
    | false => rfl
    | true =>
      exfalso
      obtain ⟨r, rfl⟩ := List.isPrefixOf_iff_prefix.1 hp
      have := dec_enc 65533 (by unfold ok; omega) r
      have e : enc 65533 = [239, 191, 189] := by decide
      rw [e, hb] at this
      simp at this
  · intro ⟨h1, h2⟩
    rcases dec_cases l h with hb | ⟨_, _, h3⟩
    · exact hb
    · exfalso
      rw [h1] at h3
      have e : enc 65533 = [239, 191, 189] := by decide
      rw [e] at h3
      have : ([239, 191, 189] : List UInt8).isPrefixOf l = true := List.isPrefixOf_iff_prefix.2 ⟨_, h3.symm⟩
      rw [this] at h2
      cases h2

/-- A text as the program holds it. -/
def T (cs : List Nat) : ByteArray := ⟨(txt cs).toArray⟩
theorem T_size (cs : List Nat) : (T cs).size = (txt cs).length := by simp [T, ByteArray.size]
theorem ba_ext {s : ByteArray} {l : List UInt8} (h : s.data.toList = l) : s = ⟨l.toArray⟩ := by subst h; cases s; simp
theorem rd_T {s : ByteArray} {cs : List Nat} (h : rd s.data.toList = some cs) : s = T cs := ba_ext (rd_some h).2.1
end Rn
end Go.Proofs.YtadookafnfnaoaaGreatDoor
/- The library's contracts that this seat's walks use, laid at this dump. -/
namespace Go.Proofs
open Go.Shelf
def Tryz.lays170_ren : Go.Shelf.Ren := ⟨fun | 170 => 34 | n => n, fun | 70 => 56 | 3 => 3 | 0 => 0 | 72 => 59 | 37 => 57 | 5 => 5 | n => n, fun | n => n⟩
theorem Tryz.lays170 : Go.Proofs.Lays.n170 Tryz.prog Tryz.lays170_ren := {
  mixed := by kernel_rfl
  f170 := Tryz.func34.trans (congrArg some (by kernel_rfl))
  t0 := Tryz.underlying0
  a0 := Tryz.isAgg0
  z0 := Tryz.sizeOf0
  v0 := Tryz.zeroValue0
  t3 := Tryz.underlying3
  a3 := Tryz.isAgg3
  z3 := Tryz.sizeOf3
  v3 := Tryz.zeroValue3
  t37 := Tryz.underlying57
  a37 := Tryz.isAgg57
  z37 := Tryz.sizeOf57
  v37 := Tryz.zeroValue57
  t70 := Tryz.underlying56
  a70 := Tryz.isAgg56
  z70 := Tryz.sizeOf56
  v70 := Tryz.zeroValue56
  t72 := Tryz.underlying59
  a72 := Tryz.isAgg59
  z72 := Tryz.sizeOf59
  v72 := Tryz.zeroValue59 }
def Tryz.lays169_ren : Go.Shelf.Ren := ⟨fun | 169 => 35 | n => n, fun | 70 => 56 | 9 => 9 | 0 => 0 | 72 => 59 | 37 => 57 | 127 => 95 | 3 => 3 | 5 => 5 | n => n, fun | n => n⟩
theorem Tryz.lays169 : Go.Proofs.Lays.n169 Tryz.prog Tryz.lays169_ren := {
  mixed := by kernel_rfl
  f169 := Tryz.func35.trans (congrArg some (by kernel_rfl))
  t0 := Tryz.underlying0
  a0 := Tryz.isAgg0
  z0 := Tryz.sizeOf0
  v0 := Tryz.zeroValue0
  t3 := Tryz.underlying3
  a3 := Tryz.isAgg3
  z3 := Tryz.sizeOf3
  v3 := Tryz.zeroValue3
  t9 := Tryz.underlying9
  a9 := Tryz.isAgg9
  z9 := Tryz.sizeOf9
  v9 := Tryz.zeroValue9
  t37 := Tryz.underlying57
  a37 := Tryz.isAgg57
  z37 := Tryz.sizeOf57
  v37 := Tryz.zeroValue57
  t70 := Tryz.underlying56
  a70 := Tryz.isAgg56
  z70 := Tryz.sizeOf56
  v70 := Tryz.zeroValue56
  t72 := Tryz.underlying59
  a72 := Tryz.isAgg59
  z72 := Tryz.sizeOf59
  v72 := Tryz.zeroValue59
  t127 := Tryz.underlying95
  a127 := Tryz.isAgg95
  z127 := Tryz.sizeOf95
  v127 := Tryz.zeroValue95 }
theorem Tryz.Builder_Extra_169 : Builder.Extra Tryz.prog Tryz.lays169_ren := {
  sizeBuilder := by kernel_rfl
  liesBuilder := by kernel_rfl
  t5 := Tryz.underlying5
  a5 := Tryz.isAgg5
  z5 := Tryz.sizeOf5
  v5 := Tryz.zeroValue5
  infoByte := by kernel_rfl
  cellsByte := by kernel_rfl
  sizeByte := by kernel_rfl
  neB5 := by decide }
open Go.RowKit in
theorem Tryz.Builder_Len_f (B b : Nat) (bs : List Value) (w : World) (h : Lib.IsBuilderF 59 5 B b bs w) :
    Calls Tryz.prog 34 #[.pointer (some ⟨b, 0, none⟩)] w fun e w' => e = .returned (.int .i64 bs.length) ∧ w' = w := Any.Builder_Len_f Tryz.lays170 B b bs w h
open Go.RowKit in
theorem Tryz.Builder_String_any_k (B b : Nat) (l : List UInt8) (w : World) (h : Lib.IsBuilderF 59 5 B b (Lib.byteCells l) w) (hBw : B ≤ w.heap.size) :
    Calls Tryz.prog 35 #[.pointer (some ⟨b, 0, none⟩)] w fun e w' => e = .returned (.string ⟨l.toArray⟩) ∧ (Lib.IsBuilderF 59 5 B b (Lib.byteCells l) w' ∧ Below B w w' ∧ Lib.OthersKept 5 (some b) w w') := Any.Builder_String_any_k Tryz.lays169 Tryz.Builder_Extra_169 B b l w h hBw
def Tryz.laysM171_ren : Go.Shelf.Ren := ⟨fun | 171 => 32 | 243 => 60 | 246 => 89 | 283 => 106 | 284 => 107 | 285 => 108 | 286 => 109 | 129 => 120 | 317 => 119 | 318 => 121 | 319 => 122 | 320 => 123 | 337 => 134 | 338 => 135 | n => n, fun | 3 => 3 | 9 => 9 | 2 => 2 | 4 => 4 | 171 => 127 | 0 => 0 | 53 => 122 | 37 => 57 | 5 => 5 | 173 => 130 | 212 => 136 | 51 => 137 | 20 => 20 | 213 => 138 | 46 => 101 | 232 => 155 | 233 => 156 | n => n, fun | 17 => 2 | 18 => 5 | 19 => 6 | n => n⟩
theorem Tryz.laysM171 : Go.Proofs.LaysM.n171 Tryz.prog Tryz.laysM171_ren := {
  mixed := by kernel_rfl
  f129 := Tryz.func120.trans (congrArg some (by kernel_rfl))
  f171 := Tryz.func32.trans (congrArg some (by kernel_rfl))
  f243 := Tryz.func60.trans (congrArg some (by kernel_rfl))
  f246 := Tryz.func89.trans (congrArg some (by kernel_rfl))
  f283 := Tryz.func106.trans (congrArg some (by kernel_rfl))
  f284 := Tryz.func107.trans (congrArg some (by kernel_rfl))
  f285 := Tryz.func108.trans (congrArg some (by kernel_rfl))
  f286 := Tryz.func109.trans (congrArg some (by kernel_rfl))
  f317 := Tryz.func119.trans (congrArg some (by kernel_rfl))
  f318 := Tryz.func121.trans (congrArg some (by kernel_rfl))
  f319 := Tryz.func122.trans (congrArg some (by kernel_rfl))
  f320 := Tryz.func123.trans (congrArg some (by kernel_rfl))
  f337 := Tryz.func134.trans (congrArg some (by kernel_rfl))
  f338 := Tryz.func135.trans (congrArg some (by kernel_rfl))
  t0 := Tryz.underlying0
  a0 := Tryz.isAgg0
  z0 := Tryz.sizeOf0
  v0 := Tryz.zeroValue0
  t2 := Tryz.underlying2
  a2 := Tryz.isAgg2
  z2 := Tryz.sizeOf2
  v2 := Tryz.zeroValue2
  t3 := Tryz.underlying3
  a3 := Tryz.isAgg3
  z3 := Tryz.sizeOf3
  v3 := Tryz.zeroValue3
  t4 := Tryz.underlying4
  a4 := Tryz.isAgg4
  z4 := Tryz.sizeOf4
  v4 := Tryz.zeroValue4
  t5 := Tryz.underlying5
  a5 := Tryz.isAgg5
  z5 := Tryz.sizeOf5
  v5 := Tryz.zeroValue5
  t9 := Tryz.underlying9
  a9 := Tryz.isAgg9
  z9 := Tryz.sizeOf9
  v9 := Tryz.zeroValue9
  t20 := Tryz.underlying20
  a20 := Tryz.isAgg20
  z20 := Tryz.sizeOf20
  v20 := Tryz.zeroValue20
  t37 := Tryz.underlying57
  a37 := Tryz.isAgg57
  z37 := Tryz.sizeOf57
  v37 := Tryz.zeroValue57
  t46 := Tryz.underlying101
  a46 := Tryz.isAgg101
  z46 := Tryz.sizeOf101
  v46 := Tryz.zeroValue101
  t51 := Tryz.underlying137
  a51 := Tryz.isAgg137
  z51 := Tryz.sizeOf137
  v51 := Tryz.zeroValue137
  t53 := Tryz.underlying122
  a53 := Tryz.isAgg122
  z53 := Tryz.sizeOf122
  v53 := Tryz.zeroValue122
  t171 := Tryz.underlying127
  a171 := Tryz.isAgg127
  z171 := Tryz.sizeOf127
  v171 := Tryz.zeroValue127
  t173 := Tryz.underlying130
  a173 := Tryz.isAgg130
  z173 := Tryz.sizeOf130
  v173 := Tryz.zeroValue130
  t212 := Tryz.underlying136
  a212 := Tryz.isAgg136
  z212 := Tryz.sizeOf136
  v212 := Tryz.zeroValue136
  t213 := Tryz.underlying138
  a213 := Tryz.isAgg138
  z213 := Tryz.sizeOf138
  t232 := Tryz.underlying155
  a232 := Tryz.isAgg155
  z232 := Tryz.sizeOf155
  v232 := Tryz.zeroValue155
  t233 := Tryz.underlying156
  a233 := Tryz.isAgg156
  z233 := Tryz.sizeOf156
  v233 := Tryz.zeroValue156
  g17 := by kernel_rfl
  g18 := by kernel_rfl
  g19 := by kernel_rfl
  i0 := by kernel_rfl
  i2 := by kernel_rfl
  i3 := by kernel_rfl
  i4 := by kernel_rfl
  i5 := by kernel_rfl
  i9 := by kernel_rfl
  i20 := by kernel_rfl
  i37 := by kernel_rfl
  i46 := by kernel_rfl
  i51 := by kernel_rfl
  i53 := by kernel_rfl
  i171 := by kernel_rfl
  i173 := by kernel_rfl
  i212 := by kernel_rfl
  i232 := by kernel_rfl
  i233 := by kernel_rfl
  m17 := by kernel_rfl
  m18 := by kernel_rfl
  m19 := by kernel_rfl }
open Go.RowKit Go.Sort Go.Lib in
theorem Tryz.strconv_Itoa (n : Int) (h0 : -9223372036854775808 ≤ n) (h1 : n ≤ 9223372036854775807) (w : World) (htab : Lib.TabIs Tryz.prog w "internal/strconv.uint64pow10" .u64 Lib.pow10Tab) :
    Calls Tryz.prog 32 #[.int .i64 n] w fun e w' => e = .returned (.string ⟨(Lib.itoa n).toArray⟩) ∧ ∃ k os, w' = grow (w.drewN k) os := Any.strconv_Itoa Tryz.laysM171 n h0 h1 w htab
def Tryz.laysM316_ren : Go.Shelf.Ren := ⟨fun | 316 => 133 | n => n, fun | 9 => 9 | 3 => 3 | 4 => 4 | 37 => 57 | 0 => 0 | 127 => 95 | 5 => 5 | n => n, fun | n => n⟩
theorem Tryz.laysM316 : Go.Proofs.LaysM.n316 Tryz.prog Tryz.laysM316_ren := {
  mixed := by kernel_rfl
  f316 := Tryz.func133.trans (congrArg some (by kernel_rfl))
  t0 := Tryz.underlying0
  a0 := Tryz.isAgg0
  z0 := Tryz.sizeOf0
  v0 := Tryz.zeroValue0
  t3 := Tryz.underlying3
  a3 := Tryz.isAgg3
  z3 := Tryz.sizeOf3
  v3 := Tryz.zeroValue3
  t4 := Tryz.underlying4
  a4 := Tryz.isAgg4
  z4 := Tryz.sizeOf4
  v4 := Tryz.zeroValue4
  t9 := Tryz.underlying9
  a9 := Tryz.isAgg9
  z9 := Tryz.sizeOf9
  v9 := Tryz.zeroValue9
  t37 := Tryz.underlying57
  a37 := Tryz.isAgg57
  z37 := Tryz.sizeOf57
  v37 := Tryz.zeroValue57
  t127 := Tryz.underlying95
  a127 := Tryz.isAgg95
  z127 := Tryz.sizeOf95
  v127 := Tryz.zeroValue95
  t5 := Tryz.underlying5
  a5 := Tryz.isAgg5
  z5 := Tryz.sizeOf5
  v5 := Tryz.zeroValue5
  i0 := by kernel_rfl
  i3 := by kernel_rfl
  i4 := by kernel_rfl
  i5 := by kernel_rfl
  i9 := by kernel_rfl
  i37 := by kernel_rfl
  i127 := by kernel_rfl }
open Go.RowKit in
theorem Tryz.stringslite_Clone (s : ByteArray) (w : World) (hlim : s.size ≤ 281474976710656) :
    Calls Tryz.prog 133 #[.string s] w fun e w' => e = .returned (.string s) ∧ Below w.heap.size w w' := Any.stringslite_Clone Tryz.laysM316 s w hlim
def Tryz.laysC172_ren : Go.Shelf.Ren := ⟨fun | 172 => 96 | 244 => 111 | 245 => 112 | 247 => 124 | 279 => 125 | 280 => 126 | 281 => 127 | 282 => 128 | 287 => 136 | 316 => 133 | 171 => 32 | 205 => 137 | 321 => 141 | 322 => 142 | 243 => 60 | 246 => 89 | 283 => 106 | 284 => 107 | 285 => 108 | 286 => 109 | 129 => 120 | 317 => 119 | 318 => 121 | 319 => 122 | 320 => 123 | 337 => 134 | 338 => 135 | n => n, fun | 9 => 9 | 3 => 3 | 75 => 61 | 76 => 62 | 4 => 4 | 5 => 5 | 167 => 141 | 37 => 57 | 0 => 0 | 85 => 142 | 2 => 2 | 168 => 144 | 53 => 122 | 175 => 149 | 46 => 101 | 210 => 152 | 127 => 95 | 145 => 160 | 143 => 158 | 21 => 21 | 171 => 127 | 173 => 130 | 212 => 136 | 51 => 137 | 20 => 20 | 213 => 138 | 232 => 155 | 233 => 156 | 80 => 67 | n => n, fun | 15 => 3 | 16 => 4 | 17 => 2 | 18 => 5 | 19 => 6 | n => n⟩
theorem Tryz.laysC172 : Go.Proofs.LaysC.n172 Tryz.prog Tryz.laysC172_ren := {
  mixed := by kernel_rfl
  f129 := Tryz.func120.trans (congrArg some (by kernel_rfl))
  f171 := Tryz.func32.trans (congrArg some (by kernel_rfl))
  f172 := Tryz.func96.trans (congrArg some (by kernel_rfl))
  f205 := Tryz.func137.trans (congrArg some (by kernel_rfl))
  f243 := Tryz.func60.trans (congrArg some (by kernel_rfl))
  f244 := Tryz.func111.trans (congrArg some (by kernel_rfl))
  f245 := Tryz.func112.trans (congrArg some (by kernel_rfl))
  f246 := Tryz.func89.trans (congrArg some (by kernel_rfl))
  f247 := Tryz.func124.trans (congrArg some (by kernel_rfl))
  f279 := Tryz.func125.trans (congrArg some (by kernel_rfl))
  f280 := Tryz.func126.trans (congrArg some (by kernel_rfl))
  f281 := Tryz.func127.trans (congrArg some (by kernel_rfl))
  f282 := Tryz.func128.trans (congrArg some (by kernel_rfl))
  f283 := Tryz.func106.trans (congrArg some (by kernel_rfl))
  f284 := Tryz.func107.trans (congrArg some (by kernel_rfl))
  f285 := Tryz.func108.trans (congrArg some (by kernel_rfl))
  f286 := Tryz.func109.trans (congrArg some (by kernel_rfl))
  f287 := Tryz.func136.trans (congrArg some (by kernel_rfl))
  f316 := Tryz.func133.trans (congrArg some (by kernel_rfl))
  f317 := Tryz.func119.trans (congrArg some (by kernel_rfl))
  f318 := Tryz.func121.trans (congrArg some (by kernel_rfl))
  f319 := Tryz.func122.trans (congrArg some (by kernel_rfl))
  f320 := Tryz.func123.trans (congrArg some (by kernel_rfl))
  f321 := Tryz.func141.trans (congrArg some (by kernel_rfl))
  f322 := Tryz.func142.trans (congrArg some (by kernel_rfl))
  f337 := Tryz.func134.trans (congrArg some (by kernel_rfl))
  f338 := Tryz.func135.trans (congrArg some (by kernel_rfl))
  t0 := Tryz.underlying0
  a0 := Tryz.isAgg0
  z0 := Tryz.sizeOf0
  v0 := Tryz.zeroValue0
  t2 := Tryz.underlying2
  a2 := Tryz.isAgg2
  z2 := Tryz.sizeOf2
  v2 := Tryz.zeroValue2
  t3 := Tryz.underlying3
  a3 := Tryz.isAgg3
  z3 := Tryz.sizeOf3
  v3 := Tryz.zeroValue3
  t4 := Tryz.underlying4
  a4 := Tryz.isAgg4
  z4 := Tryz.sizeOf4
  v4 := Tryz.zeroValue4
  t5 := Tryz.underlying5
  a5 := Tryz.isAgg5
  z5 := Tryz.sizeOf5
  v5 := Tryz.zeroValue5
  t9 := Tryz.underlying9
  a9 := Tryz.isAgg9
  z9 := Tryz.sizeOf9
  v9 := Tryz.zeroValue9
  t20 := Tryz.underlying20
  a20 := Tryz.isAgg20
  z20 := Tryz.sizeOf20
  v20 := Tryz.zeroValue20
  t21 := Tryz.underlying21
  a21 := Tryz.isAgg21
  z21 := Tryz.sizeOf21
  v21 := Tryz.zeroValue21
  t37 := Tryz.underlying57
  a37 := Tryz.isAgg57
  z37 := Tryz.sizeOf57
  v37 := Tryz.zeroValue57
  t46 := Tryz.underlying101
  a46 := Tryz.isAgg101
  z46 := Tryz.sizeOf101
  v46 := Tryz.zeroValue101
  t51 := Tryz.underlying137
  a51 := Tryz.isAgg137
  z51 := Tryz.sizeOf137
  v51 := Tryz.zeroValue137
  t53 := Tryz.underlying122
  a53 := Tryz.isAgg122
  z53 := Tryz.sizeOf122
  v53 := Tryz.zeroValue122
  t75 := Tryz.underlying61
  a75 := Tryz.isAgg61
  z75 := Tryz.sizeOf61
  v75 := Tryz.zeroValue61
  t76 := Tryz.underlying62
  a76 := Tryz.isAgg62
  z76 := Tryz.sizeOf62
  v76 := Tryz.zeroValue62
  t85 := Tryz.underlying142
  a85 := Tryz.isAgg142
  z85 := Tryz.sizeOf142
  v85 := Tryz.zeroValue142
  t127 := Tryz.underlying95
  a127 := Tryz.isAgg95
  z127 := Tryz.sizeOf95
  v127 := Tryz.zeroValue95
  t143 := Tryz.underlying158
  a143 := Tryz.isAgg158
  z143 := Tryz.sizeOf158
  v143 := Tryz.zeroValue158
  t145 := Tryz.underlying160
  a145 := Tryz.isAgg160
  z145 := Tryz.sizeOf160
  v145 := Tryz.zeroValue160
  t167 := Tryz.underlying141
  a167 := Tryz.isAgg141
  z167 := Tryz.sizeOf141
  v167 := Tryz.zeroValue141
  t168 := Tryz.underlying144
  a168 := Tryz.isAgg144
  z168 := Tryz.sizeOf144
  v168 := Tryz.zeroValue144
  t171 := Tryz.underlying127
  a171 := Tryz.isAgg127
  z171 := Tryz.sizeOf127
  v171 := Tryz.zeroValue127
  t173 := Tryz.underlying130
  a173 := Tryz.isAgg130
  z173 := Tryz.sizeOf130
  v173 := Tryz.zeroValue130
  t175 := Tryz.underlying149
  a175 := Tryz.isAgg149
  z175 := Tryz.sizeOf149
  v175 := Tryz.zeroValue149
  t210 := Tryz.underlying152
  a210 := Tryz.isAgg152
  z210 := Tryz.sizeOf152
  v210 := Tryz.zeroValue152
  t212 := Tryz.underlying136
  a212 := Tryz.isAgg136
  z212 := Tryz.sizeOf136
  v212 := Tryz.zeroValue136
  t213 := Tryz.underlying138
  a213 := Tryz.isAgg138
  z213 := Tryz.sizeOf138
  t232 := Tryz.underlying155
  a232 := Tryz.isAgg155
  z232 := Tryz.sizeOf155
  v232 := Tryz.zeroValue155
  t233 := Tryz.underlying156
  a233 := Tryz.isAgg156
  z233 := Tryz.sizeOf156
  v233 := Tryz.zeroValue156
  g15 := by kernel_rfl
  g16 := by kernel_rfl
  g17 := by kernel_rfl
  g18 := by kernel_rfl
  g19 := by kernel_rfl
  t80 := Tryz.underlying67
  a80 := Tryz.isAgg67
  z80 := Tryz.sizeOf67
  v80 := Tryz.zeroValue67
  i0 := by kernel_rfl
  i2 := by kernel_rfl
  i3 := by kernel_rfl
  i4 := by kernel_rfl
  i5 := by kernel_rfl
  i9 := by kernel_rfl
  i20 := by kernel_rfl
  i21 := by kernel_rfl
  i37 := by kernel_rfl
  i46 := by kernel_rfl
  i51 := by kernel_rfl
  i53 := by kernel_rfl
  i75 := by kernel_rfl
  i76 := by kernel_rfl
  i80 := by kernel_rfl
  i85 := by kernel_rfl
  i127 := by kernel_rfl
  i143 := by kernel_rfl
  i145 := by kernel_rfl
  i167 := by kernel_rfl
  i168 := by kernel_rfl
  i171 := by kernel_rfl
  i173 := by kernel_rfl
  i175 := by kernel_rfl
  i210 := by kernel_rfl
  i212 := by kernel_rfl
  i232 := by kernel_rfl
  i233 := by kernel_rfl
  m15 := by kernel_rfl
  m16 := by kernel_rfl
  m17 := by kernel_rfl
  m18 := by kernel_rfl
  m19 := by kernel_rfl
  c0 := by kernel_rfl
  c2 := by kernel_rfl
  c3 := by kernel_rfl
  c4 := by kernel_rfl
  c5 := by kernel_rfl
  c9 := by kernel_rfl
  c20 := by kernel_rfl
  c21 := by kernel_rfl
  c37 := by kernel_rfl
  c46 := by kernel_rfl
  c51 := by kernel_rfl
  c53 := by kernel_rfl
  c75 := by kernel_rfl
  c76 := by kernel_rfl
  c80 := by kernel_rfl
  c85 := by kernel_rfl
  c127 := by kernel_rfl
  c143 := by kernel_rfl
  c145 := by kernel_rfl
  c167 := by kernel_rfl
  c168 := by kernel_rfl
  c171 := by kernel_rfl
  c173 := by kernel_rfl
  c175 := by kernel_rfl
  c210 := by kernel_rfl
  c212 := by kernel_rfl
  c213 := by kernel_rfl
  c232 := by kernel_rfl
  c233 := by kernel_rfl }
open Go.RowKit in
theorem Tryz.strconv_Atoi_ok (s : ByteArray) (hmax : s.size ≤ 9223372036854775806) (v : Int) (h : Lib.atoiAll s.data.toList = .ok v) (w : World) :
    Calls Tryz.prog 96 #[.string s] w fun e w' => e = .returned (.tuple #[.int .i64 v, .nilIface]) ∧ (w' = w ∨ ∃ t, w' = Lib.bytesWorld w 5 t) := Any.strconv_Atoi_ok Tryz.laysC172 s hmax v h w
open Go.RowKit in
theorem Tryz.strconv_Atoi_syntax (s : ByteArray) (hlim : s.size ≤ 281474976710656) (h : s.data.toList = []) (ev : Value) (w : World) (hv : w.cell? ⟨3, 0, none⟩ = some ev) (hev : ev = .nilIface ∨ ∃ te pe, ev = .iface te pe) :
    Calls Tryz.prog 96 #[.string s] w fun e w' => ∃ N, e = .returned (.tuple #[.int .i64 (0), .iface 144 (.pointer (some ⟨N, 0, none⟩))]) ∧ w.heap.size ≤ N ∧ w'.heap[N]? = some (.cells #[.string ⟨#[65, 116, 111, 105]⟩, .string s, ev] 152 (0, 0)) ∧ Below w.heap.size w w' := Any.strconv_Atoi_syntax Tryz.laysC172 s hlim (by rw [h]; rfl) ev w hv hev
def Tryz.lays99_ren : Go.Shelf.Ren := ⟨fun | 99 => 95 | 206 => 110 | n => n, fun | 9 => 9 | 4 => 4 | 3 => 3 | n => n, fun | n => n⟩
theorem Tryz.lays99 : Go.Proofs.Lays.n99 Tryz.prog Tryz.lays99_ren := {
  mixed := by kernel_rfl
  f99 := Tryz.func95.trans (congrArg some (by kernel_rfl))
  f206 := Tryz.func110.trans (congrArg some (by kernel_rfl))
  t3 := Tryz.underlying3
  a3 := Tryz.isAgg3
  z3 := Tryz.sizeOf3
  v3 := Tryz.zeroValue3
  t4 := Tryz.underlying4
  a4 := Tryz.isAgg4
  z4 := Tryz.sizeOf4
  v4 := Tryz.zeroValue4
  t9 := Tryz.underlying9
  a9 := Tryz.isAgg9
  z9 := Tryz.sizeOf9
  v9 := Tryz.zeroValue9 }
open Go.RowKit Go.Lib in
theorem Tryz.strings_HasPrefix (s p : ByteArray) (w : World) :
    Calls Tryz.prog 95 #[.string s, .string p] w fun e w' => e = .returned (.bool (Lib.hasPrefix s.data.toList p.data.toList)) ∧ w' = w := Any.strings_HasPrefix Tryz.lays99 s p w
def Tryz.laysValid_ren : Go.Shelf.Ren := ⟨fun | 196 => 37 | 259 => 63 | n => n, fun | 9 => 9 | 4 => 4 | 3 => 3 | 5 => 5 | 12 => 12 | 119 => 97 | 0 => 0 | 46 => 101 | 139 => 100 | 138 => 99 | 53 => 122 | n => n, fun | 3 => 0 | 4 => 1 | n => n⟩
theorem Tryz.laysValid : Go.Proofs.Lays.n196 Tryz.prog Tryz.laysValid_ren := {
  mixed := by kernel_rfl
  f196 := Tryz.func37.trans (congrArg some (by kernel_rfl))
  f259 := Tryz.func63.trans (congrArg some (by kernel_rfl))
  t0 := Tryz.underlying0
  a0 := Tryz.isAgg0
  z0 := Tryz.sizeOf0
  v0 := Tryz.zeroValue0
  t3 := Tryz.underlying3
  a3 := Tryz.isAgg3
  z3 := Tryz.sizeOf3
  v3 := Tryz.zeroValue3
  t4 := Tryz.underlying4
  a4 := Tryz.isAgg4
  z4 := Tryz.sizeOf4
  v4 := Tryz.zeroValue4
  t5 := Tryz.underlying5
  a5 := Tryz.isAgg5
  z5 := Tryz.sizeOf5
  v5 := Tryz.zeroValue5
  t9 := Tryz.underlying9
  a9 := Tryz.isAgg9
  z9 := Tryz.sizeOf9
  v9 := Tryz.zeroValue9
  t12 := Tryz.underlying12
  a12 := Tryz.isAgg12
  z12 := Tryz.sizeOf12
  v12 := Tryz.zeroValue12
  t46 := Tryz.underlying101
  a46 := Tryz.isAgg101
  z46 := Tryz.sizeOf101
  v46 := Tryz.zeroValue101
  t53 := Tryz.underlying122
  a53 := Tryz.isAgg122
  z53 := Tryz.sizeOf122
  v53 := Tryz.zeroValue122
  t119 := Tryz.underlying97
  a119 := Tryz.isAgg97
  z119 := Tryz.sizeOf97
  t138 := Tryz.underlying99
  a138 := Tryz.isAgg99
  z138 := Tryz.sizeOf99
  v138 := Tryz.zeroValue99
  t139 := Tryz.underlying100
  a139 := Tryz.isAgg100
  z139 := Tryz.sizeOf100
  v139 := Tryz.zeroValue100
  g3 := by kernel_rfl
  g4 := by kernel_rfl }
open Go.RowKit in
theorem Tryz.utf8_ValidString (s : ByteArray) (w : World) (hs : s.size ≤ 9223372036854775807) (hT : Lib.Utf8Tabs (Tryz.laysValid_ren.g 3) (Tryz.laysValid_ren.g 4) w) :
    Calls Tryz.prog 37 #[.string s] w fun e w' => e = .returned (.bool (Lib.validD s.data.toList)) ∧ Below w.heap.size w w' := Any.utf8_ValidString Tryz.laysValid s w hs hT
end Go.Proofs
/- runes.Count: how many runes a text has, or the error that it is none: at every string, valid or not. -/
namespace Go.Proofs.YtadookafnfnaoaaGreatDoor
open Go.RowKit Rn

def cnt (l : List UInt8) : Int := match rd l with | some cs => cs.length | none => 0
def er (l : List UInt8) : Int := match rd l with | some _ => 0 | none => 10
theorem cnt_some {l : List UInt8} {cs : List Nat} (h : rd l = some cs) : cnt l = cs.length := by unfold cnt; rw [h]
theorem er_some {l : List UInt8} {cs : List Nat} (h : rd l = some cs) : er l = 0 := by unfold er; rw [h]
theorem cnt_none {l : List UInt8} (h : rd l = none) : cnt l = 0 := by unfold cnt; rw [h]
theorem er_none {l : List UInt8} (h : rd l = none) : er l = 10 := by unfold er; rw [h]

/-- Twenty thousand runes and one more byte: no text. -/
theorem rd_long {l r : List UInt8} {done : List Nat} (hd : allOk done) (hn : done.length = 20000) (hl : l = txt done ++ r) (hr : r ≠ []) : rd l = none := by
  unfold rd
  rw [hl, runes_append done hd]
  cases h : runes r with
  | none => rfl
  | some cs =>
    have : cs ≠ [] := by
      rintro rfl
      exact hr (runes_some h).2
    have h1 : 1 ≤ cs.length := by
      cases cs with
      | nil => exact absurd rfl this
      | cons _ _ => simp
    simp [hn]
    omega
theorem rd_bad {l r : List UInt8} {done : List Nat} (hd : allOk done) (hl : l = txt done ++ r) (hr : r ≠ []) (hb : dec r = (65533, 1)) : rd l = none := by
  unfold rd
  rw [hl, runes_append done hd, runes_bad r hr hb]
  rfl
theorem rd_done {l : List UInt8} {done : List Nat} (hd : allOk done) (hn : done.length ≤ 20000) (hl : l = txt done) : rd l = some done := by
  rw [hl]; exact rd_txt done hd hn

theorem drop_ne {s : ByteArray} {pos : Nat} (h : pos < s.size) : s.data.toList.drop pos ≠ [] := by
  intro e
  have := congrArg List.length e
  simp at this
  have h2 : s.data.size = s.size := rfl
  omega

theorem step_good {s : ByteArray} {pos : Nat} {done : List Nat} (h : s.data.toList = txt done ++ s.data.toList.drop pos) (hd : allOk done) (hlt : pos < s.size) (hb : dec (s.data.toList.drop pos) ≠ (65533, 1)) :
    s.data.toList = txt (done ++ [(dec (s.data.toList.drop pos)).1]) ++ s.data.toList.drop (pos + (dec (s.data.toList.drop pos)).2) ∧ allOk (done ++ [(dec (s.data.toList.drop pos)).1]) := by
  rcases dec_cases _ (drop_ne hlt) with hb' | ⟨h1, _, h3⟩
  · exact absurd hb' hb
  · refine ⟨?_, fun c hc => ?_⟩
    · have e1 : txt [(dec (s.data.toList.drop pos)).1] = enc (dec (s.data.toList.drop pos)).1 := by simp [txt]
      rw [txt_append, e1, ← List.drop_drop, List.append_assoc, ← h3]
      exact h
    · rcases List.mem_append.1 hc with hc | hc
      · exact hd c hc
      · rw [List.mem_singleton] at hc; subst hc; exact h1
theorem take_all (s : ByteArray) (pos : Nat) : List.take (s.size - pos) (List.drop pos s.data.toList) = List.drop pos s.data.toList :=
  List.take_of_length_le (by simp)

set_option maxHeartbeats 400000 in
theorem count_any (s : ByteArray) (w : World) (hs : s.size ≤ maxLen) :
    Calls Tryz.prog 115 #[.string s] w fun e w' => e = .returned (.tuple #[.int .i64 (cnt s.data.toList), .int .i64 (er s.data.toList)]) ∧ Below w.heap.size w w' := by
  unfold maxLen at hs
  go_enter Tryz.func115, Tryz.ntmps115
  go_wp2
  go_loopw [4] (fun n wr => ∃ (done : List Nat) (pos : Nat), n = .int .i64 (done.length : Int) ∧ allOk done ∧ done.length ≤ 20000 ∧ s.data.toList = txt done ++ s.data.toList.drop pos ∧ pos ≤ s.size ∧ wr.heap[w.heap.size]? = some (.stringIter s pos) ∧ Below w.heap.size w wr) (fun _ wr => s.size - wr.iterPos w.heap.size)
  case atStart =>
    refine ⟨[], 0, rfl, fun _ h => (by cases h), by simp, by simp [txt_nil], by omega, World.iter_heap w s 0, (Below.refl _ w).alloc (Nat.le_refl _) _⟩
  case round =>
    obtain ⟨done, pos, rfl, hok, hn, hl, hp, hit, hbw⟩ := hrel
    by_cases hlt : pos < s.size
    · have hnx : ∀ ty, (Instr.next (.pointer (some ⟨w.heap.size, 0, none⟩)) true ty).run Tryz.prog wr = _ := fun ty => Lib.run_next_any_at wr w.heap.size s pos ty hit hlt
      have hne := drop_ne hlt
      have hde := decode_eq s pos
      have hwd : (Utf8.decode s pos).2 ≤ s.size - pos ∧ 1 ≤ (Utf8.decode s pos).2 := by
        rw [hde]
        rcases dec_cases _ hne with hb | ⟨_, h2, h3⟩
        · rw [hb]; simp; omega
        · have := congrArg List.length h3
          rw [List.length_append, ← h2] at this
          simp only [List.length_drop, Array.length_toList] at this
          have h2' := enc_pos (dec (s.data.toList.drop pos)).1
          have hsz : s.data.size = s.size := rfl
          omega
      have H : Hid (Utf8.decode s pos = dec (s.data.toList.drop pos)) := hde
      clear hde
      have H2 : Hid (s.data.toList = txt done ++ s.data.toList.drop pos) := hl
      clear hl
      go_wp2_with (first | (go_at_call 95; refine (Tryz.strings_HasPrefix _ _ _).mono ?_; rintro e w' ⟨rfl, rfl⟩))
      · have h20 : (done.length : Int) = 20000 := by assumption
        go_ret2
        have e := rd_long hok (by omega) H2.out hne
        rw [cnt_none e, er_none e]
        exact ⟨rfl, hbw.trans (Lib.below_iterAt (Below.refl _ _) (Nat.le_refl _) _ _)⟩
      · have hr : ((Utf8.decode s pos).1 : Int) = 65533 := by assumption
        have hq : ((done.length : Int) == 20000) = true ∨ (!Lib.hasPrefix (List.take (s.size - pos) (List.drop pos s.data.toList)) [239, 191, 189]) = true := by assumption
        go_ret2
        have hq2 : Lib.hasPrefix (List.drop pos s.data.toList) [239, 191, 189] = false := by
          rw [take_all] at hq
          rcases hq with hq | hq
          · exact absurd (by simpa using hq) (by assumption)
          · simpa using hq
        have e := rd_bad hok H2.out hne ((bad_iff _ hne).2 ⟨by rw [← H.out]; omega, hq2⟩)
        rw [cnt_none e, er_none e]
        exact ⟨rfl, hbw.trans (Lib.below_iterAt (Below.refl _ _) (Nat.le_refl _) _ _)⟩
      · have hq : ((done.length : Int) == 20000) = false ∧ (!Lib.hasPrefix (List.take (s.size - pos) (List.drop pos s.data.toList)) [239, 191, 189]) = false := by assumption
        have hnb : dec (s.data.toList.drop pos) ≠ (65533, 1) := by
          intro hb
          have := ((bad_iff _ hne).1 hb).2
          rw [take_all] at hq
          have q2 : Lib.hasPrefix (List.drop pos s.data.toList) [239, 191, 189] = true := by simpa using hq.2
          unfold Lib.hasPrefix at q2
          rw [this] at q2
          cases q2
        have hg := step_good H2.out hok hlt hnb
        rw [← H.out] at hg
        go_roundw
        case rel => exact ⟨_, _, by simp, hg.2, by simp; omega, hg.1, by omega, Lib.iterAt_heap _ _ _ _ _ hit, Lib.below_iterAt hbw (Nat.le_refl _) _ _⟩
        case measure => simp only [World.iterPos, Lib.iterAt_heap _ _ _ _ _ hit, hit]; omega
      · have hr : ¬ ((Utf8.decode s pos).1 : Int) = 65533 := by assumption
        have hnb : dec (s.data.toList.drop pos) ≠ (65533, 1) := by
          intro hb
          rw [H.out, hb] at hr
          exact hr rfl
        have hg := step_good H2.out hok hlt hnb
        rw [← H.out] at hg
        go_roundw
        case rel => exact ⟨_, _, by simp, hg.2, by simp; omega, hg.1, by omega, Lib.iterAt_heap _ _ _ _ _ hit, Lib.below_iterAt hbw (Nat.le_refl _) _ _⟩
        case measure => simp only [World.iterPos, Lib.iterAt_heap _ _ _ _ _ hit, hit]; omega
    · have hnx : ∀ ty, (Instr.next (.pointer (some ⟨w.heap.size, 0, none⟩)) true ty).run Tryz.prog wr = _ := fun ty => Lib.run_next_end_at wr w.heap.size s pos ty hit hlt
      have hend : rd s.data.toList = some done := rd_done hok hn (by
        rw [List.drop_eq_nil_of_le (by simp; have : s.data.size = s.size := rfl; omega), List.append_nil] at hl
        exact hl)
      have H := Lib.hid hend
      clear hend hl
      go_wp2_with fail
      go_ret2
      rw [cnt_some H.out, er_some H.out]
      exact ⟨rfl, hbw⟩
end Go.Proofs.YtadookafnfnaoaaGreatDoor
