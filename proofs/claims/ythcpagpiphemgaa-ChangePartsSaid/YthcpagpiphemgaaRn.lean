/- Plain lists, no program: UTF-8 as the model decodes it, over a list of bytes; a text is a list of runes, and of no other list. -/
import Derived.WalkKit
namespace Go.Proofs.Ythcpagpiphemgaa
namespace Rn

/-- The model's decoding of the rune at the head of a list of bytes: by how many there are, and the first four. -/
def decN (n b0 b1 b2 b3 : Nat) : Nat × Nat :=
  if b0 < 128 then (b0, 1)
  else if b0 / 32 == 6 && (decide (1 < n) && b1 / 64 == 2) then
    if b0 % 32 * 64 + b1 % 64 ≥ 128 then (b0 % 32 * 64 + b1 % 64, 2) else (65533, 1)
  else if b0 / 16 == 14 && (decide (1 < n) && b1 / 64 == 2) && (decide (2 < n) && b2 / 64 == 2) then
    if decide (b0 % 16 * 4096 + b1 % 64 * 64 + b2 % 64 ≥ 2048) && Utf8.valid ((b0 % 16 * 4096 + b1 % 64 * 64 + b2 % 64 : Nat) : Int) then (b0 % 16 * 4096 + b1 % 64 * 64 + b2 % 64, 3) else (65533, 1)
  else if b0 / 8 == 30 && (decide (1 < n) && b1 / 64 == 2) && (decide (2 < n) && b2 / 64 == 2) && (decide (3 < n) && b3 / 64 == 2) then
    if decide (b0 % 8 * 262144 + b1 % 64 * 4096 + b2 % 64 * 64 + b3 % 64 ≥ 65536) && Utf8.valid ((b0 % 8 * 262144 + b1 % 64 * 4096 + b2 % 64 * 64 + b3 % 64 : Nat) : Int) then (b0 % 8 * 262144 + b1 % 64 * 4096 + b2 % 64 * 64 + b3 % 64, 4) else (65533, 1)
  else (65533, 1)
def dec (l : List UInt8) : Nat × Nat := decN l.length (l.getD 0 0).toNat (l.getD 1 0).toNat (l.getD 2 0).toNat (l.getD 3 0).toNat

theorem get_drop (s : ByteArray) (i k : Nat) : (s.get! (i + k)).toNat = ((s.data.toList.drop i).getD k 0).toNat := by
  have e : s.get! (i + k) = (s.data.toList.drop i).getD k 0 := by
    rw [List.getD_eq_getElem?_getD, List.getElem?_drop]
    show s.data[i + k]! = _
    rw [getElem!_def, Array.getElem?_toList]
    cases s.data[i + k]? <;> rfl
  rw [e]

theorem decode_eq (s : ByteArray) (i : Nat) : Utf8.decode s i = dec (s.data.toList.drop i) := by
  have hc : ∀ k, decide (i + k < s.size) = decide (k < (s.data.toList.drop i).length) := by
    intro k
    have : s.data.toList.length = s.size := by simp
    rw [List.length_drop, this]
    simp only [decide_eq_decide]
    omega
  unfold Utf8.decode dec decN
  simp only [get_drop, hc, Utf8.runeError]

/-- May a number be a rune? -/
def ok (c : Nat) : Prop := c < 55296 ∨ (57344 ≤ c ∧ c ≤ 1114111)
instance (c : Nat) : Decidable (ok c) := by unfold ok; infer_instance
theorem ok_valid (c : Nat) : Utf8.valid (c : Int) = decide (ok c) := by
  unfold Utf8.valid ok
  by_cases h : c < 55296 ∨ (57344 ≤ c ∧ c ≤ 1114111)
  · rw [decide_eq_true h]; simp; omega
  · rw [decide_eq_false h]; simp; omega

/-- A rune's bytes. -/
def enc (c : Nat) : List UInt8 :=
  if c < 128 then [UInt8.ofNat c]
  else if c < 2048 then [UInt8.ofNat (192 + c / 64), UInt8.ofNat (128 + c % 64)]
  else if c < 65536 then [UInt8.ofNat (224 + c / 4096), UInt8.ofNat (128 + c / 64 % 64), UInt8.ofNat (128 + c % 64)]
  else [UInt8.ofNat (240 + c / 262144), UInt8.ofNat (128 + c / 4096 % 64), UInt8.ofNat (128 + c / 64 % 64), UInt8.ofNat (128 + c % 64)]

theorem enc_pos (c : Nat) : 1 ≤ (enc c).length := by unfold enc; split <;> (try split) <;> (try split) <;> simp
theorem enc_le (c : Nat) : (enc c).length ≤ 4 := by unfold enc; split <;> (try split) <;> (try split) <;> simp

theorem byte_eq {n : Nat} {b : UInt8} (h : n = b.toNat) : UInt8.ofNat n = b := by
  subst h; simp

theorem dec_enc (c : Nat) (h : ok c) (r : List UInt8) : dec (enc c ++ r) = (c, (enc c).length) := by
  have hv := ok_valid c
  rw [decide_eq_true h] at hv
  unfold ok at h
  unfold enc
  split
  · rename_i h1
    have e1 : c % 256 = c := by omega
    simp [dec, decN, e1, h1]
  · split
    · rename_i h1 h2
      have e1 : (192 + c / 64) % 256 = 192 + c / 64 := by omega
      have e2 : (128 + c % 64) % 256 = 128 + c % 64 := by omega
      have a1 : ¬ (192 + c / 64 < 128) := by omega
      have a2 : (192 + c / 64) / 32 = 6 := by omega
      have a3 : (128 + c % 64) / 64 = 2 := by omega
      have a4 : (192 + c / 64) % 32 * 64 + (128 + c % 64) % 64 = c := by omega
      have a5 : 128 ≤ c := by omega
      simp only [dec, decN, List.cons_append, List.nil_append, List.getD_cons_zero, List.getD_cons_succ, UInt8.toNat_ofNat', List.length_cons]
      simp only [show (2 : Nat) ^ 8 = 256 from rfl, e1, e2, a1, if_false, a2, a3, a4, beq_self_eq_true, Bool.and_true]
      simp [a5]
    · split
      · rename_i h1 h2 h3
        have e1 : (224 + c / 4096) % 256 = 224 + c / 4096 := by omega
        have e2 : (128 + c / 64 % 64) % 256 = 128 + c / 64 % 64 := by omega
        have e3 : (128 + c % 64) % 256 = 128 + c % 64 := by omega
        have a1 : ¬ (224 + c / 4096 < 128) := by omega
        have a0 : ¬ ((224 + c / 4096) / 32 = 6) := by omega
        have a2 : (224 + c / 4096) / 16 = 14 := by omega
        have a3 : (128 + c / 64 % 64) / 64 = 2 := by omega
        have a3' : (128 + c % 64) / 64 = 2 := by omega
        have a4 : (224 + c / 4096) % 16 * 4096 + (128 + c / 64 % 64) % 64 * 64 + (128 + c % 64) % 64 = c := by omega
        have a5 : 2048 ≤ c := by omega
        simp only [dec, decN, List.cons_append, List.nil_append, List.getD_cons_zero, List.getD_cons_succ, UInt8.toNat_ofNat', List.length_cons]
        simp only [show (2 : Nat) ^ 8 = 256 from rfl, e1, e2, e3, a1, if_false, a2, a3, a3', a4, beq_self_eq_true, Bool.and_true]
        simp [a5, hv, a0]
      · rename_i h1 h2 h3
        have e1 : (240 + c / 262144) % 256 = 240 + c / 262144 := by omega
        have e2 : (128 + c / 4096 % 64) % 256 = 128 + c / 4096 % 64 := by omega
        have e3 : (128 + c / 64 % 64) % 256 = 128 + c / 64 % 64 := by omega
        have e4 : (128 + c % 64) % 256 = 128 + c % 64 := by omega
        have a1 : ¬ (240 + c / 262144 < 128) := by omega
        have a0 : ¬ ((240 + c / 262144) / 32 = 6) := by omega
        have a0' : ¬ ((240 + c / 262144) / 16 = 14) := by omega
        have a2 : (240 + c / 262144) / 8 = 30 := by omega
        have a3 : (128 + c / 4096 % 64) / 64 = 2 := by omega
        have a3' : (128 + c / 64 % 64) / 64 = 2 := by omega
        have a3'' : (128 + c % 64) / 64 = 2 := by omega
        have a4 : (240 + c / 262144) % 8 * 262144 + (128 + c / 4096 % 64) % 64 * 4096 + (128 + c / 64 % 64) % 64 * 64 + (128 + c % 64) % 64 = c := by omega
        have a5 : 65536 ≤ c := by omega
        simp only [dec, decN, List.cons_append, List.nil_append, List.getD_cons_zero, List.getD_cons_succ, UInt8.toNat_ofNat', List.length_cons]
        simp only [show (2 : Nat) ^ 8 = 256 from rfl, e1, e2, e3, e4, a1, if_false, a2, a3, a3', a3'', a4, beq_self_eq_true, Bool.and_true]
        simp [a5, hv, a0, a0']

/-- What stands at the head: no rune, or a rune's own bytes. -/
theorem dec_cases (l : List UInt8) (h : l ≠ []) : dec l = (65533, 1) ∨ (ok (dec l).1 ∧ (dec l).2 = (enc (dec l).1).length ∧ l = enc (dec l).1 ++ l.drop (dec l).2) := by
  have hb : ∀ k, (l.getD k 0).toNat < 256 := fun k => UInt8.toNat_lt _
  have hdrop : ∀ n, n ≤ l.length → l = l.take n ++ l.drop n := fun n _ => (List.take_append_drop n l).symm
  have ht : ∀ k, k < l.length → l.drop k = l.getD k 0 :: l.drop (k + 1) := by
    intro k hk
    rw [List.drop_eq_getElem_cons hk, List.getD_eq_getElem?_getD, List.getElem?_eq_getElem hk]; rfl
  have hpos : 0 < l.length := List.length_pos_iff.2 h
  have h0 := hb 0; have h1 := hb 1; have h2 := hb 2; have h3 := hb 3
  unfold dec decN
  generalize g0 : (l.getD 0 0) = b0 at *
  generalize g1 : (l.getD 1 0) = b1 at *
  generalize g2 : (l.getD 2 0) = b2 at *
  generalize g3 : (l.getD 3 0) = b3 at *
  by_cases c0 : b0.toNat < 128
  · right
    rw [if_pos c0]
    have e : enc b0.toNat = [b0] := by unfold enc; rw [if_pos c0]; simp
    refine ⟨Or.inl (by simp only; omega), by rw [e]; rfl, ?_⟩
    rw [e]
    have := ht 0 hpos
    rw [g0] at this
    simpa using this
  rw [if_neg c0]
  by_cases c1 : (b0.toNat / 32 == 6 && (decide (1 < l.length) && b1.toNat / 64 == 2)) = true
  · rw [if_pos c1]
    simp only [Bool.and_eq_true, beq_iff_eq, decide_eq_true_eq] at c1
    by_cases c2 : b0.toNat % 32 * 64 + b1.toNat % 64 ≥ 128
    · right
      rw [if_pos c2]
      have e : enc (b0.toNat % 32 * 64 + b1.toNat % 64) = [b0, b1] := by
        unfold enc
        rw [if_neg (by omega), if_pos (by omega)]
        rw [byte_eq (n := 192 + (b0.toNat % 32 * 64 + b1.toNat % 64) / 64) (b := b0) (by omega), byte_eq (n := 128 + (b0.toNat % 32 * 64 + b1.toNat % 64) % 64) (b := b1) (by omega)]
      refine ⟨Or.inl (by simp only; omega), by rw [e]; rfl, ?_⟩
      rw [e]
      have t0 := ht 0 hpos
      have t1 := ht 1 c1.2.1
      rw [g0, List.drop_zero] at t0
      rw [g1] at t1
      rw [t1] at t0
      exact t0
    · left; rw [if_neg c2]
  rw [if_neg c1]
  by_cases c1' : (b0.toNat / 16 == 14 && (decide (1 < l.length) && b1.toNat / 64 == 2) && (decide (2 < l.length) && b2.toNat / 64 == 2)) = true
  · rw [if_pos c1']
    simp only [Bool.and_eq_true, beq_iff_eq, decide_eq_true_eq] at c1'
    obtain ⟨⟨d0, d1, d2⟩, d3, d4⟩ := c1'
    by_cases c2 : (decide (b0.toNat % 16 * 4096 + b1.toNat % 64 * 64 + b2.toNat % 64 ≥ 2048) && Utf8.valid ((b0.toNat % 16 * 4096 + b1.toNat % 64 * 64 + b2.toNat % 64 : Nat) : Int)) = true
    · right
      rw [if_pos c2]
      rw [ok_valid] at c2
      simp only [Bool.and_eq_true, decide_eq_true_eq] at c2
      have e : enc (b0.toNat % 16 * 4096 + b1.toNat % 64 * 64 + b2.toNat % 64) = [b0, b1, b2] := by
        unfold enc
        rw [if_neg (by omega), if_neg (by omega), if_pos (by omega)]
        rw [byte_eq (n := 224 + (b0.toNat % 16 * 4096 + b1.toNat % 64 * 64 + b2.toNat % 64) / 4096) (b := b0) (by omega), byte_eq (n := 128 + (b0.toNat % 16 * 4096 + b1.toNat % 64 * 64 + b2.toNat % 64) / 64 % 64) (b := b1) (by omega), byte_eq (n := 128 + (b0.toNat % 16 * 4096 + b1.toNat % 64 * 64 + b2.toNat % 64) % 64) (b := b2) (by omega)]
      refine ⟨c2.2, by rw [e]; rfl, ?_⟩
      rw [e]
      have t0 := ht 0 hpos
      have t1 := ht 1 d1
      have t2 := ht 2 d3
      rw [g0, List.drop_zero] at t0
      rw [g1] at t1
      rw [g2] at t2
      rw [t1, t2] at t0
      exact t0
    · left; rw [if_neg c2]
  rw [if_neg c1']
  by_cases c1'' : (b0.toNat / 8 == 30 && (decide (1 < l.length) && b1.toNat / 64 == 2) && (decide (2 < l.length) && b2.toNat / 64 == 2) && (decide (3 < l.length) && b3.toNat / 64 == 2)) = true
  · rw [if_pos c1'']
    simp only [Bool.and_eq_true, beq_iff_eq, decide_eq_true_eq] at c1''
    obtain ⟨⟨⟨d0, d1, d2⟩, d3, d4⟩, d5, d6⟩ := c1''
    by_cases c2 : (decide (b0.toNat % 8 * 262144 + b1.toNat % 64 * 4096 + b2.toNat % 64 * 64 + b3.toNat % 64 ≥ 65536) && Utf8.valid ((b0.toNat % 8 * 262144 + b1.toNat % 64 * 4096 + b2.toNat % 64 * 64 + b3.toNat % 64 : Nat) : Int)) = true
    · right
      rw [if_pos c2]
      rw [ok_valid] at c2
      simp only [Bool.and_eq_true, decide_eq_true_eq] at c2
      have e : enc (b0.toNat % 8 * 262144 + b1.toNat % 64 * 4096 + b2.toNat % 64 * 64 + b3.toNat % 64) = [b0, b1, b2, b3] := by
        unfold enc
        rw [if_neg (by omega), if_neg (by omega), if_neg (by omega)]
        rw [byte_eq (n := 240 + (b0.toNat % 8 * 262144 + b1.toNat % 64 * 4096 + b2.toNat % 64 * 64 + b3.toNat % 64) / 262144) (b := b0) (by omega), byte_eq (n := 128 + (b0.toNat % 8 * 262144 + b1.toNat % 64 * 4096 + b2.toNat % 64 * 64 + b3.toNat % 64) / 4096 % 64) (b := b1) (by omega), byte_eq (n := 128 + (b0.toNat % 8 * 262144 + b1.toNat % 64 * 4096 + b2.toNat % 64 * 64 + b3.toNat % 64) / 64 % 64) (b := b2) (by omega), byte_eq (n := 128 + (b0.toNat % 8 * 262144 + b1.toNat % 64 * 4096 + b2.toNat % 64 * 64 + b3.toNat % 64) % 64) (b := b3) (by omega)]
      refine ⟨c2.2, by rw [e]; rfl, ?_⟩
      rw [e]
      have t0 := ht 0 hpos
      have t1 := ht 1 d1
      have t2 := ht 2 d3
      have t3 := ht 3 d5
      rw [g0, List.drop_zero] at t0
      rw [g1] at t1
      rw [g2] at t2
      rw [g3] at t3
      rw [t1, t2, t3] at t0
      exact t0
    · left; rw [if_neg c2]
  · left; rw [if_neg c1'']

/-- A text out of runes. -/
def txt (cs : List Nat) : List UInt8 := cs.flatMap enc
def allOk (cs : List Nat) : Prop := ∀ c ∈ cs, ok c
theorem txt_nil : txt [] = [] := rfl
theorem txt_cons (c : Nat) (cs : List Nat) : txt (c :: cs) = enc c ++ txt cs := rfl
theorem txt_append (a b : List Nat) : txt (a ++ b) = txt a ++ txt b := by simp [txt]
theorem txt_len (cs : List Nat) : cs.length ≤ (txt cs).length ∧ (txt cs).length ≤ 4 * cs.length := by
  induction cs with
  | nil => simp [txt]
  | cons c cs ih =>
    have := enc_pos c; have := enc_le c
    rw [txt_cons, List.length_append, List.length_cons]; omega

/-- The runes of a list of bytes, if it is a text of whatever length. -/
def runesF : Nat → List UInt8 → Option (List Nat)
  | _, [] => some []
  | 0, _ :: _ => none
  | f + 1, b :: r => if dec (b :: r) = (65533, 1) then none else (runesF f ((b :: r).drop (dec (b :: r)).2)).map ((dec (b :: r)).1 :: ·)
def runes (l : List UInt8) : Option (List Nat) := runesF l.length l

theorem runesF_txt (cs : List Nat) (h : allOk cs) (f : Nat) (hf : (txt cs).length ≤ f) : runesF f (txt cs) = some cs := by
  induction cs generalizing f with
  | nil => cases f <;> rfl
  | cons c cs ih =>
    have hc : ok c := h c (by simp)
    have hd := dec_enc c hc (txt cs)
    have hp := enc_pos c
    rw [txt_cons] at hf ⊢
    rw [List.length_append] at hf
    match f, hf with
    | 0, hf => omega
    | f + 1, hf =>
      match he : enc c, hp with
      | b :: e, _ =>
        rw [he] at hd hf
        rw [List.cons_append] at hd ⊢
        rw [runesF, hd]
        have hne : (c, (b :: e).length) ≠ (65533, 1) := by
          intro hh
          simp only [Prod.mk.injEq] at hh
          obtain ⟨rfl, hh⟩ := hh
          have : (enc 65533).length = 3 := by decide
          rw [he] at this
          omega
        rw [if_neg hne]
        simp only
        rw [← List.cons_append, List.drop_left, ih (fun x hx => h x (by simp [hx])) f (by simp only [List.length_cons] at hf; omega)]
        rfl
theorem runes_txt (cs : List Nat) (h : allOk cs) : runes (txt cs) = some cs := runesF_txt cs h _ (Nat.le_refl _)

theorem runesF_some (f : Nat) (l : List UInt8) (cs : List Nat) (h : runesF f l = some cs) : allOk cs ∧ l = txt cs := by
  induction f generalizing l cs with
  | zero => cases l with
    | nil => simp [runesF] at h; subst h; exact ⟨fun _ h => by simp at h, rfl⟩
    | cons b r => simp [runesF] at h
  | succ f ih => cases l with
    | nil => simp [runesF] at h; subst h; exact ⟨fun _ h => by simp at h, rfl⟩
    | cons b r =>
      rw [runesF] at h
      split at h
      · cases h
      · rename_i hn
        rcases dec_cases (b :: r) (by simp) with hb | ⟨h1, h2, h3⟩
        · exact absurd hb hn
        · cases hr : runesF f ((b :: r).drop (dec (b :: r)).2) with
          | none => rw [hr] at h; cases h
          | some ds =>
            rw [hr] at h
            simp only [Option.map_some, Option.some.injEq] at h
            subst h
            obtain ⟨i1, i2⟩ := ih _ _ hr
            refine ⟨?_, ?_⟩
            · intro c hc
              rcases List.mem_cons.1 hc with rfl | hc
              · exact h1
              · exact i1 c hc
            · rw [txt_cons, ← i2]; exact h3
theorem runes_some {l : List UInt8} {cs : List Nat} (h : runes l = some cs) : allOk cs ∧ l = txt cs := runesF_some _ _ _ h

theorem runes_nil : runes [] = some [] := rfl

/-- Behind the runes that were read: what is left decides. -/
theorem runes_append (a : List Nat) (ha : allOk a) (r : List UInt8) : runes (txt a ++ r) = (runes r).map (a ++ ·) := by
  cases hr : runes r with
  | some cs =>
    obtain ⟨h1, rfl⟩ := runes_some hr
    rw [← txt_append, runes_txt _ (fun c hc => by rcases List.mem_append.1 hc with h | h; exact ha c h; exact h1 c h)]
    rfl
  | none =>
    cases hs : runes (txt a ++ r) with
    | none => rfl
    | some cs =>
      exfalso
      obtain ⟨h1, h2⟩ := runes_some hs
      -- the runes of the whole begin with a's
      have key : ∀ (a cs : List Nat), allOk a → allOk cs → ∀ r, txt a ++ r = txt cs → ∃ ds, allOk ds ∧ r = txt ds := by
        intro a
        induction a with
        | nil => intro cs _ h r e; exact ⟨cs, h, e⟩
        | cons c a ih =>
          intro cs ha h r e
          cases cs with
          | nil =>
            have hp := enc_pos c
            have e2 := congrArg List.length e
            rw [txt_cons, txt_nil, List.length_append, List.length_append, List.length_nil] at e2
            omega
          | cons d cs =>
            rw [txt_cons, txt_cons, List.append_assoc] at e
            have e1 := dec_enc c (ha c (by simp)) (txt a ++ r)
            have e2 := dec_enc d (h d (by simp)) (txt cs)
            rw [e, e2] at e1
            simp only [Prod.mk.injEq] at e1
            obtain ⟨rfl, _⟩ := e1
            exact ih cs (fun x hx => ha x (by simp [hx])) (fun x hx => h x (by simp [hx])) r (List.append_cancel_left e)
      obtain ⟨ds, hd, rfl⟩ := key a cs ha h1 r h2
      rw [runes_txt ds hd] at hr
      cases hr

theorem runes_bad (l : List UInt8) (h : l ≠ []) (hb : dec l = (65533, 1)) : runes l = none := by
  cases l with
  | nil => exact absurd rfl h
  | cons b r => unfold runes; rw [List.length_cons, runesF, if_pos hb]

/-- A text of at most so many runes as the document lets: its runes. -/
def rd (l : List UInt8) : Option (List Nat) := match runes l with
  | some cs => if cs.length ≤ 20000 then some cs else none
  | none => none
theorem rd_txt (cs : List Nat) (h : allOk cs) (hn : cs.length ≤ 20000) : rd (txt cs) = some cs := by unfold rd; rw [runes_txt cs h]; simp [hn]
theorem rd_some {l : List UInt8} {cs : List Nat} (h : rd l = some cs) : allOk cs ∧ l = txt cs ∧ cs.length ≤ 20000 := by
  unfold rd at h
  cases hr : runes l with
  | none => rw [hr] at h; cases h
  | some ds =>
    rw [hr] at h
    simp only at h
    split at h
    · simp only [Option.some.injEq] at h; subst h
      obtain ⟨h1, h2⟩ := runes_some hr
      exact ⟨h1, h2, ‹_›⟩
    · cases h

/-- The bytes EF BF BD, which stand for 'no rune' where they are asked for. -/
theorem bad_iff (l : List UInt8) (h : l ≠ []) : dec l = (65533, 1) ↔ ((dec l).1 = 65533 ∧ ([239, 191, 189] : List UInt8).isPrefixOf l = false) := by
  constructor
  · intro hb
    refine ⟨by rw [hb], ?_⟩
    cases hp : ([239, 191, 189] : List UInt8).isPrefixOf l with
    | false => rfl
    | true =>
      exfalso
      obtain ⟨r, rfl⟩ := List.isPrefixOf_iff_prefix.1 hp
      have := dec_enc 65533 (by unfold ok; omega) r
      have e : enc 65533 = [239, 191, 189] := by decide
      rw [e, hb] at this
      simp at this
  · intro ⟨h1, h2⟩
    rcases dec_cases l h with hb | ⟨_, _, h3⟩
    · exact hb
    · exfalso
      rw [h1] at h3
      have e : enc 65533 = [239, 191, 189] := by decide
      rw [e] at h3
      have : ([239, 191, 189] : List UInt8).isPrefixOf l = true := List.isPrefixOf_iff_prefix.2 ⟨_, h3.symm⟩
      rw [this] at h2
      cases h2

/-- A text as the program holds it. -/
def T (cs : List Nat) : ByteArray := ⟨(txt cs).toArray⟩
theorem T_data (cs : List Nat) : (T cs).data.toList = txt cs := rfl
theorem T_size (cs : List Nat) : (T cs).size = (txt cs).length := by simp [T, ByteArray.size]
theorem ba_ext {s : ByteArray} {l : List UInt8} (h : s.data.toList = l) : s = ⟨l.toArray⟩ := by subst h; cases s; simp
theorem rd_T {s : ByteArray} {cs : List Nat} (h : rd s.data.toList = some cs) : s = T cs := ba_ext (rd_some h).2.1
theorem ba_inj {s t : ByteArray} (h : s.data.toList = t.data.toList) : s = t := by
  cases s; cases t; simp only at h; congr 1; exact Array.ext' h
theorem T_drop (cs : List Nat) (i : Nat) : (T cs).extract (txt (cs.take i)).length (T cs).size = T (cs.drop i) := by
  apply ba_inj
  rw [ByteArray.data_extract, Array.toList_extract, T_size, T_data, T_data]
  have e : txt cs = txt (cs.take i) ++ txt (cs.drop i) := by rw [← txt_append, List.take_append_drop]
  simp only [List.extract_eq_take_drop]
  rw [e, List.drop_left, List.length_append, Nat.add_sub_cancel_left, List.take_length]
theorem T_take (cs : List Nat) (i : Nat) : (T cs).extract 0 (txt (cs.take i)).length = T (cs.take i) := by
  apply ba_inj
  rw [ByteArray.data_extract, Array.toList_extract, T_data, T_data]
  have e : txt cs = txt (cs.take i) ++ txt (cs.drop i) := by rw [← txt_append, List.take_append_drop]
  simp only [List.extract_eq_take_drop]
  rw [List.drop_zero, Nat.sub_zero, e, List.take_left]
theorem T_mid (cs : List Nat) (i j : Nat) (h : i ≤ j) : (T cs).extract (txt (cs.take i)).length (txt (cs.take j)).length = T ((cs.take j).drop i) := by
  apply ba_inj
  rw [ByteArray.data_extract, Array.toList_extract, T_data, T_data]
  have e : txt cs = txt (cs.take j) ++ txt (cs.drop j) := by rw [← txt_append, List.take_append_drop]
  have e2 : txt (cs.take j) = txt (cs.take i) ++ txt ((cs.take j).drop i) := by
    rw [← txt_append]
    congr 1
    have := List.take_append_drop i (cs.take j)
    rw [List.take_take, Nat.min_eq_left h] at this
    exact this.symm
  simp only [List.extract_eq_take_drop]
  rw [e, e2, List.append_assoc, List.drop_left, List.length_append, Nat.add_sub_cancel_left, List.take_left]
theorem len_mid (cs : List Nat) (i j : Nat) (h : i ≤ j) : (txt (cs.take j)).length = (txt (cs.take i)).length + (txt ((cs.drop i).take (j - i))).length := by
  have e2 : txt (cs.take j) = txt (cs.take i) ++ txt ((cs.drop i).take (j - i)) := by
    rw [← txt_append]
    congr 1
    obtain ⟨d, rfl⟩ := Nat.exists_eq_add_of_le h
    rw [Nat.add_sub_cancel_left, List.take_add]
  rw [e2, List.length_append]
theorem len_take_le (cs : List Nat) (i : Nat) : (txt (cs.take i)).length ≤ (txt cs).length := by
  have e : txt cs = txt (cs.take i) ++ txt (cs.drop i) := by rw [← txt_append, List.take_append_drop]
  rw [e, List.length_append]; omega
end Rn
end Go.Proofs.Ythcpagpiphemgaa
