/- Texts of this seat, put together in build order: Rn, Shelf, Count, At, AtKey, AtRow, AtRefSame, AtAll, AtChange, AtCheck, AtRight, Ch, AtOwn, AtSame, ChRow, ChMem. -/
import Derived.WalkKit
import Derived.Shelf.Unicode.ValidAny
import Derived.Shelf.Strings.Builder1
import Derived.Shelf.Strings.BuilderF
import Derived.Shelf.Strings.BuilderK
import Derived.Shelf.Strconv.Atoi
import Derived.Shelf.Strconv.Itoa0
import Derived.Shelf.Strconv.Itoa1
import Derived.Shelf.LaysM
import Derived.Shelf.Strconv.Itoa2
import Derived.Shelf.Strconv.Itoa3
import Derived.Shelf.Strconv.Clone
import Derived.Shelf.Strconv.AtoiAll
import Derived.Shelf.Strings.Prefix
import Derived.Test.YtacgkbdldbppjaaGreatDoorProg
import Derived.Lib.OthersKept
import Derived.WalkSpells
import Derived.WalkLawsBesides
import Derived.Lib.Hide
import Derived.Below
import Derived.Deep.CutBlock
import Derived.Deep.DeepCutAuto
import Derived.Deep.LoopGhost
import Derived.Deep.QuietTactic
import Derived.BigQuiet
import Derived.Laws.StructEq
import Derived.Laws.OwnMore
import Derived.Laws.AppendOwnNone
import Derived.OwnWalk
/- Plain lists, no program: UTF-8 as the model decodes it, over a list of bytes; a text is a list of runes, and of no other list. -/
namespace Go.Proofs.YtacgkbdldbppjaaGreatDoor
namespace Rn

/-- The model's decoding of the rune at the head of a list of bytes: by how many there are, and the first four. -/
def decN (n b0 b1 b2 b3 : Nat) : Nat × Nat :=
  if b0 < 128 then (b0, 1)
  else if b0 / 32 == 6 && (decide (1 < n) && b1 / 64 == 2) then
    if b0 % 32 * 64 + b1 % 64 ≥ 128 then (b0 % 32 * 64 + b1 % 64, 2) else (65533, 1)
  else if b0 / 16 == 14 && (decide (1 < n) && b1 / 64 == 2) && (decide (2 < n) && b2 / 64 == 2) then
    if decide (b0 % 16 * 4096 + b1 % 64 * 64 + b2 % 64 ≥ 2048) && Utf8.valid ((b0 % 16 * 4096 + b1 % 64 * 64 + b2 % 64 : Nat) : Int) then (b0 % 16 * 4096 + b1 % 64 * 64 + b2 % 64, 3) else (65533, 1)
  else if b0 / 8 == 30 && (decide (1 < n) && b1 / 64 == 2) && (decide (2 < n) && b2 / 64 == 2) && (decide (3 < n) && b3 / 64 == 2) then
    if decide (b0 % 8 * 262144 + b1 % 64 * 4096 + b2 % 64 * 64 + b3 % 64 ≥ 65536) && Utf8.valid ((b0 % 8 * 262144 + b1 % 64 * 4096 + b2 % 64 * 64 + b3 % 64 : Nat) : Int) then (b0 % 8 * 262144 + b1 % 64 * 4096 + b2 % 64 * 64 + b3 % 64, 4) else (65533, 1)
  else (65533, 1)
def dec (l : List UInt8) : Nat × Nat := decN l.length (l.getD 0 0).toNat (l.getD 1 0).toNat (l.getD 2 0).toNat (l.getD 3 0).toNat

theorem get_drop (s : ByteArray) (i k : Nat) : (s.get! (i + k)).toNat = ((s.data.toList.drop i).getD k 0).toNat := by
  have e : s.get! (i + k) = (s.data.toList.drop i).getD k 0 := by
    rw [List.getD_eq_getElem?_getD, List.getElem?_drop]
    show s.data[i + k]! = _
    rw [getElem!_def, Array.getElem?_toList]
    cases s.data[i + k]? <;> rfl
  rw [e]

theorem decode_eq (s : ByteArray) (i : Nat) : Utf8.decode s i = dec (s.data.toList.drop i) := by
  have hc : ∀ k, decide (i + k < s.size) = decide (k < (s.data.toList.drop i).length) := by
    intro k
    have : s.data.toList.length = s.size := by simp
    rw [List.length_drop, this]
    simp only [decide_eq_decide]
    omega
  unfold Utf8.decode dec decN
  simp only [get_drop, hc, Utf8.runeError]

/-- May a number be a rune? -/
def ok (c : Nat) : Prop := c < 55296 ∨ (57344 ≤ c ∧ c ≤ 1114111)
instance (c : Nat) : Decidable (ok c) := by unfold ok; infer_instance
theorem ok_valid (c : Nat) : Utf8.valid (c : Int) = decide (ok c) := by
  unfold Utf8.valid ok
  by_cases h : c < 55296 ∨ (57344 ≤ c ∧ c ≤ 1114111)
  · rw [decide_eq_true h]; simp; omega
  · rw [decide_eq_false h]; simp; omega

/-- A rune's bytes. -/
def enc (c : Nat) : List UInt8 :=
  if c < 128 then [UInt8.ofNat c]
  else if c < 2048 then [UInt8.ofNat (192 + c / 64), UInt8.ofNat (128 + c % 64)]
  else if c < 65536 then [UInt8.ofNat (224 + c / 4096), UInt8.ofNat (128 + c / 64 % 64), UInt8.ofNat (128 + c % 64)]
  else [UInt8.ofNat (240 + c / 262144), UInt8.ofNat (128 + c / 4096 % 64), UInt8.ofNat (128 + c / 64 % 64), UInt8.ofNat (128 + c % 64)]

theorem enc_pos (c : Nat) : 1 ≤ (enc c).length := by unfold enc; split <;> (try split) <;> (try split) <;> simp
theorem enc_le (c : Nat) : (enc c).length ≤ 4 := by unfold enc; split <;> (try split) <;> (try split) <;> simp

theorem byte_eq {n : Nat} {b : UInt8} (h : n = b.toNat) : UInt8.ofNat n = b := by
  subst h; simp

theorem dec_enc (c : Nat) (h : ok c) (r : List UInt8) : dec (enc c ++ r) = (c, (enc c).length) := by
  have hv := ok_valid c
  rw [decide_eq_true h] at hv
  unfold ok at h
  unfold enc
  split
  · rename_i h1
    have e1 : c % 256 = c := by omega
    simp [dec, decN, e1, h1]
  · split
    · rename_i h1 h2
      have e1 : (192 + c / 64) % 256 = 192 + c / 64 := by omega
      have e2 : (128 + c % 64) % 256 = 128 + c % 64 := by omega
      have a1 : ¬ (192 + c / 64 < 128) := by omega
      have a2 : (192 + c / 64) / 32 = 6 := by omega
      have a3 : (128 + c % 64) / 64 = 2 := by omega
      have a4 : (192 + c / 64) % 32 * 64 + (128 + c % 64) % 64 = c := by omega
      have a5 : 128 ≤ c := by omega
      simp only [dec, decN, List.cons_append, List.nil_append, List.getD_cons_zero, List.getD_cons_succ, UInt8.toNat_ofNat', List.length_cons]
      simp only [show (2 : Nat) ^ 8 = 256 from rfl, e1, e2, a1, if_false, a2, a3, a4, beq_self_eq_true, Bool.and_true]
      simp [a5]
    · split
      · rename_i h1 h2 h3
        have e1 : (224 + c / 4096) % 256 = 224 + c / 4096 := by omega
        have e2 : (128 + c / 64 % 64) % 256 = 128 + c / 64 % 64 := by omega
        have e3 : (128 + c % 64) % 256 = 128 + c % 64 := by omega
        have a1 : ¬ (224 + c / 4096 < 128) := by omega
        have a0 : ¬ ((224 + c / 4096) / 32 = 6) := by omega
        have a2 : (224 + c / 4096) / 16 = 14 := by omega
        have a3 : (128 + c / 64 % 64) / 64 = 2 := by omega
        have a3' : (128 + c % 64) / 64 = 2 := by omega
        have a4 : (224 + c / 4096) % 16 * 4096 + (128 + c / 64 % 64) % 64 * 64 + (128 + c % 64) % 64 = c := by omega
        have a5 : 2048 ≤ c := by omega
        simp only [dec, decN, List.cons_append, List.nil_append, List.getD_cons_zero, List.getD_cons_succ, UInt8.toNat_ofNat', List.length_cons]
        simp only [show (2 : Nat) ^ 8 = 256 from rfl, e1, e2, e3, a1, if_false, a2, a3, a3', a4, beq_self_eq_true, Bool.and_true]
        simp [a5, hv, a0]
      · rename_i h1 h2 h3
        have e1 : (240 + c / 262144) % 256 = 240 + c / 262144 := by omega
        have e2 : (128 + c / 4096 % 64) % 256 = 128 + c / 4096 % 64 := by omega
        have e3 : (128 + c / 64 % 64) % 256 = 128 + c / 64 % 64 := by omega
        have e4 : (128 + c % 64) % 256 = 128 + c % 64 := by omega
        have a1 : ¬ (240 + c / 262144 < 128) := by omega
        have a0 : ¬ ((240 + c / 262144) / 32 = 6) := by omega
        have a0' : ¬ ((240 + c / 262144) / 16 = 14) := by omega
        have a2 : (240 + c / 262144) / 8 = 30 := by omega
        have a3 : (128 + c / 4096 % 64) / 64 = 2 := by omega
        have a3' : (128 + c / 64 % 64) / 64 = 2 := by omega
        have a3'' : (128 + c % 64) / 64 = 2 := by omega
        have a4 : (240 + c / 262144) % 8 * 262144 + (128 + c / 4096 % 64) % 64 * 4096 + (128 + c / 64 % 64) % 64 * 64 + (128 + c % 64) % 64 = c := by omega
        have a5 : 65536 ≤ c := by omega
        simp only [dec, decN, List.cons_append, List.nil_append, List.getD_cons_zero, List.getD_cons_succ, UInt8.toNat_ofNat', List.length_cons]
        simp only [show (2 : Nat) ^ 8 = 256 from rfl, e1, e2, e3, e4, a1, if_false, a2, a3, a3', a3'', a4, beq_self_eq_true, Bool.and_true]
        simp [a5, hv, a0, a0']

/-- What stands at the head: no rune, or a rune's own bytes. -/
theorem dec_cases (l : List UInt8) (h : l ≠ []) : dec l = (65533, 1) ∨ (ok (dec l).1 ∧ (dec l).2 = (enc (dec l).1).length ∧ l = enc (dec l).1 ++ l.drop (dec l).2) := by
  have hb : ∀ k, (l.getD k 0).toNat < 256 := fun k => UInt8.toNat_lt _
  have hdrop : ∀ n, n ≤ l.length → l = l.take n ++ l.drop n := fun n _ => (List.take_append_drop n l).symm
  have ht : ∀ k, k < l.length → l.drop k = l.getD k 0 :: l.drop (k + 1) := by
    intro k hk
    rw [List.drop_eq_getElem_cons hk, List.getD_eq_getElem?_getD, List.getElem?_eq_getElem hk]; rfl
  have hpos : 0 < l.length := List.length_pos_iff.2 h
  have h0 := hb 0; have h1 := hb 1; have h2 := hb 2; have h3 := hb 3
  unfold dec decN
  generalize g0 : (l.getD 0 0) = b0 at *
  generalize g1 : (l.getD 1 0) = b1 at *
  generalize g2 : (l.getD 2 0) = b2 at *
  generalize g3 : (l.getD 3 0) = b3 at *
  by_cases c0 : b0.toNat < 128
  · right
    rw [if_pos c0]
    have e : enc b0.toNat = [b0] := by unfold enc; rw [if_pos c0]; simp
    refine ⟨Or.inl (by simp only; omega), by rw [e]; rfl, ?_⟩
    rw [e]
    have := ht 0 hpos
    rw [g0] at this
    simpa using this
  rw [if_neg c0]
  by_cases c1 : (b0.toNat / 32 == 6 && (decide (1 < l.length) && b1.toNat / 64 == 2)) = true
  · rw [if_pos c1]
    simp only [Bool.and_eq_true, beq_iff_eq, decide_eq_true_eq] at c1
    by_cases c2 : b0.toNat % 32 * 64 + b1.toNat % 64 ≥ 128
    · right
      rw [if_pos c2]
      have e : enc (b0.toNat % 32 * 64 + b1.toNat % 64) = [b0, b1] := by
        unfold enc
        rw [if_neg (by omega), if_pos (by omega)]
        rw [byte_eq (n := 192 + (b0.toNat % 32 * 64 + b1.toNat % 64) / 64) (b := b0) (by omega), byte_eq (n := 128 + (b0.toNat % 32 * 64 + b1.toNat % 64) % 64) (b := b1) (by omega)]
      refine ⟨Or.inl (by simp only; omega), by rw [e]; rfl, ?_⟩
      rw [e]
      have t0 := ht 0 hpos
      have t1 := ht 1 c1.2.1
      rw [g0, List.drop_zero] at t0
      rw [g1] at t1
      rw [t1] at t0
      exact t0
    · left; rw [if_neg c2]
  rw [if_neg c1]
  by_cases c1' : (b0.toNat / 16 == 14 && (decide (1 < l.length) && b1.toNat / 64 == 2) && (decide (2 < l.length) && b2.toNat / 64 == 2)) = true
  · rw [if_pos c1']
    simp only [Bool.and_eq_true, beq_iff_eq, decide_eq_true_eq] at c1'
    obtain ⟨⟨d0, d1, d2⟩, d3, d4⟩ := c1'
    by_cases c2 : (decide (b0.toNat % 16 * 4096 + b1.toNat % 64 * 64 + b2.toNat % 64 ≥ 2048) && Utf8.valid ((b0.toNat % 16 * 4096 + b1.toNat % 64 * 64 + b2.toNat % 64 : Nat) : Int)) = true
    · right
      rw [if_pos c2]
      rw [ok_valid] at c2
      simp only [Bool.and_eq_true, decide_eq_true_eq] at c2
      have e : enc (b0.toNat % 16 * 4096 + b1.toNat % 64 * 64 + b2.toNat % 64) = [b0, b1, b2] := by
        unfold enc
        rw [if_neg (by omega), if_neg (by omega), if_pos (by omega)]
        rw [byte_eq (n := 224 + (b0.toNat % 16 * 4096 + b1.toNat % 64 * 64 + b2.toNat % 64) / 4096) (b := b0) (by omega), byte_eq (n := 128 + (b0.toNat % 16 * 4096 + b1.toNat % 64 * 64 + b2.toNat % 64) / 64 % 64) (b := b1) (by omega), byte_eq (n := 128 + (b0.toNat % 16 * 4096 + b1.toNat % 64 * 64 + b2.toNat % 64) % 64) (b := b2) (by omega)]
      refine ⟨c2.2, by rw [e]; rfl, ?_⟩
      rw [e]
      have t0 := ht 0 hpos
      have t1 := ht 1 d1
      have t2 := ht 2 d3
      rw [g0, List.drop_zero] at t0
      rw [g1] at t1
      rw [g2] at t2
      rw [t1, t2] at t0
      exact t0
    · left; rw [if_neg c2]
  rw [if_neg c1']
  by_cases c1'' : (b0.toNat / 8 == 30 && (decide (1 < l.length) && b1.toNat / 64 == 2) && (decide (2 < l.length) && b2.toNat / 64 == 2) && (decide (3 < l.length) && b3.toNat / 64 == 2)) = true
  · rw [if_pos c1'']
    simp only [Bool.and_eq_true, beq_iff_eq, decide_eq_true_eq] at c1''
    obtain ⟨⟨⟨d0, d1, d2⟩, d3, d4⟩, d5, d6⟩ := c1''
    by_cases c2 : (decide (b0.toNat % 8 * 262144 + b1.toNat % 64 * 4096 + b2.toNat % 64 * 64 + b3.toNat % 64 ≥ 65536) && Utf8.valid ((b0.toNat % 8 * 262144 + b1.toNat % 64 * 4096 + b2.toNat % 64 * 64 + b3.toNat % 64 : Nat) : Int)) = true
    · right
      rw [if_pos c2]
      rw [ok_valid] at c2
      simp only [Bool.and_eq_true, decide_eq_true_eq] at c2
      have e : enc (b0.toNat % 8 * 262144 + b1.toNat % 64 * 4096 + b2.toNat % 64 * 64 + b3.toNat % 64) = [b0, b1, b2, b3] := by
        unfold enc
        rw [if_neg (by omega), if_neg (by omega), if_neg (by omega)]
        rw [byte_eq (n := 240 + (b0.toNat % 8 * 262144 + b1.toNat % 64 * 4096 + b2.toNat % 64 * 64 + b3.toNat % 64) / 262144) (b := b0) (by omega), byte_eq (n := 128 + (b0.toNat % 8 * 262144 + b1.toNat % 64 * 4096 + b2.toNat % 64 * 64 + b3.toNat % 64) / 4096 % 64) (b := b1) (by omega), byte_eq (n := 128 + (b0.toNat % 8 * 262144 + b1.toNat % 64 * 4096 + b2.toNat % 64 * 64 + b3.toNat % 64) / 64 % 64) (b := b2) (by omega), byte_eq (n := 128 + (b0.toNat % 8 * 262144 + b1.toNat % 64 * 4096 + b2.toNat % 64 * 64 + b3.toNat % 64) % 64) (b := b3) (by omega)]
      refine ⟨c2.2, by rw [e]; rfl, ?_⟩
      rw [e]
      have t0 := ht 0 hpos
      have t1 := ht 1 d1
      have t2 := ht 2 d3
      have t3 := ht 3 d5
      rw [g0, List.drop_zero] at t0
      rw [g1] at t1
      rw [g2] at t2
      rw [g3] at t3
      rw [t1, t2, t3] at t0
      exact t0
    · left; rw [if_neg c2]
  · left; rw [if_neg c1'']

/-- A text out of runes. -/
def txt (cs : List Nat) : List UInt8 := cs.flatMap enc
def allOk (cs : List Nat) : Prop := ∀ c ∈ cs, ok c
theorem txt_nil : txt [] = [] := rfl
theorem txt_cons (c : Nat) (cs : List Nat) : txt (c :: cs) = enc c ++ txt cs := rfl
theorem txt_append (a b : List Nat) : txt (a ++ b) = txt a ++ txt b := by simp [txt]
theorem txt_len (cs : List Nat) : cs.length ≤ (txt cs).length ∧ (txt cs).length ≤ 4 * cs.length := by
  induction cs with
  | nil => simp [txt]
  | cons c cs ih =>
    have := enc_pos c; have := enc_le c
    rw [txt_cons, List.length_append, List.length_cons]; omega

/-- The runes of a list of bytes, if it is a text of whatever length. -/
def runesF : Nat → List UInt8 → Option (List Nat)
  | _, [] => some []
  | 0, _ :: _ => none
  | f + 1, b :: r => if dec (b :: r) = (65533, 1) then none else (runesF f ((b :: r).drop (dec (b :: r)).2)).map ((dec (b :: r)).1 :: ·)
def runes (l : List UInt8) : Option (List Nat) := runesF l.length l

theorem runesF_txt (cs : List Nat) (h : allOk cs) (f : Nat) (hf : (txt cs).length ≤ f) : runesF f (txt cs) = some cs := by
  induction cs generalizing f with
  | nil => cases f <;> rfl
  | cons c cs ih =>
    have hc : ok c := h c (by simp)
    have hd := dec_enc c hc (txt cs)
    have hp := enc_pos c
    rw [txt_cons] at hf ⊢
    rw [List.length_append] at hf
    match f, hf with
    | 0, hf => omega
    | f + 1, hf =>
      match he : enc c, hp with
      | b :: e, _ =>
        rw [he] at hd hf
        rw [List.cons_append] at hd ⊢
        rw [runesF, hd]
        have hne : (c, (b :: e).length) ≠ (65533, 1) := by
          intro hh
          simp only [Prod.mk.injEq] at hh
          obtain ⟨rfl, hh⟩ := hh
          have : (enc 65533).length = 3 := by decide
          rw [he] at this
          omega
        rw [if_neg hne]
        simp only
        rw [← List.cons_append, List.drop_left, ih (fun x hx => h x (by simp [hx])) f (by simp only [List.length_cons] at hf; omega)]
        rfl
theorem runes_txt (cs : List Nat) (h : allOk cs) : runes (txt cs) = some cs := runesF_txt cs h _ (Nat.le_refl _)

theorem runesF_some (f : Nat) (l : List UInt8) (cs : List Nat) (h : runesF f l = some cs) : allOk cs ∧ l = txt cs := by
  induction f generalizing l cs with
  | zero => cases l with
    | nil => simp [runesF] at h; subst h; exact ⟨fun _ h => by simp at h, rfl⟩
    | cons b r => simp [runesF] at h
  | succ f ih => cases l with
    | nil => simp [runesF] at h; subst h; exact ⟨fun _ h => by simp at h, rfl⟩
    | cons b r =>
      rw [runesF] at h
      split at h
      · cases h
      · rename_i hn
        rcases dec_cases (b :: r) (by simp) with hb | ⟨h1, h2, h3⟩
        · exact absurd hb hn
        · cases hr : runesF f ((b :: r).drop (dec (b :: r)).2) with
          | none => rw [hr] at h; cases h
          | some ds =>
            rw [hr] at h
            simp only [Option.map_some, Option.some.injEq] at h
            subst h
            obtain ⟨i1, i2⟩ := ih _ _ hr
            refine ⟨?_, ?_⟩
            · intro c hc
              rcases List.mem_cons.1 hc with rfl | hc
              · exact h1
              · exact i1 c hc
            · rw [txt_cons, ← i2]; exact h3
theorem runes_some {l : List UInt8} {cs : List Nat} (h : runes l = some cs) : allOk cs ∧ l = txt cs := runesF_some _ _ _ h

theorem runes_nil : runes [] = some [] := rfl

/-- Behind the runes that were read: what is left decides. -/
theorem runes_append (a : List Nat) (ha : allOk a) (r : List UInt8) : runes (txt a ++ r) = (runes r).map (a ++ ·) := by
  cases hr : runes r with
  | some cs =>
    obtain ⟨h1, rfl⟩ := runes_some hr
    rw [← txt_append, runes_txt _ (fun c hc => by rcases List.mem_append.1 hc with h | h; exact ha c h; exact h1 c h)]
    rfl
  | none =>
    cases hs : runes (txt a ++ r) with
    | none => rfl
    | some cs =>
      exfalso
      obtain ⟨h1, h2⟩ := runes_some hs
      -- the runes of the whole begin with a's
      have key : ∀ (a cs : List Nat), allOk a → allOk cs → ∀ r, txt a ++ r = txt cs → ∃ ds, allOk ds ∧ r = txt ds := by
        intro a
        induction a with
        | nil => intro cs _ h r e; exact ⟨cs, h, e⟩
        | cons c a ih =>
          intro cs ha h r e
          cases cs with
          | nil =>
            have hp := enc_pos c
            have e2 := congrArg List.length e
            rw [txt_cons, txt_nil, List.length_append, List.length_append, List.length_nil] at e2
            omega
          | cons d cs =>
            rw [txt_cons, txt_cons, List.append_assoc] at e
            have e1 := dec_enc c (ha c (by simp)) (txt a ++ r)
            have e2 := dec_enc d (h d (by simp)) (txt cs)
            rw [e, e2] at e1
            simp only [Prod.mk.injEq] at e1
            obtain ⟨rfl, _⟩ := e1
            exact ih cs (fun x hx => ha x (by simp [hx])) (fun x hx => h x (by simp [hx])) r (List.append_cancel_left e)
      obtain ⟨ds, hd, rfl⟩ := key a cs ha h1 r h2
      rw [runes_txt ds hd] at hr
      cases hr

theorem runes_bad (l : List UInt8) (h : l ≠ []) (hb : dec l = (65533, 1)) : runes l = none := by
  cases l with
  | nil => exact absurd rfl h
  | cons b r => unfold runes; rw [List.length_cons, runesF, if_pos hb]

/-- A text of at most so many runes as the document lets: its runes. -/
def rd (l : List UInt8) : Option (List Nat) := match runes l with
  | some cs => if cs.length ≤ 20000 then some cs else none
  | none => none
theorem rd_txt (cs : List Nat) (h : allOk cs) (hn : cs.length ≤ 20000) : rd (txt cs) = some cs := by unfold rd; rw [runes_txt cs h]; simp [hn]
theorem rd_some {l : List UInt8} {cs : List Nat} (h : rd l = some cs) : allOk cs ∧ l = txt cs ∧ cs.length ≤ 20000 := by
  unfold rd at h
  cases hr : runes l with
  | none => rw [hr] at h; cases h
  | some ds =>
    rw [hr] at h
    simp only at h
    split at h
    · simp only [Option.some.injEq] at h; subst h
      obtain ⟨h1, h2⟩ := runes_some hr
      exact ⟨h1, h2, ‹_›⟩
    · cases h

/-- The bytes EF BF BD, which stand for 'no rune' where they are asked for. -/
theorem bad_iff (l : List UInt8) (h : l ≠ []) : dec l = (65533, 1) ↔ ((dec l).1 = 65533 ∧ ([239, 191, 189] : List UInt8).isPrefixOf l = false) := by
  constructor
  · intro hb
    refine ⟨by rw [hb], ?_⟩
    cases hp : ([239, 191, 189] : List UInt8).isPrefixOf l with
    | false => rfl
    | true =>
      exfalso
      obtain ⟨r, rfl⟩ := List.isPrefixOf_iff_prefix.1 hp
      have := dec_enc 65533 (by unfold ok; omega) r
      have e : enc 65533 = [239, 191, 189] := by decide
      rw [e, hb] at this
      simp at this
  · intro ⟨h1, h2⟩
    rcases dec_cases l h with hb | ⟨_, _, h3⟩
    · exact hb
    · exfalso
      rw [h1] at h3
      have e : enc 65533 = [239, 191, 189] := by decide
      rw [e] at h3
      have : ([239, 191, 189] : List UInt8).isPrefixOf l = true := List.isPrefixOf_iff_prefix.2 ⟨_, h3.symm⟩
      rw [this] at h2
      cases h2

/-- A text as the program holds it. -/
def T (cs : List Nat) : ByteArray := ⟨(txt cs).toArray⟩
theorem T_data (cs : List Nat) : (T cs).data.toList = txt cs := rfl
theorem T_size (cs : List Nat) : (T cs).size = (txt cs).length := by simp [T, ByteArray.size]
theorem ba_ext {s : ByteArray} {l : List UInt8} (h : s.data.toList = l) : s = ⟨l.toArray⟩ := by subst h; cases s; simp
theorem rd_T {s : ByteArray} {cs : List Nat} (h : rd s.data.toList = some cs) : s = T cs := ba_ext (rd_some h).2.1
theorem ba_inj {s t : ByteArray} (h : s.data.toList = t.data.toList) : s = t := by
  cases s; cases t; simp only at h; congr 1; exact Array.ext' h
theorem T_drop (cs : List Nat) (i : Nat) : (T cs).extract (txt (cs.take i)).length (T cs).size = T (cs.drop i) := by
  apply ba_inj
  rw [ByteArray.data_extract, Array.toList_extract, T_size, T_data, T_data]
  have e : txt cs = txt (cs.take i) ++ txt (cs.drop i) := by rw [← txt_append, List.take_append_drop]
  simp only [List.extract_eq_take_drop]
  rw [e, List.drop_left, List.length_append, Nat.add_sub_cancel_left, List.take_length]
theorem T_take (cs : List Nat) (i : Nat) : (T cs).extract 0 (txt (cs.take i)).length = T (cs.take i) := by
  apply ba_inj
  rw [ByteArray.data_extract, Array.toList_extract, T_data, T_data]
  have e : txt cs = txt (cs.take i) ++ txt (cs.drop i) := by rw [← txt_append, List.take_append_drop]
  simp only [List.extract_eq_take_drop]
  rw [List.drop_zero, Nat.sub_zero, e, List.take_left]
theorem T_mid (cs : List Nat) (i j : Nat) (h : i ≤ j) : (T cs).extract (txt (cs.take i)).length (txt (cs.take j)).length = T ((cs.take j).drop i) := by
  apply ba_inj
  rw [ByteArray.data_extract, Array.toList_extract, T_data, T_data]
  have e : txt cs = txt (cs.take j) ++ txt (cs.drop j) := by rw [← txt_append, List.take_append_drop]
  have e2 : txt (cs.take j) = txt (cs.take i) ++ txt ((cs.take j).drop i) := by
    rw [← txt_append]
    congr 1
    have := List.take_append_drop i (cs.take j)
    rw [List.take_take, Nat.min_eq_left h] at this
    exact this.symm
  simp only [List.extract_eq_take_drop]
  rw [e, e2, List.append_assoc, List.drop_left, List.length_append, Nat.add_sub_cancel_left, List.take_left]
theorem len_mid (cs : List Nat) (i j : Nat) (h : i ≤ j) : (txt (cs.take j)).length = (txt (cs.take i)).length + (txt ((cs.drop i).take (j - i))).length := by
  have e2 : txt (cs.take j) = txt (cs.take i) ++ txt ((cs.drop i).take (j - i)) := by
    rw [← txt_append]
    congr 1
    obtain ⟨d, rfl⟩ := Nat.exists_eq_add_of_le h
    rw [Nat.add_sub_cancel_left, List.take_add]
  rw [e2, List.length_append]
theorem len_take_le (cs : List Nat) (i : Nat) : (txt (cs.take i)).length ≤ (txt cs).length := by
  have e : txt cs = txt (cs.take i) ++ txt (cs.drop i) := by rw [← txt_append, List.take_append_drop]
  rw [e, List.length_append]; omega
end Rn
end Go.Proofs.YtacgkbdldbppjaaGreatDoor

/- The library's contracts that this seat's walks use, laid at this dump. -/
namespace Go.Proofs
open Go.Shelf
def Tryz.lays170_ren : Go.Shelf.Ren := ⟨fun | 170 => 33 | n => n, fun | 70 => 55 | 3 => 3 | 0 => 0 | 72 => 58 | 37 => 56 | 5 => 5 | n => n, fun | n => n⟩
theorem Tryz.lays170 : Go.Proofs.Lays.n170 Tryz.prog Tryz.lays170_ren := {
  mixed := by kernel_rfl
  f170 := Tryz.func33.trans (congrArg some (by kernel_rfl))
  t0 := Tryz.underlying0
  a0 := Tryz.isAgg0
  z0 := Tryz.sizeOf0
  v0 := Tryz.zeroValue0
  t3 := Tryz.underlying3
  a3 := Tryz.isAgg3
  z3 := Tryz.sizeOf3
  v3 := Tryz.zeroValue3
  t37 := Tryz.underlying56
  a37 := Tryz.isAgg56
  z37 := Tryz.sizeOf56
  v37 := Tryz.zeroValue56
  t70 := Tryz.underlying55
  a70 := Tryz.isAgg55
  z70 := Tryz.sizeOf55
  v70 := Tryz.zeroValue55
  t72 := Tryz.underlying58
  a72 := Tryz.isAgg58
  z72 := Tryz.sizeOf58
  v72 := Tryz.zeroValue58 }
def Tryz.lays169_ren : Go.Shelf.Ren := ⟨fun | 169 => 34 | n => n, fun | 70 => 55 | 9 => 9 | 0 => 0 | 72 => 58 | 37 => 56 | 127 => 94 | 3 => 3 | 5 => 5 | n => n, fun | n => n⟩
theorem Tryz.lays169 : Go.Proofs.Lays.n169 Tryz.prog Tryz.lays169_ren := {
  mixed := by kernel_rfl
  f169 := Tryz.func34.trans (congrArg some (by kernel_rfl))
  t0 := Tryz.underlying0
  a0 := Tryz.isAgg0
  z0 := Tryz.sizeOf0
  v0 := Tryz.zeroValue0
  t3 := Tryz.underlying3
  a3 := Tryz.isAgg3
  z3 := Tryz.sizeOf3
  v3 := Tryz.zeroValue3
  t9 := Tryz.underlying9
  a9 := Tryz.isAgg9
  z9 := Tryz.sizeOf9
  v9 := Tryz.zeroValue9
  t37 := Tryz.underlying56
  a37 := Tryz.isAgg56
  z37 := Tryz.sizeOf56
  v37 := Tryz.zeroValue56
  t70 := Tryz.underlying55
  a70 := Tryz.isAgg55
  z70 := Tryz.sizeOf55
  v70 := Tryz.zeroValue55
  t72 := Tryz.underlying58
  a72 := Tryz.isAgg58
  z72 := Tryz.sizeOf58
  v72 := Tryz.zeroValue58
  t127 := Tryz.underlying94
  a127 := Tryz.isAgg94
  z127 := Tryz.sizeOf94
  v127 := Tryz.zeroValue94 }
theorem Tryz.Builder_Extra_169 : Builder.Extra Tryz.prog Tryz.lays169_ren := {
  sizeBuilder := by kernel_rfl
  liesBuilder := by kernel_rfl
  t5 := Tryz.underlying5
  a5 := Tryz.isAgg5
  z5 := Tryz.sizeOf5
  v5 := Tryz.zeroValue5
  infoByte := by kernel_rfl
  cellsByte := by kernel_rfl
  sizeByte := by kernel_rfl
  neB5 := by decide }
open Go.RowKit in
theorem Tryz.Builder_Len_f (B b : Nat) (bs : List Value) (w : World) (h : Lib.IsBuilderF 58 5 B b bs w) :
    Calls Tryz.prog 33 #[.pointer (some ⟨b, 0, none⟩)] w fun e w' => e = .returned (.int .i64 bs.length) ∧ w' = w := Any.Builder_Len_f Tryz.lays170 B b bs w h
open Go.RowKit in
theorem Tryz.Builder_String_any_k (B b : Nat) (l : List UInt8) (w : World) (h : Lib.IsBuilderF 58 5 B b (Lib.byteCells l) w) (hBw : B ≤ w.heap.size) :
    Calls Tryz.prog 34 #[.pointer (some ⟨b, 0, none⟩)] w fun e w' => e = .returned (.string ⟨l.toArray⟩) ∧ (Lib.IsBuilderF 58 5 B b (Lib.byteCells l) w' ∧ Below B w w' ∧ Lib.OthersKept 5 (some b) w w') := Any.Builder_String_any_k Tryz.lays169 Tryz.Builder_Extra_169 B b l w h hBw
def Tryz.laysM171_ren : Go.Shelf.Ren := ⟨fun | 171 => 31 | 243 => 59 | 246 => 88 | 283 => 104 | 284 => 105 | 285 => 106 | 286 => 107 | 129 => 118 | 317 => 117 | 318 => 119 | 319 => 120 | 320 => 121 | 337 => 132 | 338 => 133 | n => n, fun | 3 => 3 | 9 => 9 | 2 => 2 | 4 => 4 | 171 => 125 | 0 => 0 | 53 => 120 | 37 => 56 | 5 => 5 | 173 => 128 | 212 => 134 | 51 => 135 | 20 => 20 | 213 => 136 | 46 => 100 | 232 => 153 | 233 => 154 | n => n, fun | 17 => 2 | 18 => 5 | 19 => 6 | n => n⟩
theorem Tryz.laysM171 : Go.Proofs.LaysM.n171 Tryz.prog Tryz.laysM171_ren := {
  mixed := by kernel_rfl
  f129 := Tryz.func118.trans (congrArg some (by kernel_rfl))
  f171 := Tryz.func31.trans (congrArg some (by kernel_rfl))
  f243 := Tryz.func59.trans (congrArg some (by kernel_rfl))
  f246 := Tryz.func88.trans (congrArg some (by kernel_rfl))
  f283 := Tryz.func104.trans (congrArg some (by kernel_rfl))
  f284 := Tryz.func105.trans (congrArg some (by kernel_rfl))
  f285 := Tryz.func106.trans (congrArg some (by kernel_rfl))
  f286 := Tryz.func107.trans (congrArg some (by kernel_rfl))
  f317 := Tryz.func117.trans (congrArg some (by kernel_rfl))
  f318 := Tryz.func119.trans (congrArg some (by kernel_rfl))
  f319 := Tryz.func120.trans (congrArg some (by kernel_rfl))
  f320 := Tryz.func121.trans (congrArg some (by kernel_rfl))
  f337 := Tryz.func132.trans (congrArg some (by kernel_rfl))
  f338 := Tryz.func133.trans (congrArg some (by kernel_rfl))
  t0 := Tryz.underlying0
  a0 := Tryz.isAgg0
  z0 := Tryz.sizeOf0
  v0 := Tryz.zeroValue0
  t2 := Tryz.underlying2
  a2 := Tryz.isAgg2
  z2 := Tryz.sizeOf2
  v2 := Tryz.zeroValue2
  t3 := Tryz.underlying3
  a3 := Tryz.isAgg3
  z3 := Tryz.sizeOf3
  v3 := Tryz.zeroValue3
  t4 := Tryz.underlying4
  a4 := Tryz.isAgg4
  z4 := Tryz.sizeOf4
  v4 := Tryz.zeroValue4
  t5 := Tryz.underlying5
  a5 := Tryz.isAgg5
  z5 := Tryz.sizeOf5
  v5 := Tryz.zeroValue5
  t9 := Tryz.underlying9
  a9 := Tryz.isAgg9
  z9 := Tryz.sizeOf9
  v9 := Tryz.zeroValue9
  t20 := Tryz.underlying20
  a20 := Tryz.isAgg20
  z20 := Tryz.sizeOf20
  v20 := Tryz.zeroValue20
  t37 := Tryz.underlying56
  a37 := Tryz.isAgg56
  z37 := Tryz.sizeOf56
  v37 := Tryz.zeroValue56
  t46 := Tryz.underlying100
  a46 := Tryz.isAgg100
  z46 := Tryz.sizeOf100
  v46 := Tryz.zeroValue100
  t51 := Tryz.underlying135
  a51 := Tryz.isAgg135
  z51 := Tryz.sizeOf135
  v51 := Tryz.zeroValue135
  t53 := Tryz.underlying120
  a53 := Tryz.isAgg120
  z53 := Tryz.sizeOf120
  v53 := Tryz.zeroValue120
  t171 := Tryz.underlying125
  a171 := Tryz.isAgg125
  z171 := Tryz.sizeOf125
  v171 := Tryz.zeroValue125
  t173 := Tryz.underlying128
  a173 := Tryz.isAgg128
  z173 := Tryz.sizeOf128
  v173 := Tryz.zeroValue128
  t212 := Tryz.underlying134
  a212 := Tryz.isAgg134
  z212 := Tryz.sizeOf134
  v212 := Tryz.zeroValue134
  t213 := Tryz.underlying136
  a213 := Tryz.isAgg136
  z213 := Tryz.sizeOf136
  t232 := Tryz.underlying153
  a232 := Tryz.isAgg153
  z232 := Tryz.sizeOf153
  v232 := Tryz.zeroValue153
  t233 := Tryz.underlying154
  a233 := Tryz.isAgg154
  z233 := Tryz.sizeOf154
  v233 := Tryz.zeroValue154
  g17 := by kernel_rfl
  g18 := by kernel_rfl
  g19 := by kernel_rfl
  i0 := by kernel_rfl
  i2 := by kernel_rfl
  i3 := by kernel_rfl
  i4 := by kernel_rfl
  i5 := by kernel_rfl
  i9 := by kernel_rfl
  i20 := by kernel_rfl
  i37 := by kernel_rfl
  i46 := by kernel_rfl
  i51 := by kernel_rfl
  i53 := by kernel_rfl
  i171 := by kernel_rfl
  i173 := by kernel_rfl
  i212 := by kernel_rfl
  i232 := by kernel_rfl
  i233 := by kernel_rfl
  m17 := by kernel_rfl
  m18 := by kernel_rfl
  m19 := by kernel_rfl }
open Go.RowKit Go.Sort Go.Lib in
theorem Tryz.strconv_Itoa (n : Int) (h0 : -9223372036854775808 ≤ n) (h1 : n ≤ 9223372036854775807) (w : World) (htab : Lib.TabIs Tryz.prog w "internal/strconv.uint64pow10" .u64 Lib.pow10Tab) :
    Calls Tryz.prog 31 #[.int .i64 n] w fun e w' => e = .returned (.string ⟨(Lib.itoa n).toArray⟩) ∧ ∃ k os, w' = grow (w.drewN k) os := Any.strconv_Itoa Tryz.laysM171 n h0 h1 w htab
def Tryz.laysM316_ren : Go.Shelf.Ren := ⟨fun | 316 => 131 | n => n, fun | 9 => 9 | 3 => 3 | 4 => 4 | 37 => 56 | 0 => 0 | 127 => 94 | 5 => 5 | n => n, fun | n => n⟩
theorem Tryz.laysM316 : Go.Proofs.LaysM.n316 Tryz.prog Tryz.laysM316_ren := {
  mixed := by kernel_rfl
  f316 := Tryz.func131.trans (congrArg some (by kernel_rfl))
  t0 := Tryz.underlying0
  a0 := Tryz.isAgg0
  z0 := Tryz.sizeOf0
  v0 := Tryz.zeroValue0
  t3 := Tryz.underlying3
  a3 := Tryz.isAgg3
  z3 := Tryz.sizeOf3
  v3 := Tryz.zeroValue3
  t4 := Tryz.underlying4
  a4 := Tryz.isAgg4
  z4 := Tryz.sizeOf4
  v4 := Tryz.zeroValue4
  t9 := Tryz.underlying9
  a9 := Tryz.isAgg9
  z9 := Tryz.sizeOf9
  v9 := Tryz.zeroValue9
  t37 := Tryz.underlying56
  a37 := Tryz.isAgg56
  z37 := Tryz.sizeOf56
  v37 := Tryz.zeroValue56
  t127 := Tryz.underlying94
  a127 := Tryz.isAgg94
  z127 := Tryz.sizeOf94
  v127 := Tryz.zeroValue94
  t5 := Tryz.underlying5
  a5 := Tryz.isAgg5
  z5 := Tryz.sizeOf5
  v5 := Tryz.zeroValue5
  i0 := by kernel_rfl
  i3 := by kernel_rfl
  i4 := by kernel_rfl
  i5 := by kernel_rfl
  i9 := by kernel_rfl
  i37 := by kernel_rfl
  i127 := by kernel_rfl }
open Go.RowKit in
theorem Tryz.stringslite_Clone (s : ByteArray) (w : World) (hlim : s.size ≤ 281474976710656) :
    Calls Tryz.prog 131 #[.string s] w fun e w' => e = .returned (.string s) ∧ Below w.heap.size w w' := Any.stringslite_Clone Tryz.laysM316 s w hlim
def Tryz.laysC172_ren : Go.Shelf.Ren := ⟨fun | 172 => 95 | 244 => 109 | 245 => 110 | 247 => 122 | 279 => 123 | 280 => 124 | 281 => 125 | 282 => 126 | 287 => 134 | 316 => 131 | 171 => 31 | 205 => 135 | 321 => 139 | 322 => 140 | 243 => 59 | 246 => 88 | 283 => 104 | 284 => 105 | 285 => 106 | 286 => 107 | 129 => 118 | 317 => 117 | 318 => 119 | 319 => 120 | 320 => 121 | 337 => 132 | 338 => 133 | n => n, fun | 9 => 9 | 3 => 3 | 75 => 60 | 76 => 61 | 4 => 4 | 5 => 5 | 167 => 139 | 37 => 56 | 0 => 0 | 85 => 140 | 2 => 2 | 168 => 142 | 53 => 120 | 175 => 147 | 46 => 100 | 210 => 150 | 127 => 94 | 145 => 158 | 143 => 156 | 21 => 21 | 171 => 125 | 173 => 128 | 212 => 134 | 51 => 135 | 20 => 20 | 213 => 136 | 232 => 153 | 233 => 154 | 80 => 66 | n => n, fun | 15 => 3 | 16 => 4 | 17 => 2 | 18 => 5 | 19 => 6 | n => n⟩
theorem Tryz.laysC172 : Go.Proofs.LaysC.n172 Tryz.prog Tryz.laysC172_ren := {
  mixed := by kernel_rfl
  f129 := Tryz.func118.trans (congrArg some (by kernel_rfl))
  f171 := Tryz.func31.trans (congrArg some (by kernel_rfl))
  f172 := Tryz.func95.trans (congrArg some (by kernel_rfl))
  f205 := Tryz.func135.trans (congrArg some (by kernel_rfl))
  f243 := Tryz.func59.trans (congrArg some (by kernel_rfl))
  f244 := Tryz.func109.trans (congrArg some (by kernel_rfl))
  f245 := Tryz.func110.trans (congrArg some (by kernel_rfl))
  f246 := Tryz.func88.trans (congrArg some (by kernel_rfl))
  f247 := Tryz.func122.trans (congrArg some (by kernel_rfl))
  f279 := Tryz.func123.trans (congrArg some (by kernel_rfl))
  f280 := Tryz.func124.trans (congrArg some (by kernel_rfl))
  f281 := Tryz.func125.trans (congrArg some (by kernel_rfl))
  f282 := Tryz.func126.trans (congrArg some (by kernel_rfl))
  f283 := Tryz.func104.trans (congrArg some (by kernel_rfl))
  f284 := Tryz.func105.trans (congrArg some (by kernel_rfl))
  f285 := Tryz.func106.trans (congrArg some (by kernel_rfl))
  f286 := Tryz.func107.trans (congrArg some (by kernel_rfl))
  f287 := Tryz.func134.trans (congrArg some (by kernel_rfl))
  f316 := Tryz.func131.trans (congrArg some (by kernel_rfl))
  f317 := Tryz.func117.trans (congrArg some (by kernel_rfl))
  f318 := Tryz.func119.trans (congrArg some (by kernel_rfl))
  f319 := Tryz.func120.trans (congrArg some (by kernel_rfl))
  f320 := Tryz.func121.trans (congrArg some (by kernel_rfl))
  f321 := Tryz.func139.trans (congrArg some (by kernel_rfl))
  f322 := Tryz.func140.trans (congrArg some (by kernel_rfl))
  f337 := Tryz.func132.trans (congrArg some (by kernel_rfl))
  f338 := Tryz.func133.trans (congrArg some (by kernel_rfl))
  t0 := Tryz.underlying0
  a0 := Tryz.isAgg0
  z0 := Tryz.sizeOf0
  v0 := Tryz.zeroValue0
  t2 := Tryz.underlying2
  a2 := Tryz.isAgg2
  z2 := Tryz.sizeOf2
  v2 := Tryz.zeroValue2
  t3 := Tryz.underlying3
  a3 := Tryz.isAgg3
  z3 := Tryz.sizeOf3
  v3 := Tryz.zeroValue3
  t4 := Tryz.underlying4
  a4 := Tryz.isAgg4
  z4 := Tryz.sizeOf4
  v4 := Tryz.zeroValue4
  t5 := Tryz.underlying5
  a5 := Tryz.isAgg5
  z5 := Tryz.sizeOf5
  v5 := Tryz.zeroValue5
  t9 := Tryz.underlying9
  a9 := Tryz.isAgg9
  z9 := Tryz.sizeOf9
  v9 := Tryz.zeroValue9
  t20 := Tryz.underlying20
  a20 := Tryz.isAgg20
  z20 := Tryz.sizeOf20
  v20 := Tryz.zeroValue20
  t21 := Tryz.underlying21
  a21 := Tryz.isAgg21
  z21 := Tryz.sizeOf21
  v21 := Tryz.zeroValue21
  t37 := Tryz.underlying56
  a37 := Tryz.isAgg56
  z37 := Tryz.sizeOf56
  v37 := Tryz.zeroValue56
  t46 := Tryz.underlying100
  a46 := Tryz.isAgg100
  z46 := Tryz.sizeOf100
  v46 := Tryz.zeroValue100
  t51 := Tryz.underlying135
  a51 := Tryz.isAgg135
  z51 := Tryz.sizeOf135
  v51 := Tryz.zeroValue135
  t53 := Tryz.underlying120
  a53 := Tryz.isAgg120
  z53 := Tryz.sizeOf120
  v53 := Tryz.zeroValue120
  t75 := Tryz.underlying60
  a75 := Tryz.isAgg60
  z75 := Tryz.sizeOf60
  v75 := Tryz.zeroValue60
  t76 := Tryz.underlying61
  a76 := Tryz.isAgg61
  z76 := Tryz.sizeOf61
  v76 := Tryz.zeroValue61
  t85 := Tryz.underlying140
  a85 := Tryz.isAgg140
  z85 := Tryz.sizeOf140
  v85 := Tryz.zeroValue140
  t127 := Tryz.underlying94
  a127 := Tryz.isAgg94
  z127 := Tryz.sizeOf94
  v127 := Tryz.zeroValue94
  t143 := Tryz.underlying156
  a143 := Tryz.isAgg156
  z143 := Tryz.sizeOf156
  v143 := Tryz.zeroValue156
  t145 := Tryz.underlying158
  a145 := Tryz.isAgg158
  z145 := Tryz.sizeOf158
  v145 := Tryz.zeroValue158
  t167 := Tryz.underlying139
  a167 := Tryz.isAgg139
  z167 := Tryz.sizeOf139
  v167 := Tryz.zeroValue139
  t168 := Tryz.underlying142
  a168 := Tryz.isAgg142
  z168 := Tryz.sizeOf142
  v168 := Tryz.zeroValue142
  t171 := Tryz.underlying125
  a171 := Tryz.isAgg125
  z171 := Tryz.sizeOf125
  v171 := Tryz.zeroValue125
  t173 := Tryz.underlying128
  a173 := Tryz.isAgg128
  z173 := Tryz.sizeOf128
  v173 := Tryz.zeroValue128
  t175 := Tryz.underlying147
  a175 := Tryz.isAgg147
  z175 := Tryz.sizeOf147
  v175 := Tryz.zeroValue147
  t210 := Tryz.underlying150
  a210 := Tryz.isAgg150
  z210 := Tryz.sizeOf150
  v210 := Tryz.zeroValue150
  t212 := Tryz.underlying134
  a212 := Tryz.isAgg134
  z212 := Tryz.sizeOf134
  v212 := Tryz.zeroValue134
  t213 := Tryz.underlying136
  a213 := Tryz.isAgg136
  z213 := Tryz.sizeOf136
  t232 := Tryz.underlying153
  a232 := Tryz.isAgg153
  z232 := Tryz.sizeOf153
  v232 := Tryz.zeroValue153
  t233 := Tryz.underlying154
  a233 := Tryz.isAgg154
  z233 := Tryz.sizeOf154
  v233 := Tryz.zeroValue154
  g15 := by kernel_rfl
  g16 := by kernel_rfl
  g17 := by kernel_rfl
  g18 := by kernel_rfl
  g19 := by kernel_rfl
  t80 := Tryz.underlying66
  a80 := Tryz.isAgg66
  z80 := Tryz.sizeOf66
  v80 := Tryz.zeroValue66
  i0 := by kernel_rfl
  i2 := by kernel_rfl
  i3 := by kernel_rfl
  i4 := by kernel_rfl
  i5 := by kernel_rfl
  i9 := by kernel_rfl
  i20 := by kernel_rfl
  i21 := by kernel_rfl
  i37 := by kernel_rfl
  i46 := by kernel_rfl
  i51 := by kernel_rfl
  i53 := by kernel_rfl
  i75 := by kernel_rfl
  i76 := by kernel_rfl
  i80 := by kernel_rfl
  i85 := by kernel_rfl
  i127 := by kernel_rfl
  i143 := by kernel_rfl
  i145 := by kernel_rfl
  i167 := by kernel_rfl
  i168 := by kernel_rfl
  i171 := by kernel_rfl
  i173 := by kernel_rfl
  i175 := by kernel_rfl
  i210 := by kernel_rfl
  i212 := by kernel_rfl
  i232 := by kernel_rfl
  i233 := by kernel_rfl
  m15 := by kernel_rfl
  m16 := by kernel_rfl
  m17 := by kernel_rfl
  m18 := by kernel_rfl
  m19 := by kernel_rfl
  c0 := by kernel_rfl
  c2 := by kernel_rfl
  c3 := by kernel_rfl
  c4 := by kernel_rfl
  c5 := by kernel_rfl
  c9 := by kernel_rfl
  c20 := by kernel_rfl
  c21 := by kernel_rfl
  c37 := by kernel_rfl
  c46 := by kernel_rfl
  c51 := by kernel_rfl
  c53 := by kernel_rfl
  c75 := by kernel_rfl
  c76 := by kernel_rfl
  c80 := by kernel_rfl
  c85 := by kernel_rfl
  c127 := by kernel_rfl
  c143 := by kernel_rfl
  c145 := by kernel_rfl
  c167 := by kernel_rfl
  c168 := by kernel_rfl
  c171 := by kernel_rfl
  c173 := by kernel_rfl
  c175 := by kernel_rfl
  c210 := by kernel_rfl
  c212 := by kernel_rfl
  c213 := by kernel_rfl
  c232 := by kernel_rfl
  c233 := by kernel_rfl }
open Go.RowKit in
theorem Tryz.strconv_Atoi_ok (s : ByteArray) (hmax : s.size ≤ 9223372036854775806) (v : Int) (h : Lib.atoiAll s.data.toList = .ok v) (w : World) :
    Calls Tryz.prog 95 #[.string s] w fun e w' => e = .returned (.tuple #[.int .i64 v, .nilIface]) ∧ (w' = w ∨ ∃ t, w' = Lib.bytesWorld w 5 t) := Any.strconv_Atoi_ok Tryz.laysC172 s hmax v h w
open Go.RowKit in
theorem Tryz.strconv_Atoi_syntax (s : ByteArray) (hlim : s.size ≤ 281474976710656) (h : s.data.toList = []) (ev : Value) (w : World) (hv : w.cell? ⟨3, 0, none⟩ = some ev) (hev : ev = .nilIface ∨ ∃ te pe, ev = .iface te pe) :
    Calls Tryz.prog 95 #[.string s] w fun e w' => ∃ N, e = .returned (.tuple #[.int .i64 (0), .iface 142 (.pointer (some ⟨N, 0, none⟩))]) ∧ w.heap.size ≤ N ∧ w'.heap[N]? = some (.cells #[.string ⟨#[65, 116, 111, 105]⟩, .string s, ev] 150 (0, 0)) ∧ Below w.heap.size w w' := Any.strconv_Atoi_syntax Tryz.laysC172 s hlim (by rw [h]; rfl) ev w hv hev
def Tryz.lays99_ren : Go.Shelf.Ren := ⟨fun | 99 => 94 | 206 => 108 | n => n, fun | 9 => 9 | 4 => 4 | 3 => 3 | n => n, fun | n => n⟩
theorem Tryz.lays99 : Go.Proofs.Lays.n99 Tryz.prog Tryz.lays99_ren := {
  mixed := by kernel_rfl
  f99 := Tryz.func94.trans (congrArg some (by kernel_rfl))
  f206 := Tryz.func108.trans (congrArg some (by kernel_rfl))
  t3 := Tryz.underlying3
  a3 := Tryz.isAgg3
  z3 := Tryz.sizeOf3
  v3 := Tryz.zeroValue3
  t4 := Tryz.underlying4
  a4 := Tryz.isAgg4
  z4 := Tryz.sizeOf4
  v4 := Tryz.zeroValue4
  t9 := Tryz.underlying9
  a9 := Tryz.isAgg9
  z9 := Tryz.sizeOf9
  v9 := Tryz.zeroValue9 }
open Go.RowKit Go.Lib in
theorem Tryz.strings_HasPrefix (s p : ByteArray) (w : World) :
    Calls Tryz.prog 94 #[.string s, .string p] w fun e w' => e = .returned (.bool (Lib.hasPrefix s.data.toList p.data.toList)) ∧ w' = w := Any.strings_HasPrefix Tryz.lays99 s p w
def Tryz.laysValid_ren : Go.Shelf.Ren := ⟨fun | 196 => 36 | 259 => 62 | n => n, fun | 9 => 9 | 4 => 4 | 3 => 3 | 5 => 5 | 12 => 12 | 119 => 96 | 0 => 0 | 46 => 100 | 139 => 99 | 138 => 98 | 53 => 120 | n => n, fun | 3 => 0 | 4 => 1 | n => n⟩
theorem Tryz.laysValid : Go.Proofs.Lays.n196 Tryz.prog Tryz.laysValid_ren := {
  mixed := by kernel_rfl
  f196 := Tryz.func36.trans (congrArg some (by kernel_rfl))
  f259 := Tryz.func62.trans (congrArg some (by kernel_rfl))
  t0 := Tryz.underlying0
  a0 := Tryz.isAgg0
  z0 := Tryz.sizeOf0
  v0 := Tryz.zeroValue0
  t3 := Tryz.underlying3
  a3 := Tryz.isAgg3
  z3 := Tryz.sizeOf3
  v3 := Tryz.zeroValue3
  t4 := Tryz.underlying4
  a4 := Tryz.isAgg4
  z4 := Tryz.sizeOf4
  v4 := Tryz.zeroValue4
  t5 := Tryz.underlying5
  a5 := Tryz.isAgg5
  z5 := Tryz.sizeOf5
  v5 := Tryz.zeroValue5
  t9 := Tryz.underlying9
  a9 := Tryz.isAgg9
  z9 := Tryz.sizeOf9
  v9 := Tryz.zeroValue9
  t12 := Tryz.underlying12
  a12 := Tryz.isAgg12
  z12 := Tryz.sizeOf12
  v12 := Tryz.zeroValue12
  t46 := Tryz.underlying100
  a46 := Tryz.isAgg100
  z46 := Tryz.sizeOf100
  v46 := Tryz.zeroValue100
  t53 := Tryz.underlying120
  a53 := Tryz.isAgg120
  z53 := Tryz.sizeOf120
  v53 := Tryz.zeroValue120
  t119 := Tryz.underlying96
  a119 := Tryz.isAgg96
  z119 := Tryz.sizeOf96
  t138 := Tryz.underlying98
  a138 := Tryz.isAgg98
  z138 := Tryz.sizeOf98
  v138 := Tryz.zeroValue98
  t139 := Tryz.underlying99
  a139 := Tryz.isAgg99
  z139 := Tryz.sizeOf99
  v139 := Tryz.zeroValue99
  g3 := by kernel_rfl
  g4 := by kernel_rfl }
open Go.RowKit in
theorem Tryz.utf8_ValidString (s : ByteArray) (w : World) (hs : s.size ≤ 9223372036854775807) (hT : Lib.Utf8Tabs (Tryz.laysValid_ren.g 3) (Tryz.laysValid_ren.g 4) w) :
    Calls Tryz.prog 36 #[.string s] w fun e w' => e = .returned (.bool (Lib.validD s.data.toList)) ∧ Below w.heap.size w w' := Any.utf8_ValidString Tryz.laysValid s w hs hT
end Go.Proofs

/- runes.Count: how many runes a text has, or the error that it is none: at every string, valid or not. -/
namespace Go.Proofs.YtacgkbdldbppjaaGreatDoor
open Go.RowKit Rn

def cnt (l : List UInt8) : Int := match rd l with | some cs => cs.length | none => 0
def er (l : List UInt8) : Int := match rd l with | some _ => 0 | none => 10
theorem cnt_some {l : List UInt8} {cs : List Nat} (h : rd l = some cs) : cnt l = cs.length := by unfold cnt; rw [h]
theorem er_some {l : List UInt8} {cs : List Nat} (h : rd l = some cs) : er l = 0 := by unfold er; rw [h]
theorem cnt_none {l : List UInt8} (h : rd l = none) : cnt l = 0 := by unfold cnt; rw [h]
theorem er_none {l : List UInt8} (h : rd l = none) : er l = 10 := by unfold er; rw [h]

/-- Twenty thousand runes and one more byte: no text. -/
theorem rd_long {l r : List UInt8} {done : List Nat} (hd : allOk done) (hn : done.length = 20000) (hl : l = txt done ++ r) (hr : r ≠ []) : rd l = none := by
  unfold rd
  rw [hl, runes_append done hd]
  cases h : runes r with
  | none => rfl
  | some cs =>
    have : cs ≠ [] := by
      rintro rfl
      exact hr (runes_some h).2
    have h1 : 1 ≤ cs.length := by
      cases cs with
      | nil => exact absurd rfl this
      | cons _ _ => simp
    simp [hn]
    omega
theorem rd_bad {l r : List UInt8} {done : List Nat} (hd : allOk done) (hl : l = txt done ++ r) (hr : r ≠ []) (hb : dec r = (65533, 1)) : rd l = none := by
  unfold rd
  rw [hl, runes_append done hd, runes_bad r hr hb]
  rfl
theorem rd_done {l : List UInt8} {done : List Nat} (hd : allOk done) (hn : done.length ≤ 20000) (hl : l = txt done) : rd l = some done := by
  rw [hl]; exact rd_txt done hd hn

theorem drop_ne {s : ByteArray} {pos : Nat} (h : pos < s.size) : s.data.toList.drop pos ≠ [] := by
  intro e
  have := congrArg List.length e
  simp at this
  have h2 : s.data.size = s.size := rfl
  omega

theorem step_good {s : ByteArray} {pos : Nat} {done : List Nat} (h : s.data.toList = txt done ++ s.data.toList.drop pos) (hd : allOk done) (hlt : pos < s.size) (hb : dec (s.data.toList.drop pos) ≠ (65533, 1)) :
    s.data.toList = txt (done ++ [(dec (s.data.toList.drop pos)).1]) ++ s.data.toList.drop (pos + (dec (s.data.toList.drop pos)).2) ∧ allOk (done ++ [(dec (s.data.toList.drop pos)).1]) := by
  rcases dec_cases _ (drop_ne hlt) with hb' | ⟨h1, _, h3⟩
  · exact absurd hb' hb
  · refine ⟨?_, fun c hc => ?_⟩
    · have e1 : txt [(dec (s.data.toList.drop pos)).1] = enc (dec (s.data.toList.drop pos)).1 := by simp [txt]
      rw [txt_append, e1, ← List.drop_drop, List.append_assoc, ← h3]
      exact h
    · rcases List.mem_append.1 hc with hc | hc
      · exact hd c hc
      · rw [List.mem_singleton] at hc; subst hc; exact h1
theorem take_all (s : ByteArray) (pos : Nat) : List.take (s.size - pos) (List.drop pos s.data.toList) = List.drop pos s.data.toList :=
  List.take_of_length_le (by simp)

set_option maxHeartbeats 400000 in
theorem count_any (s : ByteArray) (w : World) (hs : s.size ≤ maxLen) :
    Calls Tryz.prog 114 #[.string s] w fun e w' => e = .returned (.tuple #[.int .i64 (cnt s.data.toList), .int .i64 (er s.data.toList)]) ∧ Below w.heap.size w w' := by
  unfold maxLen at hs
  go_enter Tryz.func114, Tryz.ntmps114
  go_wp2
  go_loopw [4] (fun n wr => ∃ (done : List Nat) (pos : Nat), n = .int .i64 (done.length : Int) ∧ allOk done ∧ done.length ≤ 20000 ∧ s.data.toList = txt done ++ s.data.toList.drop pos ∧ pos ≤ s.size ∧ wr.heap[w.heap.size]? = some (.stringIter s pos) ∧ Below w.heap.size w wr) (fun _ wr => s.size - wr.iterPos w.heap.size)
  case atStart =>
    refine ⟨[], 0, rfl, fun _ h => (by cases h), by simp, by simp [txt_nil], by omega, World.iter_heap w s 0, (Below.refl _ w).alloc (Nat.le_refl _) _⟩
  case round =>
    obtain ⟨done, pos, rfl, hok, hn, hl, hp, hit, hbw⟩ := hrel
    by_cases hlt : pos < s.size
    · have hnx : ∀ ty, (Instr.next (.pointer (some ⟨w.heap.size, 0, none⟩)) true ty).run Tryz.prog wr = _ := fun ty => Lib.run_next_any_at wr w.heap.size s pos ty hit hlt
      have hne := drop_ne hlt
      have hde := decode_eq s pos
      have hwd : (Utf8.decode s pos).2 ≤ s.size - pos ∧ 1 ≤ (Utf8.decode s pos).2 := by
        rw [hde]
        rcases dec_cases _ hne with hb | ⟨_, h2, h3⟩
        · rw [hb]; simp; omega
        · have := congrArg List.length h3
          rw [List.length_append, ← h2] at this
          simp only [List.length_drop, Array.length_toList] at this
          have h2' := enc_pos (dec (s.data.toList.drop pos)).1
          have hsz : s.data.size = s.size := rfl
          omega
      have H : Hid (Utf8.decode s pos = dec (s.data.toList.drop pos)) := hde
      clear hde
      have H2 : Hid (s.data.toList = txt done ++ s.data.toList.drop pos) := hl
      clear hl
      go_wp2_with (first | (go_at_call 94; refine (Tryz.strings_HasPrefix _ _ _).mono ?_; rintro e w' ⟨rfl, rfl⟩))
      · have h20 : (done.length : Int) = 20000 := by assumption
        go_ret2
        have e := rd_long hok (by omega) H2.out hne
        rw [cnt_none e, er_none e]
        exact ⟨rfl, hbw.trans (Lib.below_iterAt (Below.refl _ _) (Nat.le_refl _) _ _)⟩
      · have hr : ((Utf8.decode s pos).1 : Int) = 65533 := by assumption
        have hq : ((done.length : Int) == 20000) = true ∨ (!Lib.hasPrefix (List.take (s.size - pos) (List.drop pos s.data.toList)) [239, 191, 189]) = true := by assumption
        go_ret2
        have hq2 : Lib.hasPrefix (List.drop pos s.data.toList) [239, 191, 189] = false := by
          rw [take_all] at hq
          rcases hq with hq | hq
          · exact absurd (by simpa using hq) (by assumption)
          · simpa using hq
        have e := rd_bad hok H2.out hne ((bad_iff _ hne).2 ⟨by rw [← H.out]; omega, hq2⟩)
        rw [cnt_none e, er_none e]
        exact ⟨rfl, hbw.trans (Lib.below_iterAt (Below.refl _ _) (Nat.le_refl _) _ _)⟩
      · have hq : ((done.length : Int) == 20000) = false ∧ (!Lib.hasPrefix (List.take (s.size - pos) (List.drop pos s.data.toList)) [239, 191, 189]) = false := by assumption
        have hnb : dec (s.data.toList.drop pos) ≠ (65533, 1) := by
          intro hb
          have := ((bad_iff _ hne).1 hb).2
          rw [take_all] at hq
          have q2 : Lib.hasPrefix (List.drop pos s.data.toList) [239, 191, 189] = true := by simpa using hq.2
          unfold Lib.hasPrefix at q2
          rw [this] at q2
          cases q2
        have hg := step_good H2.out hok hlt hnb
        rw [← H.out] at hg
        go_roundw
        case rel => exact ⟨_, _, by simp, hg.2, by simp; omega, hg.1, by omega, Lib.iterAt_heap _ _ _ _ _ hit, Lib.below_iterAt hbw (Nat.le_refl _) _ _⟩
        case measure => simp only [World.iterPos, Lib.iterAt_heap _ _ _ _ _ hit, hit]; omega
      · have hr : ¬ ((Utf8.decode s pos).1 : Int) = 65533 := by assumption
        have hnb : dec (s.data.toList.drop pos) ≠ (65533, 1) := by
          intro hb
          rw [H.out, hb] at hr
          exact hr rfl
        have hg := step_good H2.out hok hlt hnb
        rw [← H.out] at hg
        go_roundw
        case rel => exact ⟨_, _, by simp, hg.2, by simp; omega, hg.1, by omega, Lib.iterAt_heap _ _ _ _ _ hit, Lib.below_iterAt hbw (Nat.le_refl _) _ _⟩
        case measure => simp only [World.iterPos, Lib.iterAt_heap _ _ _ _ _ hit, hit]; omega
    · have hnx : ∀ ty, (Instr.next (.pointer (some ⟨w.heap.size, 0, none⟩)) true ty).run Tryz.prog wr = _ := fun ty => Lib.run_next_end_at wr w.heap.size s pos ty hit hlt
      have hend : rd s.data.toList = some done := rd_done hok hn (by
        rw [List.drop_eq_nil_of_le (by simp; have : s.data.size = s.size := rfl; omega), List.append_nil] at hl
        exact hl)
      have H := Lib.hid hend
      clear hend hl
      go_wp2_with fail
      go_ret2
      rw [cnt_some H.out, er_some H.out]
      exact ⟨rfl, hbw⟩
end Go.Proofs.YtacgkbdldbppjaaGreatDoor

/- Plain rising rows of keys and values: what a key has, putting one in, and the four works on them. -/
namespace Go.Proofs.YtacgkbdldbppjaaGreatDoor
namespace At
abbrev K := ByteArray
abbrev V := ByteArray

/-- An order without equals, of any two one way. -/
structure Strict (lt : K → K → Bool) : Prop where
  irr : ∀ a, lt a a = false
  tr : ∀ a b c, lt a b = true → lt b c = true → lt a c = true
  tot : ∀ a b, a ≠ b → lt a b = true ∨ lt b a = true
def look : List (K × V) → K → Option V
  | [], _ => none
  | x :: r, k => if x.1 = k then some x.2 else look r k
def Rises (lt : K → K → Bool) (l : List (K × V)) : Prop := l.Pairwise fun x y => lt x.1 y.1 = true
def put (lt : K → K → Bool) : List (K × V) → K × V → List (K × V)
  | [], p => [p]
  | q :: r, p => if lt q.1 p.1 = true then q :: put lt r p else p :: q :: r

variable {lt : K → K → Bool}
theorem Strict.ne (h : Strict lt) {a b : K} (hl : lt a b = true) : a ≠ b := fun e => by
  subst e
  rw [h.irr] at hl
  cases hl
theorem look_none {l : List (K × V)} {k : K} (h : ∀ x ∈ l, x.1 ≠ k) : look l k = none := by
  induction l with
  | nil => rfl
  | cons x r ih => rw [look, if_neg (h x (List.mem_cons_self ..)), ih fun y hy => h y (List.mem_cons_of_mem _ hy)]
theorem look_mem {l : List (K × V)} {k : K} {v : V} (h : look l k = some v) : (k, v) ∈ l := by
  induction l with
  | nil => cases h
  | cons x r ih =>
    rw [look] at h
    split at h
    · rename_i e
      injection h with h
      subst e; subst h
      exact List.mem_cons_self ..
    · exact List.mem_cons_of_mem _ (ih h)
theorem look_of_mem (hs : Strict lt) {l : List (K × V)} (h : Rises lt l) {x : K × V} (hx : x ∈ l) : look l x.1 = some x.2 := by
  induction l with
  | nil => cases hx
  | cons y r ih =>
    rw [look]
    rcases List.mem_cons.1 hx with rfl | hx
    · rw [if_pos rfl]
    · rw [if_neg (hs.ne ((List.pairwise_cons.1 h).1 x hx)), ih (List.pairwise_cons.1 h).2 hx]
theorem Rises.tail {x : K × V} {r : List (K × V)} (h : Rises lt (x :: r)) : Rises lt r := (List.pairwise_cons.1 h).2
theorem Rises.head (hs : Strict lt) {x : K × V} {r : List (K × V)} (h : Rises lt (x :: r)) : look r x.1 = none :=
  look_none fun y hy e => hs.ne ((List.pairwise_cons.1 h).1 y hy) e.symm
theorem Rises.before (hs : Strict lt) {x : K × V} {r : List (K × V)} (h : Rises lt (x :: r)) {k : K} (hk : lt k x.1 = true) : look (x :: r) k = none :=
  look_none fun y hy e => by
    rcases List.mem_cons.1 hy with rfl | hy
    · exact hs.ne hk e.symm
    · exact hs.ne (hs.tr _ _ _ hk ((List.pairwise_cons.1 h).1 y hy)) e.symm
/-- Two rising rows that answer alike are one. -/
theorem ext (hs : Strict lt) {l m : List (K × V)} (hl : Rises lt l) (hm : Rises lt m) (h : ∀ k, look l k = look m k) : l = m := by
  induction l generalizing m with
  | nil =>
    cases m with
    | nil => rfl
    | cons y s => have := h y.1; rw [look, look, if_pos rfl] at this; cases this
  | cons x r ih =>
    cases m with
    | nil => have := h x.1; rw [look, look, if_pos rfl] at this; cases this
    | cons y s =>
      have e1 : x.1 = y.1 := Decidable.byContradiction fun hne => by
        rcases hs.tot _ _ hne with hlt | hlt
        · have := h x.1
          rw [hm.before hs hlt, look, if_pos rfl] at this
          cases this
        · have := h y.1
          rw [hl.before hs hlt, look, if_pos rfl] at this
          cases this
      have e2 : x.2 = y.2 := by
        have := h x.1
        rw [look, if_pos rfl, look, if_pos e1.symm] at this
        exact Option.some.inj this
      have e3 : x = y := Prod.ext e1 e2
      subst e3
      rw [ih hl.tail hm.tail fun k => ?_]
      by_cases hk : x.1 = k
      · subst hk
        rw [hl.head hs, hm.head hs]
      · have := h k
        rwa [look, if_neg hk, look, if_neg hk] at this

theorem mem_put {l : List (K × V)} {p x : K × V} : x ∈ put lt l p ↔ x = p ∨ x ∈ l := by
  induction l with
  | nil => simp [put]
  | cons q r ih =>
    rw [put]
    split
    · rw [List.mem_cons, ih, List.mem_cons]
      constructor
      · rintro (h | h | h)
        · exact .inr (.inl h)
        · exact .inl h
        · exact .inr (.inr h)
      · rintro (h | h | h)
        · exact .inr (.inl h)
        · exact .inl h
        · exact .inr (.inr h)
    · rw [List.mem_cons]
theorem put_len (l : List (K × V)) (p : K × V) : (put lt l p).length = l.length + 1 := by
  induction l with
  | nil => rfl
  | cons q r ih =>
    rw [put]
    split
    · rw [List.length_cons, ih, List.length_cons]
    · rfl
theorem look_put {l : List (K × V)} {p : K × V} (hp : look l p.1 = none) (k : K) : look (put lt l p) k = if p.1 = k then some p.2 else look l k := by
  induction l with
  | nil => rfl
  | cons q r ih =>
    rw [look] at hp
    split at hp
    · cases hp
    · rename_i hne
      rw [put]
      split
      · rw [look, ih hp, look]
        by_cases hk : q.1 = k
        · rw [if_pos hk, if_pos hk, if_neg (fun e => hne (hk.trans e.symm))]
        · rw [if_neg hk, if_neg hk]
      · rw [look]
theorem rises_put (hs : Strict lt) {l : List (K × V)} {p : K × V} (hl : Rises lt l) (hp : look l p.1 = none) : Rises lt (put lt l p) := by
  induction l with
  | nil => exact List.pairwise_singleton _ _
  | cons q r ih =>
    rw [look] at hp
    split at hp
    · cases hp
    · rename_i hne
      rw [put]
      split
      · rename_i hlt
        refine List.pairwise_cons.2 ⟨fun y hy => ?_, ih hl.tail hp⟩
        rcases mem_put.1 hy with rfl | hy
        · exact hlt
        · exact (List.pairwise_cons.1 hl).1 y hy
      · rename_i hlt
        have hpq : lt p.1 q.1 = true := by
          rcases hs.tot _ _ hne with h | h
          · exact absurd h hlt
          · exact h
        refine List.pairwise_cons.2 ⟨fun y hy => ?_, hl⟩
        rcases List.mem_cons.1 hy with rfl | hy
        · exact hpq
        · exact hs.tr _ _ _ hpq ((List.pairwise_cons.1 hl).1 y hy)

/-- One after another put in, none of whose keys is there. -/
def puts (lt : K → K → Bool) (l ps : List (K × V)) : List (K × V) := ps.foldl (put lt) l
theorem puts_all (hs : Strict lt) {ps : List (K × V)} (hps : Rises lt ps) {l : List (K × V)} (hl : Rises lt l) (hd : ∀ x ∈ ps, look l x.1 = none) :
    Rises lt (puts lt l ps) ∧ (puts lt l ps).length = l.length + ps.length ∧ ∀ k, look (puts lt l ps) k = (look ps k).or (look l k) := by
  induction ps generalizing l with
  | nil => exact ⟨hl, rfl, fun k => rfl⟩
  | cons p r ih =>
    have hp := hd p (List.mem_cons_self ..)
    have hr := rises_put hs hl hp
    have hd2 : ∀ x ∈ r, look (put lt l p) x.1 = none := fun x hx => by
      rw [look_put hp, if_neg (hs.ne ((List.pairwise_cons.1 hps).1 x hx))]
      exact hd x (List.mem_cons_of_mem _ hx)
    obtain ⟨h1, h2, h3⟩ := ih hps.tail hr hd2
    refine ⟨h1, ?_, fun k => ?_⟩
    · show (puts lt (put lt l p) r).length = _
      rw [h2, put_len, List.length_cons]
      omega
    · show look (puts lt (put lt l p) r) k = _
      rw [h3, look_put hp, look]
      by_cases hk : p.1 = k
      · rw [if_pos hk, if_pos hk]
        have := hps.head hs
        rw [hk] at this
        rw [this]
        rfl
      · rw [if_neg hk, if_neg hk]
theorem mem_puts {ps l : List (K × V)} {x : K × V} : x ∈ puts lt l ps ↔ x ∈ ps ∨ x ∈ l := by
  induction ps generalizing l with
  | nil => simp [puts]
  | cons p r ih =>
    show x ∈ puts lt (put lt l p) r ↔ _
    rw [ih, mem_put, List.mem_cons]
    constructor
    · rintro (h | h | h)
      · exact .inl (.inr h)
      · exact .inl (.inl h)
      · exact .inr h
    · rintro ((h | h) | h)
      · exact .inr (.inl h)
      · exact .inl h
      · exact .inr (.inr h)

theorem look_keys (q : K → Bool) (l : List (K × V)) (k : K) : look (l.filter fun x => q x.1) k = if q k = true then look l k else none := by
  induction l with
  | nil => rw [List.filter_nil, look, ite_self]
  | cons x r ih =>
    rw [List.filter_cons]
    by_cases hq : q x.1 = true
    · rw [if_pos hq, look, ih, look]
      by_cases hk : x.1 = k
      · rw [if_pos hk, ← hk, if_pos hq, if_pos rfl]
      · rw [if_neg hk, if_neg hk]
    · rw [if_neg hq, ih, look]
      by_cases hk : x.1 = k
      · rw [← hk, if_neg hq, if_neg hq]
      · rw [if_neg hk]
theorem look_values (hs : Strict lt) (q : V → Bool) {l : List (K × V)} (h : Rises lt l) (k : K) : look (l.filter fun x => q x.2) k = (look l k).filter q := by
  induction l with
  | nil => rfl
  | cons x r ih =>
    rw [List.filter_cons, look]
    have ih := ih h.tail
    by_cases hk : x.1 = k
    · rw [if_pos hk]
      have h0 := h.head hs
      rw [hk] at h0
      by_cases hq : q x.2 = true
      · rw [if_pos hq, look, if_pos hk, Option.filter, if_pos hq]
      · rw [if_neg hq, ih, h0, Option.filter, if_neg hq]
        rfl
    · rw [if_neg hk, ← ih]
      by_cases hq : q x.2 = true
      · rw [if_pos hq, look, if_neg hk]
      · rw [if_neg hq]
theorem rises_filter {l : List (K × V)} (h : Rises lt l) (q : K × V → Bool) : Rises lt (l.filter q) := List.Pairwise.filter q h

/-- The four works, e the empty value. -/
def composeL (lt : K → K → Bool) (a b : List (K × V)) : List (K × V) := puts lt b (a.filter fun x => (look b x.1).isNone)
def applyL (lt : K → K → Bool) (e : V) (l c : List (K × V)) : List (K × V) := puts lt (puts lt [] (l.filter fun x => (look c x.1).isNone)) (c.filter fun x => decide (x.2 ≠ e))
def followL (a b : List (K × V)) (first : Bool) : List (K × V) := b.filter fun x => first || (look a x.1).isNone
def invertL (e : V) (l c : List (K × V)) : List (K × V) := c.filterMap fun x => if (look l x.1).getD e = x.2 then none else some (x.1, (look l x.1).getD e)

theorem compose_all (hs : Strict lt) {a b : List (K × V)} (ha : Rises lt a) (hb : Rises lt b) :
    Rises lt (composeL lt a b) ∧ ∀ k, look (composeL lt a b) k = (look b k).or (look a k) := by
  have hf := rises_filter ha fun x => (look b x.1).isNone
  have hd : ∀ x ∈ a.filter (fun x => (look b x.1).isNone), look b x.1 = none := fun x hx => by simpa using (List.mem_filter.1 hx).2
  obtain ⟨h1, _, h3⟩ := puts_all hs hf hb hd
  refine ⟨h1, fun k => ?_⟩
  rw [composeL, h3, look_keys fun k => (look b k).isNone]
  cases look b k <;> simp
theorem apply_all (hs : Strict lt) (e : V) {l c : List (K × V)} (hl : Rises lt l) (hc : Rises lt c) :
    Rises lt (applyL lt e l c) ∧ ∀ k, look (applyL lt e l c) k = match look c k with | none => look l k | some v => if v = e then none else some v := by
  have hf := rises_filter hl fun x => (look c x.1).isNone
  obtain ⟨h1, _, h3⟩ := puts_all hs hf (l := []) List.Pairwise.nil fun x _ => rfl
  have hg := rises_filter hc fun x => decide (x.2 ≠ e)
  have hk := h3
  have h4 : ∀ k, look (puts lt [] (l.filter fun x => (look c x.1).isNone)) k = if (look c k).isNone = true then look l k else none := fun k => by
    rw [h3, look_keys fun k => (look c k).isNone]
    split <;> simp [look]
  have hd : ∀ x ∈ c.filter (fun x => decide (x.2 ≠ e)), look (puts lt [] (l.filter fun x => (look c x.1).isNone)) x.1 = none := fun x hx => by
    rw [h4, look_of_mem hs hc (List.mem_filter.1 hx).1]
    rfl
  obtain ⟨h5, _, h6⟩ := puts_all hs hg h1 hd
  refine ⟨h5, fun k => ?_⟩
  rw [applyL, h6, h4, look_values hs (fun v => decide (v ≠ e)) hc]
  cases look c k with
  | none => simp
  | some v => by_cases hv : v = e <;> simp [hv, Option.filter]
theorem follow_all {a b : List (K × V)} (first : Bool) (hb : Rises lt b) :
    Rises lt (followL a b first) ∧ ∀ k, look (followL a b first) k = if (first || (look a k).isNone) = true then look b k else none :=
  ⟨rises_filter hb _, fun k => look_keys (fun k => first || (look a k).isNone) b k⟩
theorem invert_mem {e : V} {l c : List (K × V)} {y : K × V} (h : y ∈ invertL e l c) : ∃ v, (y.1, v) ∈ c ∧ y.2 = (look l y.1).getD e ∧ y.2 ≠ v := by
  obtain ⟨x, hx, hy⟩ := List.mem_filterMap.1 h
  split at hy
  · cases hy
  · rename_i hne
    injection hy with hy
    subst hy
    exact ⟨x.2, hx, rfl, hne⟩
theorem invert_all (hs : Strict lt) (e : V) {l c : List (K × V)} (hc : Rises lt c) :
    Rises lt (invertL e l c) ∧ ∀ k, look (invertL e l c) k = match look c k with | none => none | some v => if (look l k).getD e = v then none else some ((look l k).getD e) := by
  induction c with
  | nil => exact ⟨List.Pairwise.nil, fun k => rfl⟩
  | cons x r ih =>
    obtain ⟨h1, h2⟩ := ih hc.tail
    have hx : ∀ y ∈ invertL e l r, lt x.1 y.1 = true := fun y hy => by
      obtain ⟨v, hm, _⟩ := invert_mem hy
      exact (List.pairwise_cons.1 hc).1 (y.1, v) hm
    have hx0 : look (invertL e l r) x.1 = none := look_none fun y hy e => hs.ne (hx y hy) e.symm
    have hstep : invertL e l (x :: r) = if (look l x.1).getD e = x.2 then invertL e l r else (x.1, (look l x.1).getD e) :: invertL e l r := by
      unfold invertL
      rw [List.filterMap_cons]
      by_cases hv : (look l x.1).getD e = x.2
      · rw [if_pos hv, if_pos hv]
      · rw [if_neg hv, if_neg hv]
    rw [hstep]
    by_cases hv : (look l x.1).getD e = x.2
    · rw [if_pos hv]
      refine ⟨h1, fun k => ?_⟩
      rw [look]
      by_cases hk : x.1 = k
      · subst hk
        rw [if_pos rfl, hx0]
        show none = if _ then _ else _
        rw [if_pos hv]
      · rw [if_neg hk, h2]
    · rw [if_neg hv]
      refine ⟨List.pairwise_cons.2 ⟨hx, h1⟩, fun k => ?_⟩
      rw [look, look]
      by_cases hk : x.1 = k
      · subst hk
        rw [if_pos rfl, if_pos rfl]
        show _ = if _ then _ else _
        rw [if_neg hv]
      · rw [if_neg hk, if_neg hk, h2]

/-- What was changed is brought back (no value of l is empty). -/
theorem back (hs : Strict lt) (e : V) {l a : List (K × V)} (hl : Rises lt l) (ha : Rises lt a) (hne : ∀ x ∈ l, x.2 ≠ e) : applyL lt e (applyL lt e l a) (invertL e l a) = l := by
  obtain ⟨h1, h2⟩ := apply_all hs e hl ha
  obtain ⟨h3, h4⟩ := invert_all hs e (l := l) ha
  obtain ⟨h5, h6⟩ := apply_all hs e h1 h3
  refine ext hs h5 hl fun k => ?_
  rw [h6, h4, h2]
  have hk : ∀ v, look l k = some v → v ≠ e := fun v hv => hne _ (look_mem hv)
  cases hak : look a k with
  | none => rfl
  | some v =>
    cases hlk : look l k with
    | none => by_cases hv : e = v <;> simp [hv]
    | some u =>
      have := hk u hlk
      by_cases hv : u = v
      · subst hv
        simp [this]
      · simp [hv, this]
/-- Two changes, one after the other, are one. -/
theorem two (hs : Strict lt) (e : V) {l a b : List (K × V)} (hl : Rises lt l) (ha : Rises lt a) (hb : Rises lt b) : applyL lt e (applyL lt e l a) b = applyL lt e l (composeL lt a b) := by
  obtain ⟨h1, h2⟩ := apply_all hs e hl ha
  obtain ⟨h3, h4⟩ := compose_all hs ha hb
  obtain ⟨h5, h6⟩ := apply_all hs e h1 hb
  obtain ⟨h7, h8⟩ := apply_all hs e hl h3
  refine ext hs h5 h7 fun k => ?_
  rw [h6, h8, h4, h2]
  cases look b k with
  | none => rfl
  | some v => rfl
/-- In whatever order, one of them first. -/
theorem meets (hs : Strict lt) (e : V) {l a b : List (K × V)} (first : Bool) (hl : Rises lt l) (ha : Rises lt a) (hb : Rises lt b) :
    applyL lt e (applyL lt e l a) (followL a b first) = applyL lt e (applyL lt e l b) (followL b a (!first)) := by
  obtain ⟨h1, h2⟩ := apply_all hs e hl ha
  obtain ⟨h1', h2'⟩ := apply_all hs e hl hb
  obtain ⟨h3, h4⟩ := follow_all (a := a) first hb
  obtain ⟨h3', h4'⟩ := follow_all (a := b) (!first) ha
  obtain ⟨h5, h6⟩ := apply_all hs e h1 h3
  obtain ⟨h7, h8⟩ := apply_all hs e h1' h3'
  refine ext hs h5 h7 fun k => ?_
  rw [h6, h8, h4, h4', h2, h2']
  cases look a k <;> cases look b k <;> cases first <;> simp
theorem three (hs : Strict lt) {a b c : List (K × V)} (ha : Rises lt a) (hb : Rises lt b) (hc : Rises lt c) : composeL lt (composeL lt a b) c = composeL lt a (composeL lt b c) := by
  obtain ⟨h1, h2⟩ := compose_all hs ha hb
  obtain ⟨h3, h4⟩ := compose_all hs hb hc
  obtain ⟨h5, h6⟩ := compose_all hs h1 hc
  obtain ⟨h7, h8⟩ := compose_all hs ha h3
  refine ext hs h5 h7 fun k => ?_
  rw [h6, h8, h2, h4]
  cases look c k <;> rfl
theorem compose_nil (hs : Strict lt) {c : List (K × V)} (hc : Rises lt c) : composeL lt [] c = c ∧ composeL lt c [] = c := by
  obtain ⟨h1, h2⟩ := compose_all hs (a := []) List.Pairwise.nil hc
  obtain ⟨h3, h4⟩ := compose_all hs hc (b := []) List.Pairwise.nil
  exact ⟨rfl, ext hs h3 hc fun k => by rw [h4]; rfl⟩
theorem apply_nil (hs : Strict lt) (e : V) {l : List (K × V)} (hl : Rises lt l) : applyL lt e l [] = l := by
  obtain ⟨h1, h2⟩ := apply_all hs e hl (c := []) List.Pairwise.nil
  exact ext hs h1 hl fun k => by rw [h2]; rfl
theorem follow_nil (c : List (K × V)) (first : Bool) : followL [] c first = c ∧ followL c [] first = [] := by
  refine ⟨?_, rfl⟩
  unfold followL
  simp [look]
end At
end Go.Proofs.YtacgkbdldbppjaaGreatDoor

/- What a key is, what a value is: the document's own answers. -/
namespace Go.Proofs.YtacgkbdldbppjaaGreatDoor
open Go.RowKit At

def okc (n : Nat) : Bool := decide (65 ≤ n ∧ n ≤ 90 ∨ 97 ≤ n ∧ n ≤ 122 ∨ 48 ≤ n ∧ n ≤ 57 ∨ n = 45 ∨ n = 95)
def okv (n : Nat) : Bool := decide (32 ≤ n ∧ n ≤ 126)
def allC (q : Nat → Bool) (s : ByteArray) : Prop := ∀ k (h : k < s.size), q (s[k].toNat) = true
instance (q : Nat → Bool) (s : ByteArray) : Decidable (allC q s) := inferInstanceAs (Decidable (∀ k (_h : k < s.size), _))
def keyB (s : ByteArray) : Bool := decide (allC okc s ∧ 1 ≤ s.size ∧ s.size ≤ 32)
def valB (s : ByteArray) : Bool := decide (allC okv s ∧ s.size ≤ 64)

theorem keyB_bad {s : ByteArray} {k : Nat} (hk : k < s.size) (h : okc (s[k].toNat) = false) : keyB s = false :=
  decide_eq_false fun hh => by
    have := hh.1 k hk
    rw [h] at this
    cases this
theorem valB_bad {s : ByteArray} {k : Nat} (hk : k < s.size) (h : okv (s[k].toNat) = false) : valB s = false :=
  decide_eq_false fun hh => by
    have := hh.1 k hk
    rw [h] at this
    cases this

set_option maxHeartbeats 4000000 in
theorem key_any (s : ByteArray) (w : World) (hs : s.size ≤ maxLen) : Calls Tryz.prog 99 #[.string s] w fun e w' => e = .returned (.bool (keyB s)) ∧ w' = w := by
  have hs' : s.size ≤ 9223372036854775807 := hs
  go_enter Tryz.func99, Tryz.ntmps99
  go_wp2_with fail
  go_loopw [3, 4] (fun i _ wr => ∃ k : Nat, i = .int .i64 (k : Int) ∧ k ≤ s.size ∧ (∀ j (h : j < s.size), j < k → okc (s[j].toNat) = true) ∧ wr = w) (fun i _ _ => s.size - (intOf i).toNat)
  case atStart => exact ⟨0, rfl, by omega, fun j _ h => by omega, rfl⟩
  case round =>
    obtain ⟨k, rfl, hk, hall, rfl⟩ := hrel
    have Hall := Lib.hid hall
    clear hall
    by_cases hlt : k < s.size
    · have hlt' : (k : Int) < (s.size : Int) := by omega
      have step : okc (s[k].toNat) = true → ∀ j (h : j < s.size), j < k + 1 → okc (s[j].toNat) = true := fun h0 j hj hjk => by
        by_cases e : j = k
        · subst e; exact h0
        · exact Hall.out j hj (by omega)
      have Step := Lib.hid step
      have Bad := Lib.hid (fun h => keyB_bad (s := s) hlt h)
      clear step
      go_wp2_with fail
      all_goals
        first
          | (refine ⟨⟨k + 1, by go_num, by omega, Step.out ?_, by trivial⟩, by simp [intOf]; omega⟩
             clear Hall Step Bad
             unfold okc
             rw [decide_eq_true_iff]
             generalize s[k].toNat = c at *
             simp at *
             omega)
          | (go_ret
             refine ⟨(congrArg (fun b => Ending.returned (Value.bool b)) (Bad.out ?_).symm : Ending.returned (.bool false) = _), by trivial⟩
             clear Hall Step Bad
             unfold okc
             rw [decide_eq_false_iff_not]
             generalize s[k].toNat = c at *
             simp at *
             omega)
          | skip
    · have hkn : k = s.size := by omega
      subst hkn
      have hd : keyB s = decide (1 ≤ s.size ∧ s.size ≤ 32) := by
        unfold keyB
        congr 1
        exact propext ⟨fun h => h.2, fun h => ⟨fun j hj => Hall.out j hj hj, h⟩⟩
      have Hd := Lib.hid hd
      clear hd
      by_cases h1 : 1 ≤ s.size
      · have h1' : (1 : Int) ≤ (s.size : Int) := by omega
        have hd2 : (decide ((s.size : Int) ≤ 32)) = keyB s := by
          rw [Hd.out]
          by_cases h2 : s.size ≤ 32
          · rw [decide_eq_true (show (s.size : Int) ≤ 32 by omega), decide_eq_true ⟨h1, h2⟩]
          · rw [decide_eq_false (show ¬ (s.size : Int) ≤ 32 by omega), decide_eq_false fun h => h2 h.2]
        have Hd2 := Lib.hid hd2
        clear hd2
        go_wp2_with fail
        go_ret
        exact ⟨congrArg (fun b => Ending.returned (Value.bool b)) Hd2.out, rfl⟩
      · have hz : s.size = 0 := by omega
        have hd2 : false = keyB s := by
          rw [Hd.out, decide_eq_false fun h => h1 h.1]
        have Hd2 := Lib.hid hd2
        clear hd2
        have h1' : decide ((1 : Int) ≤ (s.size : Int)) = false := by rw [hz]; rfl
        clear hz
        go_wp2_with fail
        go_ret
        exact ⟨congrArg (fun b => Ending.returned (Value.bool b)) Hd2.out, rfl⟩

set_option maxHeartbeats 4000000 in
theorem value_any (s : ByteArray) (w : World) (hs : s.size ≤ maxLen) : Calls Tryz.prog 100 #[.string s] w fun e w' => e = .returned (.bool (valB s)) ∧ w' = w := by
  have hs' : s.size ≤ 9223372036854775807 := hs
  go_enter Tryz.func100, Tryz.ntmps100
  go_wp2_with fail
  go_loopw [3] (fun i wr => ∃ k : Nat, i = .int .i64 (k : Int) ∧ k ≤ s.size ∧ (∀ j (h : j < s.size), j < k → okv (s[j].toNat) = true) ∧ wr = w) (fun i _ => s.size - (intOf i).toNat)
  case atStart => exact ⟨0, rfl, by omega, fun j _ h => by omega, rfl⟩
  case round =>
    obtain ⟨k, rfl, hk, hall, rfl⟩ := hrel
    have Hall := Lib.hid hall
    clear hall
    by_cases hlt : k < s.size
    · have hlt' : (k : Int) < (s.size : Int) := by omega
      have step : okv (s[k].toNat) = true → ∀ j (h : j < s.size), j < k + 1 → okv (s[j].toNat) = true := fun h0 j hj hjk => by
        by_cases e : j = k
        · subst e; exact h0
        · exact Hall.out j hj (by omega)
      have Step := Lib.hid step
      have Bad := Lib.hid (fun h => valB_bad (s := s) hlt h)
      clear step
      go_wp2_with fail
      all_goals
        first
          | (refine ⟨⟨k + 1, by go_num, by omega, Step.out ?_, by trivial⟩, by simp [intOf]; omega⟩
             clear Hall Step Bad
             unfold okv
             rw [decide_eq_true_iff]
             generalize s[k].toNat = c at *
             simp at *
             omega)
          | (go_ret
             refine ⟨(congrArg (fun b => Ending.returned (Value.bool b)) (Bad.out ?_).symm : Ending.returned (.bool false) = _), by trivial⟩
             clear Hall Step Bad
             unfold okv
             rw [decide_eq_false_iff_not]
             generalize s[k].toNat = c at *
             simp at *
             omega)
          | skip
    · have hkn : k = s.size := by omega
      subst hkn
      have hd : decide ((s.size : Int) ≤ 64) = valB s := by
        unfold valB
        by_cases h2 : s.size ≤ 64
        · rw [decide_eq_true (show (s.size : Int) ≤ 64 by omega), decide_eq_true ⟨fun j hj => Hall.out j hj hj, h2⟩]
        · rw [decide_eq_false (show ¬ (s.size : Int) ≤ 64 by omega), decide_eq_false fun h => h2 h.2]
      have Hd := Lib.hid hd
      clear hd
      go_wp2_with fail
      go_ret
      exact ⟨congrArg (fun b => Ending.returned (Value.bool b)) Hd.out, rfl⟩
end Go.Proofs.YtacgkbdldbppjaaGreatDoor

/- Rows of attributes in memory; their order. -/
namespace Go.Proofs.YtacgkbdldbppjaaGreatDoor
open Go.RowKit

/-- A row of attributes, nil or not: each element is two cells, a key's and a value's. -/
def AtRow (w : World) (v : Value) (l : List (ByteArray × ByteArray)) : Prop :=
  ∃ a cap, v = .slice a l.length cap ∧ l.length ≤ cap ∧ cap ≤ maxLen ∧ ∀ i (h : i < l.length), ∃ b off, a = some ⟨b, off, none⟩ ∧ b < w.heap.size ∧ w.cell? ⟨b, off + i * 2, none⟩ = some (.string l[i].1) ∧ w.cell? ⟨b, off + i * 2 + 1, none⟩ = some (.string l[i].2)
theorem AtRow.below {w w' : World} {v : Value} {l : List (ByteArray × ByteArray)} (h : AtRow w v l) (hb : Below w.heap.size w w') : AtRow w' v l := by
  obtain ⟨a, cap, rfl, h1, h2, h3⟩ := h
  refine ⟨a, cap, rfl, h1, h2, fun i hi => ?_⟩
  obtain ⟨b, off, rfl, hlt, hc, hd⟩ := h3 i hi
  exact ⟨b, off, rfl, Nat.lt_of_lt_of_le hlt hb.size, by rw [hb.cell (by exact hlt)]; exact hc, by rw [hb.cell (by exact hlt)]; exact hd⟩

theorem look_step (l : List (ByteArray × ByteArray)) (k : ByteArray) (i : Nat) (hi : i < l.length) (h : ∀ j (hj : j < l.length), j < i → l[j].1 ≠ k) (he : l[i].1 = k) : At.look l k = some l[i].2 := by
  induction l generalizing i with
  | nil => simp at hi
  | cons x r ih =>
    cases i with
    | zero => rw [At.look, if_pos (show x.1 = k from he)]; rfl
    | succ i =>
      have h0 := h 0 (by simp) (by omega)
      rw [At.look, if_neg (show ¬ x.1 = k from h0)]
      exact ih i (by simpa using hi) (fun j hj hji => h (j + 1) (by simpa using hj) (by omega)) he
theorem look_all (l : List (ByteArray × ByteArray)) (k : ByteArray) (h : ∀ j (hj : j < l.length), l[j].1 ≠ k) : At.look l k = none :=
  At.look_none fun x hx => by
    obtain ⟨j, hj, rfl⟩ := List.getElem_of_mem hx
    exact h j hj

theorem toList_ba {a b : ByteArray} (h : a.toList = b.toList) : a = b := by
  rw [ByteArray.toList_eq, ByteArray.toList_eq] at h
  cases a; cases b; simp_all

/-- Are the first n a change's, and the rest? -/
def chgOne (l : List (ByteArray × ByteArray)) (i : Nat) (h : i < l.length) : Bool := keyB l[i].1 && valB l[i].2 && (if h0 : 0 < i then Op.bytesLess (l[i - 1]'(by omega)).1.toList l[i].1.toList else true)
def chgB (l : List (ByteArray × ByteArray)) : Bool := decide (l.length ≤ 8 ∧ ∀ i (h : i < l.length), chgOne l i h = true)
def chgE (l : List (ByteArray × ByteArray)) : Int := if chgB l = true then 0 else 20
theorem chgE_bad {l : List (ByteArray × ByteArray)} {i : Nat} (h : i < l.length) (hb : chgOne l i h = false) : chgE l = 20 := by
  have : chgB l = false := decide_eq_false fun hh => by
    have := hh.2 i h
    rw [hb] at this
    cases this
  unfold chgE
  rw [this]; rfl
theorem chgE_long {l : List (ByteArray × ByteArray)} (h : 8 < l.length) : chgE l = 20 := by
  have : chgB l = false := decide_eq_false fun hh => by have := hh.1; omega
  unfold chgE
  rw [this]; rfl
theorem chgE_ok {l : List (ByteArray × ByteArray)} (h : l.length ≤ 8) (hh : ∀ i (h : i < l.length), chgOne l i h = true) : chgE l = 0 := by
  have : chgB l = true := decide_eq_true ⟨h, hh⟩
  unfold chgE
  rw [this]; rfl
theorem less_not : ∀ x y : List UInt8, (Op.bytesLess x y || x == y) = !(Op.bytesLess y x)
  | [], [] => rfl
  | [], _ :: _ => rfl
  | _ :: _, [] => rfl
  | a :: x, b :: y => by
    have ih := less_not x y
    rw [Op.bytesLess, Op.bytesLess]
    by_cases hab : a = b
    · subst hab
      simp only [UInt8.lt_irrefl, decide_false, Bool.false_or, beq_self_eq_true, Bool.true_and]
      rw [← ih]
      simp
    · have hba : ¬ b = a := fun e => hab e.symm
      have h1 : ((a :: x) == (b :: y)) = false := by simp [hab]
      have h2 : (a == b) = false := by simp [hab]
      have h3 : (b == a) = false := by simp [hba]
      rw [h1, h2, h3]
      simp only [Bool.false_and, Bool.or_false]
      rcases Nat.lt_trichotomy a.toNat b.toNat with h | h | h
      · rw [decide_eq_true (show a < b from h), decide_eq_false (show ¬ b < a from fun h' => absurd (show b.toNat < a.toNat from h') (by omega))]; rfl
      · exact absurd (UInt8.toNat_inj.1 h) hab
      · rw [decide_eq_false (show ¬ a < b from fun h' => absurd (show a.toNat < b.toNat from h') (by omega)), decide_eq_true (show b < a from h)]; rfl
theorem leq_not (a b : ByteArray) : (Op.bytesLess a.toList b.toList || a.toList == b.toList) = !(Op.bytesLess b.toList a.toList) := less_not _ _

end Go.Proofs.YtacgkbdldbppjaaGreatDoor

/- Are two rows of attributes the same: the document's. -/
namespace Go.Proofs.YtacgkbdldbppjaaGreatDoor
open Go.RowKit

theorem ext_le {l m : List (ByteArray × ByteArray)} (hl : l.length = m.length) (h : ∀ j (h1 : j < l.length) (h2 : j < m.length), l[j] = m[j]) : l = m :=
  List.ext_getElem hl h

def sameB (l m : List (ByteArray × ByteArray)) : Bool := decide (l = m)
theorem sameB_len {l m : List (ByteArray × ByteArray)} (h : l.length ≠ m.length) : sameB l m = false := decide_eq_false fun e => h (by rw [e])
theorem sameB_at {l m : List (ByteArray × ByteArray)} {n : Nat} (h1 : n < l.length) (h2 : n < m.length) (h : l[n] ≠ m[n]) : sameB l m = false := decide_eq_false fun e => by
  subst e; exact h rfl
theorem sameB_all {l m : List (ByteArray × ByteArray)} (hl : l.length = m.length) (h : ∀ j (h1 : j < l.length) (h2 : j < m.length), l[j] = m[j]) : sameB l m = true := decide_eq_true (ext_le hl h)

set_option maxHeartbeats 2000000 in
theorem refSame_any (v u : Value) (l m : List (ByteArray × ByteArray)) (w : World) (hv : AtRow w v l) (hu : AtRow w u m) :
    Calls Tryz.prog 50 #[v, u] w fun e w' => e = .returned (.bool (sameB l m)) ∧ ∃ k, w' = w.drewN k := by
  obtain ⟨a, cap, rfl, h1, h2, h3⟩ := hv
  obtain ⟨a', cap', rfl, h1', h2', h3'⟩ := hu
  have hn : l.length ≤ 9223372036854775807 := Nat.le_trans h1 h2
  have hn' : m.length ≤ 9223372036854775807 := Nat.le_trans h1' h2'
  have H3 := Lib.hid h3
  have H3' := Lib.hid h3'
  clear h3 h3'
  by_cases hlen : l.length = m.length
  · have Hlen := Lib.hid hlen
    have hle2 : ((l.length : Int) == (m.length : Int)) = true := by rw [hlen]; simp
    have hle3 : ((l.length : Int) != (m.length : Int)) = false := by rw [hlen]; simp
    clear hlen
    go_enter Tryz.func50, Tryz.ntmps50
    go_wp2_with fail
    go_loopw [5] (fun i wr => ∃ n k : Nat, i = .int .i64 (n : Int) ∧ n ≤ l.length ∧ (∀ j (h1 : j < l.length) (h2 : j < m.length), j < n → l[j] = m[j]) ∧ wr = w.drewN k) (fun i _ => l.length - (intOf i).toNat)
    case atStart => exact ⟨0, 0, rfl, by omega, fun j _ _ h => by omega, rfl⟩
    case round =>
      obtain ⟨n, k, rfl, hk, hall, rfl⟩ := hrel
      have Hall := Lib.hid hall
      clear hall
      by_cases hlt : n < l.length
      · have hlt2 : n < m.length := by have := Hlen.out; omega
        have hlt' : (n : Int) < (l.length : Int) := by omega
        have hlt2' : (n : Int) < (m.length : Int) := by omega
        obtain ⟨b, off, rfl, _, x1, z1⟩ := H3.out n hlt
        obtain ⟨b', off', rfl, _, x2, z2⟩ := H3'.out n hlt2
        by_cases hk1 : l[n].1 = m[n].1
        · by_cases hk2 : l[n].2 = m[n].2
          · have step : ∀ j (h1 : j < l.length) (h2 : j < m.length), j < n + 1 → l[j] = m[j] := fun j hj1 hj2 hjk => by
              by_cases e : j = n
              · subst e; exact Prod.ext hk1 hk2
              · exact Hall.out j hj1 hj2 (by omega)
            have Step := Lib.hid step
            have t1 : (l[n].1.toList == m[n].1.toList) = true := by rw [hk1]; simp
            have t2 : (l[n].2.toList == m[n].2.toList) = true := by rw [hk2]; simp
            clear step Hall hk1 hk2
            go_wp2_with fail
            go_quiet (fail)
            go_wp2_with fail
            go_roundw
            case rel => exact ⟨n + 1, _, by go_num, by omega, Step.out, rfl⟩
            case measure => simp [intOf]; omega
          · have hs := Lib.hid (sameB_at hlt hlt2 fun e => hk2 (congrArg Prod.snd e))
            have t1 : (l[n].1.toList == m[n].1.toList) = true := by rw [hk1]; simp
            have t2 : (l[n].2.toList == m[n].2.toList) = false := by rw [beq_eq_false_iff_ne]; exact fun e => hk2 (toList_ba e)
            clear Hall hk1 hk2
            go_wp2_with fail
            go_quiet (fail)
            go_wp2_with fail
            go_ret
            rw [hs.out]
            exact ⟨rfl, k + nq, by rw [World.drewN_drewN]⟩
        · have hs := Lib.hid (sameB_at hlt hlt2 fun e => hk1 (congrArg Prod.fst e))
          have t1 : (l[n].1.toList == m[n].1.toList) = false := by rw [beq_eq_false_iff_ne]; exact fun e => hk1 (toList_ba e)
          clear Hall hk1
          go_wp2_with fail
          go_quiet (fail)
          go_wp2_with fail
          go_ret
          rw [hs.out]
          exact ⟨rfl, k + nq, by rw [World.drewN_drewN]⟩
      · have hkn : n = l.length := by omega
        have hs := Lib.hid (sameB_all Hlen.out fun j h1 h2 => Hall.out j h1 h2 (by omega))
        subst hkn
        clear Hall
        go_wp2_with fail
        go_ret
        rw [hs.out]
        exact ⟨rfl, k, rfl⟩
  · have hs := Lib.hid (sameB_len hlen)
    have hle2 : ((l.length : Int) == (m.length : Int)) = false := by rw [beq_eq_false_iff_ne]; omega
    have hle3 : ((l.length : Int) != (m.length : Int)) = true := by rw [bne_iff_ne]; omega
    clear hlen
    go_enter Tryz.func50, Tryz.ntmps50
    go_wp2_with fail
    go_ret
    rw [hs.out]
    exact ⟨rfl, 0, rfl⟩

end Go.Proofs.YtacgkbdldbppjaaGreatDoor

/- The program's key, plain, and their closures: which bytes, all of them, how many. -/
namespace Go.Proofs.YtacgkbdldbppjaaGreatDoor
open Go.RowKit

set_option maxHeartbeats 1000000 in
theorem plain1_any (c : Nat) (w : World) : Calls Tryz.prog 138 #[.int .u8 (c : Int)] w fun e w' => e = .returned (.bool (okv c)) ∧ w' = w := by
  go_enter Tryz.func138, Tryz.ntmps138
  go_wp2_with fail
  all_goals
    go_ret
    refine ⟨congrArg (fun b => Ending.returned (Value.bool b)) ?_, rfl⟩
    unfold okv
    rw [Bool.eq_iff_iff]
    simp
    omega

set_option maxHeartbeats 1000000 in
theorem key1_any (c : Nat) (w : World) : Calls Tryz.prog 141 #[.int .u8 (c : Int)] w fun e w' => e = .returned (.bool (okc c)) ∧ w' = w := by
  go_enter Tryz.func141, Tryz.ntmps141
  go_wp2_with fail
  all_goals
    go_ret
    refine ⟨congrArg (fun b => Ending.returned (Value.bool b)) ?_, rfl⟩
    unfold okc
    rw [Bool.eq_iff_iff]
    simp
    omega

def allB (q : Nat → Bool) (s : ByteArray) : Bool := decide (allC q s)
theorem allB_bad {q : Nat → Bool} {s : ByteArray} {k : Nat} (hk : k < s.size) (h : q (s[k].toNat) = false) : allB q s = false :=
  decide_eq_false fun hh => by
    have := hh k hk
    rw [h] at this
    cases this
theorem allB_all {q : Nat → Bool} {s : ByteArray} (h : ∀ k (h : k < s.size), q (s[k].toNat) = true) : allB q s = true := decide_eq_true h

set_option maxHeartbeats 1000000 in
theorem allPlain_any (s : ByteArray) (w : World) (hs : s.size ≤ maxLen) : Calls Tryz.prog 137 #[.string s, .func (.func 138) #[] #[]] w fun e w' => e = .returned (.bool (allB okv s)) ∧ w' = w := by
  have hs' : s.size ≤ 9223372036854775807 := hs
  go_enter Tryz.func137, Tryz.ntmps137
  go_wp2_with fail
  go_loopw [8] (fun i wr => ∃ k : Nat, i = .int .i64 (k : Int) ∧ k ≤ s.size ∧ (∀ j (h : j < s.size), j < k → okv (s[j].toNat) = true) ∧ wr = w) (fun i _ => s.size - (intOf i).toNat)
  case atStart => exact ⟨0, rfl, by omega, fun j _ h => by omega, rfl⟩
  case round =>
    obtain ⟨k, rfl, hk, hall, rfl⟩ := hrel
    have Hall := Lib.hid hall
    clear hall
    by_cases hlt : k < s.size
    · have hlt' : (k : Int) < (s.size : Int) := by omega
      go_wp2_with fail
      refine (plain1_any _ _).mono ?_
      rintro e w1 ⟨rfl, rfl⟩
      cases hq : okv (s[k].toNat) with
      | true =>
        have step : ∀ j (h : j < s.size), j < k + 1 → okv (s[j].toNat) = true := fun j hj hjk => by
          by_cases e : j = k
          · subst e; exact hq
          · exact Hall.out j hj (by omega)
        have Step := Lib.hid step
        clear step Hall
        go_wp2_with fail
        go_roundw
        case rel => exact ⟨k + 1, by go_num, by omega, Step.out, by trivial⟩
        case measure => simp [intOf]; omega
      | false =>
        have hb := Lib.hid (allB_bad hlt hq)
        clear Hall
        go_wp2_with fail
        go_ret
        rw [hb.out]
        exact ⟨rfl, rfl⟩
    · have hkn : k = s.size := by omega
      subst hkn
      have hb := Lib.hid (allB_all fun j h => Hall.out j h h)
      clear Hall
      go_wp2_with fail
      go_ret
      rw [hb.out]
      exact ⟨rfl, rfl⟩
set_option maxHeartbeats 1000000 in
theorem allKey_any (s : ByteArray) (w : World) (hs : s.size ≤ maxLen) : Calls Tryz.prog 137 #[.string s, .func (.func 141) #[] #[]] w fun e w' => e = .returned (.bool (allB okc s)) ∧ w' = w := by
  have hs' : s.size ≤ 9223372036854775807 := hs
  go_enter Tryz.func137, Tryz.ntmps137
  go_wp2_with fail
  go_loopw [8] (fun i wr => ∃ k : Nat, i = .int .i64 (k : Int) ∧ k ≤ s.size ∧ (∀ j (h : j < s.size), j < k → okc (s[j].toNat) = true) ∧ wr = w) (fun i _ => s.size - (intOf i).toNat)
  case atStart => exact ⟨0, rfl, by omega, fun j _ h => by omega, rfl⟩
  case round =>
    obtain ⟨k, rfl, hk, hall, rfl⟩ := hrel
    have Hall := Lib.hid hall
    clear hall
    by_cases hlt : k < s.size
    · have hlt' : (k : Int) < (s.size : Int) := by omega
      go_wp2_with fail
      refine (key1_any _ _).mono ?_
      rintro e w1 ⟨rfl, rfl⟩
      cases hq : okc (s[k].toNat) with
      | true =>
        have step : ∀ j (h : j < s.size), j < k + 1 → okc (s[j].toNat) = true := fun j hj hjk => by
          by_cases e : j = k
          · subst e; exact hq
          · exact Hall.out j hj (by omega)
        have Step := Lib.hid step
        clear step Hall
        go_wp2_with fail
        go_roundw
        case rel => exact ⟨k + 1, by go_num, by omega, Step.out, by trivial⟩
        case measure => simp [intOf]; omega
      | false =>
        have hb := Lib.hid (allB_bad hlt hq)
        clear Hall
        go_wp2_with fail
        go_ret
        rw [hb.out]
        exact ⟨rfl, rfl⟩
    · have hkn : k = s.size := by omega
      subst hkn
      have hb := Lib.hid (allB_all fun j h => Hall.out j h h)
      clear Hall
      go_wp2_with fail
      go_ret
      rw [hb.out]
      exact ⟨rfl, rfl⟩

def NE (s : ByteArray) : Bool := !(s.toList == [])
theorem valB_eq (s : ByteArray) : valB s = (decide (s.size ≤ 64) && allB okv s) := by
  unfold valB allB
  rw [Bool.eq_iff_iff]
  simp
  exact And.comm
theorem keyB_eq (s : ByteArray) : keyB s = (decide (1 ≤ s.size) && (decide (s.size ≤ 32) && allB okc s)) := by
  unfold keyB allB
  rw [Bool.eq_iff_iff]
  simp
  constructor
  · exact fun ⟨h1, h2, h3⟩ => ⟨h2, h3, h1⟩
  · exact fun ⟨h2, h3, h1⟩ => ⟨h1, h2, h3⟩
theorem size_nil {s : ByteArray} : s.toList = [] ↔ s.size = 0 := by
  rw [ByteArray.toList_eq]
  constructor
  · intro h
    have := congrArg List.length h
    simpa using this
  · intro h
    exact List.eq_nil_of_length_eq_zero (by simpa using h)

set_option maxHeartbeats 1000000 in
theorem plain_any (s : ByteArray) (w : World) (hs : s.size ≤ maxLen) : Calls Tryz.prog 129 #[.string s] w fun e w' => e = .returned (.bool (valB s)) ∧ w' = w := by
  have hs' : s.size ≤ 9223372036854775807 := hs
  have hv := valB_eq s
  by_cases h64 : s.size ≤ 64
  · have h64' : (s.size : Int) ≤ 64 := by omega
    have hv2 : valB s = allB okv s := by rw [hv, decide_eq_true h64]; rfl
    have Hv := Lib.hid hv2
    clear hv hv2
    go_enter Tryz.func129, Tryz.ntmps129
    go_wp2_with fail
    refine (allPlain_any _ _ hs).mono ?_
    rintro e w1 ⟨rfl, rfl⟩
    go_wp2_with fail
    go_ret
    rw [Hv.out]
    exact ⟨rfl, rfl⟩
  · have h64' : decide ((s.size : Int) ≤ 64) = false := by rw [decide_eq_false_iff_not]; omega
    have hv2 : valB s = false := by rw [hv, decide_eq_false h64]; rfl
    have Hv := Lib.hid hv2
    clear hv hv2 h64
    go_enter Tryz.func129, Tryz.ntmps129
    go_wp2_with fail
    go_ret
    rw [Hv.out]
    exact ⟨rfl, rfl⟩

/-- A value that is not empty. -/
def valNE (s : ByteArray) : Bool := decide (1 ≤ s.size) && valB s
set_option maxHeartbeats 1000000 in
theorem right1_any (s : ByteArray) (w : World) (hs : s.size ≤ maxLen) : Calls Tryz.prog 130 #[.string s] w fun e w' => e = .returned (.bool (valNE s)) ∧ w' = w := by
  by_cases h0 : 1 ≤ s.size
  · have hv2 : valNE s = valB s := by unfold valNE; rw [decide_eq_true h0]; rfl
    have Hv := Lib.hid hv2
    have t1 : (s.toList == []) = false := by rw [beq_eq_false_iff_ne]; exact fun e => by have := size_nil.1 e; omega
    have t2 : (s.toList != []) = true := by rw [bne, t1]; rfl
    have t3 : s.toList.isEmpty = false := by cases h : s.toList with | nil => rw [h] at t1; cases t1 | cons _ _ => rfl
    clear hv2
    go_enter Tryz.func130, Tryz.ntmps130
    go_wp2_with fail
    refine (plain_any _ _ hs).mono ?_
    rintro e w1 ⟨rfl, rfl⟩
    go_wp2_with fail
    go_ret
    rw [Hv.out]
    exact ⟨rfl, rfl⟩
  · have hv2 : valNE s = false := by unfold valNE; rw [decide_eq_false h0]; rfl
    have Hv := Lib.hid hv2
    have t0 : s.toList = [] := size_nil.2 (by omega)
    have t3 : s.toList.isEmpty = true := by rw [t0]; rfl
    clear hv2 h0
    go_enter Tryz.func130, Tryz.ntmps130
    go_wp2_with fail
    go_ret
    rw [Hv.out]
    exact ⟨rfl, rfl⟩

set_option maxHeartbeats 1000000 in
theorem keyD_any (s : ByteArray) (w : World) (hs : s.size ≤ maxLen) : Calls Tryz.prog 136 #[.string s] w fun e w' => e = .returned (.bool (keyB s)) ∧ w' = w := by
  have hs' : s.size ≤ 9223372036854775807 := hs
  have hv := keyB_eq s
  by_cases h0 : 1 ≤ s.size
  · have t1 : (s.toList == []) = false := by rw [beq_eq_false_iff_ne]; exact fun e => by have := size_nil.1 e; omega
    have t3 : s.toList.isEmpty = false := by cases h : s.toList with | nil => rw [h] at t1; cases t1 | cons _ _ => rfl
    by_cases h32 : s.size ≤ 32
    · have h32' : (s.size : Int) ≤ 32 := by omega
      have hv2 : keyB s = allB okc s := by rw [hv, decide_eq_true h0, decide_eq_true h32]; rfl
      have Hv := Lib.hid hv2
      clear hv hv2
      go_enter Tryz.func136, Tryz.ntmps136
      go_wp2_with fail
      refine (allKey_any _ _ hs).mono ?_
      rintro e w1 ⟨rfl, rfl⟩
      go_wp2_with fail
      go_ret
      rw [Hv.out]
      exact ⟨rfl, rfl⟩
    · have h32' : decide ((s.size : Int) ≤ 32) = false := by rw [decide_eq_false_iff_not]; omega
      have hv2 : keyB s = false := by rw [hv, decide_eq_true h0, decide_eq_false h32]; rfl
      have Hv := Lib.hid hv2
      clear hv hv2 h32
      go_enter Tryz.func136, Tryz.ntmps136
      go_wp2_with fail
      go_ret
      rw [Hv.out]
      exact ⟨rfl, rfl⟩
  · have hv2 : keyB s = false := by rw [hv, decide_eq_false h0]; rfl
    have Hv := Lib.hid hv2
    have t0 : s.toList = [] := size_nil.2 (by omega)
    have t3 : s.toList.isEmpty = true := by rw [t0]; rfl
    clear hv hv2 h0
    go_enter Tryz.func136, Tryz.ntmps136
    go_wp2_with fail
    go_ret
    rw [Hv.out]
    exact ⟨rfl, rfl⟩
end Go.Proofs.YtacgkbdldbppjaaGreatDoor

/- The document's own Change. -/
namespace Go.Proofs.YtacgkbdldbppjaaGreatDoor
open Go.RowKit

set_option maxHeartbeats 2000000 in
theorem change_any (v : Value) (l : List (ByteArray × ByteArray)) (w : World) (h : AtRow w v l) (hsz : ∀ x ∈ l, x.1.size ≤ maxLen ∧ x.2.size ≤ maxLen) :
    Calls Tryz.prog 82 #[v] w fun e w' => e = .returned (.int .i64 (chgE l)) ∧ ∃ m, w' = w.drewN m := by
  obtain ⟨a, cap, rfl, h1, h2, h3⟩ := h
  have hn : l.length ≤ 9223372036854775807 := Nat.le_trans h1 h2
  have H3 := Lib.hid h3
  have Hsz := Lib.hid hsz
  clear h3 hsz
  go_enter Tryz.func82, Tryz.ntmps82
  by_cases h8 : 8 < l.length
  · have h8' : (8 : Int) < (l.length : Int) := by omega
    have HE := Lib.hid (chgE_long h8)
    go_wp2_with fail
    go_ret
    rw [HE.out]
    exact ⟨rfl, 0, rfl⟩
  · have h8' : decide ((8 : Int) < (l.length : Int)) = false := by simp; omega
    have h8'' : decide (8 < l.length) = false := by simp; omega
    go_wp2_with fail
    go_loopw [3, 4, 5] (fun i _ _ wr => ∃ n m : Nat, i = .int .i64 (n : Int) ∧ n ≤ l.length ∧ (∀ j (h : j < l.length), j < n → chgOne l j h = true) ∧ wr = w.drewN m) (fun i _ _ _ => l.length - (intOf i).toNat)
    case atStart => exact ⟨0, 0, rfl, by omega, fun j _ h => by omega, rfl⟩
    case round =>
      obtain ⟨n, m, rfl, hk, hall, rfl⟩ := hrel
      have Hall := Lib.hid hall
      clear hall
      by_cases hlt : n < l.length
      · have hlt' : (n : Int) < (l.length : Int) := by omega
        obtain ⟨b, off, rfl, _, x1, z1⟩ := H3.out n hlt
        obtain ⟨y1, y2⟩ := Hsz.out _ (List.getElem_mem hlt)
        have step : chgOne l n hlt = true → ∀ j (h : j < l.length), j < n + 1 → chgOne l j h = true := fun h0 j hj hjk => by
          by_cases e : j = n
          · subst e; exact h0
          · exact Hall.out j hj (by omega)
        have Step := Lib.hid step
        have Bad := Lib.hid (fun h => chgE_bad hlt h)
        clear step Hall
        go_wp2_with (go_at_call 99; refine (key_any _ _ y1).mono ?_)
        rintro e w1 ⟨rfl, rfl⟩
        go_wp2_with (go_at_call 100; refine (value_any _ _ y2).mono ?_)
        rintro e w1 ⟨rfl, rfl⟩
        cases hkb : keyB l[n].1 with
        | false =>
          have hb := Lib.hid (Bad.out (by unfold chgOne; rw [hkb]; rfl))
          clear Step Bad
          go_wp2_with fail
          go_quiet (fail)
          go_wp2_with fail
          go_ret
          rw [hb.out]
          exact ⟨rfl, m + nq, by rw [World.drewN_drewN]⟩
        | true =>
          cases hvb : valB l[n].2 with
          | false =>
            have hb := Lib.hid (Bad.out (by unfold chgOne; rw [hkb, hvb]; rfl))
            clear Step Bad
            go_wp2_with fail
            go_quiet (fail)
            go_wp2_with fail
            go_ret
            rw [hb.out]
            exact ⟨rfl, m + nq, by rw [World.drewN_drewN]⟩
          | true =>
            by_cases h0 : 0 < n
            · have h0' : (0 : Int) < (n : Int) := by omega
              have hn1 : 0 ≤ (n : Int) - 1 := by omega
              have hn2 : (n : Int) - 1 < (l.length : Int) := by omega
              obtain ⟨b', off', hbo, _, x2, _⟩ := H3.out (n - 1) (by omega)
              simp only [Option.some.injEq, Addr.mk.injEq, and_true] at hbo
              obtain ⟨rfl, rfl⟩ := hbo
              cases ht : Op.bytesLess (l[n - 1]'(by omega)).1.toList l[n].1.toList with
              | true =>
                have hs := Lib.hid (Step.out (by unfold chgOne; rw [hkb, hvb, dif_pos h0, ht]; rfl))
                have hle : (Op.bytesLess l[n].1.toList (l[n - 1]'(by omega)).1.toList || l[n].1.toList == (l[n - 1]'(by omega)).1.toList) = false := by rw [leq_not, ht]; rfl
                clear Step Bad
                go_wp2_with fail
                go_quiet (fail)
                go_wp2_with fail
                go_roundw
                case rel => exact ⟨n + 1, _, by go_num, by omega, hs.out, rfl⟩
                case measure => simp [intOf]; omega
              | false =>
                have hb := Lib.hid (Bad.out (by unfold chgOne; rw [hkb, hvb, dif_pos h0, ht]; rfl))
                have hle : (Op.bytesLess l[n].1.toList (l[n - 1]'(by omega)).1.toList || l[n].1.toList == (l[n - 1]'(by omega)).1.toList) = true := by rw [leq_not, ht]; rfl
                clear Step Bad
                go_wp2_with fail
                go_quiet (fail)
                go_wp2_with fail
                go_ret
                rw [hb.out]
                exact ⟨rfl, m + nq, by rw [World.drewN_drewN]⟩
            · have h0' : decide ((0 : Int) < (n : Int)) = false := by simp; omega
              have h0'' : decide (0 < n) = false := by simp; omega
              have hs := Lib.hid (Step.out (by unfold chgOne; rw [hkb, hvb, dif_neg h0]; rfl))
              clear Step Bad
              go_wp2_with fail
              go_quiet (fail)
              go_wp2_with fail
              go_roundw
              case rel => exact ⟨n + 1, _, by go_num, by omega, hs.out, rfl⟩
              case measure => simp [intOf]; omega
      · have hkn : n = l.length := by omega
        subst hkn
        have HE := Lib.hid (chgE_ok (by omega) fun j hj => Hall.out j hj hj)
        clear Hall
        go_wp2_with fail
        go_ret
        rw [HE.out]
        exact ⟨rfl, _, rfl⟩
end Go.Proofs.YtacgkbdldbppjaaGreatDoor

/- The program's check of a row, by the one closure and the other; Right, Change. -/
namespace Go.Proofs.YtacgkbdldbppjaaGreatDoor
open Go.RowKit

theorem below_drewN {B : Nat} {a w : World} (h : Below B a w) (n : Nat) : Below B a (w.drewN n) := ⟨h.os, h.tape, h.output, h.size, h.block⟩

/-- Is the attribute at i one that may stand there: of attributes? -/
def rgtOne (l : List (ByteArray × ByteArray)) (i : Nat) (h : i < l.length) : Bool := keyB l[i].1 && valNE l[i].2 && (if h0 : 0 < i then Op.bytesLess (l[i - 1]'(by omega)).1.toList l[i].1.toList else true)
def rgtB (l : List (ByteArray × ByteArray)) : Bool := decide (l.length ≤ 8 ∧ ∀ i (h : i < l.length), rgtOne l i h = true)
def rgtE (l : List (ByteArray × ByteArray)) : Int := if rgtB l = true then 0 else 20
theorem rgtE_bad {l : List (ByteArray × ByteArray)} {i : Nat} (h : i < l.length) (hb : rgtOne l i h = false) : rgtE l = 20 := by
  have : rgtB l = false := decide_eq_false fun hh => by
    have := hh.2 i h
    rw [hb] at this
    cases this
  unfold rgtE
  rw [this]; rfl
theorem rgtE_long {l : List (ByteArray × ByteArray)} (h : 8 < l.length) : rgtE l = 20 := by
  have : rgtB l = false := decide_eq_false fun hh => by have := hh.1; omega
  unfold rgtE
  rw [this]; rfl
theorem rgtE_ok {l : List (ByteArray × ByteArray)} (h : l.length ≤ 8) (hh : ∀ i (h : i < l.length), rgtOne l i h = true) : rgtE l = 0 := by
  have : rgtB l = true := decide_eq_true ⟨h, hh⟩
  unfold rgtE
  rw [this]; rfl

set_option maxHeartbeats 4000000 in
theorem checkC_any (v : Value) (l : List (ByteArray × ByteArray)) (w : World) (h : AtRow w v l) (hsz : ∀ x ∈ l, x.1.size ≤ maxLen ∧ x.2.size ≤ maxLen) :
    Calls Tryz.prog 128 #[v, .func (.func 129) #[] #[]] w fun e w' => e = .returned (.int .i64 (chgE l)) ∧ Below w.heap.size w w' := by
  obtain ⟨a, cap, rfl, h1, h2, h3⟩ := h
  have hn : l.length ≤ 9223372036854775807 := Nat.le_trans h1 h2
  have H3 := Lib.hid h3
  have Hsz := Lib.hid hsz
  clear h3 hsz
  go_enter Tryz.func128, Tryz.ntmps128
  by_cases h8 : 8 < l.length
  · have h8' : (8 : Int) < (l.length : Int) := by omega
    have HE := Lib.hid (chgE_long h8)
    go_wp2_with fail
    go_ret
    rw [HE.out]
    exact ⟨rfl, Below.refl _ _⟩
  · have h8' : decide ((8 : Int) < (l.length : Int)) = false := by simp; omega
    have h8'' : decide (8 < l.length) = false := by simp; omega
    go_wp2_with fail
    go_loopw [12] (fun i wr => ∃ n : Nat, i = .int .i64 (n : Int) ∧ n ≤ l.length ∧ (∀ j (h : j < l.length), j < n → chgOne l j h = true) ∧ Below w.heap.size w wr) (fun i _ => l.length - (intOf i).toNat)
    case atStart => exact ⟨0, rfl, by omega, fun j _ h => by omega, Below.refl _ _⟩
    case round =>
      obtain ⟨n, rfl, hk, hall, hB⟩ := hrel
      have Hall := Lib.hid hall
      clear hall
      by_cases hlt : n < l.length
      · have hlt' : (n : Int) < (l.length : Int) := by omega
        obtain ⟨b, off, rfl, hbl, x1', z1'⟩ := H3.out n hlt
        have x1 : wr.cell? ⟨b, off + n * 2, none⟩ = some (.string l[n].1) := by rw [hB.cell (by exact hbl)]; exact x1'
        have z1 : wr.cell? ⟨b, off + n * 2 + 1, none⟩ = some (.string l[n].2) := by rw [hB.cell (by exact hbl)]; exact z1'
        have hs0 := hB.size
        have hbl' : b < wr.heap.size := by omega
        have HB := Lib.hid hB
        obtain ⟨y1, y2⟩ := Hsz.out _ (List.getElem_mem hlt)
        have step : chgOne l n hlt = true → ∀ j (h : j < l.length), j < n + 1 → chgOne l j h = true := fun h0 j hj hjk => by
          by_cases e : j = n
          · subst e; exact h0
          · exact Hall.out j hj (by omega)
        have Step := Lib.hid step
        have Bad := Lib.hid (fun h => chgE_bad hlt h)
        clear step Hall
        cases hkb : keyB l[n].1 with
        | false =>
          have hb := Lib.hid (Bad.out (by unfold chgOne; rw [hkb]; rfl))
          have kc : ∀ W : World, Calls Tryz.prog 136 #[.string l[n].1] W fun e w' => e = .returned (.bool false) ∧ w' = W := fun W => by have := keyD_any l[n].1 W y1; rw [hkb] at this; exact this
          have Kc := Lib.hid kc
          clear Step Bad hkb kc x1' z1' hB
          go_wp2_with fail
          go_quiet ((go_at_call 136; exact Calls.quiet_of_same (Kc.out _)))
          go_wp2_with fail
          go_ret
          rw [hb.out]
          exact ⟨rfl, below_drewN (HB.out.alloc hs0 _) _⟩
        | true =>
          have kc : ∀ W : World, Calls Tryz.prog 136 #[.string l[n].1] W fun e w' => e = .returned (.bool true) ∧ w' = W := fun W => by have := keyD_any l[n].1 W y1; rw [hkb] at this; exact this
          have Kc := Lib.hid kc
          clear kc
          cases hvb : valB l[n].2 with
          | false =>
            have hb := Lib.hid (Bad.out (by unfold chgOne; rw [hkb, hvb]; rfl))
            have vc : ∀ W : World, Calls Tryz.prog 129 #[.string l[n].2] W fun e w' => e = .returned (.bool false) ∧ w' = W := fun W => by have := plain_any l[n].2 W y2; rw [hvb] at this; exact this
            have Vc := Lib.hid vc
            clear Step Bad hkb hvb vc x1' z1' hB
            go_wp2_with fail
            go_quiet (first | (go_at_call 136; exact Calls.quiet_of_same (Kc.out _)) | (go_at_call 129; exact Calls.quiet_of_same (Vc.out _)))
            go_wp2_with fail
            go_ret
            rw [hb.out]
            exact ⟨rfl, below_drewN (HB.out.alloc hs0 _) _⟩
          | true =>
            have vc : ∀ W : World, Calls Tryz.prog 129 #[.string l[n].2] W fun e w' => e = .returned (.bool true) ∧ w' = W := fun W => by have := plain_any l[n].2 W y2; rw [hvb] at this; exact this
            have Vc := Lib.hid vc
            clear vc
            by_cases h0 : 0 < n
            · have h0' : (0 : Int) < (n : Int) := by omega
              have hn1 : 0 ≤ (n : Int) - 1 := by omega
              have hn2 : (n : Int) - 1 < (l.length : Int) := by omega
              obtain ⟨b', off', hbo, _, x2', _⟩ := H3.out (n - 1) (by omega)
              simp only [Option.some.injEq, Addr.mk.injEq, and_true] at hbo
              obtain ⟨rfl, rfl⟩ := hbo
              have x2 : wr.cell? ⟨b, off + (n - 1) * 2, none⟩ = some (.string (l[n - 1]'(by omega)).1) := by rw [hB.cell (by exact hbl)]; exact x2'
              cases ht : Op.bytesLess (l[n - 1]'(by omega)).1.toList l[n].1.toList with
              | true =>
                have hs := Lib.hid (Step.out (by unfold chgOne; rw [hkb, hvb, dif_pos h0, ht]; rfl))
                clear Step Bad hkb hvb x1' z1' x2' hB
                go_wp2_with fail
                go_quiet (first | (go_at_call 136; exact Calls.quiet_of_same (Kc.out _)) | (go_at_call 129; exact Calls.quiet_of_same (Vc.out _)))
                go_wp2_with fail
                go_roundw
                case rel => exact ⟨n + 1, by go_num, by omega, hs.out, below_drewN (HB.out.alloc hs0 _) _⟩
                case measure => simp [intOf]; omega
              | false =>
                have hb := Lib.hid (Bad.out (by unfold chgOne; rw [hkb, hvb, dif_pos h0, ht]; rfl))
                clear Step Bad hkb hvb x1' z1' x2' hB
                go_wp2_with fail
                go_quiet (first | (go_at_call 136; exact Calls.quiet_of_same (Kc.out _)) | (go_at_call 129; exact Calls.quiet_of_same (Vc.out _)))
                go_wp2_with fail
                go_ret
                rw [hb.out]
                exact ⟨rfl, below_drewN (HB.out.alloc hs0 _) _⟩
            · have h0' : decide ((0 : Int) < (n : Int)) = false := by simp; omega
              have h0'' : decide (0 < n) = false := by simp; omega
              have hs := Lib.hid (Step.out (by unfold chgOne; rw [hkb, hvb, dif_neg h0]; rfl))
              clear Step Bad hkb hvb x1' z1' hB
              go_wp2_with fail
              go_quiet (first | (go_at_call 136; exact Calls.quiet_of_same (Kc.out _)) | (go_at_call 129; exact Calls.quiet_of_same (Vc.out _)))
              go_wp2_with fail
              go_roundw
              case rel => exact ⟨n + 1, by go_num, by omega, hs.out, below_drewN (HB.out.alloc hs0 _) _⟩
              case measure => simp [intOf]; omega
      · have hkn : n = l.length := by omega
        have HE := Lib.hid (chgE_ok (by omega) fun j hj => Hall.out j hj (by omega))
        subst hkn
        clear Hall
        go_wp2_with fail
        go_ret
        rw [HE.out]
        exact ⟨rfl, hB⟩

theorem changeD_any (v : Value) (l : List (ByteArray × ByteArray)) (w : World) (h : AtRow w v l) (hsz : ∀ x ∈ l, x.1.size ≤ maxLen ∧ x.2.size ≤ maxLen) :
    Calls Tryz.prog 113 #[v] w fun e w' => e = .returned (.int .i64 (chgE l)) ∧ Below w.heap.size w w' := by
  go_enter Tryz.func113, Tryz.ntmps113
  go_wp2_with fail
  refine (checkC_any v l w h hsz).mono ?_
  rintro e w1 ⟨rfl, hb⟩
  go_wp2_with fail
  go_ret
  exact ⟨rfl, hb⟩

set_option maxHeartbeats 4000000 in
theorem checkR_any (v : Value) (l : List (ByteArray × ByteArray)) (w : World) (h : AtRow w v l) (hsz : ∀ x ∈ l, x.1.size ≤ maxLen ∧ x.2.size ≤ maxLen) :
    Calls Tryz.prog 128 #[v, .func (.func 130) #[] #[]] w fun e w' => e = .returned (.int .i64 (rgtE l)) ∧ Below w.heap.size w w' := by
  obtain ⟨a, cap, rfl, h1, h2, h3⟩ := h
  have hn : l.length ≤ 9223372036854775807 := Nat.le_trans h1 h2
  have H3 := Lib.hid h3
  have Hsz := Lib.hid hsz
  clear h3 hsz
  go_enter Tryz.func128, Tryz.ntmps128
  by_cases h8 : 8 < l.length
  · have h8' : (8 : Int) < (l.length : Int) := by omega
    have HE := Lib.hid (rgtE_long h8)
    go_wp2_with fail
    go_ret
    rw [HE.out]
    exact ⟨rfl, Below.refl _ _⟩
  · have h8' : decide ((8 : Int) < (l.length : Int)) = false := by simp; omega
    have h8'' : decide (8 < l.length) = false := by simp; omega
    go_wp2_with fail
    go_loopw [12] (fun i wr => ∃ n : Nat, i = .int .i64 (n : Int) ∧ n ≤ l.length ∧ (∀ j (h : j < l.length), j < n → rgtOne l j h = true) ∧ Below w.heap.size w wr) (fun i _ => l.length - (intOf i).toNat)
    case atStart => exact ⟨0, rfl, by omega, fun j _ h => by omega, Below.refl _ _⟩
    case round =>
      obtain ⟨n, rfl, hk, hall, hB⟩ := hrel
      have Hall := Lib.hid hall
      clear hall
      by_cases hlt : n < l.length
      · have hlt' : (n : Int) < (l.length : Int) := by omega
        obtain ⟨b, off, rfl, hbl, x1', z1'⟩ := H3.out n hlt
        have x1 : wr.cell? ⟨b, off + n * 2, none⟩ = some (.string l[n].1) := by rw [hB.cell (by exact hbl)]; exact x1'
        have z1 : wr.cell? ⟨b, off + n * 2 + 1, none⟩ = some (.string l[n].2) := by rw [hB.cell (by exact hbl)]; exact z1'
        have hs0 := hB.size
        have hbl' : b < wr.heap.size := by omega
        have HB := Lib.hid hB
        obtain ⟨y1, y2⟩ := Hsz.out _ (List.getElem_mem hlt)
        have step : rgtOne l n hlt = true → ∀ j (h : j < l.length), j < n + 1 → rgtOne l j h = true := fun h0 j hj hjk => by
          by_cases e : j = n
          · subst e; exact h0
          · exact Hall.out j hj (by omega)
        have Step := Lib.hid step
        have Bad := Lib.hid (fun h => rgtE_bad hlt h)
        clear step Hall
        cases hkb : keyB l[n].1 with
        | false =>
          have hb := Lib.hid (Bad.out (by unfold rgtOne; rw [hkb]; rfl))
          have kc : ∀ W : World, Calls Tryz.prog 136 #[.string l[n].1] W fun e w' => e = .returned (.bool false) ∧ w' = W := fun W => by have := keyD_any l[n].1 W y1; rw [hkb] at this; exact this
          have Kc := Lib.hid kc
          clear Step Bad hkb kc x1' z1' hB
          go_wp2_with fail
          go_quiet ((go_at_call 136; exact Calls.quiet_of_same (Kc.out _)))
          go_wp2_with fail
          go_ret
          rw [hb.out]
          exact ⟨rfl, below_drewN (HB.out.alloc hs0 _) _⟩
        | true =>
          have kc : ∀ W : World, Calls Tryz.prog 136 #[.string l[n].1] W fun e w' => e = .returned (.bool true) ∧ w' = W := fun W => by have := keyD_any l[n].1 W y1; rw [hkb] at this; exact this
          have Kc := Lib.hid kc
          clear kc
          cases hvb : valNE l[n].2 with
          | false =>
            have hb := Lib.hid (Bad.out (by unfold rgtOne; rw [hkb, hvb]; rfl))
            have vc : ∀ W : World, Calls Tryz.prog 130 #[.string l[n].2] W fun e w' => e = .returned (.bool false) ∧ w' = W := fun W => by have := right1_any l[n].2 W y2; rw [hvb] at this; exact this
            have Vc := Lib.hid vc
            clear Step Bad hkb hvb vc x1' z1' hB
            go_wp2_with fail
            go_quiet (first | (go_at_call 136; exact Calls.quiet_of_same (Kc.out _)) | (go_at_call 130; exact Calls.quiet_of_same (Vc.out _)))
            go_wp2_with fail
            go_ret
            rw [hb.out]
            exact ⟨rfl, below_drewN (HB.out.alloc hs0 _) _⟩
          | true =>
            have vc : ∀ W : World, Calls Tryz.prog 130 #[.string l[n].2] W fun e w' => e = .returned (.bool true) ∧ w' = W := fun W => by have := right1_any l[n].2 W y2; rw [hvb] at this; exact this
            have Vc := Lib.hid vc
            clear vc
            by_cases h0 : 0 < n
            · have h0' : (0 : Int) < (n : Int) := by omega
              have hn1 : 0 ≤ (n : Int) - 1 := by omega
              have hn2 : (n : Int) - 1 < (l.length : Int) := by omega
              obtain ⟨b', off', hbo, _, x2', _⟩ := H3.out (n - 1) (by omega)
              simp only [Option.some.injEq, Addr.mk.injEq, and_true] at hbo
              obtain ⟨rfl, rfl⟩ := hbo
              have x2 : wr.cell? ⟨b, off + (n - 1) * 2, none⟩ = some (.string (l[n - 1]'(by omega)).1) := by rw [hB.cell (by exact hbl)]; exact x2'
              cases ht : Op.bytesLess (l[n - 1]'(by omega)).1.toList l[n].1.toList with
              | true =>
                have hs := Lib.hid (Step.out (by unfold rgtOne; rw [hkb, hvb, dif_pos h0, ht]; rfl))
                clear Step Bad hkb hvb x1' z1' x2' hB
                go_wp2_with fail
                go_quiet (first | (go_at_call 136; exact Calls.quiet_of_same (Kc.out _)) | (go_at_call 130; exact Calls.quiet_of_same (Vc.out _)))
                go_wp2_with fail
                go_roundw
                case rel => exact ⟨n + 1, by go_num, by omega, hs.out, below_drewN (HB.out.alloc hs0 _) _⟩
                case measure => simp [intOf]; omega
              | false =>
                have hb := Lib.hid (Bad.out (by unfold rgtOne; rw [hkb, hvb, dif_pos h0, ht]; rfl))
                clear Step Bad hkb hvb x1' z1' x2' hB
                go_wp2_with fail
                go_quiet (first | (go_at_call 136; exact Calls.quiet_of_same (Kc.out _)) | (go_at_call 130; exact Calls.quiet_of_same (Vc.out _)))
                go_wp2_with fail
                go_ret
                rw [hb.out]
                exact ⟨rfl, below_drewN (HB.out.alloc hs0 _) _⟩
            · have h0' : decide ((0 : Int) < (n : Int)) = false := by simp; omega
              have h0'' : decide (0 < n) = false := by simp; omega
              have hs := Lib.hid (Step.out (by unfold rgtOne; rw [hkb, hvb, dif_neg h0]; rfl))
              clear Step Bad hkb hvb x1' z1' hB
              go_wp2_with fail
              go_quiet (first | (go_at_call 136; exact Calls.quiet_of_same (Kc.out _)) | (go_at_call 130; exact Calls.quiet_of_same (Vc.out _)))
              go_wp2_with fail
              go_roundw
              case rel => exact ⟨n + 1, by go_num, by omega, hs.out, below_drewN (HB.out.alloc hs0 _) _⟩
              case measure => simp [intOf]; omega
      · have hkn : n = l.length := by omega
        have HE := Lib.hid (rgtE_ok (by omega) fun j hj => Hall.out j hj (by omega))
        subst hkn
        clear Hall
        go_wp2_with fail
        go_ret
        rw [HE.out]
        exact ⟨rfl, hB⟩

theorem rightD_any (v : Value) (l : List (ByteArray × ByteArray)) (w : World) (h : AtRow w v l) (hsz : ∀ x ∈ l, x.1.size ≤ maxLen ∧ x.2.size ≤ maxLen) :
    Calls Tryz.prog 115 #[v] w fun e w' => e = .returned (.int .i64 (rgtE l)) ∧ Below w.heap.size w w' := by
  go_enter Tryz.func115, Tryz.ntmps115
  go_wp2_with fail
  refine (checkR_any v l w h hsz).mono ?_
  rintro e w1 ⟨rfl, hb⟩
  go_wp2_with fail
  go_ret
  exact ⟨rfl, hb⟩

end Go.Proofs.YtacgkbdldbppjaaGreatDoor

/- The document's own Right. -/
namespace Go.Proofs.YtacgkbdldbppjaaGreatDoor
open Go.RowKit

theorem rgt_of {l : List (ByteArray × ByteArray)} {i : Nat} (h : i < l.length) (hc : chgOne l i h = true) (hv : 1 ≤ l[i].2.size) : rgtOne l i h = true := by
  unfold chgOne at hc
  unfold rgtOne valNE
  rw [decide_eq_true hv]
  exact hc
theorem rgt_empty {l : List (ByteArray × ByteArray)} {i : Nat} (h : i < l.length) (hv : l[i].2.size = 0) : rgtE l = 20 := rgtE_bad h (by
  unfold rgtOne valNE
  rw [decide_eq_false (by omega)]
  simp)
theorem chg_of_rgt {l : List (ByteArray × ByteArray)} (h : rgtB l = true) : chgB l = true := by
  obtain ⟨h1, h2⟩ := of_decide_eq_true h
  refine decide_eq_true ⟨h1, fun i hi => ?_⟩
  have := h2 i hi
  unfold rgtOne valNE at this
  unfold chgOne
  simp only [Bool.and_eq_true] at this ⊢
  exact ⟨⟨this.1.1, this.1.2.2⟩, this.2⟩
theorem rgt_of_bad {l : List (ByteArray × ByteArray)} (h : chgB l = false) : rgtE l = 20 := by
  have : rgtB l = false := by
    cases hr : rgtB l with
    | false => rfl
    | true => rw [chg_of_rgt hr] at h; cases h
  unfold rgtE
  rw [this]; rfl

set_option maxHeartbeats 2000000 in
theorem right_any (v : Value) (l : List (ByteArray × ByteArray)) (w : World) (h : AtRow w v l) (hsz : ∀ x ∈ l, x.1.size ≤ maxLen ∧ x.2.size ≤ maxLen) :
    Calls Tryz.prog 81 #[v] w fun e w' => e = .returned (.int .i64 (rgtE l)) ∧ ∃ m, w' = w.drewN m := by
  have hcc := fun W hW => change_any v l W hW hsz
  obtain ⟨a, cap, rfl, h1, h2, h3⟩ := id h
  have hn : l.length ≤ 9223372036854775807 := Nat.le_trans h1 h2
  have H3 := Lib.hid h3
  have Hc := Lib.hid hcc
  clear h3 hcc
  cases hcb : chgB l with
  | false =>
    have hE : chgE l = 20 := by unfold chgE; rw [hcb]; rfl
    have hb := Lib.hid (rgt_of_bad hcb)
    have Hcall := Lib.hid (Hc.out w h)
    rw [hE] at Hcall
    clear hE hcb Hc h
    go_enter Tryz.func81, Tryz.ntmps81
    go_wp2_with fail
    refine Hcall.out.mono ?_
    rintro e w1 ⟨rfl, m, rfl⟩
    by_cases hz : 0 < l.length
    · have hz' : (0 : Int) < (l.length : Int) := by omega
      go_wp2_with fail
      go_loopw [4] (fun i wr => i = .int .i64 0 ∧ wr = w.drewN m) (fun i _ => 0)
      case atStart => exact ⟨rfl, rfl⟩
      case round =>
        obtain ⟨rfl, rfl⟩ := hrel
        go_wp2_with fail
        go_ret
        rw [hb.out]
        exact ⟨rfl, m, rfl⟩
    · have hz' : l.length = 0 := by omega
      have hz1 : decide ((0 : Int) < (l.length : Int)) = false := decide_eq_false (by omega)
      have hz2 : decide (0 < l.length) = false := decide_eq_false (by omega)
      clear hz'
      go_wp2_with fail
      go_loopw [4] (fun i wr => i = .int .i64 0 ∧ wr = w.drewN m) (fun i _ => 0)
      case atStart => exact ⟨rfl, rfl⟩
      case round =>
        obtain ⟨rfl, rfl⟩ := hrel
        go_wp2_with fail
        go_ret
        rw [hb.out]
        exact ⟨rfl, m, rfl⟩
  | true =>
    have hE : chgE l = 0 := by unfold chgE; rw [hcb]; rfl
    have hall := (of_decide_eq_true hcb).2
    have hl8 := (of_decide_eq_true hcb).1
    have Hall := Lib.hid hall
    have Hcall := Lib.hid (Hc.out w h)
    rw [hE] at Hcall
    clear hE hcb Hc h hall
    go_enter Tryz.func81, Tryz.ntmps81
    go_wp2_with fail
    refine Hcall.out.mono ?_
    rintro e w1 ⟨rfl, m, rfl⟩
    go_wp2_with fail
    go_loopw [4] (fun i wr => ∃ n : Nat, i = .int .i64 (n : Int) ∧ n ≤ l.length ∧ (∀ j (h : j < l.length), j < n → rgtOne l j h = true) ∧ wr = w.drewN m) (fun i _ => l.length - (intOf i).toNat)
    case atStart => exact ⟨0, rfl, by omega, fun j _ h => by omega, rfl⟩
    case round =>
      obtain ⟨n, rfl, hk, hok, rfl⟩ := hrel
      have Hok := Lib.hid hok
      clear hok
      by_cases hlt : n < l.length
      · have hlt' : (n : Int) < (l.length : Int) := by omega
        obtain ⟨b, off, rfl, hbl, x1, z1⟩ := H3.out n hlt
        by_cases hz : 1 ≤ l[n].2.size
        · have t1 : (l[n].2.toList == []) = false := by rw [beq_eq_false_iff_ne]; exact fun e => by have := size_nil.1 e; omega
          have t3 : l[n].2.toList.isEmpty = false := by cases h : l[n].2.toList with | nil => rw [h] at t1; cases t1 | cons _ _ => rfl
          have step : ∀ j (h : j < l.length), j < n + 1 → rgtOne l j h = true := fun j hj hjk => by
            by_cases e : j = n
            · subst e; exact rgt_of hlt (Hall.out j hlt) hz
            · exact Hok.out j hj (by omega)
          have Step := Lib.hid step
          clear step Hok
          go_wp2_with fail
          go_roundw
          case rel => exact ⟨n + 1, by go_num, by omega, Step.out, by trivial⟩
          case measure => simp [intOf]; omega
        · have hb := Lib.hid (rgt_empty hlt (by omega))
          have t0 : l[n].2.toList = [] := size_nil.2 (by omega)
          have t3 : l[n].2.toList.isEmpty = true := by rw [t0]; rfl
          clear hz Hok
          go_wp2_with fail
          go_ret
          rw [hb.out]
          exact ⟨rfl, m, rfl⟩
      · have hkn : n = l.length := by omega
        have hb := Lib.hid (rgtE_ok hl8 fun j hj => Hok.out j hj (by omega))
        subst hkn
        clear Hok
        go_wp2_with fail
        go_ret
        rw [hb.out]
        exact ⟨rfl, m, rfl⟩
end Go.Proofs.YtacgkbdldbppjaaGreatDoor

/- Plain maths of changesets: which may be, how long what comes of them is, the one normal form. -/
namespace Go.Proofs.YtacgkbdldbppjaaGreatDoor
namespace Ch
open Rn
/-- An operation, plain. -/
structure OpD where
  kind : Int
  n : Int
  text : ByteArray
  attrs : List (ByteArray × ByteArray)
def cat (a b : ByteArray) : ByteArray := ⟨(a.data.toList ++ b.data.toList).toArray⟩
theorem cat_data (a b : ByteArray) : (cat a b).data.toList = a.data.toList ++ b.data.toList := rfl
theorem size_data (a : ByteArray) : a.size = a.data.toList.length := rfl
theorem ba_eq {a b : ByteArray} (h : a.data.toList = b.data.toList) : a = b := by
  cases a; cases b; simp at h; subst h; rfl
theorem cat_size (a b : ByteArray) : (cat a b).size = a.size + b.size := by rw [size_data, cat_data, List.length_append]; rfl
theorem cat_nil {a b : ByteArray} (h : b.size = 0) : cat a b = a := ba_eq (by
  rw [cat_data, List.length_eq_zero_iff.1 (show b.data.toList.length = 0 from h), List.append_nil])
theorem nil_cat {a b : ByteArray} (h : a.size = 0) : cat a b = b := ba_eq (by
  rw [cat_data, List.length_eq_zero_iff.1 (show a.data.toList.length = 0 from h), List.nil_append])
theorem cat_eq (a b : ByteArray) : a ++ b = cat a b := ba_eq (by simp [cat_data])

def opSz (o : OpD) : Int := if o.kind = 2 then cnt o.text.data.toList else o.n
def opE (o : OpD) : Int :=
  if o.kind = 1 then (if o.n < 1 ∨ o.text.size ≠ 0 then 30 else chgE o.attrs)
  else if o.kind = 2 then (if o.n ≠ 0 ∨ o.text.size = 0 then 30 else if er o.text.data.toList ≠ 0 then er o.text.data.toList else rgtE o.attrs)
  else if o.kind = 3 then (if o.n < 1 ∨ o.text.size ≠ 0 ∨ o.attrs.length ≠ 0 then 30 else 0)
  else 30
def scan : Int → Int → List OpD → Int × Int × Int
  | left, u, [] => (left, u, 0)
  | left, u, o :: r =>
    if opE o ≠ 0 then (0, 0, opE o)
    else if o.kind = 2 then scan left (u + opSz o) r
    else if left < o.n then (0, 0, 31)
    else scan (left - o.n) (if o.kind = 3 then u - o.n else u) r
def toE (f : Int) (ops : List OpD) : Int :=
  if f < 0 ∨ 20000 < f then 31 else if 2000 < ops.length then 2 else if (scan f f ops).2.2 ≠ 0 then (scan f f ops).2.2 else if 20000 < (scan f f ops).2.1 then 3 else 0
def toN (f : Int) (ops : List OpD) : Int := if toE f ops = 0 then (scan f f ops).2.1 else 0

def kd : List OpD → Int
  | [] => 0
  | o :: r => (if o.kind = 2 then 0 else o.n) + kd r
def dl : List OpD → Int
  | [] => 0
  | o :: r => (if o.kind = 3 then o.n else 0) + dl r
def ins : List OpD → Int
  | [] => 0
  | o :: r => (if o.kind = 2 then cnt o.text.data.toList else 0) + ins r
def allE (ops : List OpD) : Prop := ∀ o ∈ ops, opE o = 0

theorem cnt_nonneg (l : List UInt8) : 0 ≤ cnt l ∧ cnt l ≤ 20000 := by
  unfold cnt
  split
  · rename_i cs h
    have := (rd_some h).2.2
    omega
  · omega
theorem er_cases (l : List UInt8) : er l = 0 ∨ er l = 10 := by unfold er; split <;> simp
theorem chgE_cases (l : List (ByteArray × ByteArray)) : chgE l = 0 ∨ chgE l = 20 := by unfold chgE; split <;> simp
theorem rgtE_cases (l : List (ByteArray × ByteArray)) : rgtE l = 0 ∨ rgtE l = 20 := by unfold rgtE; split <;> simp

theorem opE_keep {o : OpD} (hk : o.kind = 1) : opE o = 0 ↔ 1 ≤ o.n ∧ o.text.size = 0 ∧ chgE o.attrs = 0 := by
  unfold opE
  rw [if_pos hk]
  split <;> omega
theorem opE_put {o : OpD} (hk : o.kind = 2) : opE o = 0 ↔ o.n = 0 ∧ o.text.size ≠ 0 ∧ er o.text.data.toList = 0 ∧ rgtE o.attrs = 0 := by
  unfold opE
  rw [if_neg (by omega), if_pos hk]
  split
  · omega
  · split <;> omega
theorem opE_cut {o : OpD} (hk : o.kind = 3) : opE o = 0 ↔ 1 ≤ o.n ∧ o.text.size = 0 ∧ o.attrs.length = 0 := by
  unfold opE
  rw [if_neg (by omega), if_neg (by omega), if_pos hk]
  split <;> omega
theorem opE_kind {o : OpD} (h : opE o = 0) : o.kind = 1 ∨ o.kind = 2 ∨ o.kind = 3 := by
  unfold opE at h
  split at h
  · omega
  · split at h
    · omega
    · split at h <;> omega
theorem opE_n {o : OpD} (h : opE o = 0) (hk : o.kind ≠ 2) : 1 ≤ o.n := by
  rcases opE_kind h with k | k | k
  · exact ((opE_keep k).1 h).1
  · exact absurd k hk
  · exact ((opE_cut k).1 h).1

theorem scan_ok (ops : List OpD) : ∀ left u : Int, 0 ≤ left → ((scan left u ops).2.2 = 0 ↔ allE ops ∧ kd ops ≤ left) ∧ ((scan left u ops).2.2 = 0 → (scan left u ops).2.1 = u - dl ops + ins ops) := by
  induction ops with
  | nil =>
    intro left u h
    refine ⟨⟨fun _ => ⟨(fun o ho => by cases ho), h⟩, fun _ => rfl⟩, fun _ => ?_⟩
    show u = u - 0 + 0
    omega
  | cons o r ih =>
    intro left u h
    have hall : allE (o :: r) ↔ opE o = 0 ∧ allE r := by
      unfold allE
      rw [List.forall_mem_cons]
    rw [hall]
    show ((scan left u (o :: r)).2.2 = 0 ↔ _) ∧ _
    rw [scan, kd, dl, ins]
    by_cases he : opE o = 0
    · rw [if_neg (by simpa using he)]
      by_cases hk : o.kind = 2
      · rw [if_pos hk, if_pos hk, if_pos hk, if_neg (by omega)]
        obtain ⟨h1, h2⟩ := ih left (u + opSz o) h
        have hs : opSz o = cnt o.text.data.toList := by unfold opSz; rw [if_pos hk]
        refine ⟨?_, fun h0 => ?_⟩
        · rw [h1]
          constructor
          · rintro ⟨a, b⟩; exact ⟨⟨he, a⟩, by omega⟩
          · rintro ⟨⟨_, a⟩, b⟩; exact ⟨a, by omega⟩
        · rw [h2 h0, hs]; omega
      · rw [if_neg hk, if_neg hk, if_neg hk]
        have hn := opE_n he hk
        by_cases hl : left < o.n
        · rw [if_pos hl]
          have hkd : allE r → 0 ≤ kd r := fun ha => by
            clear ih hall
            induction r with
            | nil => exact Int.le_refl _
            | cons x s ih =>
              have hx := ha x (List.mem_cons_self ..)
              have := ih fun y hy => ha y (List.mem_cons_of_mem _ hy)
              rw [kd]
              split
              · omega
              · have := opE_n hx (by assumption); omega
          refine ⟨⟨fun h0 => by simp at h0, fun ⟨⟨_, ha⟩, hb⟩ => ?_⟩, fun h0 => by simp at h0⟩
          have := hkd ha
          omega
        · rw [if_neg hl]
          obtain ⟨h1, h2⟩ := ih (left - o.n) (if o.kind = 3 then u - o.n else u) (by omega)
          refine ⟨?_, fun h0 => ?_⟩
          · rw [h1]
            constructor
            · rintro ⟨a, b⟩; exact ⟨⟨he, a⟩, by omega⟩
            · rintro ⟨⟨_, a⟩, b⟩; exact ⟨a, by omega⟩
          · rw [h2 h0]
            split <;> omega
    · rw [if_pos (by simpa using he)]
      exact ⟨⟨fun h0 => absurd h0 he, fun ⟨⟨a, _⟩, _⟩ => absurd a he⟩, fun h0 => absurd h0 he⟩

/-- What is right. -/
def OkC (f : Int) (ops : List OpD) : Prop := 0 ≤ f ∧ f ≤ 20000 ∧ ops.length ≤ 2000 ∧ allE ops ∧ kd ops ≤ f ∧ f - dl ops + ins ops ≤ 20000
theorem toE_iff (f : Int) (ops : List OpD) : toE f ops = 0 ↔ OkC f ops := by
  unfold toE OkC
  by_cases h1 : f < 0 ∨ 20000 < f
  · rw [if_pos h1]
    constructor
    · omega
    · rintro ⟨a, b, _⟩; omega
  · rw [if_neg h1]
    by_cases h2 : 2000 < ops.length
    · rw [if_pos h2]
      constructor
      · omega
      · rintro ⟨_, _, a, _⟩; omega
    · rw [if_neg h2]
      obtain ⟨h3, h4⟩ := scan_ok ops f f (by omega)
      by_cases h5 : (scan f f ops).2.2 = 0
      · rw [if_neg (by simpa using h5)]
        have h6 := h4 h5
        obtain ⟨h7, h8⟩ := h3.1 h5
        rw [h6]
        split
        · constructor
          · omega
          · rintro ⟨_, _, _, _, _, a⟩; omega
        · exact ⟨fun _ => ⟨by omega, by omega, by omega, h7, h8, by omega⟩, fun _ => rfl⟩
      · rw [if_pos (by simpa using h5)]
        exact ⟨fun h => absurd h h5, fun ⟨_, _, _, a, b, _⟩ => h3.2 ⟨a, b⟩⟩
theorem toN_ok {f : Int} {ops : List OpD} (h : toE f ops = 0) : toN f ops = f - dl ops + ins ops := by
  unfold toN
  rw [if_pos h]
  have hc := (toE_iff f ops).1 h
  exact (scan_ok ops f f hc.1).2 (((scan_ok ops f f hc.1).1).2 ⟨hc.2.2.2.1, hc.2.2.2.2.1⟩)
theorem toN_bad {f : Int} {ops : List OpD} (h : toE f ops ≠ 0) : toN f ops = 0 := by
  unfold toN
  rw [if_neg h]

/-- The normal form, the last operation first. -/
def put : List OpD → OpD → List OpD
  | [], o => [o]
  | x :: r, o => if x.kind = o.kind ∧ x.attrs = o.attrs then { x with n := x.n + o.n, text := cat x.text o.text } :: r else o :: x :: r
def delO (g : Int) : OpD := ⟨3, g, ⟨#[]⟩, []⟩
def flush (s : List OpD × Int) : List OpD := if 0 < s.2 then put s.1 (delO s.2) else s.1
def add (s : List OpD × Int) (o : OpD) : List OpD × Int := if o.kind = 3 then (s.1, s.2 + o.n) else if o.kind = 1 then (put (flush s) o, 0) else (put s.1 o, s.2)
def trim : List OpD → List OpD
  | [] => []
  | x :: r => if x.kind = 1 ∧ x.attrs.length = 0 then r else x :: r
def fold (ops : List OpD) : List OpD × Int := ops.foldl add ([], 0)
def norm (ops : List OpD) : List OpD := (trim (flush (fold ops))).reverse
theorem fold_snoc (ops : List OpD) (o : OpD) : fold (ops ++ [o]) = add (fold ops) o := by unfold fold; rw [List.foldl_append]; rfl

def NF : List OpD → Prop
  | [] => True
  | y :: r => (∀ x r', r = x :: r' → ¬ (x.kind = y.kind ∧ x.attrs = y.attrs) ∧ (x.kind = 3 → y.kind = 1)) ∧ NF r
def hd3 (l : List OpD) : Prop := ∀ x r, l = x :: r → x.kind ≠ 3

theorem put_fresh {l : List OpD} {o : OpD} (h : ∀ x r, l = x :: r → ¬ (x.kind = o.kind ∧ x.attrs = o.attrs)) : put l o = o :: l := by
  cases l with
  | nil => rfl
  | cons x r => rw [put, if_neg (h x r rfl)]
theorem put_len_le (l : List OpD) (o : OpD) : (put l o).length ≤ l.length + 1 := by
  cases l with
  | nil => simp [put]
  | cons x r => rw [put]; split <;> simp
theorem put_head (l : List OpD) (o : OpD) : ∃ x r, put l o = x :: r ∧ x.kind = o.kind ∧ x.attrs = o.attrs := by
  cases l with
  | nil => exact ⟨o, [], rfl, rfl, rfl⟩
  | cons x r =>
    rw [put]
    split
    · rename_i h; exact ⟨_, _, rfl, h.1, h.2⟩
    · exact ⟨_, _, rfl, rfl, rfl⟩
theorem put_NF {l : List OpD} {o : OpD} (h : NF l) (hd : ∀ x r, l = x :: r → x.kind = 3 → o.kind = 1 ∨ o.kind = 3 ∧ o.attrs = x.attrs) : NF (put l o) := by
  cases l with
  | nil => exact ⟨(fun x r' e => by cases e), trivial⟩
  | cons x r =>
    rw [put]
    split
    · rename_i ha
      refine ⟨fun y r' e => ?_, h.2⟩
      obtain ⟨h1, h2⟩ := h.1 y r' e
      exact ⟨h1, h2⟩
    · rename_i ha
      refine ⟨fun y r' e => ?_, h⟩
      simp only [List.cons.injEq] at e
      obtain ⟨rfl, rfl⟩ := e
      refine ⟨ha, fun h3 => ?_⟩
      rcases hd _ _ rfl h3 with h | ⟨h, h'⟩
      · exact h
      · exact absurd ⟨h3.trans h.symm, h'.symm⟩ ha

/-- What holds of a state on the way. -/
def St (s : List OpD × Int) : Prop := NF s.1 ∧ hd3 s.1
theorem St.flush {s : List OpD × Int} (h : St s) : NF (flush s) := by
  unfold Ch.flush
  split
  · refine put_NF h.1 fun x r e h3 => absurd h3 (h.2 x r e)
  · exact h.1
theorem flush_head3 {s : List OpD × Int} (_h : St s) : True := trivial
theorem St.add {s : List OpD × Int} (h : St s) {o : OpD} (_ho : o.kind = 1 ∨ o.kind = 2 ∨ o.kind = 3) : St (add s o) := by
  unfold Ch.add
  split
  · exact h
  · split
    · rename_i h3 h1
      refine ⟨put_NF h.flush fun x r e _ => .inl h1, fun x r e => ?_⟩
      obtain ⟨y, r', e', hy, _⟩ := put_head (Ch.flush s) o
      rw [e'] at e
      simp only [List.cons.injEq] at e
      rw [← e.1, hy, h1]
      decide
    · rename_i h3 h1
      refine ⟨put_NF h.1 fun x r e h3' => absurd h3' (h.2 x r e), fun x r e => ?_⟩
      obtain ⟨y, r', e', hy, _⟩ := put_head s.1 o
      rw [e'] at e
      simp only [List.cons.injEq] at e
      rw [← e.1, hy]
      exact h3
theorem fold_St {ops : List OpD} (h : allE ops) : St (fold ops) := by
  have key : ∀ (ops : List OpD) (s : List OpD × Int), St s → allE ops → St (ops.foldl add s) := by
    intro ops
    induction ops with
    | nil => intro s h _; exact h
    | cons o r ih => intro s h ha; exact ih _ (h.add (opE_kind (ha o (List.mem_cons_self ..)))) fun x hx => ha x (List.mem_cons_of_mem _ hx)
  exact key ops _ ⟨trivial, fun x r e => by cases e⟩ h

def siz (s : List OpD × Int) : Nat := s.1.length + if 0 < s.2 then 1 else 0
theorem flush_len (s : List OpD × Int) : (flush s).length ≤ siz s := by
  unfold flush siz
  split
  · exact put_len_le _ _
  · exact Nat.le_refl _
theorem siz_add (s : List OpD × Int) (o : OpD) : siz (add s o) ≤ siz s + 1 := by
  have h1 := flush_len s
  unfold add
  split
  · unfold siz; dsimp only; split <;> split <;> omega
  · split
    · have := put_len_le (flush s) o
      have e : siz (put (flush s) o, 0) = (put (flush s) o).length := by unfold siz; simp
      rw [e]; omega
    · have := put_len_le s.1 o
      unfold siz; dsimp only; split <;> omega
theorem siz_fold (ops : List OpD) : siz (fold ops) ≤ ops.length := by
  have key : ∀ (ops : List OpD) (s : List OpD × Int), siz (ops.foldl add s) ≤ siz s + ops.length := by
    intro ops
    induction ops with
    | nil => intro s; simp
    | cons o r ih =>
      intro s
      have h1 := ih (add s o)
      have h2 := siz_add s o
      rw [List.foldl_cons, List.length_cons]
      omega
  have := key ops ([], 0)
  have e : siz ([], 0) = 0 := rfl
  rw [e] at this
  unfold fold
  omega
theorem trim_len (l : List OpD) : (trim l).length ≤ l.length := by
  cases l with
  | nil => exact Nat.le_refl _
  | cons x r => rw [trim]; split <;> simp
theorem norm_len (ops : List OpD) : (norm ops).length ≤ ops.length := by
  unfold norm
  rw [List.length_reverse]
  exact Nat.le_trans (trim_len _) (Nat.le_trans (flush_len _) (siz_fold _))

/-- The sums. -/
theorem kd_append (a b : List OpD) : kd (a ++ b) = kd a + kd b := by
  induction a with
  | nil => simp [kd]
  | cons x r ih => simp only [List.cons_append, kd, ih]; omega
theorem dl_append (a b : List OpD) : dl (a ++ b) = dl a + dl b := by
  induction a with
  | nil => simp [dl]
  | cons x r ih => simp only [List.cons_append, dl, ih]; omega
theorem ins_append (a b : List OpD) : ins (a ++ b) = ins a + ins b := by
  induction a with
  | nil => simp [ins]
  | cons x r ih => simp only [List.cons_append, ins, ih]; omega
theorem kd_reverse (a : List OpD) : kd a.reverse = kd a := by
  induction a with
  | nil => rfl
  | cons x r ih => rw [List.reverse_cons, kd_append, ih]; simp only [kd]; omega
theorem dl_reverse (a : List OpD) : dl a.reverse = dl a := by
  induction a with
  | nil => rfl
  | cons x r ih => rw [List.reverse_cons, dl_append, ih]; simp only [dl]; omega
theorem ins_reverse (a : List OpD) : ins a.reverse = ins a := by
  induction a with
  | nil => rfl
  | cons x r ih => rw [List.reverse_cons, ins_append, ih]; simp only [ins]; omega
theorem ins_nonneg (l : List OpD) : 0 ≤ ins l := by
  induction l with
  | nil => exact Int.le_refl _
  | cons x r ih => rw [ins]; have := cnt_nonneg x.text.data.toList; split <;> omega
theorem kd_nonneg {l : List OpD} (h : allE l) : 0 ≤ kd l := by
  induction l with
  | nil => exact Int.le_refl _
  | cons x r ih =>
    have := ih fun y hy => h y (List.mem_cons_of_mem _ hy)
    rw [kd]
    split
    · omega
    · have := opE_n (h x (List.mem_cons_self ..)) (by assumption); omega
theorem dl_le_kd {l : List OpD} (h : allE l) : 0 ≤ dl l ∧ dl l ≤ kd l := by
  induction l with
  | nil => exact ⟨Int.le_refl _, Int.le_refl _⟩
  | cons x r ih =>
    have := ih fun y hy => h y (List.mem_cons_of_mem _ hy)
    have hx := h x (List.mem_cons_self ..)
    rw [kd, dl]
    rcases opE_kind hx with k | k | k
    · rw [if_neg (by omega), if_neg (by omega)]; have := opE_n hx (by omega); omega
    · rw [if_neg (by omega), if_pos k]; omega
    · rw [if_pos k, if_neg (by omega)]; have := opE_n hx (by omega); omega

/-- Two texts, one behind the other. -/
theorem er_cat {a b : ByteArray} (ha : er a.data.toList = 0) (hb : er b.data.toList = 0) (h : cnt a.data.toList + cnt b.data.toList ≤ 20000) :
    er (cat a b).data.toList = 0 ∧ cnt (cat a b).data.toList = cnt a.data.toList + cnt b.data.toList := by
  cases hra : rd a.data.toList with
  | none => rw [er_none hra] at ha; omega
  | some cs =>
    cases hrb : rd b.data.toList with
    | none => rw [er_none hrb] at hb; omega
    | some ds =>
      rw [cnt_some hra, cnt_some hrb] at h
      obtain ⟨a1, a2, a3⟩ := rd_some hra
      obtain ⟨b1, b2, b3⟩ := rd_some hrb
      have e : rd (cat a b).data.toList = some (cs ++ ds) := by
        rw [cat_data, a2, b2, ← txt_append]
        refine rd_txt _ (fun c hc => ?_) (by rw [List.length_append]; omega)
        rcases List.mem_append.1 hc with h | h
        · exact a1 c h
        · exact b1 c h
      rw [er_some e, cnt_some e, cnt_some hra, cnt_some hrb, List.length_append]
      exact ⟨rfl, by omega⟩
theorem put_one {x o : OpD} (hx : opE x = 0) (ho : opE o = 0) (hk : x.kind = o.kind) (_ha : x.attrs = o.attrs) (hi : ins [x] + ins [o] ≤ 20000) :
    opE { x with n := x.n + o.n, text := cat x.text o.text } = 0 ∧ (x.kind = 2 → cnt (cat x.text o.text).data.toList = cnt x.text.data.toList + cnt o.text.data.toList) := by
  rcases opE_kind hx with k | k | k
  · obtain ⟨x1, x2, x3⟩ := (opE_keep k).1 hx
    obtain ⟨o1, o2, o3⟩ := (opE_keep (hk ▸ k)).1 ho
    refine ⟨(opE_keep (show ({ x with n := x.n + o.n, text := cat x.text o.text } : OpD).kind = 1 from k)).2 ⟨by show 1 ≤ x.n + o.n; omega, by show (cat x.text o.text).size = 0; rw [cat_size]; omega, x3⟩, fun h => by omega⟩
  · obtain ⟨x1, x2, x3, x4⟩ := (opE_put k).1 hx
    obtain ⟨o1, o2, o3, o4⟩ := (opE_put (hk ▸ k)).1 ho
    simp only [ins] at hi
    rw [if_pos k, if_pos (hk ▸ k)] at hi
    obtain ⟨e1, e2⟩ := er_cat x3 o3 (by omega)
    refine ⟨(opE_put (show ({ x with n := x.n + o.n, text := cat x.text o.text } : OpD).kind = 2 from k)).2 ⟨by show x.n + o.n = 0; omega, by show (cat x.text o.text).size ≠ 0; rw [cat_size]; omega, e1, x4⟩, fun _ => e2⟩
  · obtain ⟨x1, x2, x3⟩ := (opE_cut k).1 hx
    obtain ⟨o1, o2, o3⟩ := (opE_cut (hk ▸ k)).1 ho
    refine ⟨(opE_cut (show ({ x with n := x.n + o.n, text := cat x.text o.text } : OpD).kind = 3 from k)).2 ⟨by show 1 ≤ x.n + o.n; omega, by show (cat x.text o.text).size = 0; rw [cat_size]; omega, x3⟩, fun h => by omega⟩
theorem put_all {l : List OpD} {o : OpD} (hl : allE l) (ho : opE o = 0) (hi : ins l + ins [o] ≤ 20000) :
    allE (put l o) ∧ kd (put l o) = kd l + kd [o] ∧ dl (put l o) = dl l + dl [o] ∧ ins (put l o) = ins l + ins [o] := by
  cases l with
  | nil =>
    refine ⟨fun x hx => ?_, ?_, ?_, ?_⟩
    · simp [put] at hx; subst hx; exact ho
    · simp [put, kd]
    · simp [put, dl]
    · simp [put, ins]
  | cons x r =>
    have hx := hl x (List.mem_cons_self ..)
    have hr : allE r := fun y hy => hl y (List.mem_cons_of_mem _ hy)
    rw [put]
    split
    · rename_i h
      have hir := ins_nonneg r
      have hi' : ins [x] + ins [o] ≤ 20000 := by simp only [ins] at hi ⊢; omega
      obtain ⟨h1, h2⟩ := put_one hx ho h.1 h.2 hi'
      refine ⟨fun y hy => ?_, ?_, ?_, ?_⟩
      · rcases List.mem_cons.1 hy with rfl | hy
        · exact h1
        · exact hr y hy
      · simp only [kd, ← h.1]; split <;> omega
      · simp only [dl, ← h.1]; split <;> omega
      · simp only [ins, ← h.1]
        split
        · rw [h2 (by assumption)]; omega
        · omega
    · refine ⟨fun y hy => ?_, ?_, ?_, ?_⟩
      · rcases List.mem_cons.1 hy with rfl | hy
        · exact ho
        · exact hl y hy
      · simp only [kd]; omega
      · simp only [dl]; omega
      · simp only [ins]; omega
theorem delO_ok {g : Int} (h : 0 < g) : opE (delO g) = 0 := (opE_cut rfl).2 ⟨by show 1 ≤ g; omega, rfl, rfl⟩
theorem flush_all {s : List OpD × Int} (hl : allE s.1) (hg : 0 ≤ s.2) (hi : ins s.1 ≤ 20000) :
    allE (flush s) ∧ kd (flush s) = kd s.1 + s.2 ∧ dl (flush s) = dl s.1 + s.2 ∧ ins (flush s) = ins s.1 := by
  unfold flush
  split
  · have e : ins [delO s.2] = 0 := rfl
    obtain ⟨h1, h2, h3, h4⟩ := put_all hl (delO_ok (by assumption)) (by rw [e]; omega)
    refine ⟨h1, ?_, ?_, ?_⟩
    · rw [h2]; simp [kd, delO]
    · rw [h3]; simp [dl, delO]
    · rw [h4, e]; omega
  · exact ⟨hl, by omega, by omega, rfl⟩
theorem add_all {s : List OpD × Int} {o : OpD} (hl : allE s.1) (hg : 0 ≤ s.2) (ho : opE o = 0) (hi : ins s.1 + ins [o] ≤ 20000) :
    allE (add s o).1 ∧ 0 ≤ (add s o).2 ∧ kd (add s o).1 + (add s o).2 = kd s.1 + s.2 + kd [o] ∧ dl (add s o).1 + (add s o).2 = dl s.1 + s.2 + dl [o] ∧ ins (add s o).1 = ins s.1 + ins [o] := by
  have hio := ins_nonneg [o]
  obtain ⟨f1, f2, f3, f4⟩ := flush_all hl hg (by omega)
  unfold add
  split
  · rename_i h3
    have := opE_n ho (by omega)
    refine ⟨hl, by show 0 ≤ s.2 + o.n; omega, ?_, ?_, ?_⟩
    · simp only [kd]; rw [if_neg (by omega)]; omega
    · simp only [dl]; rw [if_pos h3]; omega
    · simp only [ins]; rw [if_neg (by omega)]; omega
  · split
    · obtain ⟨h1, h2, h3, h4⟩ := put_all f1 ho (by rw [f4]; exact hi)
      refine ⟨h1, Int.le_refl _, ?_, ?_, ?_⟩
      · show kd (put (flush s) o) + 0 = _; rw [h2, f2]; omega
      · show dl (put (flush s) o) + 0 = _; rw [h3, f3]; omega
      · show ins (put (flush s) o) = _; rw [h4, f4]
    · rename_i h3 h1
      obtain ⟨g1, g2, g3, g4⟩ := put_all hl ho hi
      refine ⟨g1, hg, ?_, ?_, g4⟩
      · show kd (put s.1 o) + s.2 = _; rw [g2]; omega
      · show dl (put s.1 o) + s.2 = _; rw [g3]; omega
theorem fold_all {ops : List OpD} (h : allE ops) (hi : ins ops ≤ 20000) :
    allE (fold ops).1 ∧ 0 ≤ (fold ops).2 ∧ kd (fold ops).1 + (fold ops).2 = kd ops ∧ dl (fold ops).1 + (fold ops).2 = dl ops ∧ ins (fold ops).1 = ins ops := by
  have key : ∀ (ops : List OpD) (s : List OpD × Int), allE s.1 → 0 ≤ s.2 → allE ops → ins s.1 + ins ops ≤ 20000 →
      allE (ops.foldl add s).1 ∧ 0 ≤ (ops.foldl add s).2 ∧ kd (ops.foldl add s).1 + (ops.foldl add s).2 = kd s.1 + s.2 + kd ops ∧ dl (ops.foldl add s).1 + (ops.foldl add s).2 = dl s.1 + s.2 + dl ops ∧ ins (ops.foldl add s).1 = ins s.1 + ins ops := by
    intro ops
    induction ops with
    | nil => intro s h1 h2 _ _; refine ⟨h1, h2, ?_, ?_, ?_⟩ <;> simp [kd, dl, ins]
    | cons o r ih =>
      intro s h1 h2 h3 h4
      have hir := ins_nonneg r
      have hs : ins (o :: r) = ins [o] + ins r := ins_append [o] r
      have hk : kd (o :: r) = kd [o] + kd r := kd_append [o] r
      have hd : dl (o :: r) = dl [o] + dl r := dl_append [o] r
      obtain ⟨a1, a2, a3, a4, a5⟩ := add_all h1 h2 (h3 o (List.mem_cons_self ..)) (by omega)
      obtain ⟨b1, b2, b3, b4, b5⟩ := ih (add s o) a1 a2 (fun x hx => h3 x (List.mem_cons_of_mem _ hx)) (by omega)
      rw [List.foldl_cons]
      exact ⟨b1, b2, by omega, by omega, by omega⟩
  obtain ⟨a, b, c, d, e⟩ := key ops ([], 0) (fun x hx => by cases hx) (Int.le_refl _) h (by simp [ins]; exact hi)
  have z1 : kd ([] : List OpD) = 0 := rfl
  have z2 : dl ([] : List OpD) = 0 := rfl
  have z3 : ins ([] : List OpD) = 0 := rfl
  simp only [z1, z2, z3] at c d e
  unfold fold
  exact ⟨a, b, by omega, by omega, by omega⟩
theorem trim_all {l : List OpD} (h : allE l) : allE (trim l) ∧ kd (trim l) ≤ kd l ∧ dl (trim l) = dl l ∧ ins (trim l) = ins l := by
  cases l with
  | nil => exact ⟨h, Int.le_refl _, rfl, rfl⟩
  | cons x r =>
    rw [trim]
    split
    · rename_i hb
      have := opE_n (h x (List.mem_cons_self ..)) (by omega)
      refine ⟨fun y hy => h y (List.mem_cons_of_mem _ hy), ?_, ?_, ?_⟩
      · rw [kd, if_neg (by omega)]; omega
      · rw [dl, if_neg (by omega)]; omega
      · rw [ins, if_neg (by omega)]; omega
    · exact ⟨h, Int.le_refl _, rfl, rfl⟩
theorem OkC.ins {f : Int} {ops : List OpD} (h : OkC f ops) : ins ops ≤ 20000 := by
  obtain ⟨_, _, _, h4, h5, h6⟩ := h
  have := dl_le_kd h4
  omega
/-- The normal form is right, and as long. -/
theorem norm_ok {f : Int} {ops : List OpD} (h : OkC f ops) : OkC f (norm ops) ∧ dl (norm ops) = dl ops ∧ Ch.ins (norm ops) = Ch.ins ops := by
  have hi := h.ins
  obtain ⟨h1, h2, h3, h4, h5, h6⟩ := h
  obtain ⟨a1, a2, a3, a4, a5⟩ := fold_all h4 hi
  obtain ⟨b1, b2, b3, b4⟩ := flush_all a1 a2 (by omega)
  obtain ⟨c1, c2, c3, c4⟩ := trim_all b1
  have hl := norm_len ops
  unfold norm at hl ⊢
  have k1 : kd (trim (flush (fold ops))).reverse = kd (trim (flush (fold ops))) := kd_reverse _
  have k2 : dl (trim (flush (fold ops))).reverse = dl (trim (flush (fold ops))) := dl_reverse _
  have k3 : Ch.ins (trim (flush (fold ops))).reverse = Ch.ins (trim (flush (fold ops))) := ins_reverse _
  refine ⟨⟨h1, h2, by omega, fun x hx => c1 x (List.mem_reverse.1 hx), by omega, by omega⟩, by omega, by omega⟩
theorem norm_to {f : Int} {ops : List OpD} (h : toE f ops = 0) : toE f (norm ops) = 0 ∧ toN f (norm ops) = toN f ops := by
  obtain ⟨h1, h2, h3⟩ := norm_ok ((toE_iff f ops).1 h)
  have h4 := (toE_iff f _).2 h1
  exact ⟨h4, by rw [toN_ok h, toN_ok h4, h2, h3]⟩

/-- Of a normal one it is that one. -/
theorem fold_normal (l : List OpD) (h : NF l) (ha : allE l) : flush (l.foldr (fun o s => add s o) ([], 0)) = l ∧ (hd3 l → l.foldr (fun o s => add s o) ([], 0) = (l, 0)) := by
  induction l with
  | nil => exact ⟨rfl, fun _ => rfl⟩
  | cons y r ih =>
    obtain ⟨i1, i2⟩ := ih h.2 fun x hx => ha x (List.mem_cons_of_mem _ hx)
    have hy := ha y (List.mem_cons_self ..)
    have hput : put r y = y :: r := put_fresh fun x r' e => (h.1 x r' e).1
    rw [List.foldr_cons]
    rcases opE_kind hy with k | k | k
    · have e : add (r.foldr (fun o s => add s o) ([], 0)) y = (y :: r, 0) := by
        have e0 : ∀ s : List OpD × Int, add s y = (put (flush s) y, 0) := fun s => by unfold add; rw [if_neg (by omega), if_pos k]
        rw [e0, i1, hput]
      rw [e]
      exact ⟨rfl, fun _ => rfl⟩
    · have hr : hd3 r := fun x r' e h3 => by have := (h.1 x r' e).2 h3; omega
      have e : add (r.foldr (fun o s => add s o) ([], 0)) y = (y :: r, 0) := by
        rw [i2 hr]
        unfold add
        rw [if_neg (by omega), if_neg (by omega), hput]
      rw [e]
      exact ⟨rfl, fun _ => rfl⟩
    · have hr : hd3 r := fun x r' e h3 => by have := (h.1 x r' e).2 h3; omega
      obtain ⟨y1, y2, y3⟩ := (opE_cut k).1 hy
      have e : add (r.foldr (fun o s => add s o) ([], 0)) y = (r, y.n) := by
        rw [i2 hr]
        unfold add
        rw [if_pos k]
        simp
      have hyd : delO y.n = y := by
        obtain ⟨a, b, c, d⟩ := y
        simp only at k y1 y2 y3
        subst k
        have hc : c = ⟨#[]⟩ := ba_eq (List.length_eq_zero_iff.1 y2)
        have hd : d = [] := List.length_eq_zero_iff.1 y3
        rw [hc, hd]; rfl
      rw [e]
      refine ⟨?_, fun h3 => absurd k (h3 y r rfl)⟩
      unfold flush
      rw [if_pos (by show 0 < y.n; omega)]
      show put r (delO y.n) = _
      rw [hyd, hput]
theorem NF.trim {l : List OpD} (h : NF l) : NF (trim l) := by
  cases l with
  | nil => exact h
  | cons x r => rw [Ch.trim]; split
                · exact h.2
                · exact h
theorem trim_trim {l : List OpD} (h : NF l) : trim (trim l) = trim l := by
  cases l with
  | nil => rfl
  | cons x r =>
    by_cases hb : x.kind = 1 ∧ x.attrs.length = 0
    · have e : trim (x :: r) = r := by rw [trim, if_pos hb]
      rw [e]
      cases r with
      | nil => rfl
      | cons y s =>
        rw [trim, if_neg]
        intro hb'
        refine (h.1 y s rfl).1 ⟨by omega, ?_⟩
        rw [List.length_eq_zero_iff.1 hb'.2, List.length_eq_zero_iff.1 hb.2]
    · have e : trim (x :: r) = x :: r := by rw [trim, if_neg hb]
      rw [e, e]
theorem norm_norm {f : Int} {ops : List OpD} (h : OkC f ops) : norm (norm ops) = norm ops := by
  have hc := (norm_ok h).1.2.2.2.1
  have hs := (fold_St h.2.2.2.1).flush.trim
  have ha : allE (trim (flush (fold ops))) := fun x hx => hc x (List.mem_reverse.2 hx)
  have := (fold_normal _ hs ha).1
  have e : fold (norm ops) = (trim (flush (fold ops))).foldr (fun o s => add s o) ([], 0) := by
    show List.foldl add ([], 0) (trim (flush (fold ops))).reverse = _
    rw [List.foldl_reverse]
  show (trim (flush (fold (norm ops)))).reverse = (trim (flush (fold ops))).reverse
  rw [e, this, trim_trim (fold_St h.2.2.2.1).flush]

/-- What the normal form's neighbours are. -/
theorem NF_at {l : List OpD} (h : NF l) : ∀ j (hj : j + 1 < l.length), l[j + 1].kind = 3 → l[j].kind = 1 := by
  induction l with
  | nil => intro j hj; simp at hj
  | cons y r ih =>
    intro j hj
    cases j with
    | zero =>
      cases r with
      | nil => simp at hj
      | cons x s => exact (h.1 x s rfl).2
    | succ j => exact ih h.2 j (by simpa using hj)
theorem norm_at {ops : List OpD} (h : allE ops) (i : Nat) (hi : i + 1 < (norm ops).length) (h3 : (norm ops)[i].kind = 3) : (norm ops)[i + 1].kind = 1 := by
  have hs := (fold_St h).flush.trim
  have hl : (norm ops).length = (trim (flush (fold ops))).length := by unfold norm; rw [List.length_reverse]
  have e : ∀ k (hk : k < (norm ops).length), (norm ops)[k] = (trim (flush (fold ops)))[(trim (flush (fold ops))).length - 1 - k]'(by omega) := fun k hk => List.getElem_reverse (l := trim (flush (fold ops))) (by unfold norm at hk; exact hk)
  rw [e] at h3 ⊢
  have := NF_at hs ((trim (flush (fold ops))).length - 1 - (i + 1)) (by omega)
  have e2 : (trim (flush (fold ops))).length - 1 - (i + 1) + 1 = (trim (flush (fold ops))).length - 1 - i := by omega
  simp only [e2] at this
  exact this h3
theorem trim_head {l : List OpD} (h : trim l = l) (hl : 0 < l.length) : ¬ (l[0].kind = 1 ∧ l[0].attrs.length = 0) := by
  cases l with
  | nil => simp at hl
  | cons x r =>
    intro hb
    have hb' : x.kind = 1 ∧ x.attrs.length = 0 := hb
    rw [trim, if_pos hb'] at h
    have := congrArg List.length h
    simp at this
theorem norm_last {ops : List OpD} (h : allE ops) (k : Nat) (hk : k < (norm ops).length) (hl : k + 1 = (norm ops).length) : ¬ ((norm ops)[k].kind = 1 ∧ (norm ops)[k].attrs.length = 0) := by
  have ht := trim_trim (fold_St h).flush
  have e : (norm ops).length = (trim (flush (fold ops))).length := by unfold norm; rw [List.length_reverse]
  have e1 : (norm ops)[k] = (trim (flush (fold ops)))[(trim (flush (fold ops))).length - 1 - k]'(by omega) := List.getElem_reverse (l := trim (flush (fold ops))) (by unfold norm at hk; exact hk)
  have e3 : (trim (flush (fold ops))).length - 1 - k = 0 := by omega
  simp only [e3] at e1
  rw [e1]
  exact trim_head ht (by omega)

/-- Cut in two, or exchanged. -/
theorem add_two {s : List OpD × Int} {o : OpD} (ho : opE o = 0) (hk : o.kind ≠ 2) (_hs : 0 ≤ s.2) (_h1 : 1 < o.n) : add (add s { o with n := 1 }) { o with n := o.n - 1 } = add s o := by
  have ht : o.text.size = 0 := by
    rcases opE_kind ho with k | k | k
    · exact ((opE_keep k).1 ho).2.1
    · exact absurd k hk
    · exact ((opE_cut k).1 ho).2.1
  rcases opE_kind ho with k | k | k
  · have e1 : add s { o with n := 1 } = (put (flush s) { o with n := 1 }, 0) := by unfold add; rw [if_neg (by show ¬ o.kind = 3; omega), if_pos (show o.kind = 1 from k)]
    have e2 : ∀ l : List OpD, add (l, 0) { o with n := o.n - 1 } = (put l { o with n := o.n - 1 }, 0) := fun l => by
      unfold add; rw [if_neg (by show ¬ o.kind = 3; omega), if_pos (show o.kind = 1 from k)]; rfl
    have e3 : add s o = (put (flush s) o, 0) := by unfold add; rw [if_neg (by omega), if_pos k]
    rw [e1, e2, e3]
    congr 1
    cases flush s with
    | nil =>
      show put [{ o with n := 1 }] _ = [o]
      rw [put, if_pos ⟨rfl, rfl⟩]
      have : (1 : Int) + (o.n - 1) = o.n := by omega
      simp only [this, cat_nil ht]
    | cons x r =>
      rw [put, put]
      by_cases h : x.kind = o.kind ∧ x.attrs = o.attrs
      · rw [if_pos h, if_pos h, put, if_pos h]
        have : x.n + 1 + (o.n - 1) = x.n + o.n := by omega
        simp only [this, cat_nil ht]
      · rw [if_neg h, if_neg h, put, if_pos ⟨rfl, rfl⟩]
        have : (1 : Int) + (o.n - 1) = o.n := by omega
        simp only [this, cat_nil ht]
  · exact absurd k hk
  · unfold add
    rw [if_pos k, if_pos (show o.kind = 3 from k), if_pos (show o.kind = 3 from k)]
    show (s.1, s.2 + 1 + (o.n - 1)) = _
    have : s.2 + 1 + (o.n - 1) = s.2 + o.n := by omega
    rw [this]
theorem add_swap {s : List OpD × Int} {o d : OpD} (ho : o.kind = 2) (hd : d.kind = 3) : add (add s o) d = add (add s d) o := by
  have e1 : ∀ s : List OpD × Int, add s d = (s.1, s.2 + d.n) := fun s => by unfold add; rw [if_pos hd]
  have e2 : ∀ s : List OpD × Int, add s o = (put s.1 o, s.2) := fun s => by unfold add; rw [if_neg (by omega), if_neg (by omega)]
  rw [e1, e2, e1, e2]

/-- What keeps all, in how many parts ever, is nothing. -/
theorem norm_keeps {ops : List OpD} (h : ∀ o ∈ ops, o.kind = 1 ∧ o.attrs = []) : norm ops = [] := by
  have key : ∀ (ops : List OpD) (s : List OpD × Int), (∀ o ∈ ops, o.kind = 1 ∧ o.attrs = []) → (s.2 = 0 ∧ (s.1 = [] ∨ ∃ x, s.1 = [x] ∧ x.kind = 1 ∧ x.attrs = [])) → ((ops.foldl add s).2 = 0 ∧ ((ops.foldl add s).1 = [] ∨ ∃ x, (ops.foldl add s).1 = [x] ∧ x.kind = 1 ∧ x.attrs = [])) := by
    intro ops
    induction ops with
    | nil => intro s _ h; exact h
    | cons o r ih =>
      intro s ha hs
      obtain ⟨k, a⟩ := ha o (List.mem_cons_self ..)
      refine ih _ (fun x hx => ha x (List.mem_cons_of_mem _ hx)) ?_
      obtain ⟨h0, h1⟩ := hs
      have e : add s o = (put s.1 o, 0) := by
        unfold add flush
        rw [if_neg (by omega), if_pos k, if_neg (by omega)]
      rw [e]
      refine ⟨rfl, .inr ?_⟩
      rcases h1 with h1 | ⟨x, h1, h2, h3⟩
      · rw [h1]; exact ⟨o, rfl, k, a⟩
      · rw [h1]
        show ∃ y, put [x] o = [y] ∧ _
        rw [put, if_pos ⟨by omega, by rw [h3, a]⟩]
        exact ⟨_, rfl, h2, h3⟩
  obtain ⟨h0, h1⟩ := key ops ([], 0) h ⟨rfl, .inl rfl⟩
  unfold norm flush fold
  rw [if_neg (by omega)]
  rcases h1 with h1 | ⟨x, h1, h2, h3⟩
  · rw [h1]; rfl
  · rw [h1, trim, if_pos ⟨h2, by rw [h3]; rfl⟩]; rfl
end Ch
end Go.Proofs.YtacgkbdldbppjaaGreatDoor

/- Rows of attributes that a call owns, and what appends, cuts and stores make of them. -/
namespace Go.Proofs.YtacgkbdldbppjaaGreatDoor
open Go.RowKit At

def flat (l : List (ByteArray × ByteArray)) : List Value := l.flatMap fun x => [Value.string x.1, Value.string x.2]
theorem flat_len (l : List (ByteArray × ByteArray)) : (flat l).length = l.length * 2 := by
  induction l with
  | nil => rfl
  | cons x r ih => simp [flat] at ih ⊢; omega
theorem flat_snoc (l : List (ByteArray × ByteArray)) (z : ByteArray × ByteArray) : flat (l ++ [z]) = flat l ++ [.string z.1, .string z.2] := by simp [flat]
theorem undAttrs : Tryz.prog.underlying 46 = some (.slice (Tryz.prog.elem 46)) := by kernel_rfl
theorem elemAttrs : Tryz.prog.elem 46 = 52 := by kernel_rfl
theorem infoAttr : (Tryz.prog.info? 52).map (fun i => (i.zero, i.size, i.bytes)) = some (some (.agg #[.string ⟨#[]⟩, .string ⟨#[]⟩]), 2, 32) := by kernel_rfl
theorem row_below {w w' : World} {B n k : Nat} {e : TypeId} {v : Value} {xs : List Value} (h : w.ownsRow B e k v n xs) (hb : Below w.heap.size w w') : w'.ownsRow B e k v n xs :=
  ⟨h.1, h.2.imp id fun ⟨g, cap, cur, a, b, c, d⟩ => ⟨g, cap, cur, a, b, (hb.block g (Array.getElem?_eq_some_iff.1 c).1).trans c, d⟩⟩
theorem of_drew {a w : World} (h : Below a.drew.heap.size a.drew w) : Below a.heap.size a w := ⟨h.os, h.tape, h.output, h.size, h.block⟩
theorem new_at2 (w : World) (u v : Value) (e : TypeId) : ∀ j x, [u, v][j]? = some x → (w.alloc (.cells #[u, v] e)).cell? ((⟨w.heap.size, 0, none⟩ : Addr).add j) = some x := by
  intro j x hj
  match j, hj with
  | 0, hj => simp at hj; subst hj; go_simp
  | 1, hj => simp at hj; subst hj; go_simp
  | j + 2, hj => simp at hj
def MergeOut (W : World) (R : List (ByteArray × ByteArray)) (e : Ending) (w' : World) : Prop := ∃ v, e = .returned v ∧ w'.ownsRow W.heap.size 52 2 v R.length (flat R) ∧ Below W.heap.size W w'
theorem ownsRow_open {w : World} {base k : Nat} {e : TypeId} {v : Value} {n : Nat} {xs : List Value} (h : w.ownsRow base e k v n xs) (hn : 0 < n) : ∃ g cap, v = .slice (some ⟨g, 0, none⟩) n cap := by
  rcases h.2 with ⟨_, h⟩ | ⟨g, cap, _, hv, _⟩
  · omega
  · exact ⟨g, cap, hv⟩
theorem flat_at0 {l : List (ByteArray × ByteArray)} {i : Nat} (h : i < l.length) : (flat l)[i * 2]? = some (.string l[i].1) := by
  induction l generalizing i with
  | nil => simp at h
  | cons x r ih =>
    cases i with
    | zero => rfl
    | succ i =>
      have e : (i + 1) * 2 = i * 2 + 1 + 1 := by omega
      rw [e]
      exact ih (by simpa using h)
theorem flat_at1 {l : List (ByteArray × ByteArray)} {i : Nat} (h : i < l.length) : (flat l)[i * 2 + 1]? = some (.string l[i].2) := by
  induction l generalizing i with
  | nil => simp at h
  | cons x r ih =>
    cases i with
    | zero => rfl
    | succ i =>
      have e : (i + 1) * 2 + 1 = i * 2 + 1 + 1 + 1 := by omega
      rw [e]
      exact ih (by simpa using h)
theorem set_same {α : Type} (l : List α) (i : Nat) (x : α) (h : l[i]? = some x) : l.set i x = l := by
  induction l generalizing i with
  | nil => rfl
  | cons a r ih =>
    cases i with
    | zero => simp at h; subst h; rfl
    | succ i => rw [List.set_cons_succ, ih i (by simpa using h)]
def RowOut (W : World) (R : List (K × V)) (E : Int) (e : Ending) (w' : World) : Prop := ∃ v, e = .returned (.tuple #[v, .int .i64 E]) ∧ w'.ownsRow W.heap.size 52 2 v R.length (flat R) ∧ Below W.heap.size W w'
def Sized (l : List (K × V)) : Prop := ∀ x ∈ l, x.1.size ≤ maxLen ∧ x.2.size ≤ maxLen
theorem rowOut_nil {W w' : World} {E : Int} (hb : Below W.heap.size W w') : RowOut W [] E (.returned (.tuple #[.slice none 0 0, .int .i64 E])) w' := ⟨_, rfl, World.ownsRow_nil _ _ _ _, hb⟩
theorem own_base {w : World} {B C k n : Nat} {e : TypeId} {v : Value} {xs : List Value} (h : w.ownsRow B e k v n xs) (hc : C ≤ B) : w.ownsRow C e k v n xs :=
  ⟨h.1, h.2.imp id fun ⟨g, cap, cur, a, b, c⟩ => ⟨g, cap, cur, a, Nat.le_trans hc b, c⟩⟩
theorem own_slice {w : World} {B k n : Nat} {e : TypeId} {v : Value} {xs : List Value} (h : w.ownsRow B e k v n xs) : ∃ a cap, v = .slice a n cap := by
  rcases h.2 with ⟨rfl, h0⟩ | ⟨g, cap, _, rfl, _⟩
  · exact ⟨none, 0, by rw [h0]⟩
  · exact ⟨_, _, rfl⟩
/-- A row of one's own is a row in memory. -/
theorem row_of_own {w : World} {B : Nat} {v : Value} {R : List (K × V)} (h : w.ownsRow B 52 2 v R.length (flat R)) : AtRow w v R := by
  rcases h.2 with ⟨rfl, h0⟩ | ⟨g, cap, cur, rfl, _, hg, hn, hm, _⟩
  · exact ⟨none, 0, by rw [h0], by omega, by simp [maxLen], fun i hi => by omega⟩
  · refine ⟨_, cap, rfl, hn, hm, fun i hi => ⟨g, 0, rfl, (Array.getElem?_eq_some_iff.1 hg).1, ?_, ?_⟩⟩
    · rw [Nat.zero_add, h.cellAt _ (by omega), flat_at0 hi]
    · rw [Nat.zero_add, h.cellAt _ (by omega), flat_at1 hi]
/-- A slice that is nil has no room. -/
def Proper (v : Value) : Prop := ∀ n cap, v = .slice none n cap → n = 0 ∧ cap = 0
theorem proper_own {w : World} {B k n : Nat} {e : TypeId} {v : Value} {xs : List Value} (h : w.ownsRow B e k v n xs) : Proper v := fun n' cap' he => by
  rcases h.2 with ⟨rfl, h0⟩ | ⟨g, cap, _, rfl, _⟩
  · simp only [Value.slice.injEq, true_and] at he
    exact ⟨he.1.symm, he.2.symm⟩
  · simp at he
theorem flat_append (l m : List (ByteArray × ByteArray)) : flat (l ++ m) = flat l ++ flat m := by simp [flat]
theorem wpList_sliced {P : Program} {ops : Array Oper} {Q : Exit → Act → World → Prop} {a : Act} {w : World} {rest : List Oper} {dst : Option Tmp} {t ty : TypeId} {pos : String} {after : Array Edge} {x : Operand} {lo hi mx : Option Operand} (v v' : Value)
    (hx : a.eval x = v) (hrun : (Instr.sliceAt t v (lo.map a.eval) (hi.map a.eval) (mx.map a.eval)).run P w = .ok v' w) (h : wpList P ops Q rest (a.put dst v') w) :
    wpList P ops Q ({ dst := dst, op := .slice t x lo hi mx, type := ty, pos := pos, after := after, guard := none } :: rest) a w :=
  wpList_plain rfl fun K hK => by
    subst hx
    have hk := hK _ _ h
    have e : (execOp a.eval { dst := dst, op := .slice t x lo hi mx, type := ty, pos := pos, after := after, guard := none }).run P w = .ok (.value v') w := by
      show (Sem.run P (do let v ← Instr.sliceAt t (a.eval x) (lo.map a.eval) (hi.map a.eval) (mx.map a.eval); pure (Next.value v)) w) = _
      rw [Sem.run_bind, hrun]
      rfl
    show Oper.upon _ _ _ _ _ _
    rw [e]
    exact hk
theorem cell_spot {w : World} {a : Addr} {u : Value} (h : w.cell? a = some u) : a.spot = none := World.cell?_spot h
theorem flat_one {l : List (ByteArray × ByteArray)} : ∀ u ∈ flat l, u.oneCell' = true := fun u hu => by
  unfold flat at hu
  obtain ⟨x, _, hx⟩ := List.mem_flatMap.1 hu
  simp at hx
  rcases hx with rfl | rfl <;> rfl
theorem flat_news {w : World} {a : Addr} {cap : Nat} {l : List (ByteArray × ByteArray)} (h : AtRow w (.slice (some a) l.length cap) l) : ∀ j u, (flat l)[j]? = some u → w.cell? (a.add j) = some u := by
  intro j u hu
  obtain ⟨a', cap', he, _, _, h3⟩ := h
  simp only [Value.slice.injEq, true_and] at he
  obtain ⟨rfl, _⟩ := he
  have hj : j < l.length * 2 := by
    rw [← flat_len]
    exact (List.getElem?_eq_some_iff.1 hu).1
  obtain ⟨b, off, he, _, h5, h6⟩ := h3 (j / 2) (by omega)
  simp only [Option.some.injEq] at he
  subst he
  rw [Go.WideShapes.add_plain]
  by_cases h2 : j % 2 = 0
  · obtain ⟨i, rfl⟩ : ∃ i, j = i * 2 := ⟨j / 2, by omega⟩
    have hi : i < l.length := by omega
    rw [flat_at0 hi] at hu
    have e : i * 2 / 2 = i := by omega
    simp only [e] at h5
    rw [h5]; exact hu
  · obtain ⟨i, rfl⟩ : ∃ i, j = i * 2 + 1 := ⟨j / 2, by omega⟩
    have hi : i < l.length := by omega
    rw [flat_at1 hi] at hu
    have e : (i * 2 + 1) / 2 = i := by omega
    simp only [e] at h6
    rw [← Nat.add_assoc, h6]; exact hu
/-- 'append(own, row...)'. -/
theorem wpList_append_row {w : World} {ops : Array Oper} {rest : List Oper} {o : Oper} {a : Act} {Q : Exit → Act → World → Prop} (hgd : o.guard = none) (s x : Operand)
    (ho : o.op = .call { callee := .builtin .append, args := #[s, x], argTypes := #[46, 46] })
    (base : Nat) (v v' : Value) (n : Nat) (xs : List Value) (m : List (ByteArray × ByteArray)) (hs : a.eval s = v) (hx : a.eval x = v') (hown : w.ownsRow base 52 2 v n xs) (hrow : AtRow w v' m) (hp : Proper v')
    (N : Nat) (ys : List Value) (hN : n + m.length = N) (hy : xs ++ flat m = ys) (h63 : N ≤ 4096) (hbase : base ≤ w.heap.size)
    (h : ∀ u w', w'.ownsRow base 52 2 u N ys → w.grownBy w' v.ownBlock → wpList Tryz.prog ops Q rest (a.put o.dst u) w') : wpList Tryz.prog ops Q (o :: rest) a w := by
  subst hN
  subst hy
  have h63' : n + m.length ≤ maxLen := by unfold maxLen; omega
  have hbytes : (n + m.length) * 32 ≤ 140737488355328 := by omega
  obtain ⟨i0, hi, hz0, hz1, hz2⟩ := info_parts infoAttr
  have hrow' := hrow
  obtain ⟨ad, cap, rfl, h1, h2, h3⟩ := hrow
  cases ad with
  | none =>
    have hm : m = [] := by
      cases m with
      | nil => rfl
      | cons y r =>
        obtain ⟨b, off, he, _⟩ := h3 0 (by simp)
        cases he
    subst hm
    obtain ⟨_, rfl⟩ := hp _ _ rfl
    refine wpList_append_own_none hgd s x 46 ho base 52 i0 2 Tryz.underlying46 hi v n xs hs hown hx ?_
    refine h v w ?_ ⟨rfl, rfl, rfl, Nat.le_refl _, fun _ _ _ => rfl⟩
    have : xs ++ flat [] = xs := by simp [flat]
    rw [this]; exact hown
  | some ad =>
    refine wpList_append_own w hgd s x 46 ho base 52 i0 (.agg #[.string ⟨#[]⟩, .string ⟨#[]⟩]) 2 32 Tryz.underlying46 hi hz0 hz1 hz2 rfl (by decide) v n xs hs hown ad m.length cap (flat m) hx (flat_len m) (flat_news hrow') flat_one h63' hbytes hbase
      fun u w' h1 h2 _ => h u w' h1 h2
/-- 'append(own, one)'. -/
theorem wpList_append_one {w : World} {ops : Array Oper} {rest : List Oper} {o : Oper} {a : Act} {Q : Exit → Act → World → Prop} (hgd : o.guard = none) (s x : Operand)
    (ho : o.op = .call { callee := .builtin .append, args := #[s, x], argTypes := #[46, 46] })
    (base : Nat) (v : Value) (n : Nat) (xs : List Value) (p : ByteArray × ByteArray) (hs : a.eval s = v) (hx : a.eval x = .slice (some ⟨w.heap.size, 0, none⟩) 1 1) (hown : w.ownsRow base 52 2 v n xs)
    (N : Nat) (ys : List Value) (hN : n + 1 = N) (hy : xs ++ [.string p.1, .string p.2] = ys) (h63 : N ≤ 4096) (hbase : base ≤ w.heap.size)
    (h : ∀ u w', w'.ownsRow base 52 2 u N ys → (w.alloc (.cells #[.string p.1, .string p.2] 52)).grownBy w' v.ownBlock → wpList Tryz.prog ops Q rest (a.put o.dst u) w') :
    wpList Tryz.prog ops Q (o :: rest) a (w.alloc (.cells #[.string p.1, .string p.2] 52)) := by
  subst hN
  subst hy
  have h63' : n + 1 ≤ maxLen := by unfold maxLen; omega
  obtain ⟨i0, hi, hz0, hz1, hz2⟩ := info_parts infoAttr
  refine wpList_append_own _ hgd s x 46 ho base 52 i0 (.agg #[.string ⟨#[]⟩, .string ⟨#[]⟩]) 2 32 Tryz.underlying46 hi hz0 hz1 hz2 rfl (by decide) v n xs hs (hown.alloc _) ⟨w.heap.size, 0, none⟩ 1 1 [.string p.1, .string p.2] hx rfl (new_at2 _ _ _ _) (fun u hu => by simp at hu; rcases hu with rfl | rfl <;> rfl) h63' (by omega) (by simp; omega)
    fun u w' h1 h2 _ => h u w' h1 h2
theorem own0 (W : World) (k : Nat) : ((W.drewN k).alloc (.cells #[] 52)).ownsRow W.heap.size 52 2 (.slice (some ⟨W.heap.size, 0, none⟩) 0 0) 0 [] := World.ownsRow_lit (W.drewN k) #[] 0 (Nat.le_refl _) (Nat.zero_le _) rfl
theorem bel0 (W : World) (k : Nat) : Below W.heap.size W ((W.drewN k).alloc (.cells #[] 52)) := (below_drewN (Below.refl _ _) k).alloc (Nat.le_refl _) _
theorem own_ge {w : World} {B k n : Nat} {e : TypeId} {v : Value} {xs : List Value} (h : w.ownsRow B e k v n xs) : ∀ j, v.ownBlock = some j → B ≤ j := fun j hj => (h.lt j hj).1
theorem grown_refl (w : World) (row : Option Nat) : w.grownBy w row := ⟨rfl, rfl, rfl, Nat.le_refl _, fun _ _ _ => rfl⟩
theorem grown_trans {a b c : World} {row : Option Nat} (h : a.grownBy b row) (k : b.grownBy c row) : a.grownBy c row :=
  ⟨k.os.trans h.os, k.tape.trans h.tape, k.output.trans h.output, Nat.le_trans h.size k.size, fun i hi hne => (k.block i (Nat.lt_of_lt_of_le hi h.size) hne).trans (h.block i hi hne)⟩
theorem only_drewN {a w : World} {row : Option Nat} (h : a.grownBy w row) (n : Nat) : a.grownBy (w.drewN n) row := ⟨h.os, h.tape, h.output, h.size, h.block⟩
theorem only_setCell {a w : World} {g : Nat} (h : a.grownBy w (some g)) {p : Addr} (hp : p.block = g) (u : Value) : a.grownBy (w.setCell p u) (some g) :=
  ⟨h.os, h.tape, h.output, by simpa [World.setCell] using h.size, fun i hi hne => (Below.heap_setCell w p u i (by rintro rfl; exact hne (by rw [hp]))).trans (h.block i hi hne)⟩
theorem news_any {W : World} {ao : Option Addr} {cap : Nat} {l : List (ByteArray × ByteArray)} (h : AtRow W (.slice ao l.length cap) l) : ∀ ad, ao = some ad → ∀ j u, (flat l)[j]? = some u → W.cell? (ad.add j) = some u := by
  intro ad had
  subst had
  exact flat_news h
/-- Cutting one's own row from its head. -/
theorem slice_own (g n cap k : Nat) (hk : k ≤ cap) (W : World) : (Instr.sliceAt 46 (.slice (some ⟨g, 0, none⟩) n cap) none (some (.int .i64 (k : Int))) none).run Tryz.prog W = .ok (.slice (some ⟨g, 0, none⟩) k cap) W := by
  rw [run_sliceAt_slice W _ _ _ _ _ undAttrs, run_slice_h W _ _ _ _ undAttrs .i64 _ (by omega) (by omega), elemAttrs, Tryz.sizeOf52, Int.toNat_natCast]
  have e : sliced (some ⟨g, 0, none⟩) 0 k cap 2 = .slice (some ⟨g, 0, none⟩) k cap := by
    unfold sliced
    split <;> simp [Addr.add]
  rw [← e]; rfl
/-- A row stays, whatever is written into one that was made before it. -/
theorem kept_own {w w' : World} {lo k n : Nat} {e : TypeId} {v u : Value} {xs : List Value} (h : w.ownsRow lo e k v n xs) (hg : w.grownBy w' u.ownBlock) (hu : ∀ j, u.ownBlock = some j → j < lo) : w'.ownsRow lo e k v n xs := by
  refine h.kept hg ?_
  cases hv : v.ownBlock with
  | none => exact .inl rfl
  | some i =>
    refine .inr fun e => ?_
    have h1 := (h.lt i hv).1
    have h2 := hu i e.symm
    omega
end Go.Proofs.YtacgkbdldbppjaaGreatDoor

/- Are two rows of attributes the same: the program's. -/
namespace Go.Proofs.YtacgkbdldbppjaaGreatDoor
open Go.RowKit

set_option maxHeartbeats 2000000 in
theorem equal_any (v u : Value) (l m : List (ByteArray × ByteArray)) (w : World) (hv : AtRow w v l) (hu : AtRow w u m) :
    Calls Tryz.prog 112 #[v, u] w fun e w' => e = .returned (.bool (sameB l m)) ∧ ∃ k, w' = w.drewN k := by
  obtain ⟨a, cap, rfl, h1, h2, h3⟩ := hv
  obtain ⟨a', cap', rfl, h1', h2', h3'⟩ := hu
  have hn : l.length ≤ 9223372036854775807 := Nat.le_trans h1 h2
  have hn' : m.length ≤ 9223372036854775807 := Nat.le_trans h1' h2'
  have H3 := Lib.hid h3
  have H3' := Lib.hid h3'
  clear h3 h3'
  by_cases hlen : l.length = m.length
  · have Hlen := Lib.hid hlen
    have hle2 : ((l.length : Int) == (m.length : Int)) = true := by rw [hlen]; simp
    have hle3 : ((l.length : Int) != (m.length : Int)) = false := by rw [hlen]; simp
    clear hlen
    go_enter Tryz.func112, Tryz.ntmps112
    go_wp2_with fail
    go_loopw [13] (fun i wr => ∃ n k : Nat, i = .int .i64 (n : Int) ∧ n ≤ l.length ∧ (∀ j (h1 : j < l.length) (h2 : j < m.length), j < n → l[j] = m[j]) ∧ wr = w.drewN k) (fun i _ => l.length - (intOf i).toNat)
    case atStart => exact ⟨0, 0, rfl, by omega, fun j _ _ h => by omega, rfl⟩
    case round =>
      obtain ⟨n, k, rfl, hk, hall, rfl⟩ := hrel
      have Hall := Lib.hid hall
      clear hall
      by_cases hlt : n < l.length
      · have hlt2 : n < m.length := by have := Hlen.out; omega
        have hlt' : (n : Int) < (l.length : Int) := by omega
        have hlt2' : (n : Int) < (m.length : Int) := by omega
        obtain ⟨b, off, rfl, _, x1, z1⟩ := H3.out n hlt
        obtain ⟨b', off', rfl, _, x2, z2⟩ := H3'.out n hlt2
        by_cases hk1 : l[n].1 = m[n].1
        · by_cases hk2 : l[n].2 = m[n].2
          · have step : ∀ j (h1 : j < l.length) (h2 : j < m.length), j < n + 1 → l[j] = m[j] := fun j hj1 hj2 hjk => by
              by_cases e : j = n
              · subst e; exact Prod.ext hk1 hk2
              · exact Hall.out j hj1 hj2 (by omega)
            have Step := Lib.hid step
            have t1 : (l[n].1.toList == m[n].1.toList) = true := by rw [hk1]; simp
            have t2 : (l[n].2.toList == m[n].2.toList) = true := by rw [hk2]; simp
            clear step Hall hk1 hk2
            go_wp2_with fail
            go_quiet (fail)
            go_wp2_with fail
            go_roundw
            case rel => exact ⟨n + 1, _, by go_num, by omega, Step.out, rfl⟩
            case measure => simp [intOf]; omega
          · have hs := Lib.hid (sameB_at hlt hlt2 fun e => hk2 (congrArg Prod.snd e))
            have t1 : (l[n].1.toList == m[n].1.toList) = true := by rw [hk1]; simp
            have t2 : (l[n].2.toList == m[n].2.toList) = false := by rw [beq_eq_false_iff_ne]; exact fun e => hk2 (toList_ba e)
            clear Hall hk1 hk2
            go_wp2_with fail
            go_quiet (fail)
            go_wp2_with fail
            go_ret
            rw [hs.out]
            exact ⟨rfl, k + nq, by rw [World.drewN_drewN]⟩
        · have hs := Lib.hid (sameB_at hlt hlt2 fun e => hk1 (congrArg Prod.fst e))
          have t1 : (l[n].1.toList == m[n].1.toList) = false := by rw [beq_eq_false_iff_ne]; exact fun e => hk1 (toList_ba e)
          clear Hall hk1
          go_wp2_with fail
          go_quiet (fail)
          go_wp2_with fail
          go_ret
          rw [hs.out]
          exact ⟨rfl, k + nq, by rw [World.drewN_drewN]⟩
      · have hkn : n = l.length := by omega
        have hs := Lib.hid (sameB_all Hlen.out fun j h1 h2 => Hall.out j h1 h2 (by omega))
        subst hkn
        clear Hall
        go_wp2_with fail
        go_ret
        rw [hs.out]
        exact ⟨rfl, k, rfl⟩
  · have hs := Lib.hid (sameB_len hlen)
    have hle2 : ((l.length : Int) == (m.length : Int)) = false := by rw [beq_eq_false_iff_ne]; omega
    have hle3 : ((l.length : Int) != (m.length : Int)) = true := by rw [bne_iff_ne]; omega
    clear hlen
    go_enter Tryz.func112, Tryz.ntmps112
    go_wp2_with fail
    go_ret
    rw [hs.out]
    exact ⟨rfl, 0, rfl⟩

theorem same_any (v u : Value) (l m : List (ByteArray × ByteArray)) (w : World) (hv : AtRow w v l) (hu : AtRow w u m) :
    Calls Tryz.prog 97 #[v, u] w fun e w' => e = .returned (.bool (sameB l m)) ∧ ∃ k, w' = w.drewN k := by
  go_enter Tryz.func97, Tryz.ntmps97
  go_wp2_with fail
  refine (equal_any v u l m w hv hu).mono ?_
  rintro e w1 ⟨rfl, k, rfl⟩
  go_wp2_with fail
  go_ret
  exact ⟨rfl, k, rfl⟩
end Go.Proofs.YtacgkbdldbppjaaGreatDoor

/- Operations in memory: a row of them, whosever it is; changesets as values. -/
namespace Go.Proofs.YtacgkbdldbppjaaGreatDoor
open Go.RowKit Ch

abbrev opAgg (o : OpD) (av : Value) : Value := .agg #[.int .i64 o.kind, .int .i64 o.n, .string o.text, av]
abbrev chAgg (f : Int) (v : Value) : Value := .agg #[.int .i64 f, v]
/-- The operation o lies at the place p of block b. -/
def OpAt (w : World) (b p : Nat) (o : OpD) : Prop := ∃ av, AtRow w av o.attrs ∧ Proper av ∧ w.cell? ⟨b, p, none⟩ = some (.int .i64 o.kind) ∧ w.cell? ⟨b, p + 1, none⟩ = some (.int .i64 o.n) ∧ w.cell? ⟨b, p + 2, none⟩ = some (.string o.text) ∧ w.cell? ⟨b, p + 3, none⟩ = some av
/-- A row of operations, nil or not. -/
def OpRow (w : World) (v : Value) (ops : List OpD) : Prop :=
  ∃ a cap, v = .slice a ops.length cap ∧ ops.length ≤ cap ∧ cap ≤ maxLen ∧ ∀ i (h : i < ops.length), ∃ b off, a = some ⟨b, off, none⟩ ∧ b < w.heap.size ∧ OpAt w b (off + i * 4) ops[i]
theorem OpAt.below {w w' : World} {b p : Nat} {o : OpD} (h : OpAt w b p o) (hlt : b < w.heap.size) (hb : Below w.heap.size w w') : OpAt w' b p o := by
  obtain ⟨av, h0, hp, h1, h2, h3, h4⟩ := h
  exact ⟨av, h0.below hb, hp, by rw [hb.cell (by exact hlt)]; exact h1, by rw [hb.cell (by exact hlt)]; exact h2, by rw [hb.cell (by exact hlt)]; exact h3, by rw [hb.cell (by exact hlt)]; exact h4⟩
theorem OpRow.below {w w' : World} {v : Value} {ops : List OpD} (h : OpRow w v ops) (hb : Below w.heap.size w w') : OpRow w' v ops := by
  obtain ⟨a, cap, rfl, h1, h2, h3⟩ := h
  refine ⟨a, cap, rfl, h1, h2, fun i hi => ?_⟩
  obtain ⟨b, off, rfl, hlt, ho⟩ := h3 i hi
  exact ⟨b, off, rfl, Nat.lt_of_lt_of_le hlt hb.size, ho.below hlt hb⟩
theorem OpRow.nil (w : World) : OpRow w (.slice none 0 0) [] := ⟨none, 0, rfl, Nat.le_refl _, Nat.zero_le _, fun _i h => absurd h (Nat.not_lt_zero _)⟩
/-- Each text is such as memory holds. -/
def OSized (ops : List OpD) : Prop := ∀ o ∈ ops, o.text.size ≤ maxLen ∧ Sized o.attrs

theorem text_empty {s : ByteArray} (h : s.size = 0) : s.toList.isEmpty = true ∧ s.toList = [] := by
  have e : s = ⟨#[]⟩ := ba_eq (List.length_eq_zero_iff.1 (show s.data.toList.length = 0 from h))
  rw [e]
  exact ⟨by rw [ByteArray.toList_eq]; rfl, by rw [ByteArray.toList_eq]⟩
theorem text_full {s : ByteArray} (h : s.size ≠ 0) : s.toList.isEmpty = false := by
  rw [ByteArray.toList_eq]
  cases hl : s.data.toList with
  | nil => exact absurd (by rw [size_data, hl]; rfl) h
  | cons _ _ => rfl
theorem AtRow.shape {w : World} {v : Value} {l : List (ByteArray × ByteArray)} (h : AtRow w v l) : ∃ a cap, v = .slice a l.length cap := by
  obtain ⟨a, cap, rfl, _⟩ := h
  exact ⟨a, cap, rfl⟩
theorem OpRow.shape {w : World} {v : Value} {l : List OpD} (h : OpRow w v l) : ∃ a cap, v = .slice a l.length cap := by
  obtain ⟨a, cap, rfl, _⟩ := h
  exact ⟨a, cap, rfl⟩
theorem below_box (w : World) (o : Obj) : Below w.heap.size w (w.alloc o) := (Below.refl _ _).alloc (Nat.le_refl _) _
/-- Whatever was there stays, and all rows of attributes: what a call does that writes into operations of its own. -/
theorem below_alloc {B : Nat} {w w' : World} (h : Below B w w') (hB : B ≤ w.heap.size) (o : Obj) : Below B w (w'.alloc o) := h.alloc (Nat.le_trans hB h.size) o
end Go.Proofs.YtacgkbdldbppjaaGreatDoor

/- What a call keeps that writes into blocks of its own, told by the blocks' types; operations that a call owns. -/
namespace Go.Proofs.YtacgkbdldbppjaaGreatDoor
open Go.RowKit Ch

/-- Below B all stays, and every block of another type than these. -/
structure Keep (B : Nat) (ts : List TypeId) (w w' : World) : Prop where
  below : Below B w w'
  kept : ∀ (i : Nat) (cs : Array Value) (e : TypeId) (fr : Nat × Nat), w.heap[i]? = some (Obj.cells cs e fr) → e ∉ ts → w'.heap[i]? = some (Obj.cells cs e fr)
theorem lt_of_heap {w : World} {i : Nat} {o : Obj} (h : w.heap[i]? = some o) : i < w.heap.size := (Array.getElem?_eq_some_iff.1 h).1
theorem Keep.refl (B : Nat) (ts : List TypeId) (w : World) : Keep B ts w w := ⟨Below.refl _ _, fun _ _ _ _ h _ => h⟩
theorem Keep.trans {B : Nat} {ts : List TypeId} {a b c : World} (h : Keep B ts a b) (k : Keep B ts b c) : Keep B ts a c :=
  ⟨h.below.trans k.below, fun i cs e fr hi he => k.kept i cs e fr (h.kept i cs e fr hi he) he⟩
theorem Keep.more {B : Nat} {ts us : List TypeId} {w w' : World} (h : Keep B ts w w') (hs : ∀ t, t ∈ ts → t ∈ us) : Keep B us w w' :=
  ⟨h.below, fun i cs e fr hi he => h.kept i cs e fr hi fun ht => he (hs _ ht)⟩
theorem Keep.mono {B C : Nat} {ts : List TypeId} {w w' : World} (h : Keep B ts w w') (hB : C ≤ B) : Keep C ts w w' := ⟨h.below.mono hB, h.kept⟩
/-- A call that only makes memory. -/
theorem keep_below {B : Nat} {ts : List TypeId} {w w' : World} (h : Below w.heap.size w w') (hB : B ≤ w.heap.size) : Keep B ts w w' :=
  ⟨h.mono hB, fun i _cs _e _fr hi _ => (h.block i (lt_of_heap hi)).trans hi⟩
theorem keep_set {B b : Nat} {ts : List TypeId} {w : World} {cs : Array Value} {e : TypeId} {fr : Nat × Nat} (hb : w.heap[b]? = some (.cells cs e fr)) (he : e ∈ ts) (hB : B ≤ b) (p : Addr) (hp : p.block = b) (u : Value) : Keep B ts w (w.setCell p u) :=
  ⟨(Below.refl _ _).setCell (by rw [hp]; exact hB) u, fun i cs' e' fr' hi he' => by
    rw [Below.heap_setCell w p u i (by
      rintro rfl
      rw [hp, hb] at hi
      simp only [Option.some.injEq, Obj.cells.injEq] at hi
      exact he' (hi.2.1 ▸ he))]
    exact hi⟩
theorem keep_grown {B : Nat} {ts : List TypeId} {w w' : World} {row : Option Nat} (hg : w.grownBy w' row) (hB : B ≤ w.heap.size) (hr : ∀ k, row = some k → B ≤ k ∧ ∃ cs e fr, w.heap[k]? = some (.cells cs e fr) ∧ e ∈ ts) : Keep B ts w w' :=
  ⟨(Below.refl _ _).grown hg hB fun k hk => (hr k hk).1, fun i cs e fr hi he => by
    rw [hg.block i (lt_of_heap hi) (by
      intro hk
      obtain ⟨_, cs', e', fr', h1, h2⟩ := hr i hk.symm
      rw [h1] at hi
      simp only [Option.some.injEq, Obj.cells.injEq] at hi
      exact he (hi.2.1 ▸ h2))]
    exact hi⟩
theorem own_row {w : World} {C k n : Nat} {e : TypeId} {v : Value} {xs : List Value} (h : w.ownsRow C e k v n xs) : ∀ j, v.ownBlock = some j → C ≤ j ∧ ∃ cs fr, w.heap[j]? = some (.cells cs e fr) := by
  intro j hj
  rcases h.2 with ⟨rfl, _⟩ | ⟨g, cap, cur, rfl, hg, hc, _⟩
  · simp [Value.ownBlock] at hj
  · simp only [Value.ownBlock, Option.some.injEq] at hj
    subst hj
    exact ⟨hg, cur, (0, 0), hc⟩
theorem keep_row {B k n : Nat} {ts : List TypeId} {w w' : World} {e : TypeId} {v : Value} {xs : List Value} (h : w.ownsRow B e k v n xs) (hg : w.grownBy w' v.ownBlock) (he : e ∈ ts) (hB : B ≤ w.heap.size) : Keep B ts w w' :=
  keep_grown hg hB fun j hj => by
    obtain ⟨h1, cs, fr, h2⟩ := own_row h j hj
    exact ⟨h1, cs, e, fr, h2, he⟩
theorem Keep.own {B C k n : Nat} {ts : List TypeId} {w w' : World} {e : TypeId} {v : Value} {xs : List Value} (hk : Keep B ts w w') (h : w.ownsRow C e k v n xs) (he : e ∉ ts) : w'.ownsRow C e k v n xs :=
  ⟨h.1, h.2.imp id fun ⟨g, cap, cur, a, b, c, d⟩ => ⟨g, cap, cur, a, b, hk.kept g cur e (0, 0) c he, d⟩⟩
theorem block_ne {w : World} {i j : Nat} {cs cs' : Array Value} {e e' : TypeId} {fr fr' : Nat × Nat} (h : w.heap[i]? = some (.cells cs e fr)) (h' : w.heap[j]? = some (.cells cs' e' fr')) (hne : e ≠ e') : i ≠ j := by
  rintro rfl
  rw [h] at h'
  simp only [Option.some.injEq, Obj.cells.injEq] at h'
  exact hne h'.2.1
theorem own_ne {w : World} {C k n i : Nat} {e e' : TypeId} {v : Value} {xs : List Value} {cs : Array Value} {fr : Nat × Nat} (h : w.ownsRow C e k v n xs) (h' : w.heap[i]? = some (.cells cs e' fr)) (hne : e ≠ e') : v.ownBlock ≠ some i := fun hv => by
  obtain ⟨_, cs', fr', h2⟩ := own_row h i hv
  exact block_ne h2 h' hne rfl

/-- Operations and their rows of attributes, as cells. -/
def opCells (p : OpD × Value) : List Value := [.int .i64 p.1.kind, .int .i64 p.1.n, .string p.1.text, p.2]
def flatO (ps : List (OpD × Value)) : List Value := ps.flatMap opCells
theorem flatO_len (ps : List (OpD × Value)) : (flatO ps).length = ps.length * 4 := by
  induction ps with
  | nil => rfl
  | cons x r ih => simp [flatO, opCells] at ih ⊢; omega
theorem flatO_snoc (ps : List (OpD × Value)) (p : OpD × Value) : flatO (ps ++ [p]) = flatO ps ++ opCells p := by simp [flatO]
theorem flatO_at {ps : List (OpD × Value)} {i : Nat} (h : i < ps.length) (j : Nat) (hj : j < 4) : (flatO ps)[i * 4 + j]? = (opCells ps[i])[j]? := by
  induction ps generalizing i with
  | nil => simp at h
  | cons x r ih =>
    have e : flatO (x :: r) = opCells x ++ flatO r := rfl
    have hx : (opCells x).length = 4 := rfl
    rw [e]
    cases i with
    | zero => rw [List.getElem?_append_left (by omega)]; simp
    | succ i =>
      rw [List.getElem?_append_right (by omega), hx]
      have e2 : (i + 1) * 4 + j - 4 = i * 4 + j := by omega
      rw [e2, ih (by simpa using h)]
      rfl
theorem flatO_one {ps : List (OpD × Value)} (h : ∀ p ∈ ps, p.2.oneCell' = true) : ∀ u ∈ flatO ps, u.oneCell' = true := fun u hu => by
  unfold flatO at hu
  obtain ⟨x, hx, hu⟩ := List.mem_flatMap.1 hu
  simp [opCells] at hu
  rcases hu with rfl | rfl | rfl | rfl
  · rfl
  · rfl
  · rfl
  · exact h x hx
theorem own_one {w : World} {C k n : Nat} {e : TypeId} {v : Value} {xs : List Value} (h : w.ownsRow C e k v n xs) : v.oneCell' = true := by
  rcases h.2 with ⟨rfl, _⟩ | ⟨g, cap, cur, rfl, _⟩ <;> rfl

def OwnP (w : World) (B : Nat) (v : Value) (ps : List (OpD × Value)) : Prop :=
  w.ownsRow B 48 4 v ps.length (flatO ps) ∧ ∀ p ∈ ps, w.ownsRow B 52 2 p.2 p.1.attrs.length (flat p.1.attrs)
/-- Operations that a call owns, their attributes too. -/
def OwnOps (w : World) (B : Nat) (v : Value) (l : List OpD) : Prop := ∃ ps : List (OpD × Value), ps.map (·.1) = l ∧ OwnP w B v ps
theorem OwnP.row {w : World} {B : Nat} {v : Value} {ps : List (OpD × Value)} (h : OwnP w B v ps) : OpRow w v (ps.map (·.1)) := by
  have hl : (ps.map (·.1)).length = ps.length := by simp
  rcases h.1.2 with ⟨rfl, h0⟩ | ⟨g, cap, cur, rfl, _, hg, hn, hm, _⟩
  · have : ps = [] := List.length_eq_zero_iff.1 h0
    subst this
    exact OpRow.nil w
  · refine ⟨_, cap, by rw [hl], by omega, hm, fun i hi => ?_⟩
    have hi' : i < ps.length := by omega
    refine ⟨g, 0, rfl, lt_of_heap hg, ps[i].2, ?_, ?_, ?_⟩
    · have := row_of_own (h.2 _ (List.getElem_mem hi'))
      rw [List.getElem_map]
      exact this
    · exact proper_own (h.2 _ (List.getElem_mem hi'))
    · have e : ∀ j, j < 4 → w.cell? ⟨g, 0 + i * 4 + j, none⟩ = (opCells ps[i])[j]? := fun j hj => by
        rw [Nat.zero_add, h.1.cellAt _ (by omega), flatO_at hi' j hj]
      rw [List.getElem_map]
      exact ⟨e 0 (by omega), e 1 (by omega), e 2 (by omega), e 3 (by omega)⟩
theorem OwnOps.row {w : World} {B : Nat} {v : Value} {l : List OpD} (h : OwnOps w B v l) : OpRow w v l := by
  obtain ⟨ps, rfl, h⟩ := h
  exact h.row
theorem OwnP.keep {w w' : World} {B C : Nat} {ts : List TypeId} {v : Value} {ps : List (OpD × Value)} (h : OwnP w B v ps) (hk : Keep C ts w w') (h1 : 48 ∉ ts) (h2 : 52 ∉ ts) : OwnP w' B v ps :=
  ⟨hk.own h.1 h1, fun p hp => hk.own (h.2 p hp) h2⟩
theorem OwnP.base {w : World} {B C : Nat} {v : Value} {ps : List (OpD × Value)} (h : OwnP w B v ps) (hc : C ≤ B) : OwnP w C v ps := ⟨own_base h.1 hc, fun p hp => own_base (h.2 p hp) hc⟩
theorem OwnOps.base {w : World} {B C : Nat} {v : Value} {l : List OpD} (h : OwnOps w B v l) (hc : C ≤ B) : OwnOps w C v l := by
  obtain ⟨ps, e, h⟩ := h
  exact ⟨ps, e, h.base hc⟩
theorem OwnOps.below {w w' : World} {B : Nat} {v : Value} {l : List OpD} (h : OwnOps w B v l) (hb : Below w.heap.size w w') : OwnOps w' B v l := by
  obtain ⟨ps, e, h⟩ := h
  exact ⟨ps, e, h.keep (keep_below (ts := []) hb (Nat.le_refl _)) (by simp) (by simp)⟩

theorem undOps : Tryz.prog.underlying 22 = some (.slice 48) := Tryz.underlying22
theorem infoOp : (Tryz.prog.info? 48).map (fun i => (i.zero, i.size, i.bytes)) = some (some (.agg #[.int .i64 0, .int .i64 0, .string ⟨#[]⟩, .slice none 0 0]), 4, 56) := by kernel_rfl

/-- 'append' onto a row of one's own, as a step of a region that draws. -/
theorem step_append_own {P : Program} {ops : Array Oper} {o : Oper} {a : Act} {w : World} {K : Act → World → Prop} {Q : Exit → Act → World → Prop} {E : Prop}
    (hg : o.guard = none) (s x : Operand) (t : TypeId) (hop : o.op = Op.call { callee := Callee.builtin Builtin.append, args := #[s, x], argTypes := #[t, t] })
    (e : TypeId) (i : TypeInfo) (z : Value) (size bytes : Nat) (h1 : P.underlying t = some (.slice e)) (h2 : P.info? e = some i) (h3 : i.zero = some z) (h4 : i.size = size) (h5 : i.bytes = bytes) (h6 : z.cells.size = size) (h7 : 0 < size)
    (base : Nat) (v : Value) (n : Nat) (xs : List Value) (hs : a.eval s = v) (hown : w.ownsRow base e size v n xs)
    (ad : Addr) (m c : Nat) (news : List Value) (hx : a.eval x = .slice (some ad) m c) (hn : news.length = m * size) (hc : ∀ j u, news[j]? = some u → w.cell? (ad.add j) = some u) (h1c : ∀ u ∈ news, u.oneCell' = true)
    (b1 : n + m ≤ maxLen) (b2 : (n + m) * bytes ≤ 140737488355328) (hbase : base ≤ w.heap.size)
    (hK : ∀ v' w', w'.ownsRow base e size v' (n + m) (xs ++ news) → w.grownBy w' v.ownBlock → K (a.put o.dst v') w') :
    if Region.wanted o (yielded ops a.tmps) = true then Oper.wp P o a w K Q else E := by
  have hw : Region.wanted o (yielded ops a.tmps) = true := by simp [Region.wanted, hg]
  rw [if_pos hw]
  obtain ⟨v', w', hrun, r1, r2, _⟩ := run_append_own (P := P) w base t o.type e i z size bytes h1 h2 h3 h4 h5 h6 h7 v n xs hown ad m c news hn hc h1c b1 b2 hbase
  unfold Oper.wp
  simp [execOp, hop, resolve, invoke, builtin, hs, hx, hrun, Result.andThen]
  exact hK v' w' r1 r2

/-- A builder inside of the program's normal: its block. -/
def NBlk (w : World) (b : Nat) (ov ad bv : Value) (g : Int) : Prop := w.heap[b]? = some (.cells #[ov, ad, bv, .int .i64 g] 89 (0, 0))
theorem NBlk.cells {w : World} {b : Nat} {ov ad bv : Value} {g : Int} (h : NBlk w b ov ad bv g) : w.cell? ⟨b, 0, none⟩ = some ov ∧ w.cell? ⟨b, 1, none⟩ = some ad ∧ w.cell? ⟨b, 2, none⟩ = some bv ∧ w.cell? ⟨b, 3, none⟩ = some (.int .i64 g) ∧
    ∀ j, w.frozen? ⟨b, j, none⟩ = false := by
  unfold NBlk at h
  refine ⟨by simp [World.cell?, h], by simp [World.cell?, h], by simp [World.cell?, h], by simp [World.cell?, h], fun j => by simp [World.frozen?, h]⟩
theorem NBlk.keep {w w' : World} {b C : Nat} {ts : List TypeId} {ov ad bv : Value} {g : Int} (h : NBlk w b ov ad bv g) (hk : Keep C ts w w') (h1 : 89 ∉ ts) : NBlk w' b ov ad bv g := hk.kept _ _ _ _ h h1
theorem nblk_set {w : World} {b j : Nat} {cs : Array Value} {e : TypeId} {u : Value} (h : w.heap[b]? = some (.cells cs e (0, 0))) : (w.setCell ⟨b, j, none⟩ u).heap[b]? = some (.cells (cs.setIfInBounds j u) e (0, 0)) := by
  simp [World.setCell, Array.getElem?_modify, h]
theorem NBlk.set0 {w : World} {b : Nat} {ov ad bv u : Value} {g : Int} (h : NBlk w b ov ad bv g) : NBlk (w.setCell ⟨b, 0, none⟩ u) b u ad bv g := nblk_set h
theorem NBlk.set1 {w : World} {b : Nat} {ov ad bv u : Value} {g : Int} (h : NBlk w b ov ad bv g) : NBlk (w.setCell ⟨b, 1, none⟩ u) b ov u bv g := nblk_set h
theorem NBlk.set2 {w : World} {b : Nat} {ov ad bv u : Value} {g : Int} (h : NBlk w b ov ad bv g) : NBlk (w.setCell ⟨b, 2, none⟩ u) b ov ad u g := nblk_set h
theorem NBlk.set3 {w : World} {b : Nat} {ov ad bv : Value} {g k : Int} (h : NBlk w b ov ad bv g) : NBlk (w.setCell ⟨b, 3, none⟩ (.int .i64 k)) b ov ad bv k := nblk_set h
end Go.Proofs.YtacgkbdldbppjaaGreatDoor
