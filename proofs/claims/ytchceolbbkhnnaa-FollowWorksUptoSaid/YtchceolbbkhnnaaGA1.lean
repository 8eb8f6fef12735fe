import Derived.WalkKit
import Derived.Test.YtchceolbbkhnnaaProg
import Derived.Shelf.Strings.Builder1
import Derived.Shelf.Small.Strs
import Derived.Shelf.Utf8.RuneCount
import Derived.Shelf.LaysM
import Derived.Shelf.Strconv.Clone
import Derived.Shelf.Strings.Prefix
import Derived.Lib.OthersKept
import Derived.WalkSpells
import Derived.WalkLawsBesides
import Derived.Lib.Hide
import Derived.Below
import Derived.Deep.CutBlock
import Derived.Deep.DeepCutAuto
import Derived.Deep.LoopGhost
import Derived.Deep.QuietTactic
import Derived.BigQuiet
import Derived.Laws.StructEq
namespace Go.Proofs.Ytchceolbbkhnnaa
section
namespace Rn
def decN (n b0 b1 b2 b3 : Nat) : Nat × Nat :=
 if b0 < 128 then (b0, 1)
 else if b0 / 32 == 6 && (decide (1 < n) && b1 / 64 == 2) then
  if b0 % 32 * 64 + b1 % 64 ≥ 128 then (b0 % 32 * 64 + b1 % 64, 2) else (65533, 1)
 else if b0 / 16 == 14 && (decide (1 < n) && b1 / 64 == 2) && (decide (2 < n) && b2 / 64 == 2) then
  if decide (b0 % 16 * 4096 + b1 % 64 * 64 + b2 % 64 ≥ 2048) && Utf8.valid ((b0 % 16 * 4096 + b1 % 64 * 64 + b2 % 64 : Nat) : Int) then (b0 % 16 * 4096 + b1 % 64 * 64 + b2 % 64, 3) else (65533, 1)
 else if b0 / 8 == 30 && (decide (1 < n) && b1 / 64 == 2) && (decide (2 < n) && b2 / 64 == 2) && (decide (3 < n) && b3 / 64 == 2) then
  if decide (b0 % 8 * 262144 + b1 % 64 * 4096 + b2 % 64 * 64 + b3 % 64 ≥ 65536) && Utf8.valid ((b0 % 8 * 262144 + b1 % 64 * 4096 + b2 % 64 * 64 + b3 % 64 : Nat) : Int) then (b0 % 8 * 262144 + b1 % 64 * 4096 + b2 % 64 * 64 + b3 % 64, 4) else (65533, 1)
 else (65533, 1)
def dec (l : List UInt8) : Nat × Nat := decN l.length (l.getD 0 0).toNat (l.getD 1 0).toNat (l.getD 2 0).toNat (l.getD 3 0).toNat
theorem get_drop (s : ByteArray) (i k : Nat) : (s.get! (i + k)).toNat = ((s.data.toList.drop i).getD k 0).toNat := by
 have e : s.get! (i + k) = (s.data.toList.drop i).getD k 0 := by
  rw [List.getD_eq_getElem?_getD, List.getElem?_drop]; show s.data[i + k]! = _
  rw [getElem!_def, Array.getElem?_toList]; cases s.data[i + k]? <;> rfl
 rw [e]
theorem decode_eq (s : ByteArray) (i : Nat) : Utf8.decode s i = dec (s.data.toList.drop i) := by
 have hc : ∀ k, decide (i + k < s.size) = decide (k < (s.data.toList.drop i).length) := by
  intro k; have : s.data.toList.length = s.size := by simp
  rw [List.length_drop, this]; simp only [decide_eq_decide]; omega
 unfold Utf8.decode dec decN; simp only [get_drop, hc, Utf8.runeError]
def ok (c : Nat) : Prop := c < 55296 ∨ (57344 ≤ c ∧ c ≤ 1114111)
instance (c : Nat) : Decidable (ok c) := by unfold ok; infer_instance
theorem ok_valid (c : Nat) : Utf8.valid (c : Int) = decide (ok c) := by
 unfold Utf8.valid ok
 by_cases h : c < 55296 ∨ (57344 ≤ c ∧ c ≤ 1114111)
 ·rw [decide_eq_true h]; simp; omega
 ·rw [decide_eq_false h]; simp; omega
def enc (c : Nat) : List UInt8 :=
 if c < 128 then [UInt8.ofNat c]
 else if c < 2048 then [UInt8.ofNat (192 + c / 64), UInt8.ofNat (128 + c % 64)]
 else if c < 65536 then [UInt8.ofNat (224 + c / 4096), UInt8.ofNat (128 + c / 64 % 64), UInt8.ofNat (128 + c % 64)]
 else [UInt8.ofNat (240 + c / 262144), UInt8.ofNat (128 + c / 4096 % 64), UInt8.ofNat (128 + c / 64 % 64), UInt8.ofNat (128 + c % 64)]
theorem enc_pos (c : Nat) : 1 ≤ (enc c).length := by unfold enc; split <;> (try split) <;> (try split) <;> simp
theorem enc_le (c : Nat) : (enc c).length ≤ 4 := by unfold enc; split <;> (try split) <;> (try split) <;> simp
theorem byte_eq {n : Nat} {b : UInt8} (h : n = b.toNat) : UInt8.ofNat n = b := by
 subst h; simp
theorem dec_enc (c : Nat) (h : ok c) (r : List UInt8) : dec (enc c ++ r) = (c, (enc c).length) := by
 have hv := ok_valid c; rw [decide_eq_true h] at hv; unfold ok at h; unfold enc; split
 ·rename_i h1
  have e1 : c % 256 = c := by omega
  simp [dec, decN, e1, h1]
 ·split
  ·rename_i h1 h2
   have e1 : (192 + c / 64) % 256 = 192 + c / 64 := by omega
   have e2 : (128 + c % 64) % 256 = 128 + c % 64 := by omega
   have a1 : ¬ (192 + c / 64 < 128) := by omega
   have a2 : (192 + c / 64) / 32 = 6 := by omega
   have a3 : (128 + c % 64) / 64 = 2 := by omega
   have a4 : (192 + c / 64) % 32 * 64 + (128 + c % 64) % 64 = c := by omega
   have a5 : 128 ≤ c := by omega
   simp only [dec, decN, List.cons_append, List.nil_append, List.getD_cons_zero, List.getD_cons_succ, UInt8.toNat_ofNat', List.length_cons]; simp only [show (2 : Nat) ^ 8 = 256 from rfl, e1, e2, a1, if_false, a2, a3, a4, beq_self_eq_true, Bool.and_true]; simp [a5]
  ·split
   ·rename_i h1 h2 h3
    have e1 : (224 + c / 4096) % 256 = 224 + c / 4096 := by omega
    have e2 : (128 + c / 64 % 64) % 256 = 128 + c / 64 % 64 := by omega
    have e3 : (128 + c % 64) % 256 = 128 + c % 64 := by omega
    have a1 : ¬ (224 + c / 4096 < 128) := by omega
    have a0 : ¬ ((224 + c / 4096) / 32 = 6) := by omega
    have a2 : (224 + c / 4096) / 16 = 14 := by omega
    have a3 : (128 + c / 64 % 64) / 64 = 2 := by omega
    have a3' : (128 + c % 64) / 64 = 2 := by omega
    have a4 : (224 + c / 4096) % 16 * 4096 + (128 + c / 64 % 64) % 64 * 64 + (128 + c % 64) % 64 = c := by omega
    have a5 : 2048 ≤ c := by omega
    simp only [dec, decN, List.cons_append, List.nil_append, List.getD_cons_zero, List.getD_cons_succ, UInt8.toNat_ofNat', List.length_cons]; simp only [show (2 : Nat) ^ 8 = 256 from rfl, e1, e2, e3, a1, if_false, a2, a3, a3', a4, beq_self_eq_true, Bool.and_true]; simp [a5, hv, a0]
   ·rename_i h1 h2 h3
    have e1 : (240 + c / 262144) % 256 = 240 + c / 262144 := by omega
    have e2 : (128 + c / 4096 % 64) % 256 = 128 + c / 4096 % 64 := by omega
    have e3 : (128 + c / 64 % 64) % 256 = 128 + c / 64 % 64 := by omega
    have e4 : (128 + c % 64) % 256 = 128 + c % 64 := by omega
    have a1 : ¬ (240 + c / 262144 < 128) := by omega
    have a0 : ¬ ((240 + c / 262144) / 32 = 6) := by omega
    have a0' : ¬ ((240 + c / 262144) / 16 = 14) := by omega
    have a2 : (240 + c / 262144) / 8 = 30 := by omega
    have a3 : (128 + c / 4096 % 64) / 64 = 2 := by omega
    have a3' : (128 + c / 64 % 64) / 64 = 2 := by omega
    have a3'' : (128 + c % 64) / 64 = 2 := by omega
    have a4 : (240 + c / 262144) % 8 * 262144 + (128 + c / 4096 % 64) % 64 * 4096 + (128 + c / 64 % 64) % 64 * 64 + (128 + c % 64) % 64 = c := by omega
    have a5 : 65536 ≤ c := by omega
    simp only [dec, decN, List.cons_append, List.nil_append, List.getD_cons_zero, List.getD_cons_succ, UInt8.toNat_ofNat', List.length_cons]; simp only [show (2 : Nat) ^ 8 = 256 from rfl, e1, e2, e3, e4, a1, if_false, a2, a3, a3', a3'', a4, beq_self_eq_true, Bool.and_true]; simp [a5, hv, a0, a0']
theorem dec_cases (l : List UInt8) (h : l ≠ []) : dec l = (65533, 1) ∨ (ok (dec l).1 ∧ (dec l).2 = (enc (dec l).1).length ∧ l = enc (dec l).1 ++ l.drop (dec l).2) := by
 have hb : ∀ k, (l.getD k 0).toNat < 256 := fun k => UInt8.toNat_lt _; have hdrop : ∀ n, n ≤ l.length → l = l.take n ++ l.drop n := fun n _ => (List.take_append_drop n l).symm; have ht : ∀ k, k < l.length → l.drop k = l.getD k 0 :: l.drop (k + 1) := by
  intro k hk; rw [List.drop_eq_getElem_cons hk, List.getD_eq_getElem?_getD, List.getElem?_eq_getElem hk]; rfl
 have hpos : 0 < l.length := List.length_pos_iff.2 h; have h0 := hb 0; have h1 := hb 1; have h2 := hb 2; have h3 := hb 3; unfold dec decN; generalize g0 : (l.getD 0 0) = b0 at *; generalize g1 : (l.getD 1 0) = b1 at *; generalize g2 : (l.getD 2 0) = b2 at *; generalize g3 : (l.getD 3 0) = b3 at *
 by_cases c0 : b0.toNat < 128
 ·right
  rw [if_pos c0]; have e : enc b0.toNat = [b0] := by unfold enc; rw [if_pos c0]; simp
  refine ⟨Or.inl (by simp only; omega), by rw [e]; rfl, ?_⟩; rw [e]; have := ht 0 hpos; rw [g0] at this
  simpa using this
 rw [if_neg c0]
 by_cases c1 : (b0.toNat / 32 == 6 && (decide (1 < l.length) && b1.toNat / 64 == 2)) = true
 ·rw [if_pos c1]
  simp only [Bool.and_eq_true, beq_iff_eq, decide_eq_true_eq] at c1
  by_cases c2 : b0.toNat % 32 * 64 + b1.toNat % 64 ≥ 128
  ·right
   rw [if_pos c2]; have e : enc (b0.toNat % 32 * 64 + b1.toNat % 64) = [b0, b1] := by
    unfold enc; rw [if_neg (by omega), if_pos (by omega)]; rw [byte_eq (n := 192 + (b0.toNat % 32 * 64 + b1.toNat % 64) / 64) (b := b0) (by omega), byte_eq (n := 128 + (b0.toNat % 32 * 64 + b1.toNat % 64) % 64) (b := b1) (by omega)]
   refine ⟨Or.inl (by simp only; omega), by rw [e]; rfl, ?_⟩; rw [e]; have t0 := ht 0 hpos; have t1 := ht 1 c1.2.1; rw [g0, List.drop_zero] at t0; rw [g1] at t1; rw [t1] at t0; exact t0
  ·left; rw [if_neg c2]
 rw [if_neg c1]
 by_cases c1' : (b0.toNat / 16 == 14 && (decide (1 < l.length) && b1.toNat / 64 == 2) && (decide (2 < l.length) && b2.toNat / 64 == 2)) = true
 ·rw [if_pos c1']
  simp only [Bool.and_eq_true, beq_iff_eq, decide_eq_true_eq] at c1'; obtain ⟨⟨d0, d1, d2⟩, d3, d4⟩ := c1'
  by_cases c2 : (decide (b0.toNat % 16 * 4096 + b1.toNat % 64 * 64 + b2.toNat % 64 ≥ 2048) && Utf8.valid ((b0.toNat % 16 * 4096 + b1.toNat % 64 * 64 + b2.toNat % 64 : Nat) : Int)) = true
  ·right
   rw [if_pos c2]; rw [ok_valid] at c2; simp only [Bool.and_eq_true, decide_eq_true_eq] at c2; have e : enc (b0.toNat % 16 * 4096 + b1.toNat % 64 * 64 + b2.toNat % 64) = [b0, b1, b2] := by
    unfold enc; rw [if_neg (by omega), if_neg (by omega), if_pos (by omega)]; rw [byte_eq (n := 224 + (b0.toNat % 16 * 4096 + b1.toNat % 64 * 64 + b2.toNat % 64) / 4096) (b := b0) (by omega), byte_eq (n := 128 + (b0.toNat % 16 * 4096 + b1.toNat % 64 * 64 + b2.toNat % 64) / 64 % 64) (b := b1) (by omega), byte_eq (n := 128 + (b0.toNat % 16 * 4096 + b1.toNat % 64 * 64 + b2.toNat % 64) % 64) (b := b2) (by omega)]
   refine ⟨c2.2, by rw [e]; rfl, ?_⟩; rw [e]; have t0 := ht 0 hpos; have t1 := ht 1 d1; have t2 := ht 2 d3; rw [g0, List.drop_zero] at t0; rw [g1] at t1; rw [g2] at t2; rw [t1, t2] at t0; exact t0
  ·left; rw [if_neg c2]
 rw [if_neg c1']
 by_cases c1'' : (b0.toNat / 8 == 30 && (decide (1 < l.length) && b1.toNat / 64 == 2) && (decide (2 < l.length) && b2.toNat / 64 == 2) && (decide (3 < l.length) && b3.toNat / 64 == 2)) = true
 ·rw [if_pos c1'']
  simp only [Bool.and_eq_true, beq_iff_eq, decide_eq_true_eq] at c1''; obtain ⟨⟨⟨d0, d1, d2⟩, d3, d4⟩, d5, d6⟩ := c1''
  by_cases c2 : (decide (b0.toNat % 8 * 262144 + b1.toNat % 64 * 4096 + b2.toNat % 64 * 64 + b3.toNat % 64 ≥ 65536) && Utf8.valid ((b0.toNat % 8 * 262144 + b1.toNat % 64 * 4096 + b2.toNat % 64 * 64 + b3.toNat % 64 : Nat) : Int)) = true
  ·right
   rw [if_pos c2]; rw [ok_valid] at c2; simp only [Bool.and_eq_true, decide_eq_true_eq] at c2; have e : enc (b0.toNat % 8 * 262144 + b1.toNat % 64 * 4096 + b2.toNat % 64 * 64 + b3.toNat % 64) = [b0, b1, b2, b3] := by
    unfold enc; rw [if_neg (by omega), if_neg (by omega), if_neg (by omega)]; rw [byte_eq (n := 240 + (b0.toNat % 8 * 262144 + b1.toNat % 64 * 4096 + b2.toNat % 64 * 64 + b3.toNat % 64) / 262144) (b := b0) (by omega), byte_eq (n := 128 + (b0.toNat % 8 * 262144 + b1.toNat % 64 * 4096 + b2.toNat % 64 * 64 + b3.toNat % 64) / 4096 % 64) (b := b1) (by omega), byte_eq (n := 128 + (b0.toNat % 8 * 262144 + b1.toNat % 64 * 4096 + b2.toNat % 64 * 64 + b3.toNat % 64) / 64 % 64) (b := b2) (by omega), byte_eq (n := 128 + (b0.toNat % 8 * 262144 + b1.toNat % 64 * 4096 + b2.toNat % 64 * 64 + b3.toNat % 64) % 64) (b := b3) (by omega)]
   refine ⟨c2.2, by rw [e]; rfl, ?_⟩; rw [e]; have t0 := ht 0 hpos; have t1 := ht 1 d1; have t2 := ht 2 d3; have t3 := ht 3 d5; rw [g0, List.drop_zero] at t0; rw [g1] at t1; rw [g2] at t2; rw [g3] at t3; rw [t1, t2, t3] at t0; exact t0
  ·left; rw [if_neg c2]
 ·left; rw [if_neg c1'']
def txt (cs : List Nat) : List UInt8 := cs.flatMap enc
def allOk (cs : List Nat) : Prop := ∀ c ∈ cs, ok c
theorem txt_nil : txt [] = [] := rfl
theorem txt_cons (c : Nat) (cs : List Nat) : txt (c :: cs) = enc c ++ txt cs := rfl
theorem txt_append (a b : List Nat) : txt (a ++ b) = txt a ++ txt b := by simp [txt]
theorem txt_len (cs : List Nat) : cs.length ≤ (txt cs).length ∧ (txt cs).length ≤ 4 * cs.length := by
 induction cs with
 | nil => simp [txt]
 | cons c cs ih =>
   have := enc_pos c; have := enc_le c; rw [txt_cons, List.length_append, List.length_cons]; omega
def runesF : Nat → List UInt8 → Option (List Nat)
 | _, [] => some []
 | 0, _ :: _ => none
 | f + 1, b :: r => if dec (b :: r) = (65533, 1) then none else (runesF f ((b :: r).drop (dec (b :: r)).2)).map ((dec (b :: r)).1 :: ·)
def runes (l : List UInt8) : Option (List Nat) := runesF l.length l
theorem runesF_txt (cs : List Nat) (h : allOk cs) (f : Nat) (hf : (txt cs).length ≤ f) : runesF f (txt cs) = some cs := by
 induction cs generalizing f with
 | nil => cases f <;> rfl
 | cons c cs ih =>
   have hc : ok c := h c (by simp); have hd := dec_enc c hc (txt cs); have hp := enc_pos c; rw [txt_cons] at hf ⊢; rw [List.length_append] at hf
   match f, hf with
   | 0, hf => omega
   | f + 1, hf =>
     match he : enc c, hp with
     | b :: e, _ =>
       rw [he] at hd hf; rw [List.cons_append] at hd ⊢; rw [runesF, hd]; have hne : (c, (b :: e).length) ≠ (65533, 1) := by
        intro hh; simp only [Prod.mk.injEq] at hh; obtain ⟨rfl, hh⟩ := hh; have : (enc 65533).length = 3 := by decide
        rw [he] at this; omega
       rw [if_neg hne]; simp only; rw [← List.cons_append, List.drop_left, ih (fun x hx => h x (by simp [hx])) f (by simp only [List.length_cons] at hf; omega)]; rfl
theorem runes_txt (cs : List Nat) (h : allOk cs) : runes (txt cs) = some cs := runesF_txt cs h _ (Nat.le_refl _)
theorem runesF_some (f : Nat) (l : List UInt8) (cs : List Nat) (h : runesF f l = some cs) : allOk cs ∧ l = txt cs := by
 induction f generalizing l cs with
 | zero => cases l with
   | nil => simp [runesF] at h; subst h; exact ⟨fun _ h => by simp at h, rfl⟩
   | cons b r => simp [runesF] at h
 | succ f ih => cases l with
   | nil => simp [runesF] at h; subst h; exact ⟨fun _ h => by simp at h, rfl⟩
   | cons b r =>
     rw [runesF] at h; split at h
     ·cases h
     ·rename_i hn
      rcases dec_cases (b :: r) (by simp) with hb | ⟨h1, h2, h3⟩
      ·exact absurd hb hn
      ·cases hr : runesF f ((b :: r).drop (dec (b :: r)).2) with
       | none => rw [hr] at h; cases h
       | some ds =>
         rw [hr] at h; simp only [Option.map_some, Option.some.injEq] at h; subst h; obtain ⟨i1, i2⟩ := ih _ _ hr; refine ⟨?_, ?_⟩
         ·intro c hc
          rcases List.mem_cons.1 hc with rfl | hc
          ·exact h1
          ·exact i1 c hc
         ·rw [txt_cons, ← i2]; exact h3
theorem runes_some {l : List UInt8} {cs : List Nat} (h : runes l = some cs) : allOk cs ∧ l = txt cs := runesF_some _ _ _ h
theorem runes_append (a : List Nat) (ha : allOk a) (r : List UInt8) : runes (txt a ++ r) = (runes r).map (a ++ ·) := by
 cases hr : runes r with
 | some cs =>
   obtain ⟨h1, rfl⟩ := runes_some hr; rw [← txt_append, runes_txt _ (fun c hc => by rcases List.mem_append.1 hc with h | h; exact ha c h; exact h1 c h)]; rfl
 | none =>
   cases hs : runes (txt a ++ r) with
   | none => rfl
   | some cs =>
     exfalso; obtain ⟨h1, h2⟩ := runes_some hs; have key : ∀ (a cs : List Nat), allOk a → allOk cs → ∀ r, txt a ++ r = txt cs → ∃ ds, allOk ds ∧ r = txt ds := by
      intro a; induction a with
      | nil => intro cs _ h r e; exact ⟨cs, h, e⟩
      | cons c a ih =>
        intro cs ha h r e; cases cs with
        | nil =>
          have hp := enc_pos c; have e2 := congrArg List.length e; rw [txt_cons, txt_nil, List.length_append, List.length_append, List.length_nil] at e2; omega
        | cons d cs =>
          rw [txt_cons, txt_cons, List.append_assoc] at e; have e1 := dec_enc c (ha c (by simp)) (txt a ++ r); have e2 := dec_enc d (h d (by simp)) (txt cs); rw [e, e2] at e1; simp only [Prod.mk.injEq] at e1; obtain ⟨rfl, _⟩ := e1; exact ih cs (fun x hx => ha x (by simp [hx])) (fun x hx => h x (by simp [hx])) r (List.append_cancel_left e)
     obtain ⟨ds, hd, rfl⟩ := key a cs ha h1 r h2; rw [runes_txt ds hd] at hr; cases hr
theorem runes_bad (l : List UInt8) (h : l ≠ []) (hb : dec l = (65533, 1)) : runes l = none := by
 cases l with
 | nil => exact absurd rfl h
 | cons b r => unfold runes; rw [List.length_cons, runesF, if_pos hb]
def rd (l : List UInt8) : Option (List Nat) := match runes l with
 | some cs => if cs.length ≤ 20000 then some cs else none
 | none => none
theorem rd_txt (cs : List Nat) (h : allOk cs) (hn : cs.length ≤ 20000) : rd (txt cs) = some cs := by unfold rd; rw [runes_txt cs h]; simp [hn]
theorem rd_some {l : List UInt8} {cs : List Nat} (h : rd l = some cs) : allOk cs ∧ l = txt cs ∧ cs.length ≤ 20000 := by
 unfold rd at h; cases hr : runes l with
 | none => rw [hr] at h; cases h
 | some ds =>
   rw [hr] at h; simp only at h; split at h
   ·simp only [Option.some.injEq] at h; subst h
    obtain ⟨h1, h2⟩ := runes_some hr; exact ⟨h1, h2, ‹_›⟩
   ·cases h
theorem bad_iff (l : List UInt8) (h : l ≠ []) : dec l = (65533, 1) ↔ ((dec l).1 = 65533 ∧ ([239, 191, 189] : List UInt8).isPrefixOf l = false) := by
 constructor
 ·intro hb
  refine ⟨by rw [hb], ?_⟩; cases hp : ([239, 191, 189] : List UInt8).isPrefixOf l with
  | false => rfl
  | true =>
    exfalso; obtain ⟨r, rfl⟩ := List.isPrefixOf_iff_prefix.1 hp; have := dec_enc 65533 (by unfold ok; omega) r; have e : enc 65533 = [239, 191, 189] := by decide
    rw [e, hb] at this; simp at this
 ·intro ⟨h1, h2⟩
  rcases dec_cases l h with hb | ⟨_, _, h3⟩
  ·exact hb
  ·exfalso
   rw [h1] at h3; have e : enc 65533 = [239, 191, 189] := by decide
   rw [e] at h3; have : ([239, 191, 189] : List UInt8).isPrefixOf l = true := List.isPrefixOf_iff_prefix.2 ⟨_, h3.symm⟩; rw [this] at h2; cases h2
def T (cs : List Nat) : ByteArray := ⟨(txt cs).toArray⟩
theorem T_data (cs : List Nat) : (T cs).data.toList = txt cs := rfl
theorem T_size (cs : List Nat) : (T cs).size = (txt cs).length := by simp [T, ByteArray.size]
theorem ba_ext {s : ByteArray} {l : List UInt8} (h : s.data.toList = l) : s = ⟨l.toArray⟩ := by subst h; cases s; simp
theorem rd_T {s : ByteArray} {cs : List Nat} (h : rd s.data.toList = some cs) : s = T cs := ba_ext (rd_some h).2.1
theorem ba_inj {s t : ByteArray} (h : s.data.toList = t.data.toList) : s = t := by
 cases s; cases t; simp only at h; congr 1; exact Array.ext' h
theorem T_drop (cs : List Nat) (i : Nat) : (T cs).extract (txt (cs.take i)).length (T cs).size = T (cs.drop i) := by
 apply ba_inj; rw [ByteArray.data_extract, Array.toList_extract, T_size, T_data, T_data]; have e : txt cs = txt (cs.take i) ++ txt (cs.drop i) := by rw [← txt_append, List.take_append_drop]
 simp only [List.extract_eq_take_drop]; rw [e, List.drop_left, List.length_append, Nat.add_sub_cancel_left, List.take_length]
theorem T_take (cs : List Nat) (i : Nat) : (T cs).extract 0 (txt (cs.take i)).length = T (cs.take i) := by
 apply ba_inj; rw [ByteArray.data_extract, Array.toList_extract, T_data, T_data]; have e : txt cs = txt (cs.take i) ++ txt (cs.drop i) := by rw [← txt_append, List.take_append_drop]
 simp only [List.extract_eq_take_drop]; rw [List.drop_zero, Nat.sub_zero, e, List.take_left]
theorem len_take_le (cs : List Nat) (i : Nat) : (txt (cs.take i)).length ≤ (txt cs).length := by
 have e : txt cs = txt (cs.take i) ++ txt (cs.drop i) := by rw [← txt_append, List.take_append_drop]
 rw [e, List.length_append]; omega
end Rn
end
section
namespace At
abbrev K := ByteArray
abbrev V := ByteArray
structure Strict (lt : K → K → Bool) : Prop where
 irr : ∀ a, lt a a = false
 tr : ∀ a b c, lt a b = true → lt b c = true → lt a c = true
 tot : ∀ a b, a ≠ b → lt a b = true ∨ lt b a = true
def look : List (K × V) → K → Option V
 | [], _ => none
 | x :: r, k => if x.1 = k then some x.2 else look r k
def Rises (lt : K → K → Bool) (l : List (K × V)) : Prop := l.Pairwise fun x y => lt x.1 y.1 = true
def put (lt : K → K → Bool) : List (K × V) → K × V → List (K × V)
 | [], p => [p]
 | q :: r, p => if lt q.1 p.1 = true then q :: put lt r p else p :: q :: r
variable {lt : K → K → Bool}
theorem Strict.ne (h : Strict lt) {a b : K} (hl : lt a b = true) : a ≠ b := fun e => by
 subst e; rw [h.irr] at hl; cases hl
theorem look_none {l : List (K × V)} {k : K} (h : ∀ x ∈ l, x.1 ≠ k) : look l k = none := by
 induction l with
 | nil => rfl
 | cons x r ih => rw [look, if_neg (h x (List.mem_cons_self ..)), ih fun y hy => h y (List.mem_cons_of_mem _ hy)]
theorem look_mem {l : List (K × V)} {k : K} {v : V} (h : look l k = some v) : (k, v) ∈ l := by
 induction l with
 | nil => cases h
 | cons x r ih =>
   rw [look] at h; split at h
   ·rename_i e
    injection h with h; subst e; subst h; exact List.mem_cons_self ..
   ·exact List.mem_cons_of_mem _ (ih h)
theorem look_of_mem (hs : Strict lt) {l : List (K × V)} (h : Rises lt l) {x : K × V} (hx : x ∈ l) : look l x.1 = some x.2 := by
 induction l with
 | nil => cases hx
 | cons y r ih =>
   rw [look]; rcases List.mem_cons.1 hx with rfl | hx
   ·rw [if_pos rfl]
   ·rw [if_neg (hs.ne ((List.pairwise_cons.1 h).1 x hx)), ih (List.pairwise_cons.1 h).2 hx]
theorem Rises.tail {x : K × V} {r : List (K × V)} (h : Rises lt (x :: r)) : Rises lt r := (List.pairwise_cons.1 h).2
theorem Rises.head (hs : Strict lt) {x : K × V} {r : List (K × V)} (h : Rises lt (x :: r)) : look r x.1 = none :=
 look_none fun y hy e => hs.ne ((List.pairwise_cons.1 h).1 y hy) e.symm
theorem Rises.before (hs : Strict lt) {x : K × V} {r : List (K × V)} (h : Rises lt (x :: r)) {k : K} (hk : lt k x.1 = true) : look (x :: r) k = none :=
 look_none fun y hy e => by
  rcases List.mem_cons.1 hy with rfl | hy
  ·exact hs.ne hk e.symm
  ·exact hs.ne (hs.tr _ _ _ hk ((List.pairwise_cons.1 h).1 y hy)) e.symm
theorem ext (hs : Strict lt) {l m : List (K × V)} (hl : Rises lt l) (hm : Rises lt m) (h : ∀ k, look l k = look m k) : l = m := by
 induction l generalizing m with
 | nil =>
   cases m with
   | nil => rfl
   | cons y s => have := h y.1; rw [look, look, if_pos rfl] at this; cases this
 | cons x r ih =>
   cases m with
   | nil => have := h x.1; rw [look, look, if_pos rfl] at this; cases this
   | cons y s =>
     have e1 : x.1 = y.1 := Decidable.byContradiction fun hne => by
      rcases hs.tot _ _ hne with hlt | hlt
      ·have := h x.1
       rw [hm.before hs hlt, look, if_pos rfl] at this; cases this
      ·have := h y.1
       rw [hl.before hs hlt, look, if_pos rfl] at this; cases this
     have e2 : x.2 = y.2 := by
      have := h x.1; rw [look, if_pos rfl, look, if_pos e1.symm] at this; exact Option.some.inj this
     have e3 : x = y := Prod.ext e1 e2; subst e3; rw [ih hl.tail hm.tail fun k => ?_]
     by_cases hk : x.1 = k
     ·subst hk
      rw [hl.head hs, hm.head hs]
     ·have := h k
      rwa [look, if_neg hk, look, if_neg hk] at this
theorem mem_put {l : List (K × V)} {p x : K × V} : x ∈ put lt l p ↔ x = p ∨ x ∈ l := by
 induction l with
 | nil => simp [put]
 | cons q r ih =>
   rw [put]; split
   ·rw [List.mem_cons, ih, List.mem_cons]
    constructor
    ·rintro (h | h | h)
     ·exact .inr (.inl h)
     ·exact .inl h
     ·exact .inr (.inr h)
    ·rintro (h | h | h)
     ·exact .inr (.inl h)
     ·exact .inl h
     ·exact .inr (.inr h)
   ·rw [List.mem_cons]
theorem put_len (l : List (K × V)) (p : K × V) : (put lt l p).length = l.length + 1 := by
 induction l with
 | nil => rfl
 | cons q r ih =>
   rw [put]; split
   ·rw [List.length_cons, ih, List.length_cons]
   ·rfl
theorem look_put {l : List (K × V)} {p : K × V} (hp : look l p.1 = none) (k : K) : look (put lt l p) k = if p.1 = k then some p.2 else look l k := by
 induction l with
 | nil => rfl
 | cons q r ih =>
   rw [look] at hp; split at hp
   ·cases hp
   ·rename_i hne
    rw [put]; split
    ·rw [look, ih hp, look]
     by_cases hk : q.1 = k
     ·rw [if_pos hk, if_pos hk, if_neg (fun e => hne (hk.trans e.symm))]
     ·rw [if_neg hk, if_neg hk]
    ·rw [look]
theorem rises_put (hs : Strict lt) {l : List (K × V)} {p : K × V} (hl : Rises lt l) (hp : look l p.1 = none) : Rises lt (put lt l p) := by
 induction l with
 | nil => exact List.pairwise_singleton _ _
 | cons q r ih =>
   rw [look] at hp; split at hp
   ·cases hp
   ·rename_i hne
    rw [put]; split
    ·rename_i hlt
     refine List.pairwise_cons.2 ⟨fun y hy => ?_, ih hl.tail hp⟩; rcases mem_put.1 hy with rfl | hy
     ·exact hlt
     ·exact (List.pairwise_cons.1 hl).1 y hy
    ·rename_i hlt
     have hpq : lt p.1 q.1 = true := by
      rcases hs.tot _ _ hne with h | h
      ·exact absurd h hlt
      ·exact h
     refine List.pairwise_cons.2 ⟨fun y hy => ?_, hl⟩; rcases List.mem_cons.1 hy with rfl | hy
     ·exact hpq
     ·exact hs.tr _ _ _ hpq ((List.pairwise_cons.1 hl).1 y hy)
def puts (lt : K → K → Bool) (l ps : List (K × V)) : List (K × V) := ps.foldl (put lt) l
theorem puts_all (hs : Strict lt) {ps : List (K × V)} (hps : Rises lt ps) {l : List (K × V)} (hl : Rises lt l) (hd : ∀ x ∈ ps, look l x.1 = none) :
 Rises lt (puts lt l ps) ∧ (puts lt l ps).length = l.length + ps.length ∧ ∀ k, look (puts lt l ps) k = (look ps k).or (look l k) := by
 induction ps generalizing l with
 | nil => exact ⟨hl, rfl, fun k => rfl⟩
 | cons p r ih =>
   have hp := hd p (List.mem_cons_self ..); have hr := rises_put hs hl hp; have hd2 : ∀ x ∈ r, look (put lt l p) x.1 = none := fun x hx => by
    rw [look_put hp, if_neg (hs.ne ((List.pairwise_cons.1 hps).1 x hx))]; exact hd x (List.mem_cons_of_mem _ hx)
   obtain ⟨h1, h2, h3⟩ := ih hps.tail hr hd2; refine ⟨h1, ?_, fun k => ?_⟩
   ·show (puts lt (put lt l p) r).length = _
    rw [h2, put_len, List.length_cons]; omega
   ·show look (puts lt (put lt l p) r) k = _
    rw [h3, look_put hp, look]
    by_cases hk : p.1 = k
    ·rw [if_pos hk, if_pos hk]
     have := hps.head hs; rw [hk] at this; rw [this]; rfl
    ·rw [if_neg hk, if_neg hk]
theorem mem_puts {ps l : List (K × V)} {x : K × V} : x ∈ puts lt l ps ↔ x ∈ ps ∨ x ∈ l := by
 induction ps generalizing l with
 | nil => simp [puts]
 | cons p r ih =>
   show x ∈ puts lt (put lt l p) r ↔ _
   rw [ih, mem_put, List.mem_cons]; constructor
   ·rintro (h | h | h)
    ·exact .inl (.inr h)
    ·exact .inl (.inl h)
    ·exact .inr h
   ·rintro ((h | h) | h)
    ·exact .inr (.inl h)
    ·exact .inl h
    ·exact .inr (.inr h)
theorem look_keys (q : K → Bool) (l : List (K × V)) (k : K) : look (l.filter fun x => q x.1) k = if q k = true then look l k else none := by
 induction l with
 | nil => rw [List.filter_nil, look, ite_self]
 | cons x r ih =>
   rw [List.filter_cons]
   by_cases hq : q x.1 = true
   ·rw [if_pos hq, look, ih, look]
    by_cases hk : x.1 = k
    ·rw [if_pos hk, ← hk, if_pos hq, if_pos rfl]
    ·rw [if_neg hk, if_neg hk]
   ·rw [if_neg hq, ih, look]
    by_cases hk : x.1 = k
    ·rw [← hk, if_neg hq, if_neg hq]
    ·rw [if_neg hk]
theorem look_values (hs : Strict lt) (q : V → Bool) {l : List (K × V)} (h : Rises lt l) (k : K) : look (l.filter fun x => q x.2) k = (look l k).filter q := by
 induction l with
 | nil => rfl
 | cons x r ih =>
   rw [List.filter_cons, look]; have ih := ih h.tail
   by_cases hk : x.1 = k
   ·rw [if_pos hk]
    have h0 := h.head hs; rw [hk] at h0
    by_cases hq : q x.2 = true
    ·rw [if_pos hq, look, if_pos hk, Option.filter, if_pos hq]
    ·rw [if_neg hq, ih, h0, Option.filter, if_neg hq]
     rfl
   ·rw [if_neg hk, ← ih]
    by_cases hq : q x.2 = true
    ·rw [if_pos hq, look, if_neg hk]
    ·rw [if_neg hq]
theorem rises_filter {l : List (K × V)} (h : Rises lt l) (q : K × V → Bool) : Rises lt (l.filter q) := List.Pairwise.filter q h
def composeL (lt : K → K → Bool) (a b : List (K × V)) : List (K × V) := puts lt b (a.filter fun x => (look b x.1).isNone)
def applyL (lt : K → K → Bool) (e : V) (l c : List (K × V)) : List (K × V) := puts lt (puts lt [] (l.filter fun x => (look c x.1).isNone)) (c.filter fun x => decide (x.2 ≠ e))
def followL (a b : List (K × V)) (first : Bool) : List (K × V) := b.filter fun x => first || (look a x.1).isNone
def invertL (e : V) (l c : List (K × V)) : List (K × V) := c.filterMap fun x => if (look l x.1).getD e = x.2 then none else some (x.1, (look l x.1).getD e)
theorem compose_all (hs : Strict lt) {a b : List (K × V)} (ha : Rises lt a) (hb : Rises lt b) :
 Rises lt (composeL lt a b) ∧ ∀ k, look (composeL lt a b) k = (look b k).or (look a k) := by
 have hf := rises_filter ha fun x => (look b x.1).isNone; have hd : ∀ x ∈ a.filter (fun x => (look b x.1).isNone), look b x.1 = none := fun x hx => by simpa using (List.mem_filter.1 hx).2
 obtain ⟨h1, _, h3⟩ := puts_all hs hf hb hd; refine ⟨h1, fun k => ?_⟩; rw [composeL, h3, look_keys fun k => (look b k).isNone]; cases look b k <;> simp
theorem apply_all (hs : Strict lt) (e : V) {l c : List (K × V)} (hl : Rises lt l) (hc : Rises lt c) :
 Rises lt (applyL lt e l c) ∧ ∀ k, look (applyL lt e l c) k = match look c k with | none => look l k | some v => if v = e then none else some v := by
 have hf := rises_filter hl fun x => (look c x.1).isNone; obtain ⟨h1, _, h3⟩ := puts_all hs hf (l := []) List.Pairwise.nil fun x _ => rfl; have hg := rises_filter hc fun x => decide (x.2 ≠ e); have hk := h3; have h4 : ∀ k, look (puts lt [] (l.filter fun x => (look c x.1).isNone)) k = if (look c k).isNone = true then look l k else none := fun k => by
  rw [h3, look_keys fun k => (look c k).isNone]; split <;> simp [look]
 have hd : ∀ x ∈ c.filter (fun x => decide (x.2 ≠ e)), look (puts lt [] (l.filter fun x => (look c x.1).isNone)) x.1 = none := fun x hx => by
  rw [h4, look_of_mem hs hc (List.mem_filter.1 hx).1]; rfl
 obtain ⟨h5, _, h6⟩ := puts_all hs hg h1 hd; refine ⟨h5, fun k => ?_⟩; rw [applyL, h6, h4, look_values hs (fun v => decide (v ≠ e)) hc]; cases look c k with
 | none => simp
 | some v => by_cases hv : v = e <;> simp [hv, Option.filter]
theorem follow_all {a b : List (K × V)} (first : Bool) (hb : Rises lt b) :
 Rises lt (followL a b first) ∧ ∀ k, look (followL a b first) k = if (first || (look a k).isNone) = true then look b k else none :=
 ⟨rises_filter hb _, fun k => look_keys (fun k => first || (look a k).isNone) b k⟩
theorem invert_mem {e : V} {l c : List (K × V)} {y : K × V} (h : y ∈ invertL e l c) : ∃ v, (y.1, v) ∈ c ∧ y.2 = (look l y.1).getD e ∧ y.2 ≠ v := by
 obtain ⟨x, hx, hy⟩ := List.mem_filterMap.1 h; split at hy
 ·cases hy
 ·rename_i hne
  injection hy with hy; subst hy; exact ⟨x.2, hx, rfl, hne⟩
theorem invert_all (hs : Strict lt) (e : V) {l c : List (K × V)} (hc : Rises lt c) :
 Rises lt (invertL e l c) ∧ ∀ k, look (invertL e l c) k = match look c k with | none => none | some v => if (look l k).getD e = v then none else some ((look l k).getD e) := by
 induction c with
 | nil => exact ⟨List.Pairwise.nil, fun k => rfl⟩
 | cons x r ih =>
   obtain ⟨h1, h2⟩ := ih hc.tail; have hx : ∀ y ∈ invertL e l r, lt x.1 y.1 = true := fun y hy => by
    obtain ⟨v, hm, _⟩ := invert_mem hy; exact (List.pairwise_cons.1 hc).1 (y.1, v) hm
   have hx0 : look (invertL e l r) x.1 = none := look_none fun y hy e => hs.ne (hx y hy) e.symm; have hstep : invertL e l (x :: r) = if (look l x.1).getD e = x.2 then invertL e l r else (x.1, (look l x.1).getD e) :: invertL e l r := by
    unfold invertL; rw [List.filterMap_cons]
    by_cases hv : (look l x.1).getD e = x.2
    ·rw [if_pos hv, if_pos hv]
    ·rw [if_neg hv, if_neg hv]
   rw [hstep]
   by_cases hv : (look l x.1).getD e = x.2
   ·rw [if_pos hv]
    refine ⟨h1, fun k => ?_⟩; rw [look]
    by_cases hk : x.1 = k
    ·subst hk
     rw [if_pos rfl, hx0]; show none = if _ then _ else _
     rw [if_pos hv]
    ·rw [if_neg hk, h2]
   ·rw [if_neg hv]
    refine ⟨List.pairwise_cons.2 ⟨hx, h1⟩, fun k => ?_⟩; rw [look, look]
    by_cases hk : x.1 = k
    ·subst hk
     rw [if_pos rfl, if_pos rfl]; show _ = if _ then _ else _
     rw [if_neg hv]
    ·rw [if_neg hk, if_neg hk, h2]
theorem back (hs : Strict lt) (e : V) {l a : List (K × V)} (hl : Rises lt l) (ha : Rises lt a) (hne : ∀ x ∈ l, x.2 ≠ e) : applyL lt e (applyL lt e l a) (invertL e l a) = l := by
 obtain ⟨h1, h2⟩ := apply_all hs e hl ha; obtain ⟨h3, h4⟩ := invert_all hs e (l := l) ha; obtain ⟨h5, h6⟩ := apply_all hs e h1 h3; refine ext hs h5 hl fun k => ?_; rw [h6, h4, h2]; have hk : ∀ v, look l k = some v → v ≠ e := fun v hv => hne _ (look_mem hv); cases hak : look a k with
 | none => rfl
 | some v =>
   cases hlk : look l k with
   | none => by_cases hv : e = v <;> simp [hv]
   | some u =>
     have := hk u hlk
     by_cases hv : u = v
     ·subst hv
      simp [this]
     ·simp [hv, this]
theorem meets (hs : Strict lt) (e : V) {l a b : List (K × V)} (first : Bool) (hl : Rises lt l) (ha : Rises lt a) (hb : Rises lt b) :
 applyL lt e (applyL lt e l a) (followL a b first) = applyL lt e (applyL lt e l b) (followL b a (!first)) := by
 obtain ⟨h1, h2⟩ := apply_all hs e hl ha; obtain ⟨h1', h2'⟩ := apply_all hs e hl hb; obtain ⟨h3, h4⟩ := follow_all (a := a) first hb
 obtain ⟨h3', h4'⟩ := follow_all (a := b) (!first) ha; obtain ⟨h5, h6⟩ := apply_all hs e h1 h3; obtain ⟨h7, h8⟩ := apply_all hs e h1' h3'; refine ext hs h5 h7 fun k => ?_; rw [h6, h8, h4, h4', h2, h2']; cases look a k <;> cases look b k <;> cases first <;> simp
theorem compose_nil (hs : Strict lt) {c : List (K × V)} (hc : Rises lt c) : composeL lt [] c = c ∧ composeL lt c [] = c := by
 obtain ⟨h1, h2⟩ := compose_all hs (a := []) List.Pairwise.nil hc; obtain ⟨h3, h4⟩ := compose_all hs hc (b := []) List.Pairwise.nil; exact ⟨rfl, ext hs h3 hc fun k => by rw [h4]; rfl⟩
theorem apply_nil (hs : Strict lt) (e : V) {l : List (K × V)} (hl : Rises lt l) : applyL lt e l [] = l := by
 obtain ⟨h1, h2⟩ := apply_all hs e hl (c := []) List.Pairwise.nil; exact ext hs h1 hl fun k => by rw [h2]; rfl
theorem follow_nil (c : List (K × V)) (first : Bool) : followL [] c first = c ∧ followL c [] first = [] := by
 refine ⟨?_, rfl⟩; unfold followL; simp [look]
end At
end
end Go.Proofs.Ytchceolbbkhnnaa
namespace Go.Proofs
open Go.Shelf
def Try.lays106_ren : Go.Shelf.Ren := ⟨fun | 106 => 97 | 213 => 110 | 265 => 116 | n => n, fun | 9 => 9 | 3 => 3 | n => n, fun | n => n⟩
theorem Try.lays106 : Go.Proofs.Lays.n106 Try.prog Try.lays106_ren := {
 mixed := by kernel_rfl
 f106 := Try.func97.trans (congrArg some (by kernel_rfl))
 f213 := Try.func110.trans (congrArg some (by kernel_rfl))
 f265 := Try.func116.trans (congrArg some (by kernel_rfl))
 t3 := Try.underlying3
 a3 := Try.isAgg3
 z3 := Try.sizeOf3
 v3 := Try.zeroValue3
 t9 := Try.underlying9
 a9 := Try.isAgg9
 z9 := Try.sizeOf9
 v9 := Try.zeroValue9 }
open Go.RowKit in
theorem Try.strings_Compare (a b : ByteArray) (w : World) :
 Calls Try.prog 97 #[.string a, .string b] w fun e w' => e = .returned (.int .i64 (Lib.compareBytes a.data.toList b.data.toList)) ∧ w' = w := Any.strings_Compare Try.lays106 a b w
def Try.lays195_ren : Go.Shelf.Ren := ⟨fun | 195 => 70 | n => n, fun | 9 => 9 | 3 => 3 | 0 => 0 | 4 => 4 | n => n, fun | n => n⟩
theorem Try.lays195 : Go.Proofs.Lays.n195 Try.prog Try.lays195_ren := {
 mixed := by kernel_rfl
 f195 := Try.func70.trans (congrArg some (by kernel_rfl))
 t0 := Try.underlying0
 a0 := Try.isAgg0
 z0 := Try.sizeOf0
 v0 := Try.zeroValue0
 t3 := Try.underlying3
 a3 := Try.isAgg3
 z3 := Try.sizeOf3
 v3 := Try.zeroValue3
 t4 := Try.underlying4
 a4 := Try.isAgg4
 z4 := Try.sizeOf4
 v4 := Try.zeroValue4
 t9 := Try.underlying9
 a9 := Try.isAgg9
 z9 := Try.sizeOf9
 v9 := Try.zeroValue9 }
open Go.RowKit in
theorem Try.utf8_RuneCountInString (s : ByteArray) (w : World) (hs : s.size < 9223372036854775807) :
 Calls Try.prog 70 #[.string s] w fun e w' => e = .returned (.int .i64 (Lib.runeCount s)) ∧ ∃ pos, w' = w.iter s pos := Any.utf8_RuneCountInString Try.lays195 s w hs
def Try.laysM316_ren : Go.Shelf.Ren := ⟨fun | 316 => 111 | n => n, fun | 9 => 9 | 3 => 3 | 4 => 4 | 37 => 50 | 0 => 0 | 127 => 146 | 5 => 5 | n => n, fun | n => n⟩
theorem Try.laysM316 : Go.Proofs.LaysM.n316 Try.prog Try.laysM316_ren := {
 mixed := by kernel_rfl
 f316 := Try.func111.trans (congrArg some (by kernel_rfl))
 t0 := Try.underlying0
 a0 := Try.isAgg0
 z0 := Try.sizeOf0
 v0 := Try.zeroValue0
 t3 := Try.underlying3
 a3 := Try.isAgg3
 z3 := Try.sizeOf3
 v3 := Try.zeroValue3
 t4 := Try.underlying4
 a4 := Try.isAgg4
 z4 := Try.sizeOf4
 v4 := Try.zeroValue4
 t9 := Try.underlying9
 a9 := Try.isAgg9
 z9 := Try.sizeOf9
 v9 := Try.zeroValue9
 t37 := Try.underlying50
 a37 := Try.isAgg50
 z37 := Try.sizeOf50
 v37 := Try.zeroValue50
 t127 := Try.underlying146
 a127 := Try.isAgg146
 z127 := Try.sizeOf146
 v127 := Try.zeroValue146
 t5 := Try.underlying5
 a5 := Try.isAgg5
 z5 := Try.sizeOf5
 v5 := Try.zeroValue5
 i0 := by kernel_rfl
 i3 := by kernel_rfl
 i4 := by kernel_rfl
 i5 := by kernel_rfl
 i9 := by kernel_rfl
 i37 := by kernel_rfl
 i127 := by kernel_rfl }
open Go.RowKit in
theorem Try.stringslite_Clone (s : ByteArray) (w : World) (hlim : s.size ≤ 281474976710656) :
 Calls Try.prog 111 #[.string s] w fun e w' => e = .returned (.string s) ∧ Below w.heap.size w w' := Any.stringslite_Clone Try.laysM316 s w hlim
def Try.lays99_ren : Go.Shelf.Ren := ⟨fun | 99 => 105 | 206 => 114 | n => n, fun | 9 => 9 | 4 => 4 | 3 => 3 | n => n, fun | n => n⟩
theorem Try.lays99 : Go.Proofs.Lays.n99 Try.prog Try.lays99_ren := {
 mixed := by kernel_rfl
 f99 := Try.func105.trans (congrArg some (by kernel_rfl))
 f206 := Try.func114.trans (congrArg some (by kernel_rfl))
 t3 := Try.underlying3
 a3 := Try.isAgg3
 z3 := Try.sizeOf3
 v3 := Try.zeroValue3
 t4 := Try.underlying4
 a4 := Try.isAgg4
 z4 := Try.sizeOf4
 v4 := Try.zeroValue4
 t9 := Try.underlying9
 a9 := Try.isAgg9
 z9 := Try.sizeOf9
 v9 := Try.zeroValue9 }
open Go.RowKit Go.Lib in
theorem Try.strings_HasPrefix (s p : ByteArray) (w : World) :
 Calls Try.prog 105 #[.string s, .string p] w fun e w' => e = .returned (.bool (Lib.hasPrefix s.data.toList p.data.toList)) ∧ w' = w := Any.strings_HasPrefix Try.lays99 s p w
end Go.Proofs
namespace Go.Proofs.Ytchceolbbkhnnaa
section
open Go.RowKit Rn
def cnt (l : List UInt8) : Int := match rd l with | some cs => cs.length | none => 0
def er (l : List UInt8) : Int := match rd l with | some _ => 0 | none => 10
theorem cnt_some {l : List UInt8} {cs : List Nat} (h : rd l = some cs) : cnt l = cs.length := by unfold cnt; rw [h]
theorem er_some {l : List UInt8} {cs : List Nat} (h : rd l = some cs) : er l = 0 := by unfold er; rw [h]
theorem cnt_none {l : List UInt8} (h : rd l = none) : cnt l = 0 := by unfold cnt; rw [h]
theorem er_none {l : List UInt8} (h : rd l = none) : er l = 10 := by unfold er; rw [h]
theorem rd_long {l r : List UInt8} {done : List Nat} (hd : allOk done) (hn : done.length = 20000) (hl : l = txt done ++ r) (hr : r ≠ []) : rd l = none := by
 unfold rd; rw [hl, runes_append done hd]; cases h : runes r with
 | none => rfl
 | some cs =>
   have : cs ≠ [] := by
    rintro rfl; exact hr (runes_some h).2
   have h1 : 1 ≤ cs.length := by
    cases cs with
    | nil => exact absurd rfl this
    | cons _ _ => simp
   simp [hn]; omega
theorem rd_bad {l r : List UInt8} {done : List Nat} (hd : allOk done) (hl : l = txt done ++ r) (hr : r ≠ []) (hb : dec r = (65533, 1)) : rd l = none := by
 unfold rd; rw [hl, runes_append done hd, runes_bad r hr hb]; rfl
theorem rd_done {l : List UInt8} {done : List Nat} (hd : allOk done) (hn : done.length ≤ 20000) (hl : l = txt done) : rd l = some done := by
 rw [hl]; exact rd_txt done hd hn
theorem drop_ne {s : ByteArray} {pos : Nat} (h : pos < s.size) : s.data.toList.drop pos ≠ [] := by
 intro e; have := congrArg List.length e; simp at this; have h2 : s.data.size = s.size := rfl; omega
theorem step_good {s : ByteArray} {pos : Nat} {done : List Nat} (h : s.data.toList = txt done ++ s.data.toList.drop pos) (hd : allOk done) (hlt : pos < s.size) (hb : dec (s.data.toList.drop pos) ≠ (65533, 1)) :
 s.data.toList = txt (done ++ [(dec (s.data.toList.drop pos)).1]) ++ s.data.toList.drop (pos + (dec (s.data.toList.drop pos)).2) ∧ allOk (done ++ [(dec (s.data.toList.drop pos)).1]) := by
 rcases dec_cases _ (drop_ne hlt) with hb' | ⟨h1, _, h3⟩
 ·exact absurd hb' hb
 ·refine ⟨?_, fun c hc => ?_⟩
  ·have e1 : txt [(dec (s.data.toList.drop pos)).1] = enc (dec (s.data.toList.drop pos)).1 := by simp [txt]
   rw [txt_append, e1, ← List.drop_drop, List.append_assoc, ← h3]; exact h
  ·rcases List.mem_append.1 hc with hc | hc
   ·exact hd c hc
   ·rw [List.mem_singleton] at hc; subst hc; exact h1
theorem take_all (s : ByteArray) (pos : Nat) : List.take (s.size - pos) (List.drop pos s.data.toList) = List.drop pos s.data.toList :=
 List.take_of_length_le (by simp)
set_option maxHeartbeats 400000 in
theorem count_any (s : ByteArray) (w : World) (hs : s.size ≤ maxLen) :
 Calls Try.prog 87 #[.string s] w fun e w' => e = .returned (.tuple #[.int .i64 (cnt s.data.toList), .int .i64 (er s.data.toList)]) ∧ Below w.heap.size w w' := by
 unfold maxLen at hs; go_enter Try.func87, Try.ntmps87
 go_wp2
 go_loopw [4] (fun n wr => ∃ (done : List Nat) (pos : Nat), n = .int .i64 (done.length : Int) ∧ allOk done ∧ done.length ≤ 20000 ∧ s.data.toList = txt done ++ s.data.toList.drop pos ∧ pos ≤ s.size ∧ wr.heap[w.heap.size]? = some (.stringIter s pos) ∧ Below w.heap.size w wr) (fun _ wr => s.size - wr.iterPos w.heap.size)
 case atStart =>
  refine ⟨[], 0, rfl, fun _ h => (by cases h), by simp, by simp [txt_nil], by omega, World.iter_heap w s 0, (Below.refl _ w).alloc (Nat.le_refl _) _⟩
 case round =>
  obtain ⟨done, pos, rfl, hok, hn, hl, hp, hit, hbw⟩ := hrel
  by_cases hlt : pos < s.size
  ·have hnx : ∀ ty, (Instr.next (.pointer (some ⟨w.heap.size, 0, none⟩)) true ty).run Try.prog wr = _ := fun ty => Lib.run_next_any_at wr w.heap.size s pos ty hit hlt
   have hne := drop_ne hlt; have hde := decode_eq s pos; have hwd : (Utf8.decode s pos).2 ≤ s.size - pos ∧ 1 ≤ (Utf8.decode s pos).2 := by
    rw [hde]; rcases dec_cases _ hne with hb | ⟨_, h2, h3⟩
    ·rw [hb]; simp; omega
    ·have := congrArg List.length h3
     rw [List.length_append, ← h2] at this; simp only [List.length_drop, Array.length_toList] at this; have h2' := enc_pos (dec (s.data.toList.drop pos)).1; have hsz : s.data.size = s.size := rfl; omega
   have H : Hid (Utf8.decode s pos = dec (s.data.toList.drop pos)) := hde; clear hde; have H2 : Hid (s.data.toList = txt done ++ s.data.toList.drop pos) := hl; clear hl; go_wp2_with (first | (go_at_call 105; refine (Try.strings_HasPrefix _ _ _).mono ?_; rintro e w' ⟨rfl, rfl⟩))
   ·have h20 : (done.length : Int) = 20000 := by assumption
    go_ret2
    have e := rd_long hok (by omega) H2.out hne; rw [cnt_none e, er_none e]; exact ⟨rfl, hbw.trans (Lib.below_iterAt (Below.refl _ _) (Nat.le_refl _) _ _)⟩
   ·have hr : ((Utf8.decode s pos).1 : Int) = 65533 := by assumption
    have hq : ((done.length : Int) == 20000) = true ∨ (!Lib.hasPrefix (List.take (s.size - pos) (List.drop pos s.data.toList)) [239, 191, 189]) = true := by assumption
    go_ret2
    have hq2 : Lib.hasPrefix (List.drop pos s.data.toList) [239, 191, 189] = false := by
     rw [take_all] at hq; rcases hq with hq | hq
     ·exact absurd (by simpa using hq) (by assumption)
     ·simpa using hq
    have e := rd_bad hok H2.out hne ((bad_iff _ hne).2 ⟨by rw [← H.out]; omega, hq2⟩); rw [cnt_none e, er_none e]; exact ⟨rfl, hbw.trans (Lib.below_iterAt (Below.refl _ _) (Nat.le_refl _) _ _)⟩
   ·have hq : ((done.length : Int) == 20000) = false ∧ (!Lib.hasPrefix (List.take (s.size - pos) (List.drop pos s.data.toList)) [239, 191, 189]) = false := by assumption
    have hnb : dec (s.data.toList.drop pos) ≠ (65533, 1) := by
     intro hb; have := ((bad_iff _ hne).1 hb).2; rw [take_all] at hq; have q2 : Lib.hasPrefix (List.drop pos s.data.toList) [239, 191, 189] = true := by simpa using hq.2
     unfold Lib.hasPrefix at q2; rw [this] at q2; cases q2
    have hg := step_good H2.out hok hlt hnb; rw [← H.out] at hg; go_roundw
    case rel => exact ⟨_, _, by simp, hg.2, by simp; omega, hg.1, by omega, Lib.iterAt_heap _ _ _ _ _ hit, Lib.below_iterAt hbw (Nat.le_refl _) _ _⟩
    case measure => simp only [World.iterPos, Lib.iterAt_heap _ _ _ _ _ hit, hit]; omega
   ·have hr : ¬ ((Utf8.decode s pos).1 : Int) = 65533 := by assumption
    have hnb : dec (s.data.toList.drop pos) ≠ (65533, 1) := by
     intro hb; rw [H.out, hb] at hr; exact hr rfl
    have hg := step_good H2.out hok hlt hnb; rw [← H.out] at hg; go_roundw
    case rel => exact ⟨_, _, by simp, hg.2, by simp; omega, hg.1, by omega, Lib.iterAt_heap _ _ _ _ _ hit, Lib.below_iterAt hbw (Nat.le_refl _) _ _⟩
    case measure => simp only [World.iterPos, Lib.iterAt_heap _ _ _ _ _ hit, hit]; omega
  ·have hnx : ∀ ty, (Instr.next (.pointer (some ⟨w.heap.size, 0, none⟩)) true ty).run Try.prog wr = _ := fun ty => Lib.run_next_end_at wr w.heap.size s pos ty hit hlt
   have hend : rd s.data.toList = some done := rd_done hok hn (by
    rw [List.drop_eq_nil_of_le (by simp; have : s.data.size = s.size := rfl; omega), List.append_nil] at hl; exact hl)
   have H := Lib.hid hend; clear hend hl; go_wp2_with fail
   go_ret2
   rw [cnt_some H.out, er_some H.out]; exact ⟨rfl, hbw⟩
end
section
open Go.RowKit At
open Lib (hid)
def okc (n : Nat) : Bool := decide (65 ≤ n ∧ n ≤ 90 ∨ 97 ≤ n ∧ n ≤ 122 ∨ 48 ≤ n ∧ n ≤ 57 ∨ n = 45 ∨ n = 95)
def okv (n : Nat) : Bool := decide (32 ≤ n ∧ n ≤ 126)
def allC (q : Nat → Bool) (s : ByteArray) : Prop := ∀ k (h : k < s.size), q (s[k].toNat) = true
instance (q : Nat → Bool) (s : ByteArray) : Decidable (allC q s) := inferInstanceAs (Decidable (∀ k (_h : k < s.size), _))
def keyB (s : ByteArray) : Bool := decide (allC okc s ∧ 1 ≤ s.size ∧ s.size ≤ 32)
def valB (s : ByteArray) : Bool := decide (allC okv s ∧ s.size ≤ 64)
theorem keyB_bad {s : ByteArray} {k : Nat} (hk : k < s.size) (h : okc (s[k].toNat) = false) : keyB s = false :=
 decide_eq_false fun hh => by
  have := hh.1 k hk; rw [h] at this; cases this
theorem valB_bad {s : ByteArray} {k : Nat} (hk : k < s.size) (h : okv (s[k].toNat) = false) : valB s = false :=
 decide_eq_false fun hh => by
  have := hh.1 k hk; rw [h] at this; cases this
set_option maxHeartbeats 4000000 in
theorem key_any (s : ByteArray) (w : World) (hs : s.size ≤ maxLen) : Calls Try.prog 89 #[.string s] w fun e w' => e = .returned (.bool (keyB s)) ∧ w' = w := by
 have hs' : s.size ≤ 9223372036854775807 := hs; go_enter Try.func89, Try.ntmps89
 go_wp2_with fail
 go_loopw [3, 4] (fun i _ wr => ∃ k : Nat, i = .int .i64 (k : Int) ∧ k ≤ s.size ∧ (∀ j (h : j < s.size), j < k → okc (s[j].toNat) = true) ∧ wr = w) (fun i _ _ => s.size - (intOf i).toNat)
 case atStart => exact ⟨0, rfl, by omega, fun j _ h => by omega, rfl⟩
 case round =>
  obtain ⟨k, rfl, hk, hall, rfl⟩ := hrel; have Hall := hid hall; clear hall
  by_cases hlt : k < s.size
  ·have hlt' : (k : Int) < (s.size : Int) := by omega
   have step : okc (s[k].toNat) = true → ∀ j (h : j < s.size), j < k + 1 → okc (s[j].toNat) = true := fun h0 j hj hjk => by
    by_cases e : j = k
    ·subst e; exact h0
    ·exact Hall.out j hj (by omega)
   have Step := hid step; have Bad := hid (fun h => keyB_bad (s := s) hlt h); clear step; go_wp2_with fail
   all_goals
    first
     | (refine ⟨⟨k + 1, by go_num, by omega, Step.out ?_, by trivial⟩, by simp [intOf]; omega⟩
        clear Hall Step Bad; unfold okc; rw [decide_eq_true_iff]; generalize s[k].toNat = c at *; simp at *; omega)
     | (go_ret
        refine ⟨(congrArg (fun b => Ending.returned (Value.bool b)) (Bad.out ?_).symm : Ending.returned (.bool false) = _), by trivial⟩; clear Hall Step Bad; unfold okc; rw [decide_eq_false_iff_not]; generalize s[k].toNat = c at *; simp at *; omega)
     | skip
  ·have hkn : k = s.size := by omega
   subst hkn; have hd : keyB s = decide (1 ≤ s.size ∧ s.size ≤ 32) := by
    unfold keyB
    congr 1
    exact propext ⟨fun h => h.2, fun h => ⟨fun j hj => Hall.out j hj hj, h⟩⟩
   have Hd := hid hd; clear hd
   by_cases h1 : 1 ≤ s.size
   ·have h1' : (1 : Int) ≤ (s.size : Int) := by omega
    have hd2 : (decide ((s.size : Int) ≤ 32)) = keyB s := by
     rw [Hd.out]
     by_cases h2 : s.size ≤ 32
     ·rw [decide_eq_true (show (s.size : Int) ≤ 32 by omega), decide_eq_true ⟨h1, h2⟩]
     ·rw [decide_eq_false (show ¬ (s.size : Int) ≤ 32 by omega), decide_eq_false fun h => h2 h.2]
    have Hd2 := hid hd2; clear hd2; go_wp2_with fail
    go_ret
    exact ⟨congrArg (fun b => Ending.returned (Value.bool b)) Hd2.out, rfl⟩
   ·have hz : s.size = 0 := by omega
    have hd2 : false = keyB s := by
     rw [Hd.out, decide_eq_false fun h => h1 h.1]
    have Hd2 := hid hd2; clear hd2; have h1' : decide ((1 : Int) ≤ (s.size : Int)) = false := by rw [hz]; rfl
    clear hz; go_wp2_with fail
    go_ret
    exact ⟨congrArg (fun b => Ending.returned (Value.bool b)) Hd2.out, rfl⟩
set_option maxHeartbeats 4000000 in
theorem value_any (s : ByteArray) (w : World) (hs : s.size ≤ maxLen) : Calls Try.prog 90 #[.string s] w fun e w' => e = .returned (.bool (valB s)) ∧ w' = w := by
 have hs' : s.size ≤ 9223372036854775807 := hs; go_enter Try.func90, Try.ntmps90
 go_wp2_with fail
 go_loopw [3] (fun i wr => ∃ k : Nat, i = .int .i64 (k : Int) ∧ k ≤ s.size ∧ (∀ j (h : j < s.size), j < k → okv (s[j].toNat) = true) ∧ wr = w) (fun i _ => s.size - (intOf i).toNat)
 case atStart => exact ⟨0, rfl, by omega, fun j _ h => by omega, rfl⟩
 case round =>
  obtain ⟨k, rfl, hk, hall, rfl⟩ := hrel; have Hall := hid hall; clear hall
  by_cases hlt : k < s.size
  ·have hlt' : (k : Int) < (s.size : Int) := by omega
   have step : okv (s[k].toNat) = true → ∀ j (h : j < s.size), j < k + 1 → okv (s[j].toNat) = true := fun h0 j hj hjk => by
    by_cases e : j = k
    ·subst e; exact h0
    ·exact Hall.out j hj (by omega)
   have Step := hid step; have Bad := hid (fun h => valB_bad (s := s) hlt h); clear step; go_wp2_with fail
   all_goals
    first
     | (refine ⟨⟨k + 1, by go_num, by omega, Step.out ?_, by trivial⟩, by simp [intOf]; omega⟩
        clear Hall Step Bad; unfold okv; rw [decide_eq_true_iff]; generalize s[k].toNat = c at *; simp at *; omega)
     | (go_ret
        refine ⟨(congrArg (fun b => Ending.returned (Value.bool b)) (Bad.out ?_).symm : Ending.returned (.bool false) = _), by trivial⟩; clear Hall Step Bad; unfold okv; rw [decide_eq_false_iff_not]; generalize s[k].toNat = c at *; simp at *; omega)
     | skip
  ·have hkn : k = s.size := by omega
   subst hkn; have hd : decide ((s.size : Int) ≤ 64) = valB s := by
    unfold valB
    by_cases h2 : s.size ≤ 64
    ·rw [decide_eq_true (show (s.size : Int) ≤ 64 by omega), decide_eq_true ⟨fun j hj => Hall.out j hj hj, h2⟩]
    ·rw [decide_eq_false (show ¬ (s.size : Int) ≤ 64 by omega), decide_eq_false fun h => h2 h.2]
   have Hd := hid hd; clear hd; go_wp2_with fail
   go_ret
   exact ⟨congrArg (fun b => Ending.returned (Value.bool b)) Hd.out, rfl⟩
end
section
open Go.RowKit
def AtRow (w : World) (v : Value) (l : List (ByteArray × ByteArray)) : Prop :=
 ∃ a cap, v = .slice a l.length cap ∧ l.length ≤ cap ∧ cap ≤ maxLen ∧ ∀ i (h : i < l.length), ∃ b off, a = some ⟨b, off, none⟩ ∧ b < w.heap.size ∧ w.cell? ⟨b, off + i * 2, none⟩ = some (.string l[i].1) ∧ w.cell? ⟨b, off + i * 2 + 1, none⟩ = some (.string l[i].2)
theorem AtRow.below {w w' : World} {v : Value} {l : List (ByteArray × ByteArray)} (h : AtRow w v l) (hb : Below w.heap.size w w') : AtRow w' v l := by
 obtain ⟨a, cap, rfl, h1, h2, h3⟩ := h; refine ⟨a, cap, rfl, h1, h2, fun i hi => ?_⟩; obtain ⟨b, off, rfl, hlt, hc, hd⟩ := h3 i hi; exact ⟨b, off, rfl, Nat.lt_of_lt_of_le hlt hb.size, by rw [hb.cell (by exact hlt)]; exact hc, by rw [hb.cell (by exact hlt)]; exact hd⟩
theorem look_step (l : List (ByteArray × ByteArray)) (k : ByteArray) (i : Nat) (hi : i < l.length) (h : ∀ j (hj : j < l.length), j < i → l[j].1 ≠ k) (he : l[i].1 = k) : At.look l k = some l[i].2 := by
 induction l generalizing i with
 | nil => simp at hi
 | cons x r ih =>
   cases i with
   | zero => rw [At.look, if_pos (show x.1 = k from he)]; rfl
   | succ i =>
     have h0 := h 0 (by simp) (by omega); rw [At.look, if_neg (show ¬ x.1 = k from h0)]; exact ih i (by simpa using hi) (fun j hj hji => h (j + 1) (by simpa using hj) (by omega)) he
theorem look_all (l : List (ByteArray × ByteArray)) (k : ByteArray) (h : ∀ j (hj : j < l.length), l[j].1 ≠ k) : At.look l k = none :=
 At.look_none fun x hx => by
  obtain ⟨j, hj, rfl⟩ := List.getElem_of_mem hx; exact h j hj
theorem toList_ba {a b : ByteArray} (h : a.toList = b.toList) : a = b := by
 rw [ByteArray.toList_eq, ByteArray.toList_eq] at h; cases a; cases b; simp_all
def chgOne (l : List (ByteArray × ByteArray)) (i : Nat) (h : i < l.length) : Bool := keyB l[i].1 && valB l[i].2 && (if h0 : 0 < i then Op.bytesLess (l[i - 1]'(by omega)).1.toList l[i].1.toList else true)
def chgB (l : List (ByteArray × ByteArray)) : Bool := decide (l.length ≤ 8 ∧ ∀ i (h : i < l.length), chgOne l i h = true)
def chgE (l : List (ByteArray × ByteArray)) : Int := if chgB l = true then 0 else 20
theorem chgE_bad {l : List (ByteArray × ByteArray)} {i : Nat} (h : i < l.length) (hb : chgOne l i h = false) : chgE l = 20 := by
 have : chgB l = false := decide_eq_false fun hh => by
  have := hh.2 i h; rw [hb] at this; cases this
 unfold chgE; rw [this]; rfl
theorem chgE_long {l : List (ByteArray × ByteArray)} (h : 8 < l.length) : chgE l = 20 := by
 have : chgB l = false := decide_eq_false fun hh => by have := hh.1; omega
 unfold chgE; rw [this]; rfl
theorem chgE_ok {l : List (ByteArray × ByteArray)} (h : l.length ≤ 8) (hh : ∀ i (h : i < l.length), chgOne l i h = true) : chgE l = 0 := by
 have : chgB l = true := decide_eq_true ⟨h, hh⟩; unfold chgE; rw [this]; rfl
theorem less_not : ∀ x y : List UInt8, (Op.bytesLess x y || x == y) = !(Op.bytesLess y x)
 | [], [] => rfl
 | [], _ :: _ => rfl
 | _ :: _, [] => rfl
 | a :: x, b :: y => by
   have ih := less_not x y; rw [Op.bytesLess, Op.bytesLess]
   by_cases hab : a = b
   ·subst hab
    simp only [UInt8.lt_irrefl, decide_false, Bool.false_or, beq_self_eq_true, Bool.true_and]; rw [← ih]; simp
   ·have hba : ¬ b = a := fun e => hab e.symm
    have h1 : ((a :: x) == (b :: y)) = false := by simp [hab]
    have h2 : (a == b) = false := by simp [hab]
    have h3 : (b == a) = false := by simp [hba]
    rw [h1, h2, h3]; simp only [Bool.false_and, Bool.or_false]; rcases Nat.lt_trichotomy a.toNat b.toNat with h | h | h
    ·rw [decide_eq_true (show a < b from h), decide_eq_false (show ¬ b < a from fun h' => absurd (show b.toNat < a.toNat from h') (by omega))]; rfl
    ·exact absurd (UInt8.toNat_inj.1 h) hab
    ·rw [decide_eq_false (show ¬ a < b from fun h' => absurd (show a.toNat < b.toNat from h') (by omega)), decide_eq_true (show b < a from h)]; rfl
theorem leq_not (a b : ByteArray) : (Op.bytesLess a.toList b.toList || a.toList == b.toList) = !(Op.bytesLess b.toList a.toList) := less_not _ _
end
section
open Go.RowKit
open Lib (hid)
theorem ext_le {l m : List (ByteArray × ByteArray)} (hl : l.length = m.length) (h : ∀ j (h1 : j < l.length) (h2 : j < m.length), l[j] = m[j]) : l = m :=
 List.ext_getElem hl h
def sameB (l m : List (ByteArray × ByteArray)) : Bool := decide (l = m)
theorem sameB_len {l m : List (ByteArray × ByteArray)} (h : l.length ≠ m.length) : sameB l m = false := decide_eq_false fun e => h (by rw [e])
theorem sameB_at {l m : List (ByteArray × ByteArray)} {n : Nat} (h1 : n < l.length) (h2 : n < m.length) (h : l[n] ≠ m[n]) : sameB l m = false := decide_eq_false fun e => by
 subst e; exact h rfl
theorem sameB_all {l m : List (ByteArray × ByteArray)} (hl : l.length = m.length) (h : ∀ j (h1 : j < l.length) (h2 : j < m.length), l[j] = m[j]) : sameB l m = true := decide_eq_true (ext_le hl h)
set_option maxHeartbeats 2000000 in
theorem refSame_any (v u : Value) (l m : List (ByteArray × ByteArray)) (w : World) (hv : AtRow w v l) (hu : AtRow w u m) :
 Calls Try.prog 35 #[v, u] w fun e w' => e = .returned (.bool (sameB l m)) ∧ ∃ k, w' = w.drewN k := by
 obtain ⟨a, cap, rfl, h1, h2, h3⟩ := hv; obtain ⟨a', cap', rfl, h1', h2', h3'⟩ := hu; have hn : l.length ≤ 9223372036854775807 := Nat.le_trans h1 h2; have hn' : m.length ≤ 9223372036854775807 := Nat.le_trans h1' h2'; have H3 := hid h3; have H3' := hid h3'; clear h3 h3'
 by_cases hlen : l.length = m.length
 ·have Hlen := hid hlen
  have hle2 : ((l.length : Int) == (m.length : Int)) = true := by rw [hlen]; simp
  have hle3 : ((l.length : Int) != (m.length : Int)) = false := by rw [hlen]; simp
  clear hlen; go_enter Try.func35, Try.ntmps35
  go_wp2_with fail
  go_loopw [5] (fun i wr => ∃ n k : Nat, i = .int .i64 (n : Int) ∧ n ≤ l.length ∧ (∀ j (h1 : j < l.length) (h2 : j < m.length), j < n → l[j] = m[j]) ∧ wr = w.drewN k) (fun i _ => l.length - (intOf i).toNat)
  case atStart => exact ⟨0, 0, rfl, by omega, fun j _ _ h => by omega, rfl⟩
  case round =>
   obtain ⟨n, k, rfl, hk, hall, rfl⟩ := hrel; have Hall := hid hall; clear hall
   by_cases hlt : n < l.length
   ·have hlt2 : n < m.length := by have := Hlen.out; omega
    have hlt' : (n : Int) < (l.length : Int) := by omega
    have hlt2' : (n : Int) < (m.length : Int) := by omega
    obtain ⟨b, off, rfl, _, x1, z1⟩ := H3.out n hlt; obtain ⟨b', off', rfl, _, x2, z2⟩ := H3'.out n hlt2
    by_cases hk1 : l[n].1 = m[n].1
    ·by_cases hk2 : l[n].2 = m[n].2
     ·have step : ∀ j (h1 : j < l.length) (h2 : j < m.length), j < n + 1 → l[j] = m[j] := fun j hj1 hj2 hjk => by
       by_cases e : j = n
       ·subst e; exact Prod.ext hk1 hk2
       ·exact Hall.out j hj1 hj2 (by omega)
      have Step := hid step; have t1 : (l[n].1.toList == m[n].1.toList) = true := by rw [hk1]; simp
      have t2 : (l[n].2.toList == m[n].2.toList) = true := by rw [hk2]; simp
      clear step Hall hk1 hk2; go_wp2_with fail
      go_quiet (fail)
      go_wp2_with fail
      go_roundw
      case rel => exact ⟨n + 1, _, by go_num, by omega, Step.out, rfl⟩
      case measure => simp [intOf]; omega
     ·have hs := hid (sameB_at hlt hlt2 fun e => hk2 (congrArg Prod.snd e))
      have t1 : (l[n].1.toList == m[n].1.toList) = true := by rw [hk1]; simp
      have t2 : (l[n].2.toList == m[n].2.toList) = false := by rw [beq_eq_false_iff_ne]; exact fun e => hk2 (toList_ba e)
      clear Hall hk1 hk2; go_wp2_with fail
      go_quiet (fail)
      go_wp2_with fail
      go_ret
      rw [hs.out]; exact ⟨rfl, k + nq, by rw [World.drewN_drewN]⟩
    ·have hs := hid (sameB_at hlt hlt2 fun e => hk1 (congrArg Prod.fst e))
     have t1 : (l[n].1.toList == m[n].1.toList) = false := by rw [beq_eq_false_iff_ne]; exact fun e => hk1 (toList_ba e)
     clear Hall hk1; go_wp2_with fail
     go_quiet (fail)
     go_wp2_with fail
     go_ret
     rw [hs.out]; exact ⟨rfl, k + nq, by rw [World.drewN_drewN]⟩
   ·have hkn : n = l.length := by omega
    have hs := hid (sameB_all Hlen.out fun j h1 h2 => Hall.out j h1 h2 (by omega)); subst hkn; clear Hall; go_wp2_with fail
    go_ret
    rw [hs.out]; exact ⟨rfl, k, rfl⟩
 ·have hs := hid (sameB_len hlen)
  have hle2 : ((l.length : Int) == (m.length : Int)) = false := by rw [beq_eq_false_iff_ne]; omega
  have hle3 : ((l.length : Int) != (m.length : Int)) = true := by rw [bne_iff_ne]; omega
  clear hlen; go_enter Try.func35, Try.ntmps35
  go_wp2_with fail
  go_ret
  rw [hs.out]; exact ⟨rfl, 0, rfl⟩
end
section
open Go.RowKit
open Lib (hid)
set_option maxHeartbeats 2000000 in
theorem change_any (v : Value) (l : List (ByteArray × ByteArray)) (w : World) (h : AtRow w v l) (hsz : ∀ x ∈ l, x.1.size ≤ maxLen ∧ x.2.size ≤ maxLen) :
 Calls Try.prog 66 #[v] w fun e w' => e = .returned (.int .i64 (chgE l)) ∧ ∃ m, w' = w.drewN m := by
 obtain ⟨a, cap, rfl, h1, h2, h3⟩ := h; have hn : l.length ≤ 9223372036854775807 := Nat.le_trans h1 h2; have H3 := hid h3; have Hsz := hid hsz; clear h3 hsz; go_enter Try.func66, Try.ntmps66
 by_cases h8 : 8 < l.length
 ·have h8' : (8 : Int) < (l.length : Int) := by omega
  have HE := hid (chgE_long h8); go_wp2_with fail
  go_ret
  rw [HE.out]; exact ⟨rfl, 0, rfl⟩
 ·have h8' : decide ((8 : Int) < (l.length : Int)) = false := by simp; omega
  have h8'' : decide (8 < l.length) = false := by simp; omega
  go_wp2_with fail
  go_loopw [3, 4, 5] (fun i _ _ wr => ∃ n m : Nat, i = .int .i64 (n : Int) ∧ n ≤ l.length ∧ (∀ j (h : j < l.length), j < n → chgOne l j h = true) ∧ wr = w.drewN m) (fun i _ _ _ => l.length - (intOf i).toNat)
  case atStart => exact ⟨0, 0, rfl, by omega, fun j _ h => by omega, rfl⟩
  case round =>
   obtain ⟨n, m, rfl, hk, hall, rfl⟩ := hrel; have Hall := hid hall; clear hall
   by_cases hlt : n < l.length
   ·have hlt' : (n : Int) < (l.length : Int) := by omega
    obtain ⟨b, off, rfl, _, x1, z1⟩ := H3.out n hlt; obtain ⟨y1, y2⟩ := Hsz.out _ (List.getElem_mem hlt); have step : chgOne l n hlt = true → ∀ j (h : j < l.length), j < n + 1 → chgOne l j h = true := fun h0 j hj hjk => by
     by_cases e : j = n
     ·subst e; exact h0
     ·exact Hall.out j hj (by omega)
    have Step := hid step; have Bad := hid (fun h => chgE_bad hlt h); clear step Hall; go_wp2_with (go_at_call 89; refine (key_any _ _ y1).mono ?_)
    rintro e w1 ⟨rfl, rfl⟩; go_wp2_with (go_at_call 90; refine (value_any _ _ y2).mono ?_)
    rintro e w1 ⟨rfl, rfl⟩; cases hkb : keyB l[n].1 with
    | false =>
      have hb := hid (Bad.out (by unfold chgOne; rw [hkb]; rfl)); clear Step Bad; go_wp2_with fail
      go_quiet (fail)
      go_wp2_with fail
      go_ret
      rw [hb.out]; exact ⟨rfl, m + nq, by rw [World.drewN_drewN]⟩
    | true =>
      cases hvb : valB l[n].2 with
      | false =>
        have hb := hid (Bad.out (by unfold chgOne; rw [hkb, hvb]; rfl)); clear Step Bad; go_wp2_with fail
        go_quiet (fail)
        go_wp2_with fail
        go_ret
        rw [hb.out]; exact ⟨rfl, m + nq, by rw [World.drewN_drewN]⟩
      | true =>
        by_cases h0 : 0 < n
        ·have h0' : (0 : Int) < (n : Int) := by omega
         have hn1 : 0 ≤ (n : Int) - 1 := by omega
         have hn2 : (n : Int) - 1 < (l.length : Int) := by omega
         obtain ⟨b', off', hbo, _, x2, _⟩ := H3.out (n - 1) (by omega); simp only [Option.some.injEq, Addr.mk.injEq, and_true] at hbo; obtain ⟨rfl, rfl⟩ := hbo; cases ht : Op.bytesLess (l[n - 1]'(by omega)).1.toList l[n].1.toList with
         | true =>
           have hs := hid (Step.out (by unfold chgOne; rw [hkb, hvb, dif_pos h0, ht]; rfl)); have hle : (Op.bytesLess l[n].1.toList (l[n - 1]'(by omega)).1.toList || l[n].1.toList == (l[n - 1]'(by omega)).1.toList) = false := by rw [leq_not, ht]; rfl
           clear Step Bad; go_wp2_with fail
           go_quiet (fail)
           go_wp2_with fail
           go_roundw
           case rel => exact ⟨n + 1, _, by go_num, by omega, hs.out, rfl⟩
           case measure => simp [intOf]; omega
         | false =>
           have hb := hid (Bad.out (by unfold chgOne; rw [hkb, hvb, dif_pos h0, ht]; rfl)); have hle : (Op.bytesLess l[n].1.toList (l[n - 1]'(by omega)).1.toList || l[n].1.toList == (l[n - 1]'(by omega)).1.toList) = true := by rw [leq_not, ht]; rfl
           clear Step Bad; go_wp2_with fail
           go_quiet (fail)
           go_wp2_with fail
           go_ret
           rw [hb.out]; exact ⟨rfl, m + nq, by rw [World.drewN_drewN]⟩
        ·have h0' : decide ((0 : Int) < (n : Int)) = false := by simp; omega
         have h0'' : decide (0 < n) = false := by simp; omega
         have hs := hid (Step.out (by unfold chgOne; rw [hkb, hvb, dif_neg h0]; rfl)); clear Step Bad; go_wp2_with fail
         go_quiet (fail)
         go_wp2_with fail
         go_roundw
         case rel => exact ⟨n + 1, _, by go_num, by omega, hs.out, rfl⟩
         case measure => simp [intOf]; omega
   ·have hkn : n = l.length := by omega
    subst hkn; have HE := hid (chgE_ok (by omega) fun j hj => Hall.out j hj hj); clear Hall; go_wp2_with fail
    go_ret
    rw [HE.out]; exact ⟨rfl, _, rfl⟩
end
end Go.Proofs.Ytchceolbbkhnnaa
