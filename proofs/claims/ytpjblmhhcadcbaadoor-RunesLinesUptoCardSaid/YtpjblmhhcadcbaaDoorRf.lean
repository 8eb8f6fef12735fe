/- Plain lists: decoding by hand, as the document's own answer does it, is the model's decoding. -/
import Derived.Test.YtpjblmhhcadcbaaDoorRn
namespace Go.Proofs.YtpjblmhhcadcbaaDoor
namespace Rn

/-- What the first byte says: how many follow, the least rune, the first bits. -/
def cls (b : Nat) : Option (Nat × Nat × Nat) :=
  if b < 128 then some (0, 0, b) else if b < 192 then none else if b < 224 then some (1, 128, b - 192) else if b < 240 then some (2, 2048, b - 224) else if b < 248 then some (3, 65536, b - 240) else none
/-- The rune's bits behind j bytes that follow. -/
def acc (c : Nat) (l : List UInt8) : Nat → Nat
  | 0 => c
  | j + 1 => acc c l j * 64 + (l.getD (j + 1) 0).toNat - 128
theorem acc_zero (c : Nat) (l : List UInt8) : acc c l 0 = c := rfl
theorem acc_succ (c : Nat) (l : List UInt8) (j : Nat) : acc c l (j + 1) = acc c l j * 64 + (l.getD (j + 1) 0).toNat - 128 := rfl
theorem acc_one (c : Nat) (l : List UInt8) : acc c l 1 = c * 64 + (l.getD 1 0).toNat - 128 := by
  have h := acc_succ c l 0
  rw [acc_zero] at h
  exact h
theorem acc_two (c : Nat) (l : List UInt8) : acc c l 2 = (c * 64 + (l.getD 1 0).toNat - 128) * 64 + (l.getD 2 0).toNat - 128 := by
  have h := acc_succ c l 1
  rw [acc_one] at h
  exact h
theorem acc_three (c : Nat) (l : List UInt8) : acc c l 3 = ((c * 64 + (l.getD 1 0).toNat - 128) * 64 + (l.getD 2 0).toNat - 128) * 64 + (l.getD 3 0).toNat - 128 := by
  have h := acc_succ c l 2
  rw [acc_two] at h
  exact h
def isCont (b : Nat) : Prop := 128 ≤ b ∧ b ≤ 191
instance (b : Nat) : Decidable (isCont b) := by unfold isCont; infer_instance
theorem cont_iff (b : Nat) : (b / 64 == 2) = decide (isCont b) := by
  unfold isCont
  by_cases h : 128 ≤ b ∧ b ≤ 191
  · rw [decide_eq_true h, beq_iff_eq]; omega
  · rw [decide_eq_false h, beq_eq_false_iff_ne]; omega
theorem cls_some {b n least c : Nat} (h : cls b = some (n, least, c)) :
    (n = 0 ∧ least = 0 ∧ c = b ∧ b < 128) ∨ (n = 1 ∧ least = 128 ∧ 192 ≤ b ∧ b < 224 ∧ c = b - 192) ∨ (n = 2 ∧ least = 2048 ∧ 224 ≤ b ∧ b < 240 ∧ c = b - 224) ∨ (n = 3 ∧ least = 65536 ∧ 240 ≤ b ∧ b < 248 ∧ c = b - 240) := by
  unfold cls at h
  by_cases h1 : b < 128
  · rw [if_pos h1] at h; simp only [Option.some.injEq, Prod.mk.injEq] at h; omega
  rw [if_neg h1] at h
  by_cases h2 : b < 192
  · rw [if_pos h2] at h; cases h
  rw [if_neg h2] at h
  by_cases h3 : b < 224
  · rw [if_pos h3] at h; simp only [Option.some.injEq, Prod.mk.injEq] at h; omega
  rw [if_neg h3] at h
  by_cases h4 : b < 240
  · rw [if_pos h4] at h; simp only [Option.some.injEq, Prod.mk.injEq] at h; omega
  rw [if_neg h4] at h
  by_cases h5 : b < 248
  · rw [if_pos h5] at h; simp only [Option.some.injEq, Prod.mk.injEq] at h; omega
  · rw [if_neg h5] at h; cases h
theorem cls_none {b : Nat} (h : cls b = none) : (128 ≤ b ∧ b < 192) ∨ 248 ≤ b := by
  unfold cls at h
  by_cases h1 : b < 128
  · rw [if_pos h1] at h; cases h
  rw [if_neg h1] at h
  by_cases h2 : b < 192
  · omega
  rw [if_neg h2] at h
  by_cases h3 : b < 224
  · rw [if_pos h3] at h; cases h
  rw [if_neg h3] at h
  by_cases h4 : b < 240
  · rw [if_pos h4] at h; cases h
  rw [if_neg h4] at h
  by_cases h5 : b < 248
  · rw [if_pos h5] at h; cases h
  · omega

theorem dec_none (l : List UInt8) (h : cls (l.getD 0 0).toNat = none) : dec l = (65533, 1) := by
  have hb : (l.getD 0 0).toNat < 256 := UInt8.toNat_lt _
  rcases cls_none h with h | h
  all_goals
    unfold dec decN
    have e1 : ((l.getD 0 0).toNat / 32 == 6) = false := by rw [beq_eq_false_iff_ne]; omega
    have e2 : ((l.getD 0 0).toNat / 16 == 14) = false := by rw [beq_eq_false_iff_ne]; omega
    have e3 : ((l.getD 0 0).toNat / 8 == 30) = false := by rw [beq_eq_false_iff_ne]; omega
    rw [if_neg (by omega), e1, e2, e3]
    rfl

/-- Of a first byte that may be one: the bytes that follow, and the number, decide. -/
def good (l : List UInt8) (n least c : Nat) : Prop := n < l.length ∧ (∀ j, 1 ≤ j → j ≤ n → isCont (l.getD j 0).toNat) ∧ least ≤ acc c l n ∧ ok (acc c l n)
theorem dec_good (l : List UInt8) (n least c : Nat) (h : cls (l.getD 0 0).toNat = some (n, least, c)) (hg : good l n least c) : dec l = (acc c l n, n + 1) := by
  obtain ⟨g1, g2, g3, g4⟩ := hg
  have hv := ok_valid (acc c l n)
  rw [decide_eq_true g4] at hv
  have hcls := cls_some h
  clear h
  rcases hcls with ⟨en, el, ec, h⟩ | ⟨en, el, ha, hb, ec⟩ | ⟨en, el, ha, hb, ec⟩ | ⟨en, el, ha, hb, ec⟩
  all_goals subst en
  · unfold dec decN; rw [if_pos h, ← ec]; rfl
  · have k1 := g2 1 (by omega) (by omega)
    unfold dec decN
    rw [if_neg (by omega), cont_iff (l.getD 1 0).toNat, decide_eq_true k1, decide_eq_true (show 1 < l.length by omega)]
    have e1 : ((l.getD 0 0).toNat / 32 == 6) = true := by rw [beq_iff_eq]; omega
    rw [e1, if_pos (by rfl)]
    unfold isCont at k1
    have e2 : (l.getD 0 0).toNat % 32 * 64 + (l.getD 1 0).toNat % 64 = c * 64 + (l.getD 1 0).toNat - 128 := by clear hv g3 g4; omega
    rw [← acc_one] at e2
    rw [e2, if_pos (by omega)]
  · have k1 := g2 1 (by omega) (by omega)
    have k2 := g2 2 (by omega) (by omega)
    unfold dec decN
    rw [if_neg (by omega), cont_iff (l.getD 1 0).toNat, cont_iff (l.getD 2 0).toNat, decide_eq_true k1, decide_eq_true k2, decide_eq_true (show 1 < l.length by omega), decide_eq_true (show 2 < l.length by omega)]
    have e1 : ((l.getD 0 0).toNat / 32 == 6) = false := by rw [beq_eq_false_iff_ne]; omega
    have e3 : ((l.getD 0 0).toNat / 16 == 14) = true := by rw [beq_iff_eq]; omega
    rw [e1, e3, if_neg (by simp), if_pos (by rfl)]
    unfold isCont at k1 k2
    have e2 : (l.getD 0 0).toNat % 16 * 4096 + (l.getD 1 0).toNat % 64 * 64 + (l.getD 2 0).toNat % 64 = acc c l 2 := by clear hv g3 g4; simp only [acc_three, acc_two, acc_one, acc_zero]; omega
    rw [e2, hv, decide_eq_true (show acc c l 2 ≥ 2048 by omega), if_pos (by rfl)]
  · have k1 := g2 1 (by omega) (by omega)
    have k2 := g2 2 (by omega) (by omega)
    have k3 := g2 3 (by omega) (by omega)
    unfold dec decN
    rw [if_neg (by omega), cont_iff (l.getD 1 0).toNat, cont_iff (l.getD 2 0).toNat, cont_iff (l.getD 3 0).toNat, decide_eq_true k1, decide_eq_true k2, decide_eq_true k3, decide_eq_true (show 1 < l.length by omega), decide_eq_true (show 2 < l.length by omega), decide_eq_true (show 3 < l.length by omega)]
    have e1 : ((l.getD 0 0).toNat / 32 == 6) = false := by rw [beq_eq_false_iff_ne]; omega
    have e3 : ((l.getD 0 0).toNat / 16 == 14) = false := by rw [beq_eq_false_iff_ne]; omega
    have e4 : ((l.getD 0 0).toNat / 8 == 30) = true := by rw [beq_iff_eq]; omega
    rw [e1, e3, e4, if_neg (by simp), if_neg (by simp), if_pos (by rfl)]
    unfold isCont at k1 k2 k3
    have e2 : (l.getD 0 0).toNat % 8 * 262144 + (l.getD 1 0).toNat % 64 * 4096 + (l.getD 2 0).toNat % 64 * 64 + (l.getD 3 0).toNat % 64 = acc c l 3 := by clear hv g3 g4; simp only [acc_three, acc_two, acc_one, acc_zero]; omega
    rw [e2, hv, decide_eq_true (show acc c l 3 ≥ 65536 by omega), if_pos (by rfl)]
/-- A rune's own bytes are good. -/
theorem good_dec (l : List UInt8) (hl : l ≠ []) (n least c : Nat) (h : cls (l.getD 0 0).toNat = some (n, least, c)) (hn : dec l ≠ (65533, 1)) : good l n least c := by
  have hb : ∀ k, (l.getD k 0).toNat < 256 := fun k => UInt8.toNat_lt _
  have hpos : 0 < l.length := List.length_pos_iff.2 hl
  have hcls := cls_some h
  clear h
  rcases hcls with ⟨en, el, ec, h⟩ | ⟨en, el, ha, hb', ec⟩ | ⟨en, el, ha, hb', ec⟩ | ⟨en, el, ha, hb', ec⟩
  all_goals subst en
  · exact ⟨hpos, fun j h1 h2 => by omega, (by omega), Or.inl (by simp only [acc_three, acc_two, acc_one, acc_zero]; omega)⟩
  · unfold dec decN at hn
    rw [if_neg (by omega)] at hn
    have e1 : ((l.getD 0 0).toNat / 32 == 6) = true := by rw [beq_iff_eq]; omega
    have e3 : ((l.getD 0 0).toNat / 16 == 14) = false := by rw [beq_eq_false_iff_ne]; omega
    have e4 : ((l.getD 0 0).toNat / 8 == 30) = false := by rw [beq_eq_false_iff_ne]; omega
    rw [e1, e3, e4, cont_iff (l.getD 1 0).toNat] at hn
    simp only [Bool.true_and, Bool.false_and, Bool.false_eq_true, if_false, Bool.and_eq_true, decide_eq_true_eq] at hn
    by_cases k : 1 < l.length ∧ isCont (l.getD 1 0).toNat
    · rw [if_pos k] at hn
      have k2 := k.2
      unfold isCont at k2
      have e2 : (l.getD 0 0).toNat % 32 * 64 + (l.getD 1 0).toNat % 64 = acc c l 1 := by simp only [acc_three, acc_two, acc_one, acc_zero]; omega
      rw [e2] at hn
      by_cases k3 : acc c l 1 ≥ 128
      · refine ⟨k.1, fun j h1 h2 => by rw [show j = 1 from by omega]; exact k.2, (by omega), Or.inl ?_⟩
        simp only [acc_three, acc_two, acc_one, acc_zero]; omega
      · rw [if_neg k3] at hn; exact absurd rfl hn
    · rw [if_neg k] at hn; exact absurd rfl hn
  · unfold dec decN at hn
    rw [if_neg (by omega)] at hn
    have e1 : ((l.getD 0 0).toNat / 32 == 6) = false := by rw [beq_eq_false_iff_ne]; omega
    have e3 : ((l.getD 0 0).toNat / 16 == 14) = true := by rw [beq_iff_eq]; omega
    have e4 : ((l.getD 0 0).toNat / 8 == 30) = false := by rw [beq_eq_false_iff_ne]; omega
    rw [e1, e3, e4, cont_iff (l.getD 1 0).toNat, cont_iff (l.getD 2 0).toNat] at hn
    simp only [Bool.true_and, Bool.false_and, Bool.false_eq_true, if_false, Bool.and_eq_true, decide_eq_true_eq] at hn
    by_cases k : (1 < l.length ∧ isCont (l.getD 1 0).toNat) ∧ 2 < l.length ∧ isCont (l.getD 2 0).toNat
    · rw [if_pos k] at hn
      obtain ⟨⟨_, k2⟩, k0, k3⟩ := k
      have k2' := k2; have k3' := k3
      unfold isCont at k2' k3'
      have e2 : (l.getD 0 0).toNat % 16 * 4096 + (l.getD 1 0).toNat % 64 * 64 + (l.getD 2 0).toNat % 64 = acc c l 2 := by simp only [acc_three, acc_two, acc_one, acc_zero]; omega
      rw [e2, ok_valid] at hn
      simp only [decide_eq_true_eq] at hn
      by_cases k4 : acc c l 2 ≥ 2048 ∧ ok (acc c l 2)
      · exact ⟨k0, fun j h1 h2 => by rcases (show j = 1 ∨ j = 2 by omega) with rfl | rfl; exact k2; exact k3, (by have := k4.1; omega), k4.2⟩
      · rw [if_neg k4] at hn; exact absurd rfl hn
    · rw [if_neg k] at hn; exact absurd rfl hn
  · unfold dec decN at hn
    rw [if_neg (by omega)] at hn
    have e1 : ((l.getD 0 0).toNat / 32 == 6) = false := by rw [beq_eq_false_iff_ne]; omega
    have e3 : ((l.getD 0 0).toNat / 16 == 14) = false := by rw [beq_eq_false_iff_ne]; omega
    have e4 : ((l.getD 0 0).toNat / 8 == 30) = true := by rw [beq_iff_eq]; omega
    rw [e1, e3, e4, cont_iff (l.getD 1 0).toNat, cont_iff (l.getD 2 0).toNat, cont_iff (l.getD 3 0).toNat] at hn
    simp only [Bool.true_and, Bool.false_and, Bool.false_eq_true, if_false, Bool.and_eq_true, decide_eq_true_eq] at hn
    by_cases k : ((1 < l.length ∧ isCont (l.getD 1 0).toNat) ∧ 2 < l.length ∧ isCont (l.getD 2 0).toNat) ∧ 3 < l.length ∧ isCont (l.getD 3 0).toNat
    · rw [if_pos k] at hn
      obtain ⟨⟨⟨_, k2⟩, _, k3⟩, k0, k5⟩ := k
      have k2' := k2; have k3' := k3; have k5' := k5
      unfold isCont at k2' k3' k5'
      have e2 : (l.getD 0 0).toNat % 8 * 262144 + (l.getD 1 0).toNat % 64 * 4096 + (l.getD 2 0).toNat % 64 * 64 + (l.getD 3 0).toNat % 64 = acc c l 3 := by simp only [acc_three, acc_two, acc_one, acc_zero]; omega
      rw [e2, ok_valid] at hn
      simp only [decide_eq_true_eq] at hn
      by_cases k4 : acc c l 3 ≥ 65536 ∧ ok (acc c l 3)
      · exact ⟨k0, fun j h1 h2 => by rcases (show j = 1 ∨ j = 2 ∨ j = 3 by omega) with rfl | rfl | rfl; exact k2; exact k3; exact k5, (by have := k4.1; omega), k4.2⟩
      · rw [if_neg k4] at hn; exact absurd rfl hn
    · rw [if_neg k] at hn; exact absurd rfl hn
theorem dec_bad (l : List UInt8) (hl : l ≠ []) (n least c : Nat) (h : cls (l.getD 0 0).toNat = some (n, least, c)) (hg : ¬ good l n least c) : dec l = (65533, 1) :=
  Decidable.byContradiction fun hn => hg (good_dec l hl n least c h hn)
/-- The numbers on the way stay small. -/
theorem acc_le {l : List UInt8} {n least c : Nat} (h : cls (l.getD 0 0).toNat = some (n, least, c)) (j : Nat) (hj : j ≤ n) (hc : ∀ i, 1 ≤ i → i ≤ j → isCont (l.getD i 0).toNat) : acc c l j ≤ 2097151 ∧ (j < n → acc c l j ≤ 32767) := by
  unfold isCont at hc
  have hcls := cls_some h
  clear h
  rcases hcls with ⟨en, el, ec, h⟩ | ⟨en, el, ha, hb, ec⟩ | ⟨en, el, ha, hb, ec⟩ | ⟨en, el, ha, hb, ec⟩
  all_goals subst en
  · rw [show j = 0 from by omega]; simp only [acc_three, acc_two, acc_one, acc_zero]; omega
  · rcases (show j = 0 ∨ j = 1 by omega) with rfl | rfl
    · simp only [acc_three, acc_two, acc_one, acc_zero]; omega
    · have := hc 1 (by omega) (by omega)
      simp only [acc_three, acc_two, acc_one, acc_zero]; omega
  · rcases (show j = 0 ∨ j = 1 ∨ j = 2 by omega) with rfl | rfl | rfl
    · simp only [acc_three, acc_two, acc_one, acc_zero]; omega
    · have := hc 1 (by omega) (by omega)
      simp only [acc_three, acc_two, acc_one, acc_zero]; omega
    · have := hc 1 (by omega) (by omega); have := hc 2 (by omega) (by omega)
      simp only [acc_three, acc_two, acc_one, acc_zero]; omega
  · rcases (show j = 0 ∨ j = 1 ∨ j = 2 ∨ j = 3 by omega) with rfl | rfl | rfl | rfl
    · simp only [acc_three, acc_two, acc_one, acc_zero]; omega
    · have := hc 1 (by omega) (by omega)
      simp only [acc_three, acc_two, acc_one, acc_zero]; omega
    · have := hc 1 (by omega) (by omega); have := hc 2 (by omega) (by omega)
      simp only [acc_three, acc_two, acc_one, acc_zero]; omega
    · have := hc 1 (by omega) (by omega); have := hc 2 (by omega) (by omega); have := hc 3 (by omega) (by omega)
      simp only [acc_three, acc_two, acc_one, acc_zero]; omega
end Rn
end Go.Proofs.YtpjblmhhcadcbaaDoor
