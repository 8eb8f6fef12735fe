import Derived.Test.YtadookafnfnaoaaGreatDoorGS0
import Derived.Test.YtadookafnfnaoaaGreatDoorGS9
import Derived.WalkKit
import Derived.WalkSpells
import Derived.WalkLawsBesides
import Derived.Deep.DeepCutAuto
import Derived.Deep.LoopGhost
import Derived.Deep.CutBlock
import Derived.OneCell
/- Plain lists: decoding by hand, as the document's own answer does it, is the model's decoding. -/
namespace Go.Proofs.YtadookafnfnaoaaGreatDoor
namespace Rn

/-- What the first byte says: how many follow, the least rune, the first bits. -/
def cls (b : Nat) : Option (Nat × Nat × Nat) :=
  if b < 128 then some (0, 0, b) else if b < 192 then none else if b < 224 then some (1, 128, b - 192) else if b < 240 then some (2, 2048, b - 224) else if b < 248 then some (3, 65536, b - 240) else none
/-- The rune's bits behind j bytes that follow. -/
def acc (c : Nat) (l : List UInt8) : Nat → Nat
  | 0 => c
  | j + 1 => acc c l j * 64 + (l.getD (j + 1) 0).toNat - 128
theorem acc_zero (c : Nat) (l : List UInt8) : acc c l 0 = c := rfl
theorem acc_succ (c : Nat) (l : List UInt8) (j : Nat) : acc c l (j + 1) = acc c l j * 64 + (l.getD (j + 1) 0).toNat - 128 := rfl
theorem acc_one (c : Nat) (l : List UInt8) : acc c l 1 = c * 64 + (l.getD 1 0).toNat - 128 := by
  have h := acc_succ c l 0
  rw [acc_zero] at h
  exact h
theorem acc_two (c : Nat) (l : List UInt8) : acc c l 2 = (c * 64 + (l.getD 1 0).toNat - 128) * 64 + (l.getD 2 0).toNat - 128 := by
  have h := acc_succ c l 1
  rw [acc_one] at h
  exact h
theorem acc_three (c : Nat) (l : List UInt8) : acc c l 3 = ((c * 64 + (l.getD 1 0).toNat - 128) * 64 + (l.getD 2 0).toNat - 128) * 64 + (l.getD 3 0).toNat - 128 := by
  have h := acc_succ c l 2
  rw [acc_two] at h
  exact h
def isCont (b : Nat) : Prop := 128 ≤ b ∧ b ≤ 191
instance (b : Nat) : Decidable (isCont b) := by unfold isCont; infer_instance
theorem cont_iff (b : Nat) : (b / 64 == 2) = decide (isCont b) := by
  unfold isCont
  by_cases h : 128 ≤ b ∧ b ≤ 191
  · rw [decide_eq_true h, beq_iff_eq]; omega
  · rw [decide_eq_false h, beq_eq_false_iff_ne]; omega
theorem cls_some {b n least c : Nat} (h : cls b = some (n, least, c)) :
    (n = 0 ∧ least = 0 ∧ c = b ∧ b < 128) ∨ (n = 1 ∧ least = 128 ∧ 192 ≤ b ∧ b < 224 ∧ c = b - 192) ∨ (n = 2 ∧ least = 2048 ∧ 224 ≤ b ∧ b < 240 ∧ c = b - 224) ∨ (n = 3 ∧ least = 65536 ∧ 240 ≤ b ∧ b < 248 ∧ c = b - 240) := by
  unfold cls at h
  by_cases h1 : b < 128
  · rw [if_pos h1] at h; simp only [Option.some.injEq, Prod.mk.injEq] at h; omega
  rw [if_neg h1] at h
  by_cases h2 : b < 192
  · rw [if_pos h2] at h; cases h
  rw [if_neg h2] at h
  by_cases h3 : b < 224
  · rw [if_pos h3] at h; simp only [Option.some.injEq, Prod.mk.injEq] at h; omega
  rw [if_neg h3] at h
  by_cases h4 : b < 240
  · rw [if_pos h4] at h; simp only [Option.some.injEq, Prod.mk.injEq] at h; omega
  rw [if_neg h4] at h
  by_cases h5 : b < 248
  · rw [if_pos h5] at h; simp only [Option.some.injEq, Prod.mk.injEq] at h; omega
  · rw [if_neg h5] at h; cases h
theorem cls_none {b : Nat} (h : cls b = none) : (128 ≤ b ∧ b < 192) ∨ 248 ≤ b := by
  unfold cls at h
  by_cases h1 : b < 128
  · rw [if_pos h1] at h; cases h
  rw [if_neg h1] at h
  by_cases h2 : b < 192
  · omega
  rw [if_neg h2] at h
  by_cases h3 : b < 224
  · rw [if_pos h3] at h; cases h
  rw [if_neg h3] at h
  by_cases h4 : b < 240
  · rw [if_pos h4] at h; cases h
  rw [if_neg h4] at h
  by_cases h5 : b < 248
  · rw [if_pos h5] at h; cases h
  · omega

theorem dec_none (l : List UInt8) (h : cls (l.getD 0 0).toNat = none) : dec l = (65533, 1) := by
  have hb : (l.getD 0 0).toNat < 256 := UInt8.toNat_lt _
  rcases cls_none h with h | h
  all_goals
    unfold dec decN
    have e1 : ((l.getD 0 0).toNat / 32 == 6) = false := by rw [beq_eq_false_iff_ne]; omega
    have e2 : ((l.getD 0 0).toNat / 16 == 14) = false := by rw [beq_eq_false_iff_ne]; omega
    have e3 : ((l.getD 0 0).toNat / 8 == 30) = false := by rw [beq_eq_false_iff_ne]; omega
    rw [if_neg (by omega), e1, e2, e3]
    rfl

/-- Of a first byte that may be one: the bytes that follow, and the number, decide. -/
def good (l : List UInt8) (n least c : Nat) : Prop := n < l.length ∧ (∀ j, 1 ≤ j → j ≤ n → isCont (l.getD j 0).toNat) ∧ least ≤ acc c l n ∧ ok (acc c l n)
theorem dec_good (l : List UInt8) (n least c : Nat) (h : cls (l.getD 0 0).toNat = some (n, least, c)) (hg : good l n least c) : dec l = (acc c l n, n + 1) := by
  obtain ⟨g1, g2, g3, g4⟩ := hg
  have hv := ok_valid (acc c l n)
  rw [decide_eq_true g4] at hv
  have hcls := cls_some h
  clear h
  rcases hcls with ⟨en, el, ec, h⟩ | ⟨en, el, ha, hb, ec⟩ | ⟨en, el, ha, hb, ec⟩ | ⟨en, el, ha, hb, ec⟩
  all_goals subst en
  · unfold dec decN; rw [if_pos h, ← ec]; rfl
  · have k1 := g2 1 (by omega) (by omega)
    unfold dec decN
    rw [if_neg (by omega), cont_iff (l.getD 1 0).toNat, decide_eq_true k1, decide_eq_true (show 1 < l.length by omega)]
    have e1 : ((l.getD 0 0).toNat / 32 == 6) = true := by rw [beq_iff_eq]; omega
    rw [e1, if_pos (by rfl)]
    unfold isCont at k1
    have e2 : (l.getD 0 0).toNat % 32 * 64 + (l.getD 1 0).toNat % 64 = c * 64 + (l.getD 1 0).toNat - 128 := by clear hv g3 g4; omega
    rw [← acc_one] at e2
    rw [e2, if_pos (by omega)]
  · have k1 := g2 1 (by omega) (by omega)
    have k2 := g2 2 (by omega) (by omega)
    unfold dec decN
    rw [if_neg (by omega), cont_iff (l.getD 1 0).toNat, cont_iff (l.getD 2 0).toNat, decide_eq_true k1, decide_eq_true k2, decide_eq_true (show 1 < l.length by omega), decide_eq_true (show 2 < l.length by omega)]
    have e1 : ((l.getD 0 0).toNat / 32 == 6) = false := by rw [beq_eq_false_iff_ne]; omega
    have e3 : ((l.getD 0 0).toNat / 16 == 14) = true := by rw [beq_iff_eq]; omega
    rw [e1, e3, if_neg (by simp), if_pos (by rfl)]
    unfold isCont at k1 k2
    have e2 : (l.getD 0 0).toNat % 16 * 4096 + (l.getD 1 0).toNat % 64 * 64 + (l.getD 2 0).toNat % 64 = acc c l 2 := by clear hv g3 g4; simp only [acc_two]; omega
    rw [e2, hv, decide_eq_true (show acc c l 2 ≥ 2048 by omega), if_pos (by rfl)]
  · have k1 := g2 1 (by omega) (by omega)
    have k2 := g2 2 (by omega) (by omega)
    have k3 := g2 3 (by omega) (by omega)
    unfold dec decN
    rw [if_neg (by omega), cont_iff (l.getD 1 0).toNat, cont_iff (l.getD 2 0).toNat, cont_iff (l.getD 3 0).toNat, decide_eq_true k1, decide_eq_true k2, decide_eq_true k3, decide_eq_true (show 1 < l.length by omega), decide_eq_true (show 2 < l.length by omega), decide_eq_true (show 3 < l.length by omega)]
    have e1 : ((l.getD 0 0).toNat / 32 == 6) = false := by rw [beq_eq_false_iff_ne]; omega
    have e3 : ((l.getD 0 0).toNat / 16 == 14) = false := by rw [beq_eq_false_iff_ne]; omega
    have e4 : ((l.getD 0 0).toNat / 8 == 30) = true := by rw [beq_iff_eq]; omega
    rw [e1, e3, e4, if_neg (by simp), if_neg (by simp), if_pos (by rfl)]
    unfold isCont at k1 k2 k3
    have e2 : (l.getD 0 0).toNat % 8 * 262144 + (l.getD 1 0).toNat % 64 * 4096 + (l.getD 2 0).toNat % 64 * 64 + (l.getD 3 0).toNat % 64 = acc c l 3 := by clear hv g3 g4; simp only [acc_three]; omega
    rw [e2, hv, decide_eq_true (show acc c l 3 ≥ 65536 by omega), if_pos (by rfl)]
/-- A rune's own bytes are good. -/
theorem good_dec (l : List UInt8) (hl : l ≠ []) (n least c : Nat) (h : cls (l.getD 0 0).toNat = some (n, least, c)) (hn : dec l ≠ (65533, 1)) : good l n least c := by
  have hb : ∀ k, (l.getD k 0).toNat < 256 := fun k => UInt8.toNat_lt _
  have hpos : 0 < l.length := List.length_pos_iff.2 hl
  have hcls := cls_some h
  clear h
  rcases hcls with ⟨en, el, ec, h⟩ | ⟨en, el, ha, hb', ec⟩ | ⟨en, el, ha, hb', ec⟩ | ⟨en, el, ha, hb', ec⟩
  all_goals subst en
  · exact ⟨hpos, fun j h1 h2 => by omega, (by omega), Or.inl (by simp only [acc_zero]; omega)⟩
  · unfold dec decN at hn
    rw [if_neg (by omega)] at hn
    have e1 : ((l.getD 0 0).toNat / 32 == 6) = true := by rw [beq_iff_eq]; omega
    have e3 : ((l.getD 0 0).toNat / 16 == 14) = false := by rw [beq_eq_false_iff_ne]; omega
    have e4 : ((l.getD 0 0).toNat / 8 == 30) = false := by rw [beq_eq_false_iff_ne]; omega
    rw [e1, e3, e4, cont_iff (l.getD 1 0).toNat] at hn
    simp only [Bool.true_and, Bool.false_and, Bool.false_eq_true, if_false, Bool.and_eq_true, decide_eq_true_eq] at hn
    by_cases k : 1 < l.length ∧ isCont (l.getD 1 0).toNat
    · rw [if_pos k] at hn
      have k2 := k.2
      unfold isCont at k2
      have e2 : (l.getD 0 0).toNat % 32 * 64 + (l.getD 1 0).toNat % 64 = acc c l 1 := by simp only [acc_one]; omega
      rw [e2] at hn
      by_cases k3 : acc c l 1 ≥ 128
      · refine ⟨k.1, fun j h1 h2 => by rw [show j = 1 from by omega]; exact k.2, (by omega), Or.inl ?_⟩
        simp only [acc_one]; omega
      · rw [if_neg k3] at hn; exact absurd rfl hn
    · rw [if_neg k] at hn; exact absurd rfl hn
  · unfold dec decN at hn
    rw [if_neg (by omega)] at hn
    have e1 : ((l.getD 0 0).toNat / 32 == 6) = false := by rw [beq_eq_false_iff_ne]; omega
    have e3 : ((l.getD 0 0).toNat / 16 == 14) = true := by rw [beq_iff_eq]; omega
    have e4 : ((l.getD 0 0).toNat / 8 == 30) = false := by rw [beq_eq_false_iff_ne]; omega
    rw [e1, e3, e4, cont_iff (l.getD 1 0).toNat, cont_iff (l.getD 2 0).toNat] at hn
    simp only [Bool.true_and, Bool.false_and, Bool.false_eq_true, if_false, Bool.and_eq_true, decide_eq_true_eq] at hn
    by_cases k : (1 < l.length ∧ isCont (l.getD 1 0).toNat) ∧ 2 < l.length ∧ isCont (l.getD 2 0).toNat
    · rw [if_pos k] at hn
      obtain ⟨⟨_, k2⟩, k0, k3⟩ := k
      have k2' := k2; have k3' := k3
      unfold isCont at k2' k3'
      have e2 : (l.getD 0 0).toNat % 16 * 4096 + (l.getD 1 0).toNat % 64 * 64 + (l.getD 2 0).toNat % 64 = acc c l 2 := by simp only [acc_two]; omega
      rw [e2, ok_valid] at hn
      simp only [decide_eq_true_eq] at hn
      by_cases k4 : acc c l 2 ≥ 2048 ∧ ok (acc c l 2)
      · exact ⟨k0, fun j h1 h2 => by rcases (show j = 1 ∨ j = 2 by omega) with rfl | rfl; exact k2; exact k3, (by have := k4.1; omega), k4.2⟩
      · rw [if_neg k4] at hn; exact absurd rfl hn
    · rw [if_neg k] at hn; exact absurd rfl hn
  · unfold dec decN at hn
    rw [if_neg (by omega)] at hn
    have e1 : ((l.getD 0 0).toNat / 32 == 6) = false := by rw [beq_eq_false_iff_ne]; omega
    have e3 : ((l.getD 0 0).toNat / 16 == 14) = false := by rw [beq_eq_false_iff_ne]; omega
    have e4 : ((l.getD 0 0).toNat / 8 == 30) = true := by rw [beq_iff_eq]; omega
    rw [e1, e3, e4, cont_iff (l.getD 1 0).toNat, cont_iff (l.getD 2 0).toNat, cont_iff (l.getD 3 0).toNat] at hn
    simp only [Bool.true_and, Bool.false_and, Bool.false_eq_true, if_false, Bool.and_eq_true, decide_eq_true_eq] at hn
    by_cases k : ((1 < l.length ∧ isCont (l.getD 1 0).toNat) ∧ 2 < l.length ∧ isCont (l.getD 2 0).toNat) ∧ 3 < l.length ∧ isCont (l.getD 3 0).toNat
    · rw [if_pos k] at hn
      obtain ⟨⟨⟨_, k2⟩, _, k3⟩, k0, k5⟩ := k
      have k2' := k2; have k3' := k3; have k5' := k5
      unfold isCont at k2' k3' k5'
      have e2 : (l.getD 0 0).toNat % 8 * 262144 + (l.getD 1 0).toNat % 64 * 4096 + (l.getD 2 0).toNat % 64 * 64 + (l.getD 3 0).toNat % 64 = acc c l 3 := by simp only [acc_three]; omega
      rw [e2, ok_valid] at hn
      simp only [decide_eq_true_eq] at hn
      by_cases k4 : acc c l 3 ≥ 65536 ∧ ok (acc c l 3)
      · exact ⟨k0, fun j h1 h2 => by rcases (show j = 1 ∨ j = 2 ∨ j = 3 by omega) with rfl | rfl | rfl; exact k2; exact k3; exact k5, (by have := k4.1; omega), k4.2⟩
      · rw [if_neg k4] at hn; exact absurd rfl hn
    · rw [if_neg k] at hn; exact absurd rfl hn
theorem dec_bad (l : List UInt8) (hl : l ≠ []) (n least c : Nat) (h : cls (l.getD 0 0).toNat = some (n, least, c)) (hg : ¬ good l n least c) : dec l = (65533, 1) :=
  Decidable.byContradiction fun hn => hg (good_dec l hl n least c h hn)
/-- The numbers on the way stay small. -/
theorem acc_le {l : List UInt8} {n least c : Nat} (h : cls (l.getD 0 0).toNat = some (n, least, c)) (j : Nat) (hj : j ≤ n) (hc : ∀ i, 1 ≤ i → i ≤ j → isCont (l.getD i 0).toNat) : acc c l j ≤ 2097151 ∧ (j < n → acc c l j ≤ 32767) := by
  unfold isCont at hc
  have hcls := cls_some h
  clear h
  rcases hcls with ⟨en, el, ec, h⟩ | ⟨en, el, ha, hb, ec⟩ | ⟨en, el, ha, hb, ec⟩ | ⟨en, el, ha, hb, ec⟩
  all_goals subst en
  · rw [show j = 0 from by omega]; simp only [acc_zero]; omega
  · rcases (show j = 0 ∨ j = 1 by omega) with rfl | rfl
    · simp only [acc_zero]; omega
    · have := hc 1 (by omega) (by omega)
      simp only [acc_one]; omega
  · rcases (show j = 0 ∨ j = 1 ∨ j = 2 by omega) with rfl | rfl | rfl
    · simp only [acc_zero]; omega
    · have := hc 1 (by omega) (by omega)
      simp only [acc_one]; omega
    · have := hc 1 (by omega) (by omega); have := hc 2 (by omega) (by omega)
      simp only [acc_two]; omega
  · rcases (show j = 0 ∨ j = 1 ∨ j = 2 ∨ j = 3 by omega) with rfl | rfl | rfl | rfl
    · simp only [acc_zero]; omega
    · have := hc 1 (by omega) (by omega)
      simp only [acc_one]; omega
    · have := hc 1 (by omega) (by omega); have := hc 2 (by omega) (by omega)
      simp only [acc_two]; omega
    · have := hc 1 (by omega) (by omega); have := hc 2 (by omega) (by omega); have := hc 3 (by omega) (by omega)
      simp only [acc_three]; omega
end Rn
end Go.Proofs.YtadookafnfnaoaaGreatDoor
/- The document's own reading of a text: at every string of at most 2^20 bytes. -/
namespace Go.Proofs.YtadookafnfnaoaaGreatDoor
open Go.RowKit Rn

def intVals (cs : List Nat) : List Value := cs.map fun (c : Nat) => Value.int .i64 (c : Int)
/-- The way out: the runes in a row of the call's own, or none. -/
def ReadPost (w : World) (l : List UInt8) (e : Ending) (w' : World) : Prop := Below w.heap.size w w' ∧
  ((runes l = none ∧ e = .returned (.tuple #[.slice none 0 0, .bool false])) ∨
    ∃ cs v, runes l = some cs ∧ e = .returned (.tuple #[v, .bool (decide ((cs.length : Int) ≤ 20000))]) ∧ w'.ownsRow w.heap.size 3 1 v cs.length (intVals cs))

theorem int_eq {k : IntKind} {a b : Int} (h : a = b) : Value.int k a = Value.int k b := by rw [h]
theorem read_stop {l r : List UInt8} {done : List Nat} (hok : allOk done) (hl : l = txt done ++ r) (hr : r ≠ []) (hb : dec r = (65533, 1)) : runes l = none := by
  rw [hl, runes_append done hok, runes_bad r hr hb]; rfl
theorem good_step {l rest : List UInt8} {done : List Nat} {z n : Nat} (hok : allOk done) (hl : l = txt done ++ rest) (hd : dec rest = (z, n + 1)) (hz : ok z) (hne : rest ≠ []) (hnb : n = 0 → z < 128) :
    (txt (done ++ [z])).length = (txt done).length + n + 1 ∧ l = txt (done ++ [z]) ++ l.drop (txt (done ++ [z])).length ∧ allOk (done ++ [z]) := by
  rcases dec_cases rest hne with hb | ⟨_, h2, h3⟩
  · rw [hd] at hb
    simp only [Prod.mk.injEq] at hb
    have := hnb (by omega)
    omega
  · rw [hd] at h2 h3
    simp only at h2 h3
    have e1 : txt [z] = enc z := by simp [txt]
    have e2 : (txt (done ++ [z])).length = (txt done).length + n + 1 := by rw [txt_append, e1, List.length_append]; omega
    refine ⟨e2, ?_, fun c hc => ?_⟩
    · have e3 : l.drop (txt (done ++ [z])).length = rest.drop (n + 1) := by
        rw [e2, hl, Nat.add_assoc, ← List.drop_drop, List.drop_left]
      rw [e3, txt_append, e1, List.append_assoc, ← h3]
      exact hl
    · rcases List.mem_append.1 hc with hc | hc
      · exact hok c hc
      · rw [List.mem_singleton] at hc; subst hc; exact hz
theorem owns_shape {w : World} {B : Nat} {e : TypeId} {v : Value} {n : Nat} {xs : List Value} (h : w.ownsRow B e 1 v n xs) : ∃ a cap, v = .slice a n cap := by
  obtain ⟨_, h2⟩ := h
  rcases h2 with ⟨hv, h2⟩ | ⟨g, cap, cur, hv, _⟩
  · subst h2; exact ⟨_, _, hv⟩
  · exact ⟨_, _, hv⟩
theorem drop_ne' {s : ByteArray} {pos : Nat} (h : pos < s.size) : s.data.toList.drop pos ≠ [] := by
  intro e
  have := congrArg List.length e
  simp at this
  have h2 : s.data.size = s.size := rfl
  omega
theorem byte_at (s : ByteArray) (pos k : Nat) (h : pos + k < s.size) : (s[pos + k]'h).toNat = ((s.data.toList.drop pos).getD k 0).toNat := by
  rw [List.getD_eq_getElem?_getD, List.getElem?_drop, List.getElem?_eq_getElem (by simpa using h)]
  rfl
theorem byte_zero (s : ByteArray) (pos : Nat) (h : pos < s.size) : (s[pos]'h).toNat = ((s.data.toList.drop pos).getD 0 0).toNat := byte_at s pos 0 h
theorem drop_len (s : ByteArray) (pos : Nat) : (s.data.toList.drop pos).length = s.size - pos := by simp

theorem infoInt : (Tryz.prog.info? 3).map (fun i => (i.zero, i.size, i.bytes)) = some (some (.int .i64 0), 1, 8) := by kernel_rfl

set_option maxRecDepth 100000 in
set_option maxHeartbeats 2000000 in
theorem read_any (s : ByteArray) (w : World) (hs : s.size ≤ 1048576) :
    Calls Tryz.prog 65 #[.string s] w (ReadPost w s.data.toList) := by
  go_enter Tryz.func65, Tryz.ntmps65
  go_wp2_with fail
  go_loopg [4, 5] s.size (fun gk v i wr => ∃ (done : List Nat), s.size ≤ gk + (txt done).length ∧ i = .int .i64 ((txt done).length : Int) ∧ allOk done ∧ s.data.toList = txt done ++ s.data.toList.drop (txt done).length ∧ (txt done).length ≤ s.size ∧ wr.ownsRow w.heap.size 3 1 v done.length (intVals done) ∧ Below w.heap.size w wr)
  case atStart => exact ⟨[], by simp, rfl, fun c h => (by cases h), by simp [txt_nil], by simp [txt_nil], World.ownsRow_nil _ _ _ _, Below.refl _ _⟩
  case round =>
    obtain ⟨done, hgk, rfl, hok, hl, hp, hown, hbw⟩ := hrel
    obtain ⟨pos, hpos⟩ : ∃ pos, pos = (txt done).length := ⟨_, rfl⟩
    rw [← hpos] at hl hp hgk ⊢
    have Hl := Lib.hid hl
    have Hpos := Lib.hid hpos
    clear hl hpos
    have Hown := Lib.hid hown
    clear hown
    by_cases hlt : pos < s.size
    · have hlt' : (pos : Int) < (s.size : Int) := by omega
      have hb : s[pos].toNat < 256 := UInt8.toNat_lt _
      have Hb := Lib.hid (byte_zero s pos hlt)
      have hne := drop_ne' hlt
      have hlen := drop_len s pos
      obtain ⟨rest, hrest⟩ : ∃ rest, rest = s.data.toList.drop pos := ⟨_, rfl⟩
      rw [← hrest] at Hb Hl hne hlen
      have Hrest := Lib.hid hrest
      clear hrest
      have Hlen := Lib.hid hlen
      clear hlen
      go_upto_block 2 with fail
      go_cut [6, 7, 8] (fun s6 s7 s8 wx => ∃ n least c : Nat, cls s[pos].toNat = some (n, least, c) ∧ s6 = .int .i64 (c : Int) ∧ s7 = .int .i64 (n : Int) ∧ s8 = .int .i64 (least : Int) ∧ wx = wr)
      case first =>
        go_wp2_with fail
        · have h1 : (s[pos].toNat : Int) < 128 := by assumption
          go_meet
          exact ⟨0, 0, s[pos].toNat, by unfold cls; rw [if_pos (by omega)], rfl, rfl, rfl, rfl⟩
        · have h1 : (192 : Int) ≤ s[pos].toNat := by assumption
          have h2 : (s[pos].toNat : Int) < 224 := by assumption
          go_meet
          exact ⟨1, 128, s[pos].toNat - 192, by unfold cls; rw [if_neg (by omega), if_neg (by omega), if_pos (by omega)], int_eq (by omega), rfl, rfl, rfl⟩
        · have h1 : (224 : Int) ≤ s[pos].toNat := by assumption
          have h2 : (s[pos].toNat : Int) < 240 := by assumption
          go_meet
          exact ⟨2, 2048, s[pos].toNat - 224, by unfold cls; rw [if_neg (by omega), if_neg (by omega), if_neg (by omega), if_pos (by omega)], int_eq (by omega), rfl, rfl, rfl⟩
        · have h1 : (240 : Int) ≤ s[pos].toNat := by assumption
          have h2 : (s[pos].toNat : Int) < 248 := by assumption
          go_meet
          exact ⟨3, 65536, s[pos].toNat - 240, by unfold cls; rw [if_neg (by omega), if_neg (by omega), if_neg (by omega), if_neg (by omega), if_pos (by omega)], int_eq (by omega), rfl, rfl, rfl⟩
        · have h1 : (248 : Int) ≤ s[pos].toNat := by assumption
          go_ret2
          refine ⟨hbw, Or.inl ⟨read_stop hok Hl.out hne (dec_none rest ?_), rfl⟩⟩
          rw [← Hb.out]; unfold cls; rw [if_neg (by omega), if_neg (by omega), if_neg (by omega), if_neg (by omega), if_neg (by omega)]
        · have h1 : (128 : Int) ≤ s[pos].toNat := by assumption
          have h2 : (s[pos].toNat : Int) < 192 := by assumption
          go_ret2
          refine ⟨hbw, Or.inl ⟨read_stop hok Hl.out hne (dec_none rest ?_), rfl⟩⟩
          rw [← Hb.out]; unfold cls; rw [if_neg (by omega), if_pos (by omega)]
      case rest =>
        obtain ⟨n, least, c, hcls, rfl, rfl, rfl, rfl⟩ := hcut
        have Hcls := Lib.hid hcls
        clear hcls
        have hn3 : n ≤ 3 := by rcases cls_some Hcls.out with h | h | h | h <;> omega
        by_cases hn : pos + n < s.size
        · have hn' : (pos : Int) + n < s.size := by omega
          go_wp2_with fail
          go_loopg [6, 9] n (fun gi v6 v9 wx => ∃ k : Nat, n ≤ gi + k ∧ v9 = .int .i64 ((k : Int) + 1) ∧ k ≤ n ∧ v6 = .int .i64 (acc c rest k : Nat) ∧ Hid (∀ j, 1 ≤ j → j ≤ k → isCont (rest.getD j 0).toNat) ∧ wx = wc)
          case atStart => exact ⟨0, by omega, rfl, Nat.zero_le _, rfl, fun j h1 h2 => by omega, rfl⟩
          case round =>
            obtain ⟨k, hgi, rfl, hk, rfl, hcont, rfl⟩ := hrel
            have hb0 := acc_le (by rw [← Hb.out]; exact Hcls.out) k hk hcont.out
            by_cases hkn : k < n
            · have hkn' : (k : Int) + 1 ≤ (n : Int) := by omega
              have hpk : pos + (k + 1) < s.size := by omega
              have hpk' : (pos : Int) + ((k : Int) + 1) < (s.size : Int) := by omega
              have hb1 : ((acc c rest k : Nat) : Int) ≤ 32767 := by have := hb0.2 hkn; omega
              have hb2 : s[pos + (k + 1)].toNat < 256 := UInt8.toNat_lt _
              have Hb1 : Hid (s[pos + (k + 1)].toNat = (rest.getD (k + 1) 0).toNat) := by
                show _ = _
                rw [Hrest.out]; exact byte_at s pos (k + 1) hpk
              clear hb0
              by_cases hc1 : 128 ≤ s[pos + (k + 1)].toNat
              · by_cases hc2 : s[pos + (k + 1)].toNat ≤ 191
                · go_wp2_with fail
                  go_roundg (gk - 1)
                  case measure => omega
                  case rel =>
                    refine ⟨k + 1, by omega, int_eq (by omega), by omega, int_eq ?_, fun j h1 h2 => ?_, rfl⟩
                    · rw [acc_succ, ← Hb1.out]; omega
                    · rcases Nat.lt_or_eq_of_le h2 with h3 | h3
                      · exact hcont.out j h1 (by omega)
                      · rw [h3, ← Hb1.out]; exact ⟨hc1, hc2⟩
                · go_wp2_with fail
                  go_ret2
                  refine ⟨hbw, Or.inl ⟨read_stop hok Hl.out hne (dec_bad rest hne n least c (by rw [← Hb.out]; exact Hcls.out) fun hg => ?_), rfl⟩⟩
                  have := hg.2.1 (k + 1) (by omega) (by omega)
                  rw [← Hb1.out] at this
                  exact hc2 this.2
              · go_wp2_with fail
                go_ret2
                refine ⟨hbw, Or.inl ⟨read_stop hok Hl.out hne (dec_bad rest hne n least c (by rw [← Hb.out]; exact Hcls.out) fun hg => ?_), rfl⟩⟩
                have := hg.2.1 (k + 1) (by omega) (by omega)
                rw [← Hb1.out] at this
                exact hc1 this.1
            · have hkn2 : n = k := by omega
              subst hkn2
              obtain ⟨z, hz⟩ : ∃ z, z = acc c rest n := ⟨_, rfl⟩
              rw [← hz] at hb0 ⊢
              have Hz := Lib.hid hz
              clear hz
              have hz1 : z ≤ 2097151 := hb0.1
              clear hb0
              have Hbad : Hid (¬ (least ≤ z ∧ ok z) → runes s.data.toList = none) := fun hx => read_stop hok Hl.out hne (dec_bad rest hne n least c (by rw [← Hb.out]; exact Hcls.out) fun hg => hx (by have := hg.2.2; rw [← Hz.out] at this; exact this))
              by_cases g1 : z < least
              · have g1' : (z : Int) < least := by omega
                go_wp2_with fail
                go_ret2
                exact ⟨hbw, Or.inl ⟨Hbad.out (by omega), rfl⟩⟩
              · by_cases g2 : 55296 ≤ z ∧ z ≤ 57343
                · obtain ⟨g2, g3⟩ := g2
                  go_wp2_with fail
                  go_ret2
                  exact ⟨hbw, Or.inl ⟨Hbad.out (fun hx => by have := hx.2; unfold ok at this; omega), rfl⟩⟩
                · by_cases g4 : 1114111 < z
                  · by_cases g5 : 55296 ≤ z
                    · have g6 : 57343 < z := by omega
                      clear g2
                      go_wp2_with fail
                      go_ret2
                      exact ⟨hbw, Or.inl ⟨Hbad.out (fun hx => by have := hx.2; unfold ok at this; omega), rfl⟩⟩
                    · omega
                  · have Hgood : Hid (dec rest = (z, n + 1) ∧ ok z) := by
                      have e := dec_good rest n least c (by rw [← Hb.out]; exact Hcls.out) ⟨by have := Hlen.out; omega, hcont.out, by rw [← Hz.out]; omega, by rw [← Hz.out]; unfold ok; omega⟩
                      rw [← Hz.out] at e
                      exact ⟨e, by unfold ok; omega⟩
                    clear Hbad
                    have g5 : z < 55296 ∨ 57343 < z := by omega
                    clear g2
                    obtain ⟨i0, hi, hz0, hz1, hz2⟩ := info_parts infoInt
                    have hown := Hown.out
                    have hdl : done.length ≤ 1048576 := by have := (txt_len done).1; have := Hpos.out; omega
                    rcases g5 with g5 | g5
                    all_goals
                      go_wp2_with (first | (at_builtin; refine wpList_append_own _ rfl _ _ 103 rfl w.heap.size 3 i0 (.int .i64 0) 1 8 Tryz.underlying103 hi hz0 hz1 hz2 rfl (by decide) _ _ _ rfl (hown.alloc _) ⟨wr.heap.size, 0, none⟩ 1 1 [.int .i64 (z : Int)] rfl rfl ?_ ?_ ?_ ?_ ?_ ?_))
                    all_goals
                      first
                        | rfl
                        | (intro u hu; simp at hu; subst hu; rfl)
                        | (unfold maxLen; omega)
                        | omega
                        | (have := hbw.size; simp; omega)
                        | (intro j u hj
                           match j, hj with
                           | 0, hj => simp at hj; subst hj; simp [Addr.add])
                        | (intro v' w1 hown' hgrow _
                           clear hown hi hz0 hz1 hz2
                           have Hown' := Lib.hid hown'
                           clear hown'
                           go_wp2_with fail
                           have hst := good_step hok Hl.out Hgood.out.1 Hgood.out.2 hne (by
                             intro e
                             have hc0 := cls_some Hcls.out
                             have hz0 := Hz.out
                             subst e
                             rw [acc_zero] at hz0
                             rcases hc0 with h | h | h | h <;> omega)
                           rw [← Hpos.out] at hst
                           go_roundg (s.size - (pos + n + 1))
                           case measure => omega
                           case rel =>
                             refine ⟨done ++ [z], by rw [hst.1]; omega, int_eq (by rw [hst.1]; omega), hst.2.2, hst.2.1, by rw [hst.1]; omega, ?_, (hbw.alloc hbw.size _).grown hgrow (by have := hbw.size; simp; omega) (fun k hk => (Hown.out.lt k hk).1)⟩
                             have e : intVals (done ++ [z]) = intVals done ++ [.int .i64 (z : Int)] := by simp [intVals]
                             rw [e, List.length_append]
                             exact Hown'.out)
        · have hn' : ¬ (pos : Int) + n < s.size := by omega
          go_wp2_with fail
          go_ret2
          refine ⟨hbw, Or.inl ⟨read_stop hok Hl.out hne (dec_bad rest hne n least c (by rw [← Hb.out]; exact Hcls.out) fun hg => ?_), rfl⟩⟩
          have := hg.1
          have := Hlen.out
          omega
    · have hps : pos = s.size := by omega
      have hdone : s.data.toList = txt done := by
        have := Hl.out
        rw [List.drop_eq_nil_of_le (by simp; have : s.data.size = s.size := rfl; omega), List.append_nil] at this
        exact this
      have hr : runes s.data.toList = some done := by rw [hdone]; exact runes_txt done hok
      have Hr := Lib.hid hr
      clear hr hdone hps
      have hown := Hown.out
      obtain ⟨a, cap, rfl⟩ := owns_shape hown
      have Hown2 := Lib.hid hown
      clear hown Hown
      go_wp2_with fail
      go_ret2
      exact ⟨hbw, Or.inr ⟨done, _, Hr.out, rfl, Hown2.out⟩⟩
end Go.Proofs.YtadookafnfnaoaaGreatDoor
/- The document's own reading of a text, as Count answers it. -/
namespace Go.Proofs.YtadookafnfnaoaaGreatDoor
open Go.RowKit Rn

/-- A row of whole numbers, nil or not. -/
def Row (w : World) (v : Value) (cs : List Nat) : Prop :=
  (v = .slice none 0 0 ∧ cs = []) ∨ ∃ g off cap, v = .slice (some ⟨g, off, none⟩) cs.length cap ∧ cs.length ≤ cap ∧ cap ≤ maxLen ∧ g < w.heap.size ∧ ∀ i, i < cs.length → w.cell? ⟨g, off + i, none⟩ = some (.int .i64 (cs.getD i 0 : Nat))
theorem Row.shape {w : World} {v : Value} {cs : List Nat} (h : Row w v cs) : ∃ a cap, v = .slice a cs.length cap := by
  rcases h with ⟨rfl, rfl⟩ | ⟨g, off, cap, rfl, _⟩
  · exact ⟨none, 0, rfl⟩
  · exact ⟨_, cap, rfl⟩
theorem Row.below {w w' : World} {v : Value} {cs : List Nat} (h : Row w v cs) (hb : Below w.heap.size w w') : Row w' v cs := by
  rcases h with h | ⟨g, off, cap, rfl, h1, h2, h3, h4⟩
  · exact Or.inl h
  · exact Or.inr ⟨g, off, cap, rfl, h1, h2, Nat.lt_of_lt_of_le h3 hb.size, fun i hi => by rw [hb.cell (by exact h3)]; exact h4 i hi⟩
theorem Row.of {w : World} {B : Nat} {v : Value} {cs : List Nat} (h : w.ownsRow B 3 1 v cs.length (intVals cs)) : Row w v cs := by
  have h2 := h.2
  rcases h2 with ⟨hv, h2⟩ | ⟨g, cap, cur, hv, _, hg, h3, h4, h5, h6⟩
  · exact Or.inl ⟨hv, List.eq_nil_of_length_eq_zero h2⟩
  · refine Or.inr ⟨g, 0, cap, hv, h3, h4, lt_of_block hg, fun i hi => ?_⟩
    subst hv
    have := h.cells rfl i (.int .i64 (cs.getD i 0 : Nat)) (by simp [intVals, hi, List.getD_eq_getElem?_getD])
    have e : ((⟨g, 0, none⟩ : Addr).add i) = ⟨g, 0 + i, none⟩ := by cases i <;> simp [Addr.add]
    rw [e] at this
    exact this

def ReadPost2 (w : World) (l : List UInt8) (e : Ending) (w' : World) : Prop := Below w.heap.size w w' ∧
  ((rd l = none ∧ ∃ v, e = .returned (.tuple #[v, .bool false])) ∨ ∃ cs v, rd l = some cs ∧ e = .returned (.tuple #[v, .bool true]) ∧ Row w' v cs)
theorem read2 (s : ByteArray) (w : World) (hs : s.size ≤ 1048576) : Calls Tryz.prog 65 #[.string s] w (ReadPost2 w s.data.toList) := by
  refine (read_any s w hs).mono ?_
  rintro e w' ⟨hb, ⟨h, rfl⟩ | ⟨cs, v, h, rfl, ho⟩⟩
  · exact ⟨hb, Or.inl ⟨by unfold rd; rw [h], _, rfl⟩⟩
  · by_cases hl : cs.length ≤ 20000
    · refine ⟨hb, Or.inr ⟨cs, v, by unfold rd; rw [h]; simp only [if_pos hl], ?_, Row.of ho⟩⟩
      rw [decide_eq_true (show (cs.length : Int) ≤ 20000 by omega)]
    · refine ⟨hb, Or.inl ⟨by unfold rd; rw [h]; simp only [if_neg hl], v, ?_⟩⟩
      rw [decide_eq_false (show ¬ (cs.length : Int) ≤ 20000 by omega)]

set_option maxHeartbeats 400000 in
theorem refCount_any (s : ByteArray) (w : World) (hs : s.size ≤ 1048576) :
    Calls Tryz.prog 81 #[.string s] w fun e w' => e = .returned (.tuple #[.int .i64 (cnt s.data.toList), .int .i64 (er s.data.toList)]) ∧ Below w.heap.size w w' := by
  go_enter Tryz.func81, Tryz.ntmps81
  go_wp2_with fail
  refine (read2 s _ hs).mono ?_
  rintro e w1 ⟨hb, ⟨h, v, rfl⟩ | ⟨cs, v, h, rfl, ho⟩⟩
  · have H := Lib.hid h
    clear h
    go_wp2_with fail
    go_ret2
    rw [cnt_none H.out, er_none H.out]
    exact ⟨rfl, hb⟩
  · have H := Lib.hid h
    clear h
    obtain ⟨a, cap, rfl⟩ := ho.shape
    have HO := Lib.hid ho
    clear ho
    go_wp2_with fail
    go_ret2
    rw [cnt_some H.out, er_some H.out]
    exact ⟨rfl, hb⟩
end Go.Proofs.YtadookafnfnaoaaGreatDoor
