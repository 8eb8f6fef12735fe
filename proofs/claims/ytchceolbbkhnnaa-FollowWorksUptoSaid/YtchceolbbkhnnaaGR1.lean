import Derived.Test.YtchceolbbkhnnaaGA1
import Derived.Test.YtchceolbbkhnnaaGC1
import Derived.Test.YtchceolbbkhnnaaGC2
import Derived.WalkKit
import Derived.WalkSpells
import Derived.WalkLawsBesides
import Derived.Deep.DeepCutAuto
import Derived.Deep.LoopGhost
import Derived.Deep.CutBlock
import Derived.OneCell
import Derived.BigRegion
namespace Go.Proofs
open Go.Shelf
end Go.Proofs
namespace Go.Proofs.Ytchceolbbkhnnaa
section
namespace Rn
def cls (b : Nat) : Option (Nat × Nat × Nat) :=
 if b < 128 then some (0, 0, b) else if b < 192 then none else if b < 224 then some (1, 128, b - 192) else if b < 240 then some (2, 2048, b - 224) else if b < 248 then some (3, 65536, b - 240) else none
def acc (c : Nat) (l : List UInt8) : Nat → Nat
 | 0 => c
 | j + 1 => acc c l j * 64 + (l.getD (j + 1) 0).toNat - 128
theorem acc_zero (c : Nat) (l : List UInt8) : acc c l 0 = c := rfl
theorem acc_succ (c : Nat) (l : List UInt8) (j : Nat) : acc c l (j + 1) = acc c l j * 64 + (l.getD (j + 1) 0).toNat - 128 := rfl
theorem acc_one (c : Nat) (l : List UInt8) : acc c l 1 = c * 64 + (l.getD 1 0).toNat - 128 := by
 have h := acc_succ c l 0; rw [acc_zero] at h; exact h
theorem acc_two (c : Nat) (l : List UInt8) : acc c l 2 = (c * 64 + (l.getD 1 0).toNat - 128) * 64 + (l.getD 2 0).toNat - 128 := by
 have h := acc_succ c l 1; rw [acc_one] at h; exact h
theorem acc_three (c : Nat) (l : List UInt8) : acc c l 3 = ((c * 64 + (l.getD 1 0).toNat - 128) * 64 + (l.getD 2 0).toNat - 128) * 64 + (l.getD 3 0).toNat - 128 := by
 have h := acc_succ c l 2; rw [acc_two] at h; exact h
def isCont (b : Nat) : Prop := 128 ≤ b ∧ b ≤ 191
instance (b : Nat) : Decidable (isCont b) := by unfold isCont; infer_instance
theorem cont_iff (b : Nat) : (b / 64 == 2) = decide (isCont b) := by
 unfold isCont
 by_cases h : 128 ≤ b ∧ b ≤ 191
 ·rw [decide_eq_true h, beq_iff_eq]; omega
 ·rw [decide_eq_false h, beq_eq_false_iff_ne]; omega
theorem cls_some {b n least c : Nat} (h : cls b = some (n, least, c)) :
 (n = 0 ∧ least = 0 ∧ c = b ∧ b < 128) ∨ (n = 1 ∧ least = 128 ∧ 192 ≤ b ∧ b < 224 ∧ c = b - 192) ∨ (n = 2 ∧ least = 2048 ∧ 224 ≤ b ∧ b < 240 ∧ c = b - 224) ∨ (n = 3 ∧ least = 65536 ∧ 240 ≤ b ∧ b < 248 ∧ c = b - 240) := by
 unfold cls at h
 by_cases h1 : b < 128
 ·rw [if_pos h1] at h; simp only [Option.some.injEq, Prod.mk.injEq] at h; omega
 rw [if_neg h1] at h
 by_cases h2 : b < 192
 ·rw [if_pos h2] at h; cases h
 rw [if_neg h2] at h
 by_cases h3 : b < 224
 ·rw [if_pos h3] at h; simp only [Option.some.injEq, Prod.mk.injEq] at h; omega
 rw [if_neg h3] at h
 by_cases h4 : b < 240
 ·rw [if_pos h4] at h; simp only [Option.some.injEq, Prod.mk.injEq] at h; omega
 rw [if_neg h4] at h
 by_cases h5 : b < 248
 ·rw [if_pos h5] at h; simp only [Option.some.injEq, Prod.mk.injEq] at h; omega
 ·rw [if_neg h5] at h; cases h
theorem cls_none {b : Nat} (h : cls b = none) : (128 ≤ b ∧ b < 192) ∨ 248 ≤ b := by
 unfold cls at h
 by_cases h1 : b < 128
 ·rw [if_pos h1] at h; cases h
 rw [if_neg h1] at h
 by_cases h2 : b < 192
 ·omega
 rw [if_neg h2] at h
 by_cases h3 : b < 224
 ·rw [if_pos h3] at h; cases h
 rw [if_neg h3] at h
 by_cases h4 : b < 240
 ·rw [if_pos h4] at h; cases h
 rw [if_neg h4] at h
 by_cases h5 : b < 248
 ·rw [if_pos h5] at h; cases h
 ·omega
theorem dec_none (l : List UInt8) (h : cls (l.getD 0 0).toNat = none) : dec l = (65533, 1) := by
 have hb : (l.getD 0 0).toNat < 256 := UInt8.toNat_lt _; rcases cls_none h with h | h
 all_goals
  unfold dec decN; have e1 : ((l.getD 0 0).toNat / 32 == 6) = false := by rw [beq_eq_false_iff_ne]; omega
  have e2 : ((l.getD 0 0).toNat / 16 == 14) = false := by rw [beq_eq_false_iff_ne]; omega
  have e3 : ((l.getD 0 0).toNat / 8 == 30) = false := by rw [beq_eq_false_iff_ne]; omega
  rw [if_neg (by omega), e1, e2, e3]; rfl
def good (l : List UInt8) (n least c : Nat) : Prop := n < l.length ∧ (∀ j, 1 ≤ j → j ≤ n → isCont (l.getD j 0).toNat) ∧ least ≤ acc c l n ∧ ok (acc c l n)
theorem dec_good (l : List UInt8) (n least c : Nat) (h : cls (l.getD 0 0).toNat = some (n, least, c)) (hg : good l n least c) : dec l = (acc c l n, n + 1) := by
 obtain ⟨g1, g2, g3, g4⟩ := hg; have hv := ok_valid (acc c l n); rw [decide_eq_true g4] at hv; have hcls := cls_some h; clear h; rcases hcls with ⟨en, el, ec, h⟩ | ⟨en, el, ha, hb, ec⟩ | ⟨en, el, ha, hb, ec⟩ | ⟨en, el, ha, hb, ec⟩
 all_goals subst en
 ·unfold dec decN; rw [if_pos h, ← ec]; rfl
 ·have k1 := g2 1 (by omega) (by omega)
  unfold dec decN; rw [if_neg (by omega), cont_iff (l.getD 1 0).toNat, decide_eq_true k1, decide_eq_true (show 1 < l.length by omega)]; have e1 : ((l.getD 0 0).toNat / 32 == 6) = true := by rw [beq_iff_eq]; omega
  rw [e1, if_pos (by rfl)]; unfold isCont at k1; have e2 : (l.getD 0 0).toNat % 32 * 64 + (l.getD 1 0).toNat % 64 = c * 64 + (l.getD 1 0).toNat - 128 := by clear hv g3 g4; omega
  rw [← acc_one] at e2; rw [e2, if_pos (by omega)]
 ·have k1 := g2 1 (by omega) (by omega)
  have k2 := g2 2 (by omega) (by omega); unfold dec decN; rw [if_neg (by omega), cont_iff (l.getD 1 0).toNat, cont_iff (l.getD 2 0).toNat, decide_eq_true k1, decide_eq_true k2, decide_eq_true (show 1 < l.length by omega), decide_eq_true (show 2 < l.length by omega)]; have e1 : ((l.getD 0 0).toNat / 32 == 6) = false := by rw [beq_eq_false_iff_ne]; omega
  have e3 : ((l.getD 0 0).toNat / 16 == 14) = true := by rw [beq_iff_eq]; omega
  rw [e1, e3, if_neg (by simp), if_pos (by rfl)]; unfold isCont at k1 k2; have e2 : (l.getD 0 0).toNat % 16 * 4096 + (l.getD 1 0).toNat % 64 * 64 + (l.getD 2 0).toNat % 64 = acc c l 2 := by clear hv g3 g4; simp only [acc_two]; omega
  rw [e2, hv, decide_eq_true (show acc c l 2 ≥ 2048 by omega), if_pos (by rfl)]
 ·have k1 := g2 1 (by omega) (by omega)
  have k2 := g2 2 (by omega) (by omega); have k3 := g2 3 (by omega) (by omega); unfold dec decN; rw [if_neg (by omega), cont_iff (l.getD 1 0).toNat, cont_iff (l.getD 2 0).toNat, cont_iff (l.getD 3 0).toNat, decide_eq_true k1, decide_eq_true k2, decide_eq_true k3, decide_eq_true (show 1 < l.length by omega), decide_eq_true (show 2 < l.length by omega), decide_eq_true (show 3 < l.length by omega)]; have e1 : ((l.getD 0 0).toNat / 32 == 6) = false := by rw [beq_eq_false_iff_ne]; omega
  have e3 : ((l.getD 0 0).toNat / 16 == 14) = false := by rw [beq_eq_false_iff_ne]; omega
  have e4 : ((l.getD 0 0).toNat / 8 == 30) = true := by rw [beq_iff_eq]; omega
  rw [e1, e3, e4, if_neg (by simp), if_neg (by simp), if_pos (by rfl)]; unfold isCont at k1 k2 k3; have e2 : (l.getD 0 0).toNat % 8 * 262144 + (l.getD 1 0).toNat % 64 * 4096 + (l.getD 2 0).toNat % 64 * 64 + (l.getD 3 0).toNat % 64 = acc c l 3 := by clear hv g3 g4; simp only [acc_three]; omega
  rw [e2, hv, decide_eq_true (show acc c l 3 ≥ 65536 by omega), if_pos (by rfl)]
theorem good_dec (l : List UInt8) (hl : l ≠ []) (n least c : Nat) (h : cls (l.getD 0 0).toNat = some (n, least, c)) (hn : dec l ≠ (65533, 1)) : good l n least c := by
 have hb : ∀ k, (l.getD k 0).toNat < 256 := fun k => UInt8.toNat_lt _; have hpos : 0 < l.length := List.length_pos_iff.2 hl; have hcls := cls_some h; clear h; rcases hcls with ⟨en, el, ec, h⟩ | ⟨en, el, ha, hb', ec⟩ | ⟨en, el, ha, hb', ec⟩ | ⟨en, el, ha, hb', ec⟩
 all_goals subst en
 ·exact ⟨hpos, fun j h1 h2 => by omega, (by omega), Or.inl (by simp only [acc_zero]; omega)⟩
 ·unfold dec decN at hn
  rw [if_neg (by omega)] at hn; have e1 : ((l.getD 0 0).toNat / 32 == 6) = true := by rw [beq_iff_eq]; omega
  have e3 : ((l.getD 0 0).toNat / 16 == 14) = false := by rw [beq_eq_false_iff_ne]; omega
  have e4 : ((l.getD 0 0).toNat / 8 == 30) = false := by rw [beq_eq_false_iff_ne]; omega
  rw [e1, e3, e4, cont_iff (l.getD 1 0).toNat] at hn; simp only [Bool.true_and, Bool.false_and, Bool.false_eq_true, if_false, Bool.and_eq_true, decide_eq_true_eq] at hn
  by_cases k : 1 < l.length ∧ isCont (l.getD 1 0).toNat
  ·rw [if_pos k] at hn
   have k2 := k.2; unfold isCont at k2; have e2 : (l.getD 0 0).toNat % 32 * 64 + (l.getD 1 0).toNat % 64 = acc c l 1 := by simp only [acc_one]; omega
   rw [e2] at hn
   by_cases k3 : acc c l 1 ≥ 128
   ·refine ⟨k.1, fun j h1 h2 => by rw [show j = 1 from by omega]; exact k.2, (by omega), Or.inl ?_⟩
    simp only [acc_one]; omega
   ·rw [if_neg k3] at hn; exact absurd rfl hn
  ·rw [if_neg k] at hn; exact absurd rfl hn
 ·unfold dec decN at hn
  rw [if_neg (by omega)] at hn; have e1 : ((l.getD 0 0).toNat / 32 == 6) = false := by rw [beq_eq_false_iff_ne]; omega
  have e3 : ((l.getD 0 0).toNat / 16 == 14) = true := by rw [beq_iff_eq]; omega
  have e4 : ((l.getD 0 0).toNat / 8 == 30) = false := by rw [beq_eq_false_iff_ne]; omega
  rw [e1, e3, e4, cont_iff (l.getD 1 0).toNat, cont_iff (l.getD 2 0).toNat] at hn; simp only [Bool.true_and, Bool.false_and, Bool.false_eq_true, if_false, Bool.and_eq_true, decide_eq_true_eq] at hn
  by_cases k : (1 < l.length ∧ isCont (l.getD 1 0).toNat) ∧ 2 < l.length ∧ isCont (l.getD 2 0).toNat
  ·rw [if_pos k] at hn
   obtain ⟨⟨_, k2⟩, k0, k3⟩ := k; have k2' := k2; have k3' := k3; unfold isCont at k2' k3'; have e2 : (l.getD 0 0).toNat % 16 * 4096 + (l.getD 1 0).toNat % 64 * 64 + (l.getD 2 0).toNat % 64 = acc c l 2 := by simp only [acc_two]; omega
   rw [e2, ok_valid] at hn; simp only [decide_eq_true_eq] at hn
   by_cases k4 : acc c l 2 ≥ 2048 ∧ ok (acc c l 2)
   ·exact ⟨k0, fun j h1 h2 => by rcases (show j = 1 ∨ j = 2 by omega) with rfl | rfl; exact k2; exact k3, (by have := k4.1; omega), k4.2⟩
   ·rw [if_neg k4] at hn; exact absurd rfl hn
  ·rw [if_neg k] at hn; exact absurd rfl hn
 ·unfold dec decN at hn
  rw [if_neg (by omega)] at hn; have e1 : ((l.getD 0 0).toNat / 32 == 6) = false := by rw [beq_eq_false_iff_ne]; omega
  have e3 : ((l.getD 0 0).toNat / 16 == 14) = false := by rw [beq_eq_false_iff_ne]; omega
  have e4 : ((l.getD 0 0).toNat / 8 == 30) = true := by rw [beq_iff_eq]; omega
  rw [e1, e3, e4, cont_iff (l.getD 1 0).toNat, cont_iff (l.getD 2 0).toNat, cont_iff (l.getD 3 0).toNat] at hn; simp only [Bool.true_and, Bool.false_and, Bool.false_eq_true, if_false, Bool.and_eq_true, decide_eq_true_eq] at hn
  by_cases k : ((1 < l.length ∧ isCont (l.getD 1 0).toNat) ∧ 2 < l.length ∧ isCont (l.getD 2 0).toNat) ∧ 3 < l.length ∧ isCont (l.getD 3 0).toNat
  ·rw [if_pos k] at hn
   obtain ⟨⟨⟨_, k2⟩, _, k3⟩, k0, k5⟩ := k; have k2' := k2; have k3' := k3; have k5' := k5; unfold isCont at k2' k3' k5'; have e2 : (l.getD 0 0).toNat % 8 * 262144 + (l.getD 1 0).toNat % 64 * 4096 + (l.getD 2 0).toNat % 64 * 64 + (l.getD 3 0).toNat % 64 = acc c l 3 := by simp only [acc_three]; omega
   rw [e2, ok_valid] at hn; simp only [decide_eq_true_eq] at hn
   by_cases k4 : acc c l 3 ≥ 65536 ∧ ok (acc c l 3)
   ·exact ⟨k0, fun j h1 h2 => by rcases (show j = 1 ∨ j = 2 ∨ j = 3 by omega) with rfl | rfl | rfl; exact k2; exact k3; exact k5, (by have := k4.1; omega), k4.2⟩
   ·rw [if_neg k4] at hn; exact absurd rfl hn
  ·rw [if_neg k] at hn; exact absurd rfl hn
theorem dec_bad (l : List UInt8) (hl : l ≠ []) (n least c : Nat) (h : cls (l.getD 0 0).toNat = some (n, least, c)) (hg : ¬ good l n least c) : dec l = (65533, 1) :=
 Decidable.byContradiction fun hn => hg (good_dec l hl n least c h hn)
theorem acc_le {l : List UInt8} {n least c : Nat} (h : cls (l.getD 0 0).toNat = some (n, least, c)) (j : Nat) (hj : j ≤ n) (hc : ∀ i, 1 ≤ i → i ≤ j → isCont (l.getD i 0).toNat) : acc c l j ≤ 2097151 ∧ (j < n → acc c l j ≤ 32767) := by
 unfold isCont at hc; have hcls := cls_some h; clear h; rcases hcls with ⟨en, el, ec, h⟩ | ⟨en, el, ha, hb, ec⟩ | ⟨en, el, ha, hb, ec⟩ | ⟨en, el, ha, hb, ec⟩
 all_goals subst en
 ·rw [show j = 0 from by omega]; simp only [acc_zero]; omega
 ·rcases (show j = 0 ∨ j = 1 by omega) with rfl | rfl
  ·simp only [acc_zero]; omega
  ·have := hc 1 (by omega) (by omega)
   simp only [acc_one]; omega
 ·rcases (show j = 0 ∨ j = 1 ∨ j = 2 by omega) with rfl | rfl | rfl
  ·simp only [acc_zero]; omega
  ·have := hc 1 (by omega) (by omega)
   simp only [acc_one]; omega
  ·have := hc 1 (by omega) (by omega); have := hc 2 (by omega) (by omega)
   simp only [acc_two]; omega
 ·rcases (show j = 0 ∨ j = 1 ∨ j = 2 ∨ j = 3 by omega) with rfl | rfl | rfl | rfl
  ·simp only [acc_zero]; omega
  ·have := hc 1 (by omega) (by omega)
   simp only [acc_one]; omega
  ·have := hc 1 (by omega) (by omega); have := hc 2 (by omega) (by omega)
   simp only [acc_two]; omega
  ·have := hc 1 (by omega) (by omega); have := hc 2 (by omega) (by omega); have := hc 3 (by omega) (by omega)
   simp only [acc_three]; omega
end Rn
end
section
open Go.RowKit Rn
open Lib (hid)
def intVals (cs : List Nat) : List Value := cs.map fun (c : Nat) => Value.int .i64 (c : Int)
def ReadPost (w : World) (l : List UInt8) (e : Ending) (w' : World) : Prop := Below w.heap.size w w' ∧
 ((runes l = none ∧ e = .returned (.tuple #[.slice none 0 0, .bool false])) ∨
   ∃ cs v, runes l = some cs ∧ e = .returned (.tuple #[v, .bool (decide ((cs.length : Int) ≤ 20000))]) ∧ w'.ownsRow w.heap.size 3 1 v cs.length (intVals cs))
theorem int_eq {k : IntKind} {a b : Int} (h : a = b) : Value.int k a = Value.int k b := by rw [h]
theorem read_stop {l r : List UInt8} {done : List Nat} (hok : allOk done) (hl : l = txt done ++ r) (hr : r ≠ []) (hb : dec r = (65533, 1)) : runes l = none := by
 rw [hl, runes_append done hok, runes_bad r hr hb]; rfl
theorem good_step {l rest : List UInt8} {done : List Nat} {z n : Nat} (hok : allOk done) (hl : l = txt done ++ rest) (hd : dec rest = (z, n + 1)) (hz : ok z) (hne : rest ≠ []) (hnb : n = 0 → z < 128) :
 (txt (done ++ [z])).length = (txt done).length + n + 1 ∧ l = txt (done ++ [z]) ++ l.drop (txt (done ++ [z])).length ∧ allOk (done ++ [z]) := by
 rcases dec_cases rest hne with hb | ⟨_, h2, h3⟩
 ·rw [hd] at hb
  simp only [Prod.mk.injEq] at hb; have := hnb (by omega); omega
 ·rw [hd] at h2 h3
  simp only at h2 h3; have e1 : txt [z] = enc z := by simp [txt]
  have e2 : (txt (done ++ [z])).length = (txt done).length + n + 1 := by rw [txt_append, e1, List.length_append]; omega
  refine ⟨e2, ?_, fun c hc => ?_⟩
  ·have e3 : l.drop (txt (done ++ [z])).length = rest.drop (n + 1) := by
    rw [e2, hl, Nat.add_assoc, ← List.drop_drop, List.drop_left]
   rw [e3, txt_append, e1, List.append_assoc, ← h3]; exact hl
  ·rcases List.mem_append.1 hc with hc | hc
   ·exact hok c hc
   ·rw [List.mem_singleton] at hc; subst hc; exact hz
theorem owns_shape {w : World} {B : Nat} {e : TypeId} {v : Value} {n : Nat} {xs : List Value} (h : w.ownsRow B e 1 v n xs) : ∃ a cap, v = .slice a n cap := by
 obtain ⟨_, h2⟩ := h; rcases h2 with ⟨hv, h2⟩ | ⟨g, cap, cur, hv, _⟩
 ·subst h2; exact ⟨_, _, hv⟩
 ·exact ⟨_, _, hv⟩
theorem drop_ne' {s : ByteArray} {pos : Nat} (h : pos < s.size) : s.data.toList.drop pos ≠ [] := by
 intro e; have := congrArg List.length e; simp at this; have h2 : s.data.size = s.size := rfl; omega
theorem byte_at (s : ByteArray) (pos k : Nat) (h : pos + k < s.size) : (s[pos + k]'h).toNat = ((s.data.toList.drop pos).getD k 0).toNat := by
 rw [List.getD_eq_getElem?_getD, List.getElem?_drop, List.getElem?_eq_getElem (by simpa using h)]; rfl
theorem byte_zero (s : ByteArray) (pos : Nat) (h : pos < s.size) : (s[pos]'h).toNat = ((s.data.toList.drop pos).getD 0 0).toNat := byte_at s pos 0 h
theorem drop_len (s : ByteArray) (pos : Nat) : (s.data.toList.drop pos).length = s.size - pos := by simp
theorem infoInt : (Try.prog.info? 3).map (fun i => (i.zero, i.size, i.bytes)) = some (some (.int .i64 0), 1, 8) := by kernel_rfl
set_option maxRecDepth 100000 in
set_option maxHeartbeats 2000000 in
theorem read_any (s : ByteArray) (w : World) (hs : s.size ≤ 1048576) :
 Calls Try.prog 104 #[.string s] w (ReadPost w s.data.toList) := by
 go_enter Try.func104, Try.ntmps104
 go_wp2_with fail
 go_loopg [4, 5] s.size (fun gk v i wr => ∃ (done : List Nat), s.size ≤ gk + (txt done).length ∧ i = .int .i64 ((txt done).length : Int) ∧ allOk done ∧ s.data.toList = txt done ++ s.data.toList.drop (txt done).length ∧ (txt done).length ≤ s.size ∧ wr.ownsRow w.heap.size 3 1 v done.length (intVals done) ∧ Below w.heap.size w wr)
 case atStart => exact ⟨[], by simp, rfl, fun c h => (by cases h), by simp [txt_nil], by simp [txt_nil], World.ownsRow_nil _ _ _ _, Below.refl _ _⟩
 case round =>
  obtain ⟨done, hgk, rfl, hok, hl, hp, hown, hbw⟩ := hrel; obtain ⟨pos, hpos⟩ : ∃ pos, pos = (txt done).length := ⟨_, rfl⟩; rw [← hpos] at hl hp hgk ⊢; have Hl := hid hl; have Hpos := hid hpos; clear hl hpos; have Hown := hid hown; clear hown
  by_cases hlt : pos < s.size
  ·have hlt' : (pos : Int) < (s.size : Int) := by omega
   have hb : s[pos].toNat < 256 := UInt8.toNat_lt _; have Hb := hid (byte_zero s pos hlt); have hne := drop_ne' hlt; have hlen := drop_len s pos; obtain ⟨rest, hrest⟩ : ∃ rest, rest = s.data.toList.drop pos := ⟨_, rfl⟩; rw [← hrest] at Hb Hl hne hlen; have Hrest := hid hrest; clear hrest; have Hlen := hid hlen; clear hlen
   go_upto_block 2 with fail
   go_cut [6, 7, 8] (fun s6 s7 s8 wx => ∃ n least c : Nat, cls s[pos].toNat = some (n, least, c) ∧ s6 = .int .i64 (c : Int) ∧ s7 = .int .i64 (n : Int) ∧ s8 = .int .i64 (least : Int) ∧ wx = wr)
   case first =>
    go_wp2_with fail
    ·have h1 : (s[pos].toNat : Int) < 128 := by assumption
     go_meet
     exact ⟨0, 0, s[pos].toNat, by unfold cls; rw [if_pos (by omega)], rfl, rfl, rfl, rfl⟩
    ·have h1 : (192 : Int) ≤ s[pos].toNat := by assumption
     have h2 : (s[pos].toNat : Int) < 224 := by assumption
     go_meet
     exact ⟨1, 128, s[pos].toNat - 192, by unfold cls; rw [if_neg (by omega), if_neg (by omega), if_pos (by omega)], int_eq (by omega), rfl, rfl, rfl⟩
    ·have h1 : (224 : Int) ≤ s[pos].toNat := by assumption
     have h2 : (s[pos].toNat : Int) < 240 := by assumption
     go_meet
     exact ⟨2, 2048, s[pos].toNat - 224, by unfold cls; rw [if_neg (by omega), if_neg (by omega), if_neg (by omega), if_pos (by omega)], int_eq (by omega), rfl, rfl, rfl⟩
    ·have h1 : (240 : Int) ≤ s[pos].toNat := by assumption
     have h2 : (s[pos].toNat : Int) < 248 := by assumption
     go_meet
     exact ⟨3, 65536, s[pos].toNat - 240, by unfold cls; rw [if_neg (by omega), if_neg (by omega), if_neg (by omega), if_neg (by omega), if_pos (by omega)], int_eq (by omega), rfl, rfl, rfl⟩
    ·have h1 : (248 : Int) ≤ s[pos].toNat := by assumption
     go_ret2
     refine ⟨hbw, Or.inl ⟨read_stop hok Hl.out hne (dec_none rest ?_), rfl⟩⟩; rw [← Hb.out]; unfold cls; rw [if_neg (by omega), if_neg (by omega), if_neg (by omega), if_neg (by omega), if_neg (by omega)]
    ·have h1 : (128 : Int) ≤ s[pos].toNat := by assumption
     have h2 : (s[pos].toNat : Int) < 192 := by assumption
     go_ret2
     refine ⟨hbw, Or.inl ⟨read_stop hok Hl.out hne (dec_none rest ?_), rfl⟩⟩; rw [← Hb.out]; unfold cls; rw [if_neg (by omega), if_pos (by omega)]
   case rest =>
    obtain ⟨n, least, c, hcls, rfl, rfl, rfl, rfl⟩ := hcut; have Hcls := hid hcls; clear hcls; have hn3 : n ≤ 3 := by rcases cls_some Hcls.out with h | h | h | h <;> omega
    by_cases hn : pos + n < s.size
    ·have hn' : (pos : Int) + n < s.size := by omega
     go_wp2_with fail
     go_loopg [6, 9] n (fun gi v6 v9 wx => ∃ k : Nat, n ≤ gi + k ∧ v9 = .int .i64 ((k : Int) + 1) ∧ k ≤ n ∧ v6 = .int .i64 (acc c rest k : Nat) ∧ Hid (∀ j, 1 ≤ j → j ≤ k → isCont (rest.getD j 0).toNat) ∧ wx = wc)
     case atStart => exact ⟨0, by omega, rfl, Nat.zero_le _, rfl, fun j h1 h2 => by omega, rfl⟩
     case round =>
      obtain ⟨k, hgi, rfl, hk, rfl, hcont, rfl⟩ := hrel; have hb0 := acc_le (by rw [← Hb.out]; exact Hcls.out) k hk hcont.out
      by_cases hkn : k < n
      ·have hkn' : (k : Int) + 1 ≤ (n : Int) := by omega
       have hpk : pos + (k + 1) < s.size := by omega
       have hpk' : (pos : Int) + ((k : Int) + 1) < (s.size : Int) := by omega
       have hb1 : ((acc c rest k : Nat) : Int) ≤ 32767 := by have := hb0.2 hkn; omega
       have hb2 : s[pos + (k + 1)].toNat < 256 := UInt8.toNat_lt _; have Hb1 : Hid (s[pos + (k + 1)].toNat = (rest.getD (k + 1) 0).toNat) := by
        show _ = _
        rw [Hrest.out]; exact byte_at s pos (k + 1) hpk
       clear hb0
       by_cases hc1 : 128 ≤ s[pos + (k + 1)].toNat
       ·by_cases hc2 : s[pos + (k + 1)].toNat ≤ 191
        ·go_wp2_with fail
         go_roundg (gk - 1)
         case measure => omega
         case rel =>
          refine ⟨k + 1, by omega, int_eq (by omega), by omega, int_eq ?_, fun j h1 h2 => ?_, rfl⟩
          ·rw [acc_succ, ← Hb1.out]; omega
          ·rcases Nat.lt_or_eq_of_le h2 with h3 | h3
           ·exact hcont.out j h1 (by omega)
           ·rw [h3, ← Hb1.out]; exact ⟨hc1, hc2⟩
        ·go_wp2_with fail
         go_ret2
         refine ⟨hbw, Or.inl ⟨read_stop hok Hl.out hne (dec_bad rest hne n least c (by rw [← Hb.out]; exact Hcls.out) fun hg => ?_), rfl⟩⟩; have := hg.2.1 (k + 1) (by omega) (by omega); rw [← Hb1.out] at this; exact hc2 this.2
       ·go_wp2_with fail
        go_ret2
        refine ⟨hbw, Or.inl ⟨read_stop hok Hl.out hne (dec_bad rest hne n least c (by rw [← Hb.out]; exact Hcls.out) fun hg => ?_), rfl⟩⟩; have := hg.2.1 (k + 1) (by omega) (by omega); rw [← Hb1.out] at this; exact hc1 this.1
      ·have hkn2 : n = k := by omega
       subst hkn2; obtain ⟨z, hz⟩ : ∃ z, z = acc c rest n := ⟨_, rfl⟩; rw [← hz] at hb0 ⊢; have Hz := hid hz; clear hz; have hz1 : z ≤ 2097151 := hb0.1; clear hb0; have Hbad : Hid (¬ (least ≤ z ∧ ok z) → runes s.data.toList = none) := fun hx => read_stop hok Hl.out hne (dec_bad rest hne n least c (by rw [← Hb.out]; exact Hcls.out) fun hg => hx (by have := hg.2.2; rw [← Hz.out] at this; exact this))
       by_cases g1 : z < least
       ·have g1' : (z : Int) < least := by omega
        go_wp2_with fail
        go_ret2
        exact ⟨hbw, Or.inl ⟨Hbad.out (by omega), rfl⟩⟩
       ·by_cases g2 : 55296 ≤ z ∧ z ≤ 57343
        ·obtain ⟨g2, g3⟩ := g2
         go_wp2_with fail
         go_ret2
         exact ⟨hbw, Or.inl ⟨Hbad.out (fun hx => by have := hx.2; unfold ok at this; omega), rfl⟩⟩
        ·by_cases g4 : 1114111 < z
         ·by_cases g5 : 55296 ≤ z
          ·have g6 : 57343 < z := by omega
           clear g2; go_wp2_with fail
           go_ret2
           exact ⟨hbw, Or.inl ⟨Hbad.out (fun hx => by have := hx.2; unfold ok at this; omega), rfl⟩⟩
          ·omega
         ·have Hgood : Hid (dec rest = (z, n + 1) ∧ ok z) := by
           have e := dec_good rest n least c (by rw [← Hb.out]; exact Hcls.out) ⟨by have := Hlen.out; omega, hcont.out, by rw [← Hz.out]; omega, by rw [← Hz.out]; unfold ok; omega⟩; rw [← Hz.out] at e; exact ⟨e, by unfold ok; omega⟩
          clear Hbad; have g5 : z < 55296 ∨ 57343 < z := by omega
          clear g2; obtain ⟨i0, hi, hz0, hz1, hz2⟩ := info_parts infoInt; have hown := Hown.out; have hdl : done.length ≤ 1048576 := by have := (txt_len done).1; have := Hpos.out; omega
          rcases g5 with g5 | g5
          all_goals
           go_wp2_with (first | (at_builtin; refine wpList_append_own _ rfl _ _ 138 rfl w.heap.size 3 i0 (.int .i64 0) 1 8 Try.underlying138 hi hz0 hz1 hz2 rfl (by decide) _ _ _ rfl (hown.alloc _) ⟨wr.heap.size, 0, none⟩ 1 1 [.int .i64 (z : Int)] rfl rfl ?_ ?_ ?_ ?_ ?_ ?_))
          all_goals
           first
            | rfl
            | (intro u hu; simp at hu; subst hu; rfl)
            | (unfold maxLen; omega)
            | omega
            | (have := hbw.size; simp; omega)
            | (intro j u hj
               match j, hj with
               | 0, hj => simp at hj; subst hj; simp [Addr.add])
            | (intro v' w1 hown' hgrow _
               clear hown hi hz0 hz1 hz2; have Hown' := hid hown'; clear hown'; go_wp2_with fail
               have hst := good_step hok Hl.out Hgood.out.1 Hgood.out.2 hne (by
                intro e; have hc0 := cls_some Hcls.out; have hz0 := Hz.out; subst e; rw [acc_zero] at hz0; rcases hc0 with h | h | h | h <;> omega)
               rw [← Hpos.out] at hst
               go_roundg (s.size - (pos + n + 1))
               case measure => omega
               case rel =>
                refine ⟨done ++ [z], by rw [hst.1]; omega, int_eq (by rw [hst.1]; omega), hst.2.2, hst.2.1, by rw [hst.1]; omega, ?_, (hbw.alloc hbw.size _).grown hgrow (by have := hbw.size; simp; omega) (fun k hk => (Hown.out.lt k hk).1)⟩; have e : intVals (done ++ [z]) = intVals done ++ [.int .i64 (z : Int)] := by simp [intVals]
                rw [e, List.length_append]; exact Hown'.out)
    ·have hn' : ¬ (pos : Int) + n < s.size := by omega
     go_wp2_with fail
     go_ret2
     refine ⟨hbw, Or.inl ⟨read_stop hok Hl.out hne (dec_bad rest hne n least c (by rw [← Hb.out]; exact Hcls.out) fun hg => ?_), rfl⟩⟩; have := hg.1; have := Hlen.out; omega
  ·have hps : pos = s.size := by omega
   have hdone : s.data.toList = txt done := by
    have := Hl.out; rw [List.drop_eq_nil_of_le (by simp; have : s.data.size = s.size := rfl; omega), List.append_nil] at this; exact this
   have hr : runes s.data.toList = some done := by rw [hdone]; exact runes_txt done hok
   have Hr := hid hr; clear hr hdone hps; have hown := Hown.out; obtain ⟨a, cap, rfl⟩ := owns_shape hown; have Hown2 := hid hown; clear hown Hown; go_wp2_with fail
   go_ret2
   exact ⟨hbw, Or.inr ⟨done, _, Hr.out, rfl, Hown2.out⟩⟩
end
section
open Go.RowKit Rn
def Row (w : World) (v : Value) (cs : List Nat) : Prop :=
 (v = .slice none 0 0 ∧ cs = []) ∨ ∃ g off cap, v = .slice (some ⟨g, off, none⟩) cs.length cap ∧ cs.length ≤ cap ∧ cap ≤ maxLen ∧ g < w.heap.size ∧ ∀ i, i < cs.length → w.cell? ⟨g, off + i, none⟩ = some (.int .i64 (cs.getD i 0 : Nat))
theorem Row.shape {w : World} {v : Value} {cs : List Nat} (h : Row w v cs) : ∃ a cap, v = .slice a cs.length cap := by
 rcases h with ⟨rfl, rfl⟩ | ⟨g, off, cap, rfl, _⟩
 ·exact ⟨none, 0, rfl⟩
 ·exact ⟨_, cap, rfl⟩
theorem Row.below {w w' : World} {v : Value} {cs : List Nat} (h : Row w v cs) (hb : Below w.heap.size w w') : Row w' v cs := by
 rcases h with h | ⟨g, off, cap, rfl, h1, h2, h3, h4⟩
 ·exact Or.inl h
 ·exact Or.inr ⟨g, off, cap, rfl, h1, h2, Nat.lt_of_lt_of_le h3 hb.size, fun i hi => by rw [hb.cell (by exact h3)]; exact h4 i hi⟩
theorem Row.of {w : World} {B : Nat} {v : Value} {cs : List Nat} (h : w.ownsRow B 3 1 v cs.length (intVals cs)) : Row w v cs := by
 have h2 := h.2; rcases h2 with ⟨hv, h2⟩ | ⟨g, cap, cur, hv, _, hg, h3, h4, h5, h6⟩
 ·exact Or.inl ⟨hv, List.eq_nil_of_length_eq_zero h2⟩
 ·refine Or.inr ⟨g, 0, cap, hv, h3, h4, lt_of_block hg, fun i hi => ?_⟩
  subst hv; have := h.cells rfl i (.int .i64 (cs.getD i 0 : Nat)) (by simp [intVals, hi, List.getD_eq_getElem?_getD]); have e : ((⟨g, 0, none⟩ : Addr).add i) = ⟨g, 0 + i, none⟩ := by cases i <;> simp [Addr.add]
  rw [e] at this; exact this
def ReadPost2 (w : World) (l : List UInt8) (e : Ending) (w' : World) : Prop := Below w.heap.size w w' ∧
 ((rd l = none ∧ ∃ v, e = .returned (.tuple #[v, .bool false])) ∨ ∃ cs v, rd l = some cs ∧ e = .returned (.tuple #[v, .bool true]) ∧ Row w' v cs)
theorem read2 (s : ByteArray) (w : World) (hs : s.size ≤ 1048576) : Calls Try.prog 104 #[.string s] w (ReadPost2 w s.data.toList) := by
 refine (read_any s w hs).mono ?_; rintro e w' ⟨hb, ⟨h, rfl⟩ | ⟨cs, v, h, rfl, ho⟩⟩
 ·exact ⟨hb, Or.inl ⟨by unfold rd; rw [h], _, rfl⟩⟩
 ·by_cases hl : cs.length ≤ 20000
  ·refine ⟨hb, Or.inr ⟨cs, v, by unfold rd; rw [h]; simp only [if_pos hl], ?_, Row.of ho⟩⟩
   rw [decide_eq_true (show (cs.length : Int) ≤ 20000 by omega)]
  ·refine ⟨hb, Or.inl ⟨by unfold rd; rw [h]; simp only [if_neg hl], v, ?_⟩⟩
   rw [decide_eq_false (show ¬ (cs.length : Int) ≤ 20000 by omega)]
set_option maxHeartbeats 400000 in
theorem refCount_any (s : ByteArray) (w : World) (hs : s.size ≤ 1048576) :
 Calls Try.prog 84 #[.string s] w fun e w' => e = .returned (.tuple #[.int .i64 (cnt s.data.toList), .int .i64 (er s.data.toList)]) ∧ Below w.heap.size w w' := by
 go_enter Try.func84, Try.ntmps84
 go_wp2_with fail
 refine (read2 s _ hs).mono ?_; rintro e w1 ⟨hb, ⟨h, v, rfl⟩ | ⟨cs, v, h, rfl, ho⟩⟩
 ·have H := Lib.hid h
  clear h; go_wp2_with fail
  go_ret2
  rw [cnt_none H.out, er_none H.out]; exact ⟨rfl, hb⟩
 ·have H := Lib.hid h
  clear h; obtain ⟨a, cap, rfl⟩ := ho.shape; have HO := Lib.hid ho; clear ho; go_wp2_with fail
  go_ret2
  rw [cnt_some H.out, er_some H.out]; exact ⟨rfl, hb⟩
end
section
open Go.RowKit Ch
open Lib (hid)
def fmB (o : OpD) : Bool := decide ((o.kind = 1 ∧ 1 ≤ o.n ∧ o.text.size = 0) ∨ (o.kind = 2 ∧ o.n = 0 ∧ o.text.size ≠ 0) ∨ (o.kind = 3 ∧ 1 ≤ o.n ∧ o.text.size = 0 ∧ o.attrs.length = 0))
theorem fm_bad {o : OpD} (h : fmB o = false) : opE o = 30 := by
 have h := of_decide_eq_false h; unfold opE; split
 ·rw [if_pos (by omega)]
 ·split
  ·rw [if_pos (by omega)]
  ·split
   ·rw [if_pos (by omega)]
   ·rfl
theorem fm_put {o : OpD} (h : fmB o = true) (hk : o.kind = 2) : opE o = if er o.text.data.toList ≠ 0 then er o.text.data.toList else rgtE o.attrs := by
 have h := of_decide_eq_true h; unfold opE; rw [if_neg (by omega), if_pos hk, if_neg (by omega)]
theorem fm_rest {o : OpD} (h : fmB o = true) (hk : o.kind ≠ 2) : opE o = chgE o.attrs := by
 have h := of_decide_eq_true h; unfold opE; split
 ·rw [if_neg (by omega)]
 ·rw [if_pos (by omega), if_neg (by omega)]
  have : o.attrs = [] := List.length_eq_zero_iff.1 (by omega); rw [this]; rfl
set_option maxRecDepth 100000 in
set_option maxHeartbeats 2000000 in
theorem formed_any (o : OpD) (av : Value) (w : World) (hv : AtRow w av o.attrs) :
 Calls Try.prog 83 #[opAgg o av] w (OutB w (fmB o)) := by
 have hal : o.attrs.length ≤ 9223372036854775807 := by
  obtain ⟨_, _, _, h1, h2, _⟩ := hv; unfold maxLen at h2; omega
 obtain ⟨aa, acap, rfl, _⟩ := hv; obtain ⟨W, hW⟩ : ∃ W, W = w.alloc (.cells #[.int .i64 o.kind, .int .i64 o.n, .string o.text, .slice aa o.attrs.length acap] 40) := ⟨_, rfl⟩; have BW := hid (show Below w.heap.size w W by rw [hW]; exact (Below.refl _ _).alloc (Nat.le_refl _) _); have c0 : W.cell? ⟨w.heap.size, 0, none⟩ = some (.int .i64 o.kind) := by rw [hW]; go_simp
 have c1 : W.cell? ⟨w.heap.size, 1, none⟩ = some (.int .i64 o.n) := by rw [hW]; go_simp
 have c2 : W.cell? ⟨w.heap.size, 2, none⟩ = some (.string o.text) := by rw [hW]; go_simp
 have c3 : W.cell? ⟨w.heap.size, 3, none⟩ = some (.slice aa o.attrs.length acap) := by rw [hW]; go_simp
 have HW := hid hW; clear hW
 by_cases hk1 : o.kind = 1
 ·skip
  have k1 : (o.kind == 1) = true := by rw [hk1]; rfl
  by_cases hn : o.n < 1
  ·skip
   have hR := hid (show fmB o = false from decide_eq_false (by omega)); clear hk1; go_enter Try.func83, Try.ntmps83
   go_wp2_with fail
   rw [← HW.out]; go_wp2_with fail
   go_ret
   exact outB_mk hR.out BW.out
  ·have hn1 : 1 ≤ o.n := by omega
   by_cases ht0 : o.text.size = 0
   ·obtain ⟨t1, t2⟩ := text_empty ht0
    have hR := hid (show fmB o = true from decide_eq_true (by omega)); clear hk1 hn ht0; go_enter Try.func83, Try.ntmps83
    go_wp2_with fail
    rw [← HW.out]; go_wp2_with fail
    go_ret
    exact outB_mk hR.out BW.out
   ·have t1 := text_full ht0
    have hR := hid (show fmB o = false from decide_eq_false (by omega)); clear hk1 hn ht0; go_enter Try.func83, Try.ntmps83
    go_wp2_with fail
    rw [← HW.out]; go_wp2_with fail
    go_ret
    exact outB_mk hR.out BW.out
 ·by_cases hk2 : o.kind = 2
  ·skip
   have k1 : (o.kind == 1) = false := by rw [beq_eq_false_iff_ne]; exact hk1
   have k2 : (o.kind == 2) = true := by rw [hk2]; rfl
   by_cases hn : o.n = 0
   ·have n0 : (o.n == 0) = true := by rw [hn]; rfl
    by_cases ht0 : o.text.size = 0
    ·obtain ⟨t1, t2⟩ := text_empty ht0
     have hR := hid (show fmB o = false from decide_eq_false (by omega)); clear hk1 hk2 hn ht0; go_enter Try.func83, Try.ntmps83
     go_wp2_with fail
     rw [← HW.out]; go_wp2_with fail
     go_ret
     exact outB_mk hR.out BW.out
    ·have t1 := text_full ht0
     have hR := hid (show fmB o = true from decide_eq_true (by omega)); clear hk1 hk2 hn ht0; go_enter Try.func83, Try.ntmps83
     go_wp2_with fail
     rw [← HW.out]; go_wp2_with fail
     go_ret
     exact outB_mk hR.out BW.out
   ·have n0 : (o.n == 0) = false := by rw [beq_eq_false_iff_ne]; exact hn
    have hR := hid (show fmB o = false from decide_eq_false (by omega)); clear hk1 hk2 hn; go_enter Try.func83, Try.ntmps83
    go_wp2_with fail
    rw [← HW.out]; go_wp2_with fail
    go_ret
    exact outB_mk hR.out BW.out
  ·by_cases hk3 : o.kind = 3
   ·skip
    have k1 : (o.kind == 1) = false := by rw [beq_eq_false_iff_ne]; exact hk1
    have k2 : (o.kind == 2) = false := by rw [beq_eq_false_iff_ne]; exact hk2
    have k3 : (o.kind == 3) = true := by rw [hk3]; rfl
    by_cases hn : o.n < 1
    ·skip
     have hR := hid (show fmB o = false from decide_eq_false (by omega)); clear hk1 hk2 hk3; go_enter Try.func83, Try.ntmps83
     go_wp2_with fail
     rw [← HW.out]; go_wp2_with fail
     go_ret
     exact outB_mk hR.out BW.out
    ·have hn1 : 1 ≤ o.n := by omega
     by_cases ht0 : o.text.size = 0
     ·obtain ⟨t1, t2⟩ := text_empty ht0
      by_cases ha : o.attrs.length = 0
      ·have ha1 : ((o.attrs.length : Int) == 0) = true := by rw [ha]; rfl
       have ha2 : (o.attrs.length == 0) = true := by rw [ha]; rfl
       have hR := hid (show fmB o = true from decide_eq_true (by omega)); clear hk1 hk2 hk3 hn ht0 ha; go_enter Try.func83, Try.ntmps83
       go_wp2_with fail
       rw [← HW.out]; go_wp2_with fail
       go_ret
       exact outB_mk hR.out BW.out
      ·have ha1 : ((o.attrs.length : Int) == 0) = false := by rw [beq_eq_false_iff_ne]; omega
       have ha2 : (o.attrs.length == 0) = false := by rw [beq_eq_false_iff_ne]; omega
       have hR := hid (show fmB o = false from decide_eq_false (by omega)); clear hk1 hk2 hk3 hn ht0 ha; go_enter Try.func83, Try.ntmps83
       go_wp2_with fail
       rw [← HW.out]; go_wp2_with fail
       go_ret
       exact outB_mk hR.out BW.out
     ·have t1 := text_full ht0
      have hR := hid (show fmB o = false from decide_eq_false (by omega)); clear hk1 hk2 hk3 hn ht0; go_enter Try.func83, Try.ntmps83
      go_wp2_with fail
      rw [← HW.out]; go_wp2_with fail
      go_ret
      exact outB_mk hR.out BW.out
   ·skip
    have k1 : (o.kind == 1) = false := by rw [beq_eq_false_iff_ne]; exact hk1
    have k2 : (o.kind == 2) = false := by rw [beq_eq_false_iff_ne]; exact hk2
    have k3 : (o.kind == 3) = false := by rw [beq_eq_false_iff_ne]; exact hk3
    have hR := hid (show fmB o = false from decide_eq_false (by omega)); clear hk1 hk2 hk3; go_enter Try.func83, Try.ntmps83
    go_wp2_with fail
    rw [← HW.out]; go_wp2_with fail
    go_ret
    exact outB_mk hR.out BW.out
theorem rightB_any (v : Value) (l : List (ByteArray × ByteArray)) (w : World) (h : AtRow w v l) (hsz : Sized l) :
 Calls Try.prog 85 #[v] w fun e w' => e = .returned (.int .i64 (rgtE l)) ∧ Below w.heap.size w w' :=
 (right_any v l w h hsz).mono fun _ _ ⟨h1, m, h2⟩ => ⟨h1, by rw [h2]; exact below_drewN (Below.refl _ _) m⟩
theorem changeB_any (v : Value) (l : List (ByteArray × ByteArray)) (w : World) (h : AtRow w v l) (hsz : Sized l) :
 Calls Try.prog 66 #[v] w fun e w' => e = .returned (.int .i64 (chgE l)) ∧ Below w.heap.size w w' :=
 (change_any v l w h hsz).mono fun _ _ ⟨h1, m, h2⟩ => ⟨h1, by rw [h2]; exact below_drewN (Below.refl _ _) m⟩
def TSmall (ops : List OpD) : Prop := ∀ o ∈ ops, o.text.size ≤ 1048576
theorem scan_cut' {o : OpD} {r : List OpD} {left f gone inn : Int} (h : opE o = 0) (hk : o.kind = 3) (hl : ¬ left < o.n) : scan left (f - gone + inn) (o :: r) = scan (left - o.n) (f - (gone + o.n) + inn) r := by
 rw [scan_cut h hk hl]; have : f - gone + inn - o.n = f - (gone + o.n) + inn := by omega
 rw [this]
theorem scan_put' {o : OpD} {r : List OpD} {left f gone inn : Int} (h : opE o = 0) (hk : o.kind = 2) : scan left (f - gone + inn) (o :: r) = scan left (f - gone + (inn + cnt o.text.data.toList)) r := by
 have e : opSz o = cnt o.text.data.toList := by unfold opSz; rw [if_pos hk]
 rw [scan_put h hk, e]; have : f - gone + inn + cnt o.text.data.toList = f - gone + (inn + cnt o.text.data.toList) := by omega
 rw [this]
set_option maxRecDepth 100000 in
set_option maxHeartbeats 4000000 in
theorem measure_any (f : Int) (v : Value) (ops : List OpD) (w : World) (hv : OpRow w v ops) (hz : OSized ops) (hts : TSmall ops) :
 Calls Try.prog 55 #[chAgg f v] w (ToOut w f ops) := by
 have Hv := hid hv; have Hz := hid hz; have Hts := hid hts; obtain ⟨aa, acap, rfl, v1, v2, v3⟩ := hv; have V3 := hid v3; have hn : ops.length ≤ 9223372036854775807 := Nat.le_trans v1 v2; obtain ⟨W, hW⟩ : ∃ W, W = w.alloc (.cells #[.int .i64 f, .slice aa ops.length acap] 24) := ⟨_, rfl⟩; have BW := hid (show Below w.heap.size w W by rw [hW]; exact (Below.refl _ _).alloc (Nat.le_refl _) _); have c0 : W.cell? ⟨w.heap.size, 0, none⟩ = some (.int .i64 f) := by rw [hW]; go_simp
 have c1 : W.cell? ⟨w.heap.size, 1, none⟩ = some (.slice aa ops.length acap) := by rw [hW]; go_simp
 have hWs : w.heap.size < W.heap.size := by rw [hW]; simp
 have HW := hid hW; clear hz hts hW v1 v2 v3
 by_cases hf : f < 0
 ·have e31 := hid (show toE f ops = 31 by unfold toE; rw [if_pos (.inl hf)])
  go_enter Try.func55, Try.ntmps55
  go_wp2_with fail
  rw [← HW.out]; go_wp2_with fail
  go_ret2
  exact toOut_bad e31.out (by decide) BW.out
 ·by_cases hf2 : 20000 < f
  ·have e31 := hid (show toE f ops = 31 by unfold toE; rw [if_pos (.inr hf2)])
   have hf0 : 0 ≤ f := by omega
   clear hf; go_enter Try.func55, Try.ntmps55
   go_wp2_with fail
   rw [← HW.out]; go_wp2_with fail
   go_ret2
   exact toOut_bad e31.out (by decide) BW.out
  ·have hf0 : 0 ≤ f := by omega
   have hf3 : f ≤ 20000 := by omega
   by_cases hl : 2000 < ops.length
   ·have e2 := hid (show toE f ops = 2 by unfold toE; rw [if_neg (by omega), if_pos hl])
    have l0 : decide ((2000 : Int) < (ops.length : Int)) = true := decide_eq_true (by omega); have l1 : decide (2000 < ops.length) = true := decide_eq_true (by omega); clear hf hf2; go_enter Try.func55, Try.ntmps55
    go_wp2_with fail
    rw [← HW.out]; go_wp2_with fail
    go_ret2
    exact toOut_bad e2.out (by decide) BW.out
   ·have hl2 : ops.length ≤ 2000 := by omega
    have l0 : decide ((2000 : Int) < (ops.length : Int)) = false := decide_eq_false (by omega); have l1 : decide (2000 < ops.length) = false := decide_eq_false (by omega); clear hf hf2 hl; go_enter Try.func55, Try.ntmps55
    go_wp2_with fail
    rw [← HW.out]; go_wp2_with fail
    go_loopw [4, 5, 6, 7] (fun x y z i wr => ∃ (left gone inn : Int) (k : Nat), x = .int .i64 left ∧ y = .int .i64 gone ∧ z = .int .i64 inn ∧ i = .int .i64 (k : Int) ∧ k ≤ ops.length ∧ scan f f ops = scan left (f - gone + inn) (ops.drop k) ∧ 0 ≤ left ∧ left ≤ 20000 ∧ 0 ≤ gone ∧ gone + left ≤ f ∧ 0 ≤ inn ∧ inn ≤ 20000 * k ∧ Below W.heap.size W wr) (fun _ _ _ i _ => ops.length - (intOf i).toNat)
    case atStart => exact ⟨f, 0, 0, 0, rfl, rfl, rfl, rfl, Nat.zero_le _, by simp, hf0, hf3, Int.le_refl _, by omega, Int.le_refl _, by omega, Below.refl _ _⟩
    case round =>
     obtain ⟨left, gone, inn, k, rfl, rfl, rfl, rfl, hk, hs, g1, g2, g3, g4, g5, g6, hb⟩ := hrel; have HB := hid hb; have q0 : wr.cell? ⟨w.heap.size, 0, none⟩ = some (.int .i64 f) := (hb.cell (by exact hWs)).trans c0; have q1 : wr.cell? ⟨w.heap.size, 1, none⟩ = some (.slice aa ops.length acap) := (hb.cell (by exact hWs)).trans c1
     by_cases hlt : k < ops.length
     ·have hlt' : (k : Int) < (ops.length : Int) := by omega
      obtain ⟨b, off, rfl, hbl, av, r0, _, x0, x1, x2, x3⟩ := V3.out k hlt; have z := Hz.out _ (List.getElem_mem hlt); have zt := Hts.out _ (List.getElem_mem hlt); rw [drop_at hlt] at hs; obtain ⟨o, ho⟩ : ∃ o, o = ops[k] := ⟨_, rfl⟩; rw [← ho] at r0 x0 x1 x2 z zt hs; obtain ⟨ar, cr, rfl⟩ := r0.shape; have bb := BW.out.trans (hb.mono BW.out.size); have y0 : wr.cell? ⟨b, off + k * 4, none⟩ = some (.int .i64 o.kind) := (bb.cell (by exact hbl)).trans x0; have y1 : wr.cell? ⟨b, off + k * 4 + 1, none⟩ = some (.int .i64 o.n) := (bb.cell (by exact hbl)).trans x1; have y2 : wr.cell? ⟨b, off + k * 4 + 2, none⟩ = some (.string o.text) := (bb.cell (by exact hbl)).trans x2; have y3 : wr.cell? ⟨b, off + k * 4 + 3, none⟩ = some (.slice ar o.attrs.length cr) := (bb.cell (by exact hbl)).trans x3; have hs0 : w.heap.size ≤ wr.heap.size := bb.size; have hs1 : W.heap.size ≤ wr.heap.size := hb.size; obtain ⟨X, hX⟩ : ∃ X, X = wr.alloc (.cells #[.int .i64 o.kind, .int .i64 o.n, .string o.text, .slice ar o.attrs.length cr] 40) := ⟨_, rfl⟩
      have BX := hid (show Below W.heap.size W X by rw [hX]; exact hb.alloc hs1 _); have R0 := hid (r0.below (BW.out.trans (BX.out.mono BW.out.size))); have Z := hid z; have Zt := hid zt; have d0 : X.cell? ⟨wr.heap.size, 0, none⟩ = some (.int .i64 o.kind) := by rw [hX]; go_simp
      have d1 : X.cell? ⟨wr.heap.size, 1, none⟩ = some (.int .i64 o.n) := by rw [hX]; go_simp
      have d2 : X.cell? ⟨wr.heap.size, 2, none⟩ = some (.string o.text) := by rw [hX]; go_simp
      have d3 : X.cell? ⟨wr.heap.size, 3, none⟩ = some (.slice ar o.attrs.length cr) := by rw [hX]; go_simp
      have hXs : wr.heap.size < X.heap.size := by rw [hX]; simp
      have HX := hid hX; have HS := hid hs; have HF := hid (formed_any o _ X R0.out); clear ho r0 x0 x1 x2 x3 z zt hb bb hX hs q0; cases hfm : fmB o with
      | false =>
        rw [hfm] at HF; have E := hid (fm_bad hfm); clear hfm; go_wp2_with fail
        rw [← HX.out]; go_wp2_with fail
        refine HF.out.mono ?_; rintro e w2 ⟨rfl, b2⟩; have e0 : w2.cell? ⟨wr.heap.size, 0, none⟩ = some (.int .i64 o.kind) := (b2.cell (by exact hXs)).trans d0; have e1 : w2.cell? ⟨wr.heap.size, 1, none⟩ = some (.int .i64 o.n) := (b2.cell (by exact hXs)).trans d1; have e2 : w2.cell? ⟨wr.heap.size, 2, none⟩ = some (.string o.text) := (b2.cell (by exact hXs)).trans d2; have e3 : w2.cell? ⟨wr.heap.size, 3, none⟩ = some (.slice ar o.attrs.length cr) := (b2.cell (by exact hXs)).trans d3; have hs2 : X.heap.size ≤ w2.heap.size := b2.size; have B2 := hid (BX.out.trans (b2.mono BX.out.size)); have R2 := hid (R0.out.below b2); clear b2; go_wp2_with fail
        go_ret2
        exact toOut_bad (toE_scan hf0 hf3 hl2 (HS.out.trans ((scan_bad (by rw [E.out]; decide)).trans (by rw [E.out]))) (by decide)) (by decide) (BW.out.trans (B2.out.mono BW.out.size))
      | true =>
        rw [hfm] at HF
        by_cases hk2 : o.kind = 2
        ·have k2 : (o.kind == 2) = true := by rw [hk2]; rfl
         have E0 := hid (fm_put hfm hk2); have K2 := hid hk2; clear hfm hk2; have hcn := cnt_nonneg o.text.data.toList
         by_cases he : er o.text.data.toList = 0
         ·have HC := hid (fun W : World => (refCount_any o.text W Zt.out))
          rw [he] at HC
          by_cases hr : rgtE o.attrs = 0
          ·have E := hid (show opE o = 0 by rw [E0.out, if_neg (by simpa using he), hr])
           have r0 : (rgtE o.attrs != 0) = false := by rw [hr]; rfl
           clear he hr; obtain ⟨hc1, hc2⟩ := hcn; go_wp2_with fail
           rw [← HX.out]; go_wp2_with fail
           refine HF.out.mono ?_; rintro e w2 ⟨rfl, b2⟩; have e0 : w2.cell? ⟨wr.heap.size, 0, none⟩ = some (.int .i64 o.kind) := (b2.cell (by exact hXs)).trans d0; have e1 : w2.cell? ⟨wr.heap.size, 1, none⟩ = some (.int .i64 o.n) := (b2.cell (by exact hXs)).trans d1; have e2 : w2.cell? ⟨wr.heap.size, 2, none⟩ = some (.string o.text) := (b2.cell (by exact hXs)).trans d2; have e3 : w2.cell? ⟨wr.heap.size, 3, none⟩ = some (.slice ar o.attrs.length cr) := (b2.cell (by exact hXs)).trans d3; have hs2 : X.heap.size ≤ w2.heap.size := b2.size; have B2 := hid (BX.out.trans (b2.mono BX.out.size)); have R2 := hid (R0.out.below b2); clear b2; go_wp2_with fail
           refine (HC.out _).mono ?_; rintro e w3 ⟨rfl, b3⟩; have hX2 : wr.heap.size < w2.heap.size := by omega
           have f3 : w3.cell? ⟨wr.heap.size, 3, none⟩ = some (.slice ar o.attrs.length cr) := (b3.cell (by exact hX2)).trans e3; have B3 := hid (B2.out.trans (b3.mono B2.out.size)); have R3 := hid (R2.out.below b3); clear b3; go_wp2_with fail
           refine (rightB_any _ o.attrs _ R3.out Z.out.2).mono ?_; rintro e w4 ⟨rfl, b4⟩; have B4 := hid (B3.out.trans (b4.mono B3.out.size)); clear b4; go_wp2_with fail
           go_roundw
           case rel => exact ⟨left, gone, inn + cnt o.text.data.toList, k + 1, rfl, rfl, rfl, by go_num, by omega, HS.out.trans (scan_put' E.out K2.out), g1, g2, g3, g4, by omega, by omega, B4.out⟩
           case measure => simp [intOf]; omega
          ·have h20 := (rgtE_cases o.attrs).resolve_left hr
           have E := hid (show opE o = 20 by rw [E0.out, if_neg (by simpa using he), h20]); have r0 : (rgtE o.attrs != 0) = true := by rw [bne_iff_ne]; exact hr
           clear he hr h20 hcn; go_wp2_with fail
           rw [← HX.out]; go_wp2_with fail
           refine HF.out.mono ?_; rintro e w2 ⟨rfl, b2⟩; have e0 : w2.cell? ⟨wr.heap.size, 0, none⟩ = some (.int .i64 o.kind) := (b2.cell (by exact hXs)).trans d0; have e1 : w2.cell? ⟨wr.heap.size, 1, none⟩ = some (.int .i64 o.n) := (b2.cell (by exact hXs)).trans d1; have e2 : w2.cell? ⟨wr.heap.size, 2, none⟩ = some (.string o.text) := (b2.cell (by exact hXs)).trans d2; have e3 : w2.cell? ⟨wr.heap.size, 3, none⟩ = some (.slice ar o.attrs.length cr) := (b2.cell (by exact hXs)).trans d3; have hs2 : X.heap.size ≤ w2.heap.size := b2.size; have B2 := hid (BX.out.trans (b2.mono BX.out.size)); have R2 := hid (R0.out.below b2); clear b2; go_wp2_with fail
           refine (HC.out _).mono ?_; rintro e w3 ⟨rfl, b3⟩; have hX2 : wr.heap.size < w2.heap.size := by omega
           have f3 : w3.cell? ⟨wr.heap.size, 3, none⟩ = some (.slice ar o.attrs.length cr) := (b3.cell (by exact hX2)).trans e3; have B3 := hid (B2.out.trans (b3.mono B2.out.size)); have R3 := hid (R2.out.below b3); clear b3; go_wp2_with fail
           refine (rightB_any _ o.attrs _ R3.out Z.out.2).mono ?_; rintro e w4 ⟨rfl, b4⟩; have B4 := hid (B3.out.trans (b4.mono B3.out.size)); clear b4; go_wp2_with fail
           go_ret2
           exact toOut_bad (toE_scan hf0 hf3 hl2 (HS.out.trans ((scan_bad (by rw [E.out]; decide)).trans (by rw [E.out]))) (by decide)) (by decide) (BW.out.trans (B4.out.mono BW.out.size))
         ·have h10 := (er_cases o.text.data.toList).resolve_left he
          have HC := hid (fun W : World => (refCount_any o.text W Zt.out)); rw [h10] at HC; have E := hid (show opE o = 10 by rw [E0.out, if_pos (by simpa using he), h10]); clear he h10 hcn; go_wp2_with fail
          rw [← HX.out]; go_wp2_with fail
          refine HF.out.mono ?_; rintro e w2 ⟨rfl, b2⟩; have e0 : w2.cell? ⟨wr.heap.size, 0, none⟩ = some (.int .i64 o.kind) := (b2.cell (by exact hXs)).trans d0; have e1 : w2.cell? ⟨wr.heap.size, 1, none⟩ = some (.int .i64 o.n) := (b2.cell (by exact hXs)).trans d1; have e2 : w2.cell? ⟨wr.heap.size, 2, none⟩ = some (.string o.text) := (b2.cell (by exact hXs)).trans d2; have e3 : w2.cell? ⟨wr.heap.size, 3, none⟩ = some (.slice ar o.attrs.length cr) := (b2.cell (by exact hXs)).trans d3; have hs2 : X.heap.size ≤ w2.heap.size := b2.size; have B2 := hid (BX.out.trans (b2.mono BX.out.size)); have R2 := hid (R0.out.below b2); clear b2; go_wp2_with fail
          refine (HC.out _).mono ?_; rintro e w3 ⟨rfl, b3⟩; have hX2 : wr.heap.size < w2.heap.size := by omega
          have f3 : w3.cell? ⟨wr.heap.size, 3, none⟩ = some (.slice ar o.attrs.length cr) := (b3.cell (by exact hX2)).trans e3; have B3 := hid (B2.out.trans (b3.mono B2.out.size)); have R3 := hid (R2.out.below b3); clear b3; go_wp2_with fail
          go_ret2
          exact toOut_bad (toE_scan hf0 hf3 hl2 (HS.out.trans ((scan_bad (by rw [E.out]; decide)).trans (by rw [E.out]))) (by decide)) (by decide) (BW.out.trans (B3.out.mono BW.out.size))
        ·have k2 : (o.kind == 2) = false := by rw [beq_eq_false_iff_ne]; exact hk2
         have E0 := hid (fm_rest hfm hk2); have K2 := hid hk2; clear hfm
         by_cases hr : chgE o.attrs = 0
         ·have E := hid (show opE o = 0 by rw [E0.out, hr])
          have hn1 := opE_n E.out hk2; have r0 : (chgE o.attrs != 0) = false := by rw [hr]; rfl
          by_cases hl3 : left < o.n
          ·clear hr hk2
           go_wp2_with fail
           rw [← HX.out]; go_wp2_with fail
           refine HF.out.mono ?_; rintro e w2 ⟨rfl, b2⟩; have e0 : w2.cell? ⟨wr.heap.size, 0, none⟩ = some (.int .i64 o.kind) := (b2.cell (by exact hXs)).trans d0; have e1 : w2.cell? ⟨wr.heap.size, 1, none⟩ = some (.int .i64 o.n) := (b2.cell (by exact hXs)).trans d1; have e2 : w2.cell? ⟨wr.heap.size, 2, none⟩ = some (.string o.text) := (b2.cell (by exact hXs)).trans d2; have e3 : w2.cell? ⟨wr.heap.size, 3, none⟩ = some (.slice ar o.attrs.length cr) := (b2.cell (by exact hXs)).trans d3; have hs2 : X.heap.size ≤ w2.heap.size := b2.size; have B2 := hid (BX.out.trans (b2.mono BX.out.size)); have R2 := hid (R0.out.below b2); clear b2; go_wp2_with fail
           refine (changeB_any _ o.attrs _ R2.out Z.out.2).mono ?_; rintro e w3 ⟨rfl, b3⟩; have hX2 : wr.heap.size < w2.heap.size := by omega
           have f0 : w3.cell? ⟨wr.heap.size, 0, none⟩ = some (.int .i64 o.kind) := (b3.cell (by exact hX2)).trans e0; have f1 : w3.cell? ⟨wr.heap.size, 1, none⟩ = some (.int .i64 o.n) := (b3.cell (by exact hX2)).trans e1; have B3 := hid (B2.out.trans (b3.mono B2.out.size)); clear b3; go_wp2_with fail
           go_ret2
           exact toOut_bad (toE_scan hf0 hf3 hl2 (HS.out.trans (scan_over E.out K2.out hl3)) (by decide)) (by decide) (BW.out.trans (B3.out.mono BW.out.size))
          ·have hl4 : o.n ≤ left := by omega
           by_cases hk3 : o.kind = 3
           ·have k3 : (o.kind == 3) = true := by rw [hk3]; rfl
            have HS2 := hid (HS.out.trans (scan_cut' E.out hk3 hl3)); clear hr hk2 hk3 hl3; go_wp2_with fail
            rw [← HX.out]; go_wp2_with fail
            refine HF.out.mono ?_; rintro e w2 ⟨rfl, b2⟩; have e0 : w2.cell? ⟨wr.heap.size, 0, none⟩ = some (.int .i64 o.kind) := (b2.cell (by exact hXs)).trans d0; have e1 : w2.cell? ⟨wr.heap.size, 1, none⟩ = some (.int .i64 o.n) := (b2.cell (by exact hXs)).trans d1; have e2 : w2.cell? ⟨wr.heap.size, 2, none⟩ = some (.string o.text) := (b2.cell (by exact hXs)).trans d2; have e3 : w2.cell? ⟨wr.heap.size, 3, none⟩ = some (.slice ar o.attrs.length cr) := (b2.cell (by exact hXs)).trans d3; have hs2 : X.heap.size ≤ w2.heap.size := b2.size; have B2 := hid (BX.out.trans (b2.mono BX.out.size)); have R2 := hid (R0.out.below b2); clear b2; go_wp2_with fail
            refine (changeB_any _ o.attrs _ R2.out Z.out.2).mono ?_; rintro e w3 ⟨rfl, b3⟩; have hX2 : wr.heap.size < w2.heap.size := by omega
            have f0 : w3.cell? ⟨wr.heap.size, 0, none⟩ = some (.int .i64 o.kind) := (b3.cell (by exact hX2)).trans e0; have f1 : w3.cell? ⟨wr.heap.size, 1, none⟩ = some (.int .i64 o.n) := (b3.cell (by exact hX2)).trans e1; have B3 := hid (B2.out.trans (b3.mono B2.out.size)); clear b3; go_wp2_with fail
            go_roundw
            case rel => exact ⟨left - o.n, gone + o.n, inn, k + 1, rfl, rfl, rfl, by go_num, by omega, HS2.out, by omega, by omega, by omega, by omega, g5, by omega, B3.out⟩
            case measure => simp [intOf]; omega
           ·have k3 : (o.kind == 3) = false := by rw [beq_eq_false_iff_ne]; exact hk3
            have HS2 := hid (HS.out.trans (scan_keep E.out K2.out hk3 hl3)); clear hr hk2 hk3 hl3; go_wp2_with fail
            rw [← HX.out]; go_wp2_with fail
            refine HF.out.mono ?_; rintro e w2 ⟨rfl, b2⟩; have e0 : w2.cell? ⟨wr.heap.size, 0, none⟩ = some (.int .i64 o.kind) := (b2.cell (by exact hXs)).trans d0; have e1 : w2.cell? ⟨wr.heap.size, 1, none⟩ = some (.int .i64 o.n) := (b2.cell (by exact hXs)).trans d1; have e2 : w2.cell? ⟨wr.heap.size, 2, none⟩ = some (.string o.text) := (b2.cell (by exact hXs)).trans d2; have e3 : w2.cell? ⟨wr.heap.size, 3, none⟩ = some (.slice ar o.attrs.length cr) := (b2.cell (by exact hXs)).trans d3; have hs2 : X.heap.size ≤ w2.heap.size := b2.size; have B2 := hid (BX.out.trans (b2.mono BX.out.size)); have R2 := hid (R0.out.below b2); clear b2; go_wp2_with fail
            refine (changeB_any _ o.attrs _ R2.out Z.out.2).mono ?_; rintro e w3 ⟨rfl, b3⟩; have hX2 : wr.heap.size < w2.heap.size := by omega
            have f0 : w3.cell? ⟨wr.heap.size, 0, none⟩ = some (.int .i64 o.kind) := (b3.cell (by exact hX2)).trans e0; have f1 : w3.cell? ⟨wr.heap.size, 1, none⟩ = some (.int .i64 o.n) := (b3.cell (by exact hX2)).trans e1; have B3 := hid (B2.out.trans (b3.mono B2.out.size)); clear b3; go_wp2_with fail
            go_roundw
            case rel => exact ⟨left - o.n, gone, inn, k + 1, rfl, rfl, rfl, by go_num, by omega, HS2.out, by omega, by omega, g3, by omega, g5, by omega, B3.out⟩
            case measure => simp [intOf]; omega
         ·have h20 := (chgE_cases o.attrs).resolve_left hr
          have E := hid (show opE o = 20 by rw [E0.out, h20]); have r0 : (chgE o.attrs != 0) = true := by rw [bne_iff_ne]; exact hr
          clear hr h20 hk2; go_wp2_with fail
          rw [← HX.out]; go_wp2_with fail
          refine HF.out.mono ?_; rintro e w2 ⟨rfl, b2⟩; have e0 : w2.cell? ⟨wr.heap.size, 0, none⟩ = some (.int .i64 o.kind) := (b2.cell (by exact hXs)).trans d0; have e1 : w2.cell? ⟨wr.heap.size, 1, none⟩ = some (.int .i64 o.n) := (b2.cell (by exact hXs)).trans d1; have e2 : w2.cell? ⟨wr.heap.size, 2, none⟩ = some (.string o.text) := (b2.cell (by exact hXs)).trans d2; have e3 : w2.cell? ⟨wr.heap.size, 3, none⟩ = some (.slice ar o.attrs.length cr) := (b2.cell (by exact hXs)).trans d3; have hs2 : X.heap.size ≤ w2.heap.size := b2.size; have B2 := hid (BX.out.trans (b2.mono BX.out.size)); have R2 := hid (R0.out.below b2); clear b2; go_wp2_with fail
          refine (changeB_any _ o.attrs _ R2.out Z.out.2).mono ?_; rintro e w3 ⟨rfl, b3⟩; have hX2 : wr.heap.size < w2.heap.size := by omega
          have f0 : w3.cell? ⟨wr.heap.size, 0, none⟩ = some (.int .i64 o.kind) := (b3.cell (by exact hX2)).trans e0; have f1 : w3.cell? ⟨wr.heap.size, 1, none⟩ = some (.int .i64 o.n) := (b3.cell (by exact hX2)).trans e1; have B3 := hid (B2.out.trans (b3.mono B2.out.size)); clear b3; go_wp2_with fail
          go_ret2
          exact toOut_bad (toE_scan hf0 hf3 hl2 (HS.out.trans ((scan_bad (by rw [E.out]; decide)).trans (by rw [E.out]))) (by decide)) (by decide) (BW.out.trans (B3.out.mono BW.out.size))
     ·have hkn : k = ops.length := by omega
      subst hkn; rw [List.drop_length] at hs; obtain ⟨q3, q4⟩ := toE_end hf0 hf3 hl2 (hs.trans rfl)
      by_cases hu : 20000 < f - gone + inn
      ·rw [if_pos hu] at q3
       have Q1 := hid q3; clear q3 q4 hs hb; go_wp2_with fail
       go_ret2
       exact toOut_bad Q1.out (by decide) (BW.out.trans (HB.out.mono BW.out.size))
      ·rw [if_neg hu] at q3
       have Q1 := hid (And.intro q3 (q4 hu)); have hu2 : f - gone + inn ≤ 20000 := by omega
       clear q3 q4 hs hb; go_wp2_with fail
       go_ret2
       exact toOut_mk Q1.out.1 Q1.out.2 (BW.out.trans (HB.out.mono BW.out.size))
theorem refRight_any (f : Int) (v : Value) (ops : List OpD) (w : World) (hv : OpRow w v ops) (hz : OSized ops) (hts : TSmall ops) :
 Calls Try.prog 31 #[chAgg f v] w fun e w' => e = .returned (.int .i64 (toE f ops)) ∧ Below w.heap.size w w' := by
 have HC := hid (measure_any f v ops _ (hv.below (below_box w (.cells #[.int .i64 f, v] 24))) hz hts); obtain ⟨aa, acap, rfl⟩ := hv.shape; clear hv hz hts; go_enter Try.func31, Try.ntmps31
 go_wp2_with fail
 refine HC.out.mono ?_; rintro e w1 ⟨rfl, hb⟩; go_wp2_with fail
 go_ret
 exact ⟨rfl, (below_box w _).trans (hb.mono (by simp))⟩
theorem refTo_any (f : Int) (v : Value) (ops : List OpD) (w : World) (hv : OpRow w v ops) (hz : OSized ops) (hts : TSmall ops) :
 Calls Try.prog 30 #[chAgg f v] w (ToOut w f ops) := by
 have HC := hid (measure_any f v ops _ (hv.below (below_box w (.cells #[.int .i64 f, v] 24))) hz hts); obtain ⟨aa, acap, rfl⟩ := hv.shape; clear hv hz hts; go_enter Try.func30, Try.ntmps30
 go_wp2_with fail
 refine HC.out.mono ?_; rintro e w1 ⟨rfl, hb⟩; go_wp2_with fail
 go_ret2
 exact toOut_mk rfl rfl ((below_box w _).trans (hb.mono (by simp)))
end
section
open Go.RowKit Ch
open Lib (hid)
theorem refSameB_any (v u : Value) (l m : List (ByteArray × ByteArray)) (w : World) (hv : AtRow w v l) (hu : AtRow w u m) :
 Calls Try.prog 35 #[v, u] w (OutB w (sameB l m)) :=
 (refSame_any v u l m w hv hu).mono fun _ _ ⟨h1, k, h2⟩ => ⟨h1, by rw [h2]; exact below_drewN (Below.refl _ _) k⟩
set_option maxRecDepth 100000 in
set_option maxHeartbeats 4000000 in
theorem refSameCh_any (f g : Int) (v u : Value) (l m : List OpD) (w : World) (hv : OpRow w v l) (hu : OpRow w u m) :
 Calls Try.prog 10 #[chAgg f v, chAgg g u] w (OutB w (sameCh f g l m)) := by
 obtain ⟨a, cap, rfl, h1, h2, h3⟩ := hv; obtain ⟨a', cap', rfl, h1', h2', h3'⟩ := hu; have hn : l.length ≤ 9223372036854775807 := Nat.le_trans h1 h2; have hn' : m.length ≤ 9223372036854775807 := Nat.le_trans h1' h2'; have H3 := hid h3; have H3' := hid h3'; clear h1 h2 h3 h1' h2' h3'; obtain ⟨W, hW⟩ : ∃ W, W = (w.alloc (.cells #[.int .i64 f, .slice a l.length cap] 24)).alloc (.cells #[.int .i64 g, .slice a' m.length cap'] 24) := ⟨_, rfl⟩; have BW := hid (show Below w.heap.size w W by rw [hW]; exact ((Below.refl _ _).alloc (Nat.le_refl _) _).alloc (by simp) _); have c0 : W.cell? ⟨w.heap.size, 0, none⟩ = some (.int .i64 f) := by rw [hW]; go_simp
 have c1 : W.cell? ⟨w.heap.size, 1, none⟩ = some (.slice a l.length cap) := by rw [hW]; go_simp
 have d0 : W.cell? ⟨w.heap.size + 1, 0, none⟩ = some (.int .i64 g) := by rw [hW]; go_simp
 have d1 : W.cell? ⟨w.heap.size + 1, 1, none⟩ = some (.slice a' m.length cap') := by rw [hW]; go_simp
 have hWs : w.heap.size + 1 < W.heap.size := by rw [hW]; simp
 have hWs' : w.heap.size < W.heap.size := by omega
 have HW := hid hW; clear hW
 by_cases hf : f = g
 ·have k1 : (f == g) = true := by rw [beq_iff_eq]; exact hf
  have k2 : (f != g) = false := by rw [hf]; simp
  have HRf := hid (show sameCh f g l m = sameOps l m by unfold sameCh sameOps; simp [hf]); clear hf
  by_cases hlen : l.length = m.length
  ·have Hlen := hid hlen
   have hle2 : ((l.length : Int) == (m.length : Int)) = true := by rw [hlen]; simp
   have hle3 : ((l.length : Int) != (m.length : Int)) = false := by rw [hlen]; simp
   clear hlen; go_enter Try.func10, Try.ntmps10
   go_wp2_with fail
   rw [← HW.out]; go_wp2_with fail
   go_loopw [5] (fun i wr => ∃ n : Nat, i = .int .i64 (n : Int) ∧ n ≤ l.length ∧ (∀ j (h1 : j < l.length) (h2 : j < m.length), j < n → l[j] = m[j]) ∧ Below W.heap.size W wr) (fun i _ => l.length - (intOf i).toNat)
   case atStart => exact ⟨0, rfl, by omega, fun j _ _ h => by omega, Below.refl _ _⟩
   case round =>
    obtain ⟨n, rfl, hk, hall, hb⟩ := hrel; have Hall := hid hall; have HB := hid (BW.out.trans (hb.mono BW.out.size)); have q1 : wr.cell? ⟨w.heap.size, 1, none⟩ = some (.slice a l.length cap) := (hb.cell (by exact hWs')).trans c1; have q2 : wr.cell? ⟨w.heap.size + 1, 1, none⟩ = some (.slice a' m.length cap') := (hb.cell (by exact hWs)).trans d1; clear hall
    by_cases hlt : n < l.length
    ·have hlt2 : n < m.length := by have := Hlen.out; omega
     have hlt' : (n : Int) < (l.length : Int) := by omega
     have hlt2' : (n : Int) < (m.length : Int) := by omega
     obtain ⟨b, off, rfl, hbl, xv, r0, _, x0, x1, x2, x3⟩ := H3.out n hlt; obtain ⟨b', off', rfl, hbl', yv, q0, _, y0, y1, y2, y3⟩ := H3'.out n hlt2; have step : l[n] = m[n] → ∀ j (h1 : j < l.length) (h2 : j < m.length), j < n + 1 → l[j] = m[j] := fun hh j hj1 hj2 hjk => by
      by_cases e : j = n
      ·subst e; exact hh
      ·exact Hall.out j hj1 hj2 (by omega)
     have Step := hid step; have Bad := hid (sameOps_at hlt hlt2); obtain ⟨x, hx⟩ : ∃ x, x = l[n] := ⟨_, rfl⟩; obtain ⟨y, hy⟩ : ∃ y, y = m[n] := ⟨_, rfl⟩; rw [← hx] at r0 x0 x1 x2 Step Bad; rw [← hy] at q0 y0 y1 y2 Step Bad; obtain ⟨ar, cr, rfl⟩ := r0.shape; obtain ⟨at2, cs, rfl⟩ := q0.shape; have hbw := HB.out; have x0' := (hbw.cell (p := ⟨b, off + n * 4, none⟩) (by exact hbl)).trans x0; have x1' := (hbw.cell (p := ⟨b, off + n * 4 + 1, none⟩) (by exact hbl)).trans x1; have x2' := (hbw.cell (p := ⟨b, off + n * 4 + 2, none⟩) (by exact hbl)).trans x2; have x3' := (hbw.cell (p := ⟨b, off + n * 4 + 3, none⟩) (by exact hbl)).trans x3; have y0' := (hbw.cell (p := ⟨b', off' + n * 4, none⟩) (by exact hbl')).trans y0; have y1' := (hbw.cell (p := ⟨b', off' + n * 4 + 1, none⟩) (by exact hbl')).trans y1; have y2' := (hbw.cell (p := ⟨b', off' + n * 4 + 2, none⟩) (by exact hbl')).trans y2; have y3' := (hbw.cell (p := ⟨b', off' + n * 4 + 3, none⟩) (by exact hbl')).trans y3
     have g1 := Nat.lt_of_lt_of_le hbl' hbw.size; have gq := Nat.lt_of_lt_of_le hWs hb.size; have hs0 := hbw.size; have hs1 := hb.size; obtain ⟨X, hX⟩ : ∃ X, X = (wr.alloc (.cells #[.int .i64 x.kind, .int .i64 x.n, .string x.text, .slice ar x.attrs.length cr] 40)).alloc (.cells #[.int .i64 y.kind, .int .i64 y.n, .string y.text, .slice at2 y.attrs.length cs] 40) := ⟨_, rfl⟩; have BX := hid (show Below W.heap.size W X by rw [hX]; exact (hb.alloc hs1 _).alloc (by simp; omega) _); have e0 : X.cell? ⟨wr.heap.size, 0, none⟩ = some (.int .i64 x.kind) := by rw [hX]; go_simp
     have e1 : X.cell? ⟨wr.heap.size, 1, none⟩ = some (.int .i64 x.n) := by rw [hX]; go_simp
     have e2 : X.cell? ⟨wr.heap.size, 2, none⟩ = some (.string x.text) := by rw [hX]; go_simp
     have e3 : X.cell? ⟨wr.heap.size, 3, none⟩ = some (.slice ar x.attrs.length cr) := by rw [hX]; go_simp
     have f0 : X.cell? ⟨wr.heap.size + 1, 0, none⟩ = some (.int .i64 y.kind) := by rw [hX]; go_simp
     have f1 : X.cell? ⟨wr.heap.size + 1, 1, none⟩ = some (.int .i64 y.n) := by rw [hX]; go_simp
     have f2 : X.cell? ⟨wr.heap.size + 1, 2, none⟩ = some (.string y.text) := by rw [hX]; go_simp
     have f3 : X.cell? ⟨wr.heap.size + 1, 3, none⟩ = some (.slice at2 y.attrs.length cs) := by rw [hX]; go_simp
     have hXs : wr.heap.size + 1 < X.heap.size := by rw [hX]; simp
     have hXs' : wr.heap.size < X.heap.size := by omega
     have HX := hid hX; have bx := BW.out.trans (BX.out.mono BW.out.size); have HC := hid (refSameB_any _ _ x.attrs y.attrs X (r0.below bx) (q0.below bx)); clear hx hy r0 q0 x0 x1 x2 x3 y0 y1 y2 y3 hb hbw hX step Hall bx
     by_cases hkk : x.kind = y.kind
     ·have ka : (x.kind == y.kind) = true := by rw [beq_iff_eq]; exact hkk
      have kb : (x.kind != y.kind) = false := by rw [hkk]; simp
      by_cases hnn : x.n = y.n
      ·have na : (x.n == y.n) = true := by rw [beq_iff_eq]; exact hnn
       have nb : (x.n != y.n) = false := by rw [hnn]; simp
       by_cases htt : x.text = y.text
       ·have ta : (x.text.toList == y.text.toList) = true := by rw [htt]; simp
        have tb : (x.text.toList != y.text.toList) = false := by rw [htt]; simp
        cases hsb : sameB x.attrs y.attrs with
        | true =>
          rw [hsb] at HC; have S := hid (Step.out (by have := of_decide_eq_true hsb; cases x; cases y; simp_all)); clear hkk hnn htt hsb Step Bad; go_wp2_with fail
          rw [← HX.out]; go_wp2_with fail
          refine HC.out.mono ?_; rintro e w2 ⟨rfl, b2⟩; have e0' : w2.cell? ⟨wr.heap.size, 0, none⟩ = some (.int .i64 x.kind) := (b2.cell (by exact hXs')).trans e0; have e1' : w2.cell? ⟨wr.heap.size, 1, none⟩ = some (.int .i64 x.n) := (b2.cell (by exact hXs')).trans e1; have e2' : w2.cell? ⟨wr.heap.size, 2, none⟩ = some (.string x.text) := (b2.cell (by exact hXs')).trans e2; have f0' : w2.cell? ⟨wr.heap.size + 1, 0, none⟩ = some (.int .i64 y.kind) := (b2.cell (by exact hXs)).trans f0; have f1' : w2.cell? ⟨wr.heap.size + 1, 1, none⟩ = some (.int .i64 y.n) := (b2.cell (by exact hXs)).trans f1; have f2' : w2.cell? ⟨wr.heap.size + 1, 2, none⟩ = some (.string y.text) := (b2.cell (by exact hXs)).trans f2; have B2 := hid (BX.out.trans (b2.mono BX.out.size)); clear b2 e0 e1 e2 e3 f0 f1 f2 f3; go_wp2_with fail
          go_roundw
          case rel => exact ⟨n + 1, by go_num, by omega, S.out, B2.out⟩
          case measure => simp [intOf]; omega
        | false =>
          rw [hsb] at HC; have S := hid (Bad.out fun e => by rw [e] at hsb; exact absurd (show sameB y.attrs y.attrs = true from decide_eq_true rfl) (by rw [hsb]; decide)); clear hkk hnn htt hsb Step Bad; go_wp2_with fail
          rw [← HX.out]; go_wp2_with fail
          refine HC.out.mono ?_; rintro e w2 ⟨rfl, b2⟩; have e0' : w2.cell? ⟨wr.heap.size, 0, none⟩ = some (.int .i64 x.kind) := (b2.cell (by exact hXs')).trans e0; have e1' : w2.cell? ⟨wr.heap.size, 1, none⟩ = some (.int .i64 x.n) := (b2.cell (by exact hXs')).trans e1; have e2' : w2.cell? ⟨wr.heap.size, 2, none⟩ = some (.string x.text) := (b2.cell (by exact hXs')).trans e2; have f0' : w2.cell? ⟨wr.heap.size + 1, 0, none⟩ = some (.int .i64 y.kind) := (b2.cell (by exact hXs)).trans f0; have f1' : w2.cell? ⟨wr.heap.size + 1, 1, none⟩ = some (.int .i64 y.n) := (b2.cell (by exact hXs)).trans f1; have f2' : w2.cell? ⟨wr.heap.size + 1, 2, none⟩ = some (.string y.text) := (b2.cell (by exact hXs)).trans f2; have B2 := hid (BX.out.trans (b2.mono BX.out.size)); clear b2 e0 e1 e2 e3 f0 f1 f2 f3; go_wp2_with fail
          go_ret
          exact outB_mk (HRf.out.trans S.out) (BW.out.trans (B2.out.mono BW.out.size))
       ·have ta : (x.text.toList == y.text.toList) = false := by rw [beq_text]; exact decide_eq_false htt
        have tb : (x.text.toList != y.text.toList) = true := by rw [bne, ta]; rfl
        have S := hid (Bad.out fun e => htt (by rw [e])); clear hkk hnn htt Step Bad; go_wp2_with fail
        rw [← HX.out]; go_wp2_with fail
        refine HC.out.mono ?_; rintro e w2 ⟨rfl, b2⟩; have e0' : w2.cell? ⟨wr.heap.size, 0, none⟩ = some (.int .i64 x.kind) := (b2.cell (by exact hXs')).trans e0; have e1' : w2.cell? ⟨wr.heap.size, 1, none⟩ = some (.int .i64 x.n) := (b2.cell (by exact hXs')).trans e1; have e2' : w2.cell? ⟨wr.heap.size, 2, none⟩ = some (.string x.text) := (b2.cell (by exact hXs')).trans e2; have f0' : w2.cell? ⟨wr.heap.size + 1, 0, none⟩ = some (.int .i64 y.kind) := (b2.cell (by exact hXs)).trans f0; have f1' : w2.cell? ⟨wr.heap.size + 1, 1, none⟩ = some (.int .i64 y.n) := (b2.cell (by exact hXs)).trans f1; have f2' : w2.cell? ⟨wr.heap.size + 1, 2, none⟩ = some (.string y.text) := (b2.cell (by exact hXs)).trans f2; have B2 := hid (BX.out.trans (b2.mono BX.out.size)); clear b2 e0 e1 e2 e3 f0 f1 f2 f3; go_wp2_with fail
        go_ret
        exact outB_mk (HRf.out.trans S.out) (BW.out.trans (B2.out.mono BW.out.size))
      ·have na : (x.n == y.n) = false := by rw [beq_eq_false_iff_ne]; exact hnn
       have nb : (x.n != y.n) = true := by rw [bne_iff_ne]; exact hnn
       have S := hid (Bad.out fun e => hnn (by rw [e])); clear hkk hnn Step Bad; go_wp2_with fail
       rw [← HX.out]; go_wp2_with fail
       refine HC.out.mono ?_; rintro e w2 ⟨rfl, b2⟩; have e0' : w2.cell? ⟨wr.heap.size, 0, none⟩ = some (.int .i64 x.kind) := (b2.cell (by exact hXs')).trans e0; have e1' : w2.cell? ⟨wr.heap.size, 1, none⟩ = some (.int .i64 x.n) := (b2.cell (by exact hXs')).trans e1; have e2' : w2.cell? ⟨wr.heap.size, 2, none⟩ = some (.string x.text) := (b2.cell (by exact hXs')).trans e2; have f0' : w2.cell? ⟨wr.heap.size + 1, 0, none⟩ = some (.int .i64 y.kind) := (b2.cell (by exact hXs)).trans f0; have f1' : w2.cell? ⟨wr.heap.size + 1, 1, none⟩ = some (.int .i64 y.n) := (b2.cell (by exact hXs)).trans f1; have f2' : w2.cell? ⟨wr.heap.size + 1, 2, none⟩ = some (.string y.text) := (b2.cell (by exact hXs)).trans f2; have B2 := hid (BX.out.trans (b2.mono BX.out.size)); clear b2 e0 e1 e2 e3 f0 f1 f2 f3; go_wp2_with fail
       go_ret
       exact outB_mk (HRf.out.trans S.out) (BW.out.trans (B2.out.mono BW.out.size))
     ·have ka : (x.kind == y.kind) = false := by rw [beq_eq_false_iff_ne]; exact hkk
      have kb : (x.kind != y.kind) = true := by rw [bne_iff_ne]; exact hkk
      have S := hid (Bad.out fun e => hkk (by rw [e])); clear hkk Step Bad; go_wp2_with fail
      rw [← HX.out]; go_wp2_with fail
      refine HC.out.mono ?_; rintro e w2 ⟨rfl, b2⟩; have e0' : w2.cell? ⟨wr.heap.size, 0, none⟩ = some (.int .i64 x.kind) := (b2.cell (by exact hXs')).trans e0; have e1' : w2.cell? ⟨wr.heap.size, 1, none⟩ = some (.int .i64 x.n) := (b2.cell (by exact hXs')).trans e1; have e2' : w2.cell? ⟨wr.heap.size, 2, none⟩ = some (.string x.text) := (b2.cell (by exact hXs')).trans e2; have f0' : w2.cell? ⟨wr.heap.size + 1, 0, none⟩ = some (.int .i64 y.kind) := (b2.cell (by exact hXs)).trans f0; have f1' : w2.cell? ⟨wr.heap.size + 1, 1, none⟩ = some (.int .i64 y.n) := (b2.cell (by exact hXs)).trans f1; have f2' : w2.cell? ⟨wr.heap.size + 1, 2, none⟩ = some (.string y.text) := (b2.cell (by exact hXs)).trans f2; have B2 := hid (BX.out.trans (b2.mono BX.out.size)); clear b2 e0 e1 e2 e3 f0 f1 f2 f3; go_wp2_with fail
      go_ret
      exact outB_mk (HRf.out.trans S.out) (BW.out.trans (B2.out.mono BW.out.size))
    ·have hkn : n = l.length := by omega
     have hs := hid (sameOps_all Hlen.out fun j h1 h2 => Hall.out j h1 h2 (by omega)); subst hkn; clear Hall hb; go_wp2_with fail
     go_ret
     exact outB_mk (HRf.out.trans hs.out) HB.out
  ·have hs := hid (sameOps_len hlen)
   have hle2 : ((l.length : Int) == (m.length : Int)) = false := by rw [beq_eq_false_iff_ne]; omega
   have hle3 : ((l.length : Int) != (m.length : Int)) = true := by rw [bne_iff_ne]; omega
   clear hlen; go_enter Try.func10, Try.ntmps10
   go_wp2_with fail
   rw [← HW.out]; go_wp2_with fail
   go_ret
   exact outB_mk (HRf.out.trans hs.out) BW.out
 ·have k1 : (f == g) = false := by rw [beq_eq_false_iff_ne]; exact hf
  have k2 : (f != g) = true := by rw [bne_iff_ne]; exact hf
  have hR := hid (show sameCh f g l m = false from decide_eq_false fun e => hf e.1); clear hf; go_enter Try.func10, Try.ntmps10
  go_wp2_with fail
  rw [← HW.out]; go_wp2_with fail
  go_ret
  exact outB_mk hR.out BW.out
end
section
open Go.RowKit Ch
abbrev PA := OpD × Value
structure Grp where
 v : Value
 l : List PA
 g : Int
def dels (g : Int) : List PA := if 0 < g then [(delO g, .slice none 0 0)] else []
def rend : List Grp → List PA → List PA
 | G :: r, k :: ks => G.l ++ dels G.g ++ k :: rend r ks
 | _, _ => []
def fsts (l : List PA) : List OpD := l.map (·.1)
theorem fsts_len (l : List PA) : (fsts l).length = l.length := by simp [fsts]
theorem fsts_append (l m : List PA) : fsts (l ++ m) = fsts l ++ fsts m := by simp [fsts]
theorem fsts_snoc_rev (a l : List PA) (x : PA) : (fsts (a ++ (l ++ [x]))).reverse = x.1 :: (fsts (a ++ l)).reverse := by
 rw [← List.append_assoc, fsts_append, List.reverse_append]; rfl
theorem rend_snoc {init : List Grp} {ks : List PA} (h : init.length = ks.length) (G : Grp) (k : PA) : rend (init ++ [G]) (ks ++ [k]) = rend init ks ++ (G.l ++ dels G.g ++ [k]) := by
 induction init generalizing ks with
 | nil => cases ks with
   | nil => simp [rend]
   | cons _ _ => simp at h
 | cons x r ih => cases ks with
   | nil => simp at h
   | cons y s => simp only [List.cons_append, rend, ih (by simpa using h)]; simp
theorem nil_or_snoc {α : Type} (l : List α) : l = [] ∨ ∃ r x, l = r ++ [x] := by
 rcases List.eq_nil_or_concat l with h | ⟨r, x, h⟩
 ·exact .inl h
 ·exact .inr ⟨r, x, by simpa using h⟩
structure Rel (init : List Grp) (ks cur : List PA) (g : Int) (s : List OpD × Int) : Prop where
 len : init.length = ks.length
 row : s.1 = (fsts (rend init ks ++ cur)).reverse
 gone : s.2 = g
 g0 : 0 ≤ g
 keep : ∀ k ∈ ks, k.1.kind = 1
 ins : ∀ x ∈ cur, x.1.kind = 2
theorem rel_start : Rel [] [] [] 0 ([], 0) := ⟨rfl, rfl, rfl, Int.le_refl _, (fun _ h => by cases h), (fun _ h => by cases h)⟩
theorem Rel.head {init : List Grp} {ks cur : List PA} {g : Int} {s : List OpD × Int} (h : Rel init ks cur g s) :
 (cur = [] ∧ ks = [] ∧ s.1 = []) ∨ (cur = [] ∧ ∃ i0 G k0 k, init = i0 ++ [G] ∧ ks = k0 ++ [k] ∧ s.1 = k.1 :: (fsts (rend i0 k0 ++ (G.l ++ dels G.g))).reverse) ∨
  ∃ c0 x, cur = c0 ++ [x] ∧ s.1 = x.1 :: (fsts (rend init ks ++ c0)).reverse := by
 obtain ⟨h1, h2, _, _, _⟩ := h; rcases nil_or_snoc cur with rfl | ⟨c0, x, rfl⟩
 ·rcases nil_or_snoc ks with rfl | ⟨k0, k, rfl⟩
  ·left
   have : init = [] := List.length_eq_zero_iff.1 h1; subst this; exact ⟨rfl, rfl, h2⟩
  ·rcases nil_or_snoc init with rfl | ⟨i0, G, rfl⟩
   ·simp at h1
   ·have hl : i0.length = k0.length := by simpa using h1
    right; left
    refine ⟨rfl, i0, G, k0, k, rfl, rfl, ?_⟩; rw [h2, List.append_nil, rend_snoc hl]; have := fsts_snoc_rev (rend i0 k0) (G.l ++ dels G.g) k
    simpa [List.append_assoc] using this
 ·right; right
  exact ⟨c0, x, rfl, by rw [h2, fsts_snoc_rev]⟩
theorem Rel.ins_new {init : List Grp} {ks cur : List PA} {g : Int} {s : List OpD × Int} (h : Rel init ks cur g s) {o : OpD} (hk : o.kind = 2) (ha : ∀ c0 x, cur = c0 ++ [x] → x.1.attrs ≠ o.attrs) (v : Value) :
 Rel init ks (cur ++ [(o, v)]) g (add s o) := by
 have e : add s o = (put s.1 o, s.2) := by unfold add; rw [if_neg (by omega), if_neg (by omega)]
 have hp : put s.1 o = o :: s.1 := put_fresh fun x r hx hh => by
  rcases h.head with ⟨_, _, h0⟩ | ⟨_, i0, G, k0, k, _, hks, h0⟩ | ⟨c0, y, hc, h0⟩
  ·rw [h0] at hx; cases hx
  ·rw [h0] at hx
   simp only [List.cons.injEq] at hx; have := h.keep k (by rw [hks]; simp); rw [hx.1] at this; omega
  ·rw [h0] at hx
   simp only [List.cons.injEq] at hx; exact ha c0 y hc (by rw [hx.1]; exact hh.2)
 rw [e, hp]; exact ⟨h.len, by rw [fsts_snoc_rev, ← h.row], h.gone, h.g0, h.keep, fun x hx => by
  rcases List.mem_append.1 hx with hx | hx
  ·exact h.ins x hx
  ·simp only [List.mem_singleton] at hx; subst hx; exact hk⟩
theorem Rel.ins_join {init : List Grp} {ks c0 : List PA} {x : PA} {g : Int} {s : List OpD × Int} (h : Rel init ks (c0 ++ [x]) g s) {o : OpD} (hk : o.kind = 2) (hn : o.n = 0) (ha : x.1.attrs = o.attrs) :
 Rel init ks (c0 ++ [({ x.1 with text := cat x.1.text o.text }, x.2)]) g (add s o) := by
 have e : add s o = (put s.1 o, s.2) := by unfold add; rw [if_neg (by omega), if_neg (by omega)]
 have h2 : x.1.kind = 2 := h.ins x (by simp); have hr := h.row; rw [fsts_snoc_rev] at hr; have hp : put s.1 o = { x.1 with text := cat x.1.text o.text } :: (fsts (rend init ks ++ c0)).reverse := by
  rw [hr, put, if_pos ⟨by omega, ha⟩]; have : x.1.n + o.n = x.1.n := by omega
  rw [this]
 rw [e, hp]; exact ⟨h.len, by rw [fsts_snoc_rev], h.gone, h.g0, h.keep, fun y hy => by
  rcases List.mem_append.1 hy with hy | hy
  ·exact h.ins y (List.mem_append_left _ hy)
  ·simp only [List.mem_singleton] at hy; subst hy; exact h2⟩
theorem Rel.del {init : List Grp} {ks cur : List PA} {g : Int} {s : List OpD × Int} (h : Rel init ks cur g s) {o : OpD} (hk : o.kind = 3) (hn : 0 ≤ o.n) : Rel init ks cur (g + o.n) (add s o) := by
 have e : add s o = (s.1, s.2 + o.n) := by unfold add; rw [if_pos hk]
 rw [e]; exact ⟨h.len, h.row, by rw [← h.gone], by have := h.g0; omega, h.keep, h.ins⟩
theorem Rel.flush {init : List Grp} {ks cur : List PA} {g : Int} {s : List OpD × Int} (h : Rel init ks cur g s) (hs : St s) : Ch.flush s = (fsts (rend init ks ++ (cur ++ dels g))).reverse := by
 unfold Ch.flush dels; rw [h.gone]; split
 ·rw [put_fresh fun x r e h3 => hs.2 x r e h3.1, h.row, fsts_snoc_rev]
 ·rw [h.row, List.append_nil]
theorem Rel.keep_join {init : List Grp} {k0 : List PA} {x : PA} {s : List OpD × Int} (h : Rel init (k0 ++ [x]) [] 0 s) (_hs : St s) {o : OpD} (hk : o.kind = 1) (ht : o.text.size = 0) (ha : x.1.attrs = o.attrs) :
 Rel init (k0 ++ [({ x.1 with n := x.1.n + o.n }, x.2)]) [] 0 (add s o) := by
 have h1 : x.1.kind = 1 := h.keep x (by simp); rcases nil_or_snoc init with rfl | ⟨i0, G, rfl⟩
 ·have := h.len; simp at this
 have hl : i0.length = k0.length := by simpa using h.len
 have e : add s o = (put (Ch.flush s) o, 0) := by unfold add; rw [if_neg (by omega), if_pos hk]
 have hf : Ch.flush s = s.1 := by unfold Ch.flush; rw [if_neg (by rw [h.gone]; omega)]
 have hr : s.1 = x.1 :: (fsts (rend i0 k0 ++ (G.l ++ dels G.g))).reverse := by
  rw [h.row, List.append_nil, rend_snoc hl]; have := fsts_snoc_rev (rend i0 k0) (G.l ++ dels G.g) x
  simpa [List.append_assoc] using this
 have hp : put (Ch.flush s) o = { x.1 with n := x.1.n + o.n } :: (fsts (rend i0 k0 ++ (G.l ++ dels G.g))).reverse := by
  rw [hf, hr, put, if_pos ⟨by omega, ha⟩, cat_nil ht]
 rw [e, hp]; refine ⟨by simpa using h.len, ?_, rfl, Int.le_refl _, fun k hk' => ?_, fun y hy => by cases hy⟩
 ·show _ = (fsts (rend (i0 ++ [G]) _ ++ [])).reverse
  rw [List.append_nil, rend_snoc hl]; have := fsts_snoc_rev (rend i0 k0) (G.l ++ dels G.g) ({ x.1 with n := x.1.n + o.n }, x.2)
  simpa [List.append_assoc] using this.symm
 ·rcases List.mem_append.1 hk' with hk' | hk'
  ·exact h.keep k (List.mem_append_left _ hk')
  ·simp only [List.mem_singleton] at hk'; subst hk'; exact h1
theorem Rel.keep_new {init : List Grp} {ks cur : List PA} {g : Int} {s : List OpD × Int} (h : Rel init ks cur g s) (hs : St s) {o : OpD} (hk : o.kind = 1)
 (ha : cur = [] → g = 0 → ∀ k0 x, ks = k0 ++ [x] → x.1.attrs ≠ o.attrs) (v v' : Value) : Rel (init ++ [⟨v, cur, g⟩]) (ks ++ [(o, v')]) [] 0 (add s o) := by
 have e : add s o = (put (Ch.flush s) o, 0) := by unfold add; rw [if_neg (by omega), if_pos hk]
 have hf := h.flush hs; have hp : put (Ch.flush s) o = o :: Ch.flush s := put_fresh fun x r hx hh => by
  rw [hf] at hx
  by_cases hg : 0 < g
  ·unfold dels at hx
   rw [if_pos hg, fsts_snoc_rev] at hx; simp only [List.cons.injEq] at hx; have h3 : (delO g).kind = 3 := rfl; rw [hx.1] at h3; omega
  ·have hg0 : g = 0 := by have := h.g0; omega
   unfold dels at hx; rw [if_neg hg, List.append_nil, ← h.row] at hx; rcases h.head with ⟨_, _, h0⟩ | ⟨hc, i0, G, k0, k, _, hks, h0⟩ | ⟨c0, y, hc, h0⟩
   ·rw [h0] at hx; cases hx
   ·rw [h0] at hx
    simp only [List.cons.injEq] at hx; exact ha hc hg0 k0 k hks (by rw [hx.1]; exact hh.2)
   ·rw [h0] at hx
    simp only [List.cons.injEq] at hx; have := h.ins y (by rw [hc]; simp); rw [hx.1] at this; omega
 rw [e, hp, hf]; refine ⟨by simp [h.len], ?_, rfl, Int.le_refl _, fun k hk' => ?_, fun y hy => by cases hy⟩
 ·rw [List.append_nil, rend_snoc h.len]
  have := fsts_snoc_rev (rend init ks) (cur ++ dels g) (o, v')
  simpa [List.append_assoc] using this.symm
 ·rcases List.mem_append.1 hk' with hk' | hk'
  ·exact h.keep k hk'
  ·simp only [List.mem_singleton] at hk'; subst hk'; exact hk
def trimF (l : List PA) : List PA := match l.getLast? with
 | some x => if x.1.kind = 1 ∧ x.1.attrs.length = 0 then l.dropLast else l
 | none => l
theorem trimF_snoc (l : List PA) (x : PA) : trimF (l ++ [x]) = if x.1.kind = 1 ∧ x.1.attrs.length = 0 then l else l ++ [x] := by
 unfold trimF; simp
theorem norm_of {init : List Grp} {ks cur : List PA} {g : Int} {ops : List OpD} (h : Rel init ks cur g (fold ops)) (hs : St (fold ops)) : norm ops = fsts (trimF (rend init ks ++ (cur ++ dels g))) := by
 unfold norm; rw [h.flush hs]; rcases nil_or_snoc (rend init ks ++ (cur ++ dels g)) with h0 | ⟨r, x, h0⟩
 ·rw [h0]; rfl
 ·rw [h0, trimF_snoc]
  have e : (fsts (r ++ [x])).reverse = x.1 :: (fsts r).reverse := by simp [fsts]
  rw [e, trim]; split
  ·rw [List.reverse_reverse]
  ·rw [List.reverse_cons, List.reverse_reverse]; simp [fsts]
theorem Rel.lim {init : List Grp} {ks cur : List PA} {g : Int} {s : List OpD × Int} (h : Rel init ks cur g s) {k : Nat} (hl : Lim k s) (hk : k ≤ 2000) :
 cur.length ≤ 2000 ∧ ks.length ≤ 2000 ∧ g ≤ 40000000 ∧ (∀ x ∈ cur, x.1.text.size ≤ 160000000) ∧ (∀ x ∈ ks, 0 ≤ x.1.n ∧ x.1.n ≤ 40000000) := by
 have h1 : s.1.length ≤ 2000 := by have := hl.siz; unfold siz at this; omega
 have h2 : s.1.length = (rend init ks).length + cur.length := by rw [h.row]; simp [fsts_len]
 have hr : ∀ (i : List Grp) (l : List PA), i.length = l.length → l.length ≤ (rend i l).length ∧ ∀ x ∈ l, x ∈ rend i l := by
  intro i; induction i with
  | nil => intro l hl; cases l with
    | nil => exact ⟨Nat.le_refl _, fun x hx => by cases hx⟩
    | cons _ _ => simp at hl
  | cons a r ih => intro l hl; cases l with
    | nil => simp at hl
    | cons y t =>
      obtain ⟨i1, i2⟩ := ih t (by simpa using hl); rw [rend]; refine ⟨by simp; omega, fun x hx => ?_⟩; rcases List.mem_cons.1 hx with rfl | hx
      ·simp
      ·exact List.mem_append_right _ (List.mem_cons_of_mem _ (i2 x hx))
 obtain ⟨r1, r2⟩ := hr init ks h.len; have mem : ∀ x : PA, x ∈ rend init ks ++ cur → x.1 ∈ s.1 := fun x hx => by
  rw [h.row, List.mem_reverse]; exact List.mem_map.2 ⟨x, hx, rfl⟩
 refine ⟨by omega, by omega, by have := hl.g1; rw [h.gone] at this; omega, fun x hx => ?_, fun x hx => ?_⟩
 ·have := hl.ops x.1 (mem x (List.mem_append_right _ hx)); omega
 ·have := hl.ops x.1 (mem x (List.mem_append_left _ (r2 x hx))); omega
end
section
open Go.RowKit Ch
open Lib (hid)
def Apart (u v : Value) : Prop := ∀ j, u.ownBlock = some j → v.ownBlock ≠ some j
theorem OwnP.keepO {w w' : World} {B C : Nat} {v ov ov' : Value} {l : List PA} (h : OwnP w B v l) (hk : KeepO C w w' ov ov') (ha : Apart v ov) : OwnP w' B v l ∧ Apart v ov' := by
 have ht : ∀ q ∈ l, w'.ownsRow B 81 2 q.2 q.1.attrs.length (flat q.1.attrs) := fun q hq => hk.keep.own (h.2 q hq) (by decide); rcases h.1.2 with ⟨hv, h0⟩ | ⟨g, cap, cur, hv, hb, hg, hr⟩
 ·exact ⟨⟨⟨h.1.1, .inl ⟨hv, h0⟩⟩, ht⟩, fun j hj => by rw [hv] at hj; simp [Value.ownBlock] at hj⟩
 ·have hne : ov.ownBlock ≠ some g := fun e => ha g (by rw [hv]; rfl) e
  obtain ⟨k1, k2⟩ := hk.ops g cur (0, 0) hg hne; exact ⟨⟨⟨h.1.1, .inr ⟨g, cap, cur, hv, hb, k1, hr⟩⟩, ht⟩, fun j hj => by
   rw [hv] at hj; simp only [Value.ownBlock, Option.some.injEq] at hj; subst hj; exact k2⟩
theorem step_app_op {ops : Array Oper} {o : Oper} {a : Act} {w : World} {K : Act → World → Prop} {Q : Exit → Act → World → Prop} {E : Prop}
 (hg : o.guard = none) (s x : Operand) (hop : o.op = Op.call { callee := Callee.builtin Builtin.append, args := #[s, x], argTypes := #[22, 22] })
 (B : Nat) (v : Value) (ps : List PA) (hs : a.eval s = v) (H : OwnP w B v ps) (q : PA) (ad : Addr) (c : Nat) (hx : a.eval x = .slice (some ad) 1 c) (hc : ∀ j u, (opCells q)[j]? = some u → w.cell? (ad.add j) = some u)
 (hq : w.ownsRow B 81 2 q.2 q.1.attrs.length (flat q.1.attrs)) (hl : ps.length ≤ 100000) (hB : B ≤ w.heap.size)
 (hK : ∀ v' w', OwnP w' B v' (ps ++ [q]) → KeepO B w w' v v' → K (a.put o.dst v') w') :
 if Region.wanted o (yielded ops a.tmps) = true then Oper.wp Try.prog o a w K Q else E := by
 obtain ⟨i0, hi, hz0, hz1, hz2⟩ := info_parts infoOp; refine step_append_new hg s x 22 hop 40 i0 (.agg #[.int .i64 0, .int .i64 0, .string ⟨#[]⟩, .slice none 0 0]) 4 56 Try.underlying22 hi hz0 hz1 hz2 rfl (by decide) B v ps.length (flatO ps) hs H.1 ad 1 c (opCells q) hx rfl hc ?_ (by unfold maxLen; omega) (by omega) hB fun v' w' o1 g1 n1 => ?_
 ·intro u hu
  simp [opCells] at hu; rcases hu with rfl | rfl | rfl | rfl
  ·rfl
  ·rfl
  ·rfl
  ·exact own_one hq
 ·have kr := keep_row H.1 g1 (ts := [40]) (by simp) hB
  refine hK v' w' (ownP_mk (by rw [flatO_snoc]; exact o1) (fun y hy => kr.own (H.2 y hy) (by decide)) (kr.own hq (by decide))) (keepO_grown H.1 g1 hB n1)
set_option maxHeartbeats 1000000 in
theorem copied_any (v : Value) (l : List (ByteArray × ByteArray)) (w : World) (hv : AtRow w v l) (hp : Proper v) (hl : l.length ≤ 4096) :
 Calls Try.prog 69 #[v] w fun e w' => ∃ u, e = .returned u ∧ w'.ownsRow w.heap.size 81 2 u l.length (flat l) ∧ Below w.heap.size w w' := by
 have HV := hid hv; obtain ⟨a, c, rfl⟩ := hv.shape; have HP := hid hp; have HL := hid hl; clear hv hp hl; have O0 := hid (show (w.alloc (.cells #[] 81)).ownsRow w.heap.size 81 2 (.slice (some ⟨w.heap.size, 0, none⟩) 0 0) 0 [] from World.ownsRow_lit w #[] 0 (Nat.le_refl _) (Nat.zero_le _) rfl); have B0 := hid (below_box w (.cells #[] 81)); go_enter Try.func69, Try.ntmps69
 go_wp2_with (at_builtin; refine wpList_append_row rfl (.tmp 3) (.tmp 4) rfl w.heap.size (.slice (some ⟨w.heap.size, 0, none⟩) 0 0) (.slice a l.length c) 0 [] l rfl rfl O0.out (HV.out.below B0.out) HP.out l.length (flat l) (Nat.zero_add _) rfl HL.out B0.out.size ?_; intro u1 w1 o1 g1; obtain ⟨u2, u3, rfl⟩ := own_slice o1; have O1 := hid o1; have B1 := hid (B0.out.grown g1 B0.out.size (own_ge O0.out)); clear o1 g1)
 go_ret
 exact ⟨_, rfl, O1.out, B1.out⟩
def insO (t : ByteArray) (l : List (ByteArray × ByteArray)) : OpD := ⟨2, 0, t, l⟩
def JoinOut (w : World) (B : Nat) (cv : Value) (fr : List PA) (x : OpD) (xv : Value) (t : ByteArray) (e : Ending) (w' : World) : Prop :=
 e = .returned (.tuple #[]) ∧ KeepO B w w' cv cv ∧ OwnP w' B cv (fr ++ [({ x with text := cat x.text t }, xv)])
def InsOut (w : World) (B gb q : Nat) (cv : Value) (cur : List PA) (t : ByteArray) (l : List (ByteArray × ByteArray)) (e : Ending) (w' : World) : Prop :=
 e = .returned (.tuple #[]) ∧ ∃ w1 cv' av, w' = w1.setCell ⟨gb, q, none⟩ cv' ∧ KeepO B w w1 cv cv' ∧ OwnP w1 B cv' (cur ++ [(insO t l, av)])
set_option maxRecDepth 100000 in
set_option maxHeartbeats 4000000 in
theorem insert_join (B gb q : Nat) (cs : Array Value) (cv : Value) (fr : List PA) (x : OpD) (xv : Value) (t : ByteArray) (av : Value) (l : List (ByteArray × ByteArray)) (w : World) (hB : B ≤ gb) (hg : w.heap[gb]? = some (.cells cs 107 (0, 0))) (hc : cs[q]? = some cv)
 (hP : OwnP w B cv (fr ++ [(x, xv)])) (hv : AtRow w av l) (hl : fr.length ≤ 4000) (ht1 : x.text.size ≤ 1073741824) (ht2 : t.size ≤ 1073741824) (ha : x.attrs = l) :
 Calls Try.prog 68 #[.pointer (some ⟨gb, q, none⟩), .string t, av] w (JoinOut w B cv fr x xv t) := by
 have hBw : B ≤ w.heap.size := Nat.le_trans hB (Nat.le_of_lt (lt_of_heap hg)); obtain ⟨gg, cap, hov⟩ := ownsRow_open hP.len (Nat.succ_pos _); subst hov; obtain ⟨xa, xc, hxv⟩ : ∃ a c, xv = .slice a x.attrs.length c := own_slice (hP.2 (x, xv) (by simp)); subst hxv; obtain ⟨va, vc, rfl⟩ := hv.shape; have HC := hid (refSameB_any (.slice xa x.attrs.length xc) (.slice va l.length vc) x.attrs l w (row_of_own (hP.2 (x, .slice xa x.attrs.length xc) (by simp))) hv); rw [show sameB x.attrs l = true from decide_eq_true ha] at HC; have k0 : w.cell? ⟨gb, q, none⟩ = some (.slice (some ⟨gg, 0, none⟩) (fr.length + 1) cap) := by rw [Lib.cell_of_heap hg]; exact hc
 obtain ⟨q0, q1, q2, q3⟩ := last_cells hP.len; have i1 : (0 : Int) ≤ (fr.length : Int) := by omega
 have i2 : (fr.length : Int) < (fr.length : Int) + 1 := by omega
 have i3 : decide ((0 : Int) ≤ (fr.length : Int)) = true := decide_eq_true (by omega); have hgw : gg < w.heap.size := by obtain ⟨_, cs, hcs⟩ := own_heap hP.len; exact lt_of_heap hcs
 have hgb : gb < w.heap.size := lt_of_heap hg; have HP := hid hP; have HBw := hid hBw; clear hP hv hg hc ha hBw q0 q1; go_enter Try.func68, Try.ntmps68
 go_wp2_with fail
 refine HC.out.mono ?_; rintro e wB ⟨rfl, hb⟩; have kB : wB.cell? ⟨gb, q, none⟩ = some (.slice (some ⟨gg, 0, none⟩) (fr.length + 1) cap) := (hb.cell (by exact hgb)).trans k0; have qB : wB.cell? ⟨gg, fr.length * 4 + 2, none⟩ = some (.string x.text) := (hb.cell (by exact hgw)).trans q2; have PB := HP.out.keep (keep_below (ts := []) hb (Nat.le_refl _)) (by simp) (by simp); have fB : wB.frozen? ⟨gg, fr.length * 4 + 2, none⟩ = false := PB.len.frozenAt _; have hwr : (9223372036854775807 < x.text.size + t.size) = False := eq_false (by omega); have HPB := hid PB; have HB := hid hb; clear PB hb k0 q2 q3; go_wp2_with fail
 go_region
 obtain ⟨P1, K1⟩ := OwnP.setLast (y := { x with text := cat x.text t }) HPB.out 2 (.string (x.text ++ t)) (by rw [cat_eq]; rfl) rfl; have HP1 := hid P1; have HK1 := hid ((keepO_below HB.out HBw.out (.slice (some ⟨gg, 0, none⟩) (fr.length + 1) cap)).trans K1); clear P1 K1; go_wp2_with fail
 go_end0
 exact ⟨rfl, ⟨HK1.out.keep.drew, HK1.out.ops⟩, HP1.out⟩
set_option maxRecDepth 100000 in
set_option maxHeartbeats 4000000 in
theorem insert_first (B gb q : Nat) (cs : Array Value) (cv : Value) (cur : List PA) (t : ByteArray) (av : Value) (l : List (ByteArray × ByteArray)) (w : World) (hB : B ≤ gb) (hg : w.heap[gb]? = some (.cells cs 107 (0, 0))) (hc : cs[q]? = some cv)
 (hP : OwnP w B cv cur) (hv : AtRow w av l) (hpr : Proper av) (hla : l.length ≤ 4096) (h0 : cur = []) :
 Calls Try.prog 68 #[.pointer (some ⟨gb, q, none⟩), .string t, av] w (InsOut w B gb q cv cur t l) := by
 have hBw : B ≤ w.heap.size := Nat.le_trans hB (Nat.le_of_lt (lt_of_heap hg)); obtain ⟨va, vc, rfl⟩ := hv.shape; have hl : cur.length ≤ 100000 := by rw [h0]; exact Nat.zero_le _
 obtain ⟨ca, cc, rfl⟩ := own_slice hP.1; have hcl : cur.length = 0 := by rw [h0]; rfl
 have Sw : w.drew.cell? ⟨gb, q, none⟩ = some (.slice ca cur.length cc) := by show w.cell? _ = _; rw [Lib.cell_of_heap hg]; exact hc
 have k0 : w.cell? ⟨gb, q, none⟩ = some (.slice ca 0 cc) := by rw [← hcl]; exact Sw
 have HC0 := hid hc; have Hgw := hid hg; have HVw := hid hv; have HPR := hid hpr; have HLA := hid hla; have HPw := hid hP; have HKw := hid (show KeepO B w w (.slice ca cur.length cc) (.slice ca cur.length cc) from keepO_below (Below.refl _ _) hBw _); have hwg : gb < w.heap.size := lt_of_heap hg; have HCL := hid hcl; clear hP hv hpr hla hc hg h0 hcl; go_enter Try.func68, Try.ntmps68
 go_wp2_with fail
 refine wp_region_B (fun w' => w'.cell? ⟨gb, q, none⟩ = some (.slice ca cur.length cc)) [13] (by kernel_rfl) (?_ : wpAnyB _ _ _ _ _ _ 14 (Array.replicate 14 false) _ _); refine wbF 13 0 ?_ rfl (by kernel_rfl) (fun _ _ _ h => h) (.inr Sw) ?_ (by rfl) ?_
 rotate_left
 ·intro w'; go_simp; (try with_reducible rfl)
 simp only [Act.put, List.setIfInBounds_toArray]; refine wbF 12 1 ?_ rfl (by kernel_rfl) (fun _ _ _ h => h) (.inr Sw) ?_ (by rfl) ?_
 rotate_left
 ·intro w'; go_simp; (try with_reducible rfl)
 simp only [Act.put]; refine wbF 11 2 ?_ rfl (by kernel_rfl) (fun _ _ _ h => h) (.inr Sw) ?_ (by rfl) ?_
 rotate_left
 ·intro w'; go_simp; (try with_reducible rfl)
 simp only [Act.put]; refine wbF 10 3 ?_ rfl (by kernel_rfl) (fun _ _ _ h => h) (.inr Sw) ?_ (by rfl) ?_
 rotate_left
 ·intro w'; go_simp; (try with_reducible rfl)
 simp only [Act.put]; refine wbL [4,10,11,12,13] 9 4 ?_ rfl (by kernel_rfl) (fun _ _ _ h => h) (.inr Sw) ?_ (by rfl) ?_
 rotate_left
 ·intro w' hw'; go_simp; (try with_reducible rfl)
 simp only [Act.put]; refine wbF 8 5 ?_ rfl (by kernel_rfl) (fun _ _ _ h => h) (.inr Sw) ?_ (by rfl) ?_
 rotate_left
 ·intro w'; go_simp; (try with_reducible rfl)
 simp only [Act.put]; refine wbF 7 6 ?_ rfl (by kernel_rfl) (fun _ _ _ h => h) (.inr Sw) ?_ (by rfl) ?_
 rotate_left
 ·intro w'; go_simp; (try with_reducible rfl)
 simp only [Act.put]; refine wpAnyB_one (fuel := 6) (i := 7) rfl (by kernel_rfl) ?_; intro KB hKB; go_simp
 refine (copied_any (.slice va l.length vc) l _ (HVw.out.below (Below.refl _ _).drew) HPR.out HLA.out).mono ?_; rintro e wA ⟨u, rfl, oA, bA⟩; obtain ⟨ua, uc, rfl⟩ := own_slice oA; have BA : Below w.heap.size w wA := of_drew bA; have OA := hid (own_base oA (show B ≤ w.drew.heap.size from hBw)); have PA' := hid (HPw.out.keep (keep_below (ts := []) BA (Nat.le_refl _)) (by simp) (by simp)); have KA := hid (HKw.out.trans (keepO_below BA hBw (.slice ca cur.length cc))); have gA := hid ((BA.block _ hwg).trans Hgw.out); have hBA : B ≤ wA.heap.size := Nat.le_trans hBw BA.size; have SA : wA.cell? ⟨gb, q, none⟩ = some (.slice ca cur.length cc) := (BA.cell (by exact hwg)).trans Sw; have hgA : gb < wA.heap.size := Nat.lt_of_lt_of_le hwg BA.size; clear oA bA BA; refine hKB _ _ (.inr SA) ?_
 (try simp only [Act.put, List.setIfInBounds_toArray, List.set_cons_zero, List.set_cons_succ])
 refine wbF 5 8 ?_ rfl (by kernel_rfl) (fun _ _ _ h => h) (.inr SA) ?_ (by rfl) ?_
 rotate_left
 ·intro w'; go_simp; (try with_reducible rfl)
 simp only [Act.put, List.setIfInBounds_toArray]; refine wpAnyB_one (fuel := 4) (i := 9) rfl (by kernel_rfl) ?_; intro KB hKB; go_simp
 have BC : Below wA.heap.size wA (wA.alloc (.cells #[.int .i64 2, .int .i64 0, .string t, .slice ua l.length uc] 40)) := below_box _ _; have SB : (wA.alloc (.cells #[.int .i64 2, .int .i64 0, .string t, .slice ua l.length uc] 40)).cell? ⟨gb, q, none⟩ = some (.slice ca cur.length cc) := (BC.cell (by exact hgA)).trans SA; have HBC := hid BC; clear BC; refine hKB _ _ (.inr SB) ?_
 (try simp only [Act.put, List.setIfInBounds_toArray, List.set_cons_zero, List.set_cons_succ])
 refine wpAnyB_one (fuel := 3) (i := 10) rfl (by kernel_rfl) ?_; intro KB hKB; refine step_app_op rfl (.tmp 48) (.tmp 53) rfl B (.slice ca cur.length cc) cur rfl (PA'.out.keep (keep_below (ts := []) HBC.out (Nat.le_refl _)) (by simp) (by simp)) (insO t l, .slice ua l.length uc) ⟨wA.heap.size, 0, none⟩ 1 rfl (new_at4 _ _ _ _ _ _) ((keep_below (B := B) (ts := []) HBC.out hBA).own OA.out (by simp)) (by omega) (Nat.le_trans hBA HBC.out.size) ?_; intro v' wC PC KC; have gC := KC.keep.kept gb _ _ _ ((HBC.out.block _ hgA).trans gA.out) (by decide); have fC : wC.frozen? ⟨gb, q, none⟩ = false := Lib.frozen_of_heap gC q; have SC : wC.cell? ⟨gb, q, none⟩ = some (.slice ca cur.length cc) := by rw [Lib.cell_of_heap gC]; exact HC0.out
 obtain ⟨oa', oc', rfl⟩ : ∃ a c, v' = .slice a (cur.length + 1) c := by have := own_slice PC.1; rwa [List.length_append] at this
 have HPC := hid PC; have HKC := hid (KA.out.trans ((keepO_below HBC.out hBA _).trans KC)); clear PC KC gC; refine hKB _ _ (.inr SC) ?_
 (try simp only [Act.put, List.setIfInBounds_toArray])
 refine wbF 2 11 ?_ rfl (by kernel_rfl) (fun _ _ _ h => h) (.inr SC) ?_ (by rfl) ?_
 rotate_left
 ·intro w'; go_simp; (try with_reducible rfl)
 simp only [Act.put]; refine wbF 1 12 ?_ rfl (by kernel_rfl) (fun _ _ _ h => h) (.inr SC) ?_ (by rfl) ?_
 rotate_left
 ·intro w'; go_simp; (try with_reducible rfl)
 simp only [Act.put]; refine wpAnyB_one (fuel := 0) (i := 13) rfl (by kernel_rfl) ?_; intro KB hKB; go_simp
 refine hKB _ _ (.inl (by kernel_rfl)) ?_
 (try simp only [Act.put, List.setIfInBounds_toArray, List.set_cons_zero, List.set_cons_succ])
 refine wpAnyB_done (by kernel_rfl) ?_; go_wp2_with fail
 go_end0
 exact ⟨rfl, wC, _, _, rfl, HKC.out, HPC.out⟩
set_option maxRecDepth 100000 in
set_option maxHeartbeats 4000000 in
theorem insert_next (B gb q : Nat) (cs : Array Value) (cv : Value) (fr : List PA) (x : OpD) (xv : Value) (t : ByteArray) (av : Value) (l : List (ByteArray × ByteArray)) (w : World) (hB : B ≤ gb) (hg : w.heap[gb]? = some (.cells cs 107 (0, 0))) (hc : cs[q]? = some cv)
 (hP : OwnP w B cv (fr ++ [(x, xv)])) (hv : AtRow w av l) (hpr : Proper av) (hla : l.length ≤ 4096) (hl0 : fr.length ≤ 4000) (ha : x.attrs ≠ l) :
 Calls Try.prog 68 #[.pointer (some ⟨gb, q, none⟩), .string t, av] w (InsOut w B gb q cv (fr ++ [(x, xv)]) t l) := by
 have hBw : B ≤ w.heap.size := Nat.le_trans hB (Nat.le_of_lt (lt_of_heap hg)); obtain ⟨va, vc, rfl⟩ := hv.shape; obtain ⟨gg, cap, hov⟩ := ownsRow_open hP.len (Nat.succ_pos _); subst hov; obtain ⟨xa, xc, hxv⟩ : ∃ a c, xv = .slice a x.attrs.length c := own_slice (hP.2 (x, xv) (by simp)); subst hxv; have HC := hid (refSameB_any (.slice xa x.attrs.length xc) (.slice va l.length vc) x.attrs l w (row_of_own (hP.2 (x, .slice xa x.attrs.length xc) (by simp))) hv); rw [show sameB x.attrs l = false from decide_eq_false ha] at HC; have k0 : w.cell? ⟨gb, q, none⟩ = some (.slice (some ⟨gg, 0, none⟩) (fr.length + 1) cap) := by rw [Lib.cell_of_heap hg]; exact hc
 obtain ⟨q0, q1, q2, q3⟩ := last_cells hP.len; have i1 : (0 : Int) ≤ (fr.length : Int) := by omega
 have i2 : (fr.length : Int) < (fr.length : Int) + 1 := by omega
 have i3 : decide ((0 : Int) ≤ (fr.length : Int)) = true := decide_eq_true (by omega); have hgb : gb < w.heap.size := lt_of_heap hg; have HC0' := hid hc; have Hgw := hid hg; have HVw := hid hv; have HPR := hid hpr; have HLA := hid hla; have HPw := hid hP; have HBw := hid hBw; clear hP hv hpr hla hc hg hBw ha q0 q1 q2; go_enter Try.func68, Try.ntmps68
 go_wp2_with fail
 refine HC.out.mono ?_; rintro e wB ⟨rfl, hb⟩; obtain ⟨cur, hcur⟩ : ∃ cur, cur = fr ++ [(x, Value.slice xa x.attrs.length xc)] := ⟨_, rfl⟩; have hlen : fr.length + 1 = cur.length := by rw [hcur]; simp
 have hl : cur.length ≤ 100000 := by omega
 rw [← hcur]; rw [← hcur] at HPw; rw [hlen] at k0 HPw HC0'; have HC0 := HC0'; obtain ⟨ca, hca⟩ : ∃ ca, ca = some (⟨gg, 0, none⟩ : Addr) := ⟨_, rfl⟩; obtain ⟨cc, hcc⟩ : ∃ cc, cc = cap := ⟨_, rfl⟩; rw [hlen, ← hca, ← hcc]; rw [← hca, ← hcc] at k0 HPw HC0; have SwB : wB.drew.cell? ⟨gb, q, none⟩ = some (.slice ca cur.length cc) := (hb.cell (by exact hgb)).trans k0; have kB : wB.cell? ⟨gb, q, none⟩ = some (.slice ca cur.length cc) := SwB; have HPwB := hid (HPw.out.keep (keep_below (ts := []) hb (Nat.le_refl _)) (by simp) (by simp)); have HgwB := hid ((hb.block _ hgb).trans Hgw.out); have HVwB := hid (HVw.out.below hb); have hBwB : B ≤ wB.heap.size := Nat.le_trans HBw.out hb.size; have hwBg : gb < wB.heap.size := Nat.lt_of_lt_of_le hgb hb.size; have HKwB := hid (keepO_below hb HBw.out (.slice ca cur.length cc)); have HX := hid (And.intro hcur (And.intro hlen (And.intro hca hcc))); clear hb k0 q3 hcur hlen hca hcc
 go_wp2_with fail
 refine wp_region_B (fun w' => w'.cell? ⟨gb, q, none⟩ = some (.slice ca cur.length cc)) [13] (by kernel_rfl) (?_ : wpAnyB _ _ _ _ _ _ 14 (Array.replicate 14 false) _ _); refine wbF 13 0 ?_ rfl (by kernel_rfl) (fun _ _ _ h => h) (.inr SwB) ?_ (by rfl) ?_
 rotate_left
 ·intro w'; go_simp; (try with_reducible rfl)
 simp only [Act.put, List.setIfInBounds_toArray]; refine wbF 12 1 ?_ rfl (by kernel_rfl) (fun _ _ _ h => h) (.inr SwB) ?_ (by rfl) ?_
 rotate_left
 ·intro w'; go_simp; (try with_reducible rfl)
 simp only [Act.put]; refine wbF 11 2 ?_ rfl (by kernel_rfl) (fun _ _ _ h => h) (.inr SwB) ?_ (by rfl) ?_
 rotate_left
 ·intro w'; go_simp; (try with_reducible rfl)
 simp only [Act.put]; refine wbF 10 3 ?_ rfl (by kernel_rfl) (fun _ _ _ h => h) (.inr SwB) ?_ (by rfl) ?_
 rotate_left
 ·intro w'; go_simp; (try with_reducible rfl)
 simp only [Act.put]; refine wbL [4,10,11,12,13] 9 4 ?_ rfl (by kernel_rfl) (fun _ _ _ h => h) (.inr SwB) ?_ (by rfl) ?_
 rotate_left
 ·intro w' hw'; go_simp; (try with_reducible rfl)
 simp only [Act.put]; refine wbF 8 5 ?_ rfl (by kernel_rfl) (fun _ _ _ h => h) (.inr SwB) ?_ (by rfl) ?_
 rotate_left
 ·intro w'; go_simp; (try with_reducible rfl)
 simp only [Act.put]; refine wbF 7 6 ?_ rfl (by kernel_rfl) (fun _ _ _ h => h) (.inr SwB) ?_ (by rfl) ?_
 rotate_left
 ·intro w'; go_simp; (try with_reducible rfl)
 simp only [Act.put]; refine wpAnyB_one (fuel := 6) (i := 7) rfl (by kernel_rfl) ?_; intro KB hKB; go_simp
 refine (copied_any (.slice va l.length vc) l _ (HVwB.out.below (Below.refl _ _).drew) HPR.out HLA.out).mono ?_; rintro e wA ⟨u, rfl, oA, bA⟩; obtain ⟨ua, uc, rfl⟩ := own_slice oA; have BA : Below wB.heap.size wB wA := of_drew bA; have OA := hid (own_base oA (show B ≤ wB.drew.heap.size from hBwB)); have PA' := hid (HPwB.out.keep (keep_below (ts := []) BA (Nat.le_refl _)) (by simp) (by simp)); have KA := hid (HKwB.out.trans (keepO_below BA hBwB (.slice ca cur.length cc))); have gA := hid ((BA.block _ hwBg).trans HgwB.out); have hBA : B ≤ wA.heap.size := Nat.le_trans hBwB BA.size; have SA : wA.cell? ⟨gb, q, none⟩ = some (.slice ca cur.length cc) := (BA.cell (by exact hwBg)).trans SwB; have hgA : gb < wA.heap.size := Nat.lt_of_lt_of_le hwBg BA.size; clear oA bA BA; refine hKB _ _ (.inr SA) ?_
 (try simp only [Act.put, List.setIfInBounds_toArray, List.set_cons_zero, List.set_cons_succ])
 refine wbF 5 8 ?_ rfl (by kernel_rfl) (fun _ _ _ h => h) (.inr SA) ?_ (by rfl) ?_
 rotate_left
 ·intro w'; go_simp; (try with_reducible rfl)
 simp only [Act.put, List.setIfInBounds_toArray]; refine wpAnyB_one (fuel := 4) (i := 9) rfl (by kernel_rfl) ?_; intro KB hKB; go_simp
 have BC : Below wA.heap.size wA (wA.alloc (.cells #[.int .i64 2, .int .i64 0, .string t, .slice ua l.length uc] 40)) := below_box _ _; have SB : (wA.alloc (.cells #[.int .i64 2, .int .i64 0, .string t, .slice ua l.length uc] 40)).cell? ⟨gb, q, none⟩ = some (.slice ca cur.length cc) := (BC.cell (by exact hgA)).trans SA; have HBC := hid BC; clear BC; refine hKB _ _ (.inr SB) ?_
 (try simp only [Act.put, List.setIfInBounds_toArray, List.set_cons_zero, List.set_cons_succ])
 refine wpAnyB_one (fuel := 3) (i := 10) rfl (by kernel_rfl) ?_; intro KB hKB; refine step_app_op rfl (.tmp 48) (.tmp 53) rfl B (.slice ca cur.length cc) cur rfl (PA'.out.keep (keep_below (ts := []) HBC.out (Nat.le_refl _)) (by simp) (by simp)) (insO t l, .slice ua l.length uc) ⟨wA.heap.size, 0, none⟩ 1 rfl (new_at4 _ _ _ _ _ _) ((keep_below (B := B) (ts := []) HBC.out hBA).own OA.out (by simp)) (by omega) (Nat.le_trans hBA HBC.out.size) ?_; intro v' wC PC KC; have gC := KC.keep.kept gb _ _ _ ((HBC.out.block _ hgA).trans gA.out) (by decide); have fC : wC.frozen? ⟨gb, q, none⟩ = false := Lib.frozen_of_heap gC q; have SC : wC.cell? ⟨gb, q, none⟩ = some (.slice ca cur.length cc) := by rw [Lib.cell_of_heap gC]; exact HC0.out
 obtain ⟨oa', oc', rfl⟩ : ∃ a c, v' = .slice a (cur.length + 1) c := by have := own_slice PC.1; rwa [List.length_append] at this
 have HPC := hid PC; have HKC := hid (KA.out.trans ((keepO_below HBC.out hBA _).trans KC)); clear PC KC gC; refine hKB _ _ (.inr SC) ?_
 (try simp only [Act.put, List.setIfInBounds_toArray])
 refine wbF 2 11 ?_ rfl (by kernel_rfl) (fun _ _ _ h => h) (.inr SC) ?_ (by rfl) ?_
 rotate_left
 ·intro w'; go_simp; (try with_reducible rfl)
 simp only [Act.put]; refine wbF 1 12 ?_ rfl (by kernel_rfl) (fun _ _ _ h => h) (.inr SC) ?_ (by rfl) ?_
 rotate_left
 ·intro w'; go_simp; (try with_reducible rfl)
 simp only [Act.put]; refine wpAnyB_one (fuel := 0) (i := 13) rfl (by kernel_rfl) ?_; intro KB hKB; go_simp
 refine hKB _ _ (.inl (by kernel_rfl)) ?_
 (try simp only [Act.put, List.setIfInBounds_toArray, List.set_cons_zero, List.set_cons_succ])
 refine wpAnyB_done (by kernel_rfl) ?_; go_wp2_with fail
 go_end0
 obtain ⟨e1, e2, e3, e4⟩ := HX.out; have kk := HKC.out; have pk := HPC.out; rw [e3, e4] at kk; refine ⟨rfl, wC, .slice oa' (cur.length + 1) oc', .slice ua l.length uc, rfl, ?_, ?_⟩
 ·rw [e2]; exact kk
 ·rw [← e1]; exact pk
end
section
open Go.RowKit Ch
theorem Apart.symm {u v : Value} (h : Apart u v) : Apart v u := fun j hv hu => h j hu hv
theorem apart_nil (v : Value) : Apart v (.slice none 0 0) := fun j _ h => by simp [Value.ownBlock] at h
def grpCells (G : Grp) : List Value := [G.v, .int .i64 G.g]
def flatG (gs : List Grp) : List Value := gs.flatMap grpCells
theorem flatG_len (gs : List Grp) : (flatG gs).length = gs.length * 2 := by
 induction gs with
 | nil => rfl
 | cons x r ih => simp [flatG, grpCells] at ih ⊢; omega
theorem flatG_snoc (gs : List Grp) (G : Grp) : flatG (gs ++ [G]) = flatG gs ++ grpCells G := by simp [flatG]
theorem flatG_at {gs : List Grp} {i : Nat} (h : i < gs.length) (j : Nat) (hj : j < 2) : (flatG gs)[i * 2 + j]? = (grpCells gs[i])[j]? := by
 induction gs generalizing i with
 | nil => simp at h
 | cons x r ih =>
   have e : flatG (x :: r) = grpCells x ++ flatG r := rfl; have hx : (grpCells x).length = 2 := rfl; rw [e]; cases i with
   | zero => rw [List.getElem?_append_left (by omega)]; simp
   | succ i =>
     rw [List.getElem?_append_right (by omega), hx]; have e2 : (i + 1) * 2 + j - 2 = i * 2 + j := by omega
     rw [e2, ih (by simpa using h)]; rfl
theorem infoGrp : (Try.prog.info? 107).map (fun i => (i.zero, i.size, i.bytes)) = some (some (.agg #[.slice none 0 0, .int .i64 0]), 2, 32) := by kernel_rfl
structure RSt (w : World) (B : Nat) (gv kv : Value) (gs : List Grp) (ks : List PA) : Prop where
 gr : w.ownsRow B 107 2 gv gs.length (flatG gs)
 kr : OwnP w B kv ks
 gi : ∀ G ∈ gs, OwnP w B G.v G.l
 ap : ∀ G ∈ gs, Apart kv G.v
 pw : gs.Pairwise fun a b => Apart a.v b.v
theorem RSt.keep {w w' : World} {B C : Nat} {ts : List TypeId} {gv kv : Value} {gs : List Grp} {ks : List PA} (h : RSt w B gv kv gs ks) (hk : Keep C ts w w') (h1 : 40 ∉ ts) (h2 : 81 ∉ ts) (h3 : 107 ∉ ts) : RSt w' B gv kv gs ks :=
 ⟨hk.own h.gr h3, h.kr.keep hk h1 h2, fun G hG => (h.gi G hG).keep hk h1 h2, h.ap, h.pw⟩
theorem RSt.below {w w' : World} {B : Nat} {gv kv : Value} {gs : List Grp} {ks : List PA} (h : RSt w B gv kv gs ks) (hb : Below w.heap.size w w') : RSt w' B gv kv gs ks :=
 h.keep (keep_below (ts := []) hb (Nat.le_refl _)) (by simp) (by simp) (by simp)
theorem pw_snoc {gs : List Grp} {G : Grp} : ((gs ++ [G]).Pairwise fun a b => Apart a.v b.v) ↔ (gs.Pairwise fun a b => Apart a.v b.v) ∧ ∀ x ∈ gs, Apart x.v G.v := by
 rw [List.pairwise_append]; simp
theorem RSt.last {w : World} {B : Nat} {gv kv : Value} {gs : List Grp} {G : Grp} {ks : List PA} (h : RSt w B gv kv (gs ++ [G]) ks) :
 ∃ gb gc cs, gv = .slice (some ⟨gb, 0, none⟩) (gs.length + 1) gc ∧ B ≤ gb ∧ w.heap[gb]? = some (.cells cs 107 (0, 0)) ∧ cs[gs.length * 2]? = some G.v ∧ cs[gs.length * 2 + 1]? = some (.int .i64 G.g) := by
 have h0 := h.gr; rw [List.length_append, List.length_singleton] at h0; obtain ⟨gb, gc, rfl⟩ := ownsRow_open h0 (Nat.succ_pos _); obtain ⟨hB, cs, hcs⟩ := own_heap h0; have e : ∀ j, j < 2 → cs[gs.length * 2 + j]? = (grpCells G)[j]? := fun j hj => by
  have := h0.cellAt (gs.length * 2 + j) (by omega); rw [Lib.cell_of_heap hcs] at this; rw [this, flatG_snoc, List.getElem?_append_right (by rw [flatG_len]; omega), flatG_len]
  congr 1
  omega
 exact ⟨gb, gc, cs, rfl, hB, hcs, e 0 (by omega), e 1 (by omega)⟩
theorem RSt.lastRow {w : World} {B gb gc : Nat} {kv : Value} {gs : List Grp} {G : Grp} {ks : List PA} (h : RSt w B (.slice (some ⟨gb, 0, none⟩) (gs.length + 1) gc) kv (gs ++ [G]) ks) :
 w.ownsRow B 107 2 (.slice (some ⟨gb, 0, none⟩) (gs.length + 1) gc) (gs.length + 1) (flatG gs ++ grpCells G) := by
 have h0 := h.gr
 rwa [List.length_append, List.length_singleton, flatG_snoc] at h0
theorem grp_set {w : World} {B gb gc : Nat} {gs : List Grp} {G H : Grp} (h : w.ownsRow B 107 2 (.slice (some ⟨gb, 0, none⟩) (gs.length + 1) gc) (gs.length + 1) (flatG gs ++ grpCells G)) (j : Nat) (u : Value) (hq : (grpCells G).set j u = grpCells H) :
 (w.setCell ⟨gb, gs.length * 2 + j, none⟩ u).ownsRow B 107 2 (.slice (some ⟨gb, 0, none⟩) (gs.length + 1) gc) (gs ++ [H]).length (flatG (gs ++ [H])) := by
 have := (h.stored (gs.length * 2 + j) u).1; have e : (flatG gs ++ grpCells G).set (gs.length * 2 + j) u = flatG (gs ++ [H]) := by
  rw [flatG_snoc, List.set_append_right _ _ (by rw [flatG_len]; omega), flatG_len, ← hq]
  congr 2
  omega
 rw [e] at this; rw [List.length_append, List.length_singleton]; exact this
theorem keep_grp {w : World} {B gb gc : Nat} {n : Nat} {xs : List Value} (h : w.ownsRow B 107 2 (.slice (some ⟨gb, 0, none⟩) n gc) n xs) (j : Nat) (u : Value) : Keep B [107] w (w.setCell ⟨gb, j, none⟩ u) :=
 keep_set (own_heap h).2.choose_spec (by simp) (own_heap h).1 ⟨gb, j, none⟩ rfl u
theorem RSt.others {w w1 : World} {B C : Nat} {gv kv cv' : Value} {gs : List Grp} {G : Grp} {ks : List PA} (h : RSt w B gv kv (gs ++ [G]) ks) (hk : KeepO C w w1 G.v cv') :
 OwnP w1 B kv ks ∧ Apart kv cv' ∧ (∀ x ∈ gs, OwnP w1 B x.v x.l ∧ Apart x.v cv') := by
 have h1 := h.kr.keepO hk (h.ap G (by simp)); have h2 := (pw_snoc.1 h.pw).2; exact ⟨h1.1, h1.2, fun x hx => (h.gi x (by simp [hx])).keepO hk (h2 x hx)⟩
theorem RSt.join {w w1 : World} {B C gb gc : Nat} {kv : Value} {gs : List Grp} {G : Grp} {ks cur' : List PA} (h : RSt w B (.slice (some ⟨gb, 0, none⟩) (gs.length + 1) gc) kv (gs ++ [G]) ks) (hk : KeepO C w w1 G.v G.v) (hP : OwnP w1 B G.v cur') :
 RSt w1 B (.slice (some ⟨gb, 0, none⟩) (gs.length + 1) gc) kv (gs ++ [⟨G.v, cur', G.g⟩]) ks := by
 obtain ⟨h1, _, h3⟩ := h.others hk; refine ⟨?_, h1, fun x hx => ?_, fun x hx => ?_, pw_snoc.2 ⟨(pw_snoc.1 h.pw).1, fun x hx => (h3 x hx).2⟩⟩
 ·have := hk.keep.own h.lastRow (by decide)
  rw [List.length_append, List.length_singleton, flatG_snoc]; exact this
 ·rcases List.mem_append.1 hx with hx | hx
  ·exact (h3 x hx).1
  ·rw [List.mem_singleton.1 hx]; exact hP
 ·rcases List.mem_append.1 hx with hx | hx
  ·exact h.ap x (List.mem_append_left _ hx)
  ·rw [List.mem_singleton.1 hx]; exact h.ap G (by simp)
theorem RSt.ins {w w1 : World} {B C gb gc : Nat} {kv cv' : Value} {gs : List Grp} {G : Grp} {ks cur' : List PA} (h : RSt w B (.slice (some ⟨gb, 0, none⟩) (gs.length + 1) gc) kv (gs ++ [G]) ks) (hk : KeepO C w w1 G.v cv') (hP : OwnP w1 B cv' cur') :
 RSt (w1.setCell ⟨gb, gs.length * 2, none⟩ cv') B (.slice (some ⟨gb, 0, none⟩) (gs.length + 1) gc) kv (gs ++ [⟨cv', cur', G.g⟩]) ks ∧ Keep B [107] w1 (w1.setCell ⟨gb, gs.length * 2, none⟩ cv') := by
 obtain ⟨h1, h2, h3⟩ := h.others hk; have hr := hk.keep.own h.lastRow (by decide); have kk := keep_grp hr (gs.length * 2) cv'; refine ⟨⟨grp_set hr 0 cv' rfl, h1.keep kk (by decide) (by decide), fun x hx => ?_, fun x hx => ?_, pw_snoc.2 ⟨(pw_snoc.1 h.pw).1, fun x hx => (h3 x hx).2⟩⟩, kk⟩
 ·rcases List.mem_append.1 hx with hx | hx
  ·exact (h3 x hx).1.keep kk (by decide) (by decide)
  ·rw [List.mem_singleton.1 hx]; exact hP.keep kk (by decide) (by decide)
 ·rcases List.mem_append.1 hx with hx | hx
  ·exact h.ap x (List.mem_append_left _ hx)
  ·rw [List.mem_singleton.1 hx]; exact h2
theorem RSt.del {w : World} {B gb gc : Nat} {kv : Value} {gs : List Grp} {G : Grp} {ks : List PA} (h : RSt w B (.slice (some ⟨gb, 0, none⟩) (gs.length + 1) gc) kv (gs ++ [G]) ks) (g' : Int) :
 RSt (w.setCell ⟨gb, gs.length * 2 + 1, none⟩ (.int .i64 g')) B (.slice (some ⟨gb, 0, none⟩) (gs.length + 1) gc) kv (gs ++ [⟨G.v, G.l, g'⟩]) ks ∧ Keep B [107] w (w.setCell ⟨gb, gs.length * 2 + 1, none⟩ (.int .i64 g')) := by
 have hr := h.lastRow; have kk := keep_grp hr (gs.length * 2 + 1) (.int .i64 g'); refine ⟨⟨grp_set hr 1 (.int .i64 g') rfl, h.kr.keep kk (by decide) (by decide), fun x hx => ?_, fun x hx => ?_, pw_snoc.2 ⟨(pw_snoc.1 h.pw).1, (pw_snoc.1 h.pw).2⟩⟩, kk⟩
 ·rcases List.mem_append.1 hx with hx | hx
  ·exact (h.gi x (List.mem_append_left _ hx)).keep kk (by decide) (by decide)
  ·rw [List.mem_singleton.1 hx]; exact (h.gi G (by simp)).keep kk (by decide) (by decide)
 ·rcases List.mem_append.1 hx with hx | hx
  ·exact h.ap x (List.mem_append_left _ hx)
  ·rw [List.mem_singleton.1 hx]; exact h.ap G (by simp)
theorem RSt.keeps {w w1 : World} {B C : Nat} {gv kv kv' : Value} {gs : List Grp} {ks ks' : List PA} (h : RSt w B gv kv gs ks) (hk : KeepO C w w1 kv kv') (hP : OwnP w1 B kv' ks') : RSt w1 B gv kv' gs ks' := by
 have h2 : ∀ x ∈ gs, OwnP w1 B x.v x.l ∧ Apart x.v kv' := fun x hx => (h.gi x hx).keepO hk (h.ap x hx).symm; exact ⟨hk.keep.own h.gr (by decide), hP, fun x hx => (h2 x hx).1, fun x hx => (h2 x hx).2.symm, h.pw⟩
theorem RSt.more {w w1 : World} {B C : Nat} {gv gv' kv : Value} {gs : List Grp} {ks : List PA} (h : RSt w B gv kv gs ks) (hk : Keep C [107] w w1) (hr : w1.ownsRow B 107 2 gv' (gs.length + 1) (flatG gs ++ [.slice none 0 0, .int .i64 0])) :
 RSt w1 B gv' kv (gs ++ [⟨.slice none 0 0, [], 0⟩]) ks := by
 refine ⟨by rw [List.length_append, List.length_singleton, flatG_snoc]; exact hr, h.kr.keep hk (by decide) (by decide), fun x hx => ?_, fun x hx => ?_, pw_snoc.2 ⟨h.pw, fun x _ => apart_nil _⟩⟩
 ·rcases List.mem_append.1 hx with hx | hx
  ·exact (h.gi x hx).keep hk (by decide) (by decide)
  ·rw [List.mem_singleton.1 hx]; exact ⟨World.ownsRow_nil _ _ _ _, fun _ h => by cases h⟩
 ·rcases List.mem_append.1 hx with hx | hx
  ·exact h.ap x hx
  ·rw [List.mem_singleton.1 hx]; exact apart_nil _
def part (gs : List Grp) (ks : List PA) : Nat → List PA
 | 0 => []
 | i + 1 => rend (gs.take i) (ks.take i) ++ (match gs[i]? with | some G => G.l ++ dels G.g | none => [])
theorem part_succ {gs : List Grp} {ks : List PA} {i : Nat} (h : i < gs.length) : part gs ks (i + 1) = rend (gs.take i) (ks.take i) ++ (gs[i].l ++ dels gs[i].g) := by
 rw [part, List.getElem?_eq_getElem h]
theorem part_one {gs : List Grp} {ks : List PA} (h : 0 < gs.length) : part gs ks 1 = gs[0].l ++ dels gs[0].g := by
 rw [part_succ h]; simp [rend]
theorem part_step {gs : List Grp} {ks : List PA} {i : Nat} (h : i + 1 < gs.length) (hk : i < ks.length) : part gs ks (i + 2) = (part gs ks (i + 1) ++ [ks[i]]) ++ gs[i + 1].l ++ dels gs[i + 1].g := by
 rw [part_succ h, part_succ (by omega), List.take_succ_eq_append_getElem (show i < gs.length by omega), List.take_succ_eq_append_getElem hk, rend_snoc (by rw [List.length_take, List.length_take]; omega)]; simp [List.append_assoc]
theorem part_all {init : List Grp} {ks cur : List PA} {g : Int} (cv : Value) (h : init.length = ks.length) : part (init ++ [⟨cv, cur, g⟩]) ks (init.length + 1) = rend init ks ++ (cur ++ dels g) := by
 rw [part_succ (by simp)]; have e1 : (init ++ [(⟨cv, cur, g⟩ : Grp)]).take init.length = init := by simp
 have e2 : ks.take init.length = ks := by rw [h, List.take_length]
 rw [e1, e2]; simp
theorem part_le {gs : List Grp} {ks : List PA} (hk : gs.length = ks.length + 1) : ∀ (d i : Nat), i + d ≤ gs.length → (part gs ks i).length ≤ (part gs ks (i + d)).length := by
 intro d; induction d with
 | zero => intro i _; exact Nat.le_refl _
 | succ d ih =>
   intro i h; refine Nat.le_trans (ih i (by omega)) ?_; rw [← Nat.add_assoc]; cases hi : i + d with
   | zero => simp [part]
   | succ n =>
     rw [part_step (by omega) (by omega)]; simp only [List.length_append]; omega
theorem step_app_row {ops : Array Oper} {o : Oper} {a : Act} {w : World} {K : Act → World → Prop} {Q : Exit → Act → World → Prop} {E : Prop}
 (hg : o.guard = none) (s x : Operand) (hop : o.op = Op.call { callee := Callee.builtin Builtin.append, args := #[s, x], argTypes := #[22, 22] })
 (B : Nat) (v : Value) (ps : List PA) (hs : a.eval s = v) (H : OwnP w B v ps) (u : Value) (qs : List PA) (hx : a.eval x = u) (Hu : OwnP w B u qs) (hl : ps.length + qs.length ≤ 100000) (hB : B ≤ w.heap.size)
 (hK : ∀ v' w', OwnP w' B v' (ps ++ qs) → KeepO B w w' v v' → K (a.put o.dst v') w') :
 if Region.wanted o (yielded ops a.tmps) = true then Oper.wp Try.prog o a w K Q else E := by
 obtain ⟨i0, hi, hz0, hz1, hz2⟩ := info_parts infoOp; rcases Hu.1.2 with ⟨rfl, h0⟩ | ⟨g, cap, cur, rfl, hb, hgh, hr⟩
 ·have hq : qs = [] := List.length_eq_zero_iff.1 h0
  subst hq; have hw : Region.wanted o (yielded ops a.tmps) = true := by simp [Region.wanted, hg]
  rw [if_pos hw]; have hrun := run_append_owned_none (P := Try.prog) (w := w) B 22 o.type 40 i0 4 Try.underlying22 hi v ps.length (flatO ps) H.1; unfold Oper.wp; simp [execOp, hop, resolve, invoke, builtin, hs, hx, hrun, Result.andThen]; exact hK v w (by rw [List.append_nil]; exact H) (keepO_below (Below.refl _ _) hB v)
 ·refine step_append_new hg s x 22 hop 40 i0 (.agg #[.int .i64 0, .int .i64 0, .string ⟨#[]⟩, .slice none 0 0]) 4 56 Try.underlying22 hi hz0 hz1 hz2 rfl (by decide) B v ps.length (flatO ps) hs H.1 ⟨g, 0, none⟩ qs.length cap (flatO qs) hx (flatO_len qs) ?_ (flatO_one fun q hq => own_one (Hu.2 q hq)) (by unfold maxLen; omega) (by omega) hB fun v' w' o1 g1 n1 => ?_
  ·intro j y hj
   have := Hu.1.cells (g := g) rfl j y hj; exact this
  ·have kr := keep_row H.1 g1 (ts := [40]) (by simp) hB
   refine hK v' w' ⟨?_, fun y hy => ?_⟩ (keepO_grown H.1 g1 hB n1)
   ·have e : flatO (ps ++ qs) = flatO ps ++ flatO qs := by simp [flatO]
    rw [List.length_append, e]; exact o1
   ·rcases List.mem_append.1 hy with hy | hy
    ·exact kr.own (H.2 y hy) (by decide)
    ·exact kr.own (Hu.2 y hy) (by decide)
structure OSt (w : World) (B ob rb : Nat) (f : Int) (gv kv ov : Value) (gs : List Grp) (ks out : List PA) : Prop where
 box : w.heap[ob]? = some (.cells #[.int .i64 f, ov] 24 (0, 0))
 res : w.heap[rb]? = some (.cells #[.int .i64 0, .slice none 0 0] 24 (0, 0))
 st : RSt w B gv kv gs ks
 own : OwnP w B ov out
 ak : Apart kv ov
 ag : ∀ G ∈ gs, Apart G.v ov
theorem OSt.keep {w w' : World} {B C ob rb : Nat} {f : Int} {gv kv ov : Value} {gs : List Grp} {ks out : List PA} {ts : List TypeId} (h : OSt w B ob rb f gv kv ov gs ks out) (hk : Keep C ts w w') (h1 : 40 ∉ ts) (h2 : 81 ∉ ts) (h3 : 107 ∉ ts) (h4 : 24 ∉ ts) : OSt w' B ob rb f gv kv ov gs ks out :=
 ⟨hk.kept _ _ _ _ h.box h4, hk.kept _ _ _ _ h.res h4, h.st.keep hk h1 h2 h3, h.own.keep hk h1 h2, h.ak, h.ag⟩
theorem OSt.app {w w1 : World} {B C ob rb : Nat} {f : Int} {gv kv ov ov' : Value} {gs : List Grp} {ks out out' : List PA} (h : OSt w B ob rb f gv kv ov gs ks out) (hB : B ≤ ob) (hne : ob ≠ rb) (hk : KeepO C w w1 ov ov') (hP : OwnP w1 B ov' out') :
 OSt (w1.setCell ⟨ob, 1, none⟩ ov') B ob rb f gv kv ov' gs ks out' ∧ Keep B [24] w1 (w1.setCell ⟨ob, 1, none⟩ ov') := by
 have b1 := hk.keep.kept _ _ _ _ h.box (by decide); have r1 := hk.keep.kept _ _ _ _ h.res (by decide); have kk : Keep B [24] w1 (w1.setCell ⟨ob, 1, none⟩ ov') := keep_set b1 (by simp) hB _ rfl _; have k2 := h.st.kr.keepO hk h.ak; have g2 : ∀ G ∈ gs, OwnP w1 B G.v G.l ∧ Apart G.v ov' := fun G hG => (h.st.gi G hG).keepO hk (h.ag G hG); refine ⟨⟨nblk_set b1, ?_, ⟨kk.own (hk.keep.own h.st.gr (by decide)) (by decide), k2.1.keep kk (by decide) (by decide), fun G hG => (g2 G hG).1.keep kk (by decide) (by decide), h.st.ap, h.st.pw⟩, hP.keep kk (by decide) (by decide), k2.2, fun G hG => (g2 G hG).2⟩, kk⟩; rw [Below.heap_setCell _ _ _ _ (show rb ≠ ob from fun e => hne e.symm)]; exact r1
theorem OSt.cell {w : World} {B ob rb : Nat} {f : Int} {gv kv ov : Value} {gs : List Grp} {ks out : List PA} (h : OSt w B ob rb f gv kv ov gs ks out) : w.cell? ⟨ob, 1, none⟩ = some ov ∧ w.frozen? ⟨ob, 1, none⟩ = false ∧ ob < w.heap.size :=
 ⟨(Lib.cell_of_heap h.box 1).trans rfl, Lib.frozen_of_heap h.box 1, lt_of_heap h.box⟩
theorem OwnP.at {w : World} {B : Nat} {v : Value} {ks : List PA} (h : OwnP w B v ks) {i : Nat} (hi : i < ks.length) : ∃ kb kc, v = .slice (some ⟨kb, 0, none⟩) ks.length kc ∧ kb < w.heap.size ∧
 w.cell? ⟨kb, i * 4, none⟩ = some (.int .i64 ks[i].1.kind) ∧ w.cell? ⟨kb, i * 4 + 1, none⟩ = some (.int .i64 ks[i].1.n) ∧ w.cell? ⟨kb, i * 4 + 2, none⟩ = some (.string ks[i].1.text) ∧ w.cell? ⟨kb, i * 4 + 3, none⟩ = some ks[i].2 := by
 obtain ⟨kb, kc, rfl⟩ := ownsRow_open h.1 (by omega); obtain ⟨_, cs, hcs⟩ := own_heap h.1; have e : ∀ j, j < 4 → w.cell? ⟨kb, i * 4 + j, none⟩ = (opCells ks[i])[j]? := fun j hj => by
  rw [h.1.cellAt _ (by omega), flatO_at hi j hj]
 exact ⟨kb, kc, rfl, lt_of_heap hcs, e 0 (by omega), e 1 (by omega), e 2 (by omega), e 3 (by omega)⟩
theorem RSt.at {w : World} {B : Nat} {gv kv : Value} {gs : List Grp} {ks : List PA} (h : RSt w B gv kv gs ks) {i : Nat} (hi : i < gs.length) : ∃ gb gc, gv = .slice (some ⟨gb, 0, none⟩) gs.length gc ∧ gb < w.heap.size ∧
 w.cell? ⟨gb, i * 2, none⟩ = some gs[i].v ∧ w.cell? ⟨gb, i * 2 + 1, none⟩ = some (.int .i64 gs[i].g) := by
 obtain ⟨gb, gc, rfl⟩ := ownsRow_open h.gr (by omega); obtain ⟨_, cs, hcs⟩ := own_heap h.gr; have e : ∀ j, j < 2 → w.cell? ⟨gb, i * 2 + j, none⟩ = (grpCells gs[i])[j]? := fun j hj => by
  rw [h.gr.cellAt _ (by omega), flatG_at hi j hj]
 exact ⟨gb, gc, rfl, lt_of_heap hcs, e 0 (by omega), e 1 (by omega)⟩
end
end Go.Proofs.Ytchceolbbkhnnaa
