/- What is put behind so many bytes: the program's ending. -/
import Derived.Test.YtigdmgpejmfceaaBb
import Derived.Test.YtigdmgpejmfceaaYh
namespace Go.Proofs.Ytigdmgpejmfceaa
open Go.RowKit Su Yh

theorem own_one (w : World) (x : UInt8) (i : Int) (h : i = (x.toNat : Int)) : OwnU (w.alloc (.cells #[.int .u8 i] 5)) w.heap.size (.slice (some ⟨w.heap.size, 0, none⟩) 1 1) [x] := by
  subst h
  exact World.ownsRow_lit w #[.int .u8 (x.toNat : Int)] 1 (Nat.le_refl _) (by unfold maxLen; omega) rfl
theorem OwnU.shapeQ {w : World} {B : Nat} {v : Value} {l : List UInt8} (h : OwnU w B v l) : ∃ a n cap, v = .slice a n cap ∧ n = l.length := by
  obtain ⟨a, cap, e⟩ := h.shape
  exact ⟨a, _, cap, e, rfl⟩
def lenV : Value → Nat
  | .slice _ n _ => n
  | _ => 0
/-- An end when k noughts are in. -/
def endA (k : Nat) : List UInt8 := 128 :: List.replicate k 0
theorem endA_succ (k : Nat) : endA (k + 1) = endA k ++ [0] := by
  unfold endA
  rw [List.replicate_succ', List.cons_append]
theorem endA_len (k : Nat) : (endA k).length = k + 1 := by simp [endA]
theorem zeros_lt_iff {n k : Nat} (hk : k ≤ zeros n) : (n + (k + 1) + 8) % 64 ≠ 0 ↔ k < zeros n := by
  unfold zeros at *
  omega
theorem be_take (m j : Nat) (h : j < 8) : (be 8 m).take (j + 1) = (be 8 m).take j ++ [UInt8.ofNat (m / 256 ^ (7 - j))] := by
  have hl : j < (be 8 m).length := by rw [be_len]; exact h
  rw [List.take_succ_eq_append_getElem hl]
  congr 2
  match j, h with
  | 0, _ => simp [be_cons]
  | 1, _ => simp [be_cons]
  | 2, _ => simp [be_cons]
  | 3, _ => simp [be_cons]
  | 4, _ => simp [be_cons]
  | 5, _ => simp [be_cons]
  | 6, _ => simp [be_cons]
  | 7, _ => simp [be_cons]
theorem byte_eq (n j : Nat) (h : j < 8) : 8 * (n : Int) / 2 ^ (56 - 8 * j) % 256 = ((UInt8.ofNat (8 * n / 256 ^ (7 - j))).toNat : Int) := by
  rw [UInt8.toNat_ofNat']
  match j, h with
  | 0, _ => simp
  | 1, _ => simp
  | 2, _ => simp
  | 3, _ => simp
  | 4, _ => simp
  | 5, _ => simp
  | 6, _ => simp
  | 7, _ => simp
theorem ending_eq (n : Nat) : endA (zeros n) ++ (be 8 (8 * n)).take 8 = ending n := by
  rw [List.take_of_length_le (by rw [be_len]; exact Nat.le_refl _)]
  rfl

set_option maxRecDepth 100000 in
set_option maxHeartbeats 4000000 in
theorem ending_any (n : Nat) (w : World) (hn : n ≤ 140737488355328) :
    Calls Try.prog 31 #[.int .i64 (n : Int)] w fun e w' => ∃ v, e = .returned v ∧ OwnU w' w.heap.size v (ending n) ∧ Below w.heap.size w w' := by
  have hz := zeros_lt n
  have HEE := Lib.hid (ending_eq n)
  have HZI := Lib.hid (fun k => zeros_lt_iff (n := n) (k := k))
  have HBT := Lib.hid (be_take (8 * n))
  have HBL := Lib.hid (be_len 8 (8 * n))
  generalize be 8 (8 * n) = T at *
  generalize hzz : zeros n = z at *
  have HOO := Lib.hid (own_one w 128 128 rfl)
  go_enter Try.func31, Try.ntmps31
  go_wp2_with fail
  go_loopw [3] (fun o wr => ∃ k : Nat, k ≤ z ∧ OwnU wr w.heap.size o (endA k) ∧ Below w.heap.size w wr ∧ ∃ a c, o = .slice a (k + 1) c) (fun o _ => 64 - (lenV o))
  case atStart => exact ⟨0, Nat.zero_le _, HOO.out, (Below.refl _ _).alloc (Nat.le_refl _) _, _, _, rfl⟩
  case round =>
    obtain ⟨k, hk, hown, hb, oa, oc, rfl⟩ := hrel
    have hBr := hb.size
    by_cases hlt : k < z
    · have ht : (((n : Int) + ((k : Int) + 1) + 8) % 64 != 0) = true := by
        have := (HZI.out k hk).2 hlt
        simp
        omega
      have hk63 : k < 64 := by omega
      have HO := Lib.hid hown
      have HB := Lib.hid hb
      clear hown hb
      go_wp2_with (refine wpList_append_bytes rfl _ _ rfl w.heap.size (.slice oa (k + 1) oc) (.slice (some ⟨wr.heap.size, 0, none⟩) 1 1) (endA k) [0] rfl rfl (OwnU.alloc HO.out _) (own_one wr 0 0 rfl).row (by rw [endA_len]; simp; omega) (by simp; omega) ?_; intro u2 w2 own2 gr2; rw [← endA_succ] at own2; have HO2 := Lib.hid own2; obtain ⟨ua, un, uc, rfl, hun⟩ := own2.shapeQ; rw [endA_len] at hun; subst hun; have HB2 := Lib.hid ((HB.out.alloc hBr _).grown gr2 (by simp; omega) (fun g hg => (HO.out.lt g hg).1)); clear own2 gr2)
      refine ⟨⟨k + 1, by omega, HO2.out, HB2.out, _, _, rfl⟩, ?_⟩
      simp only [lenV]
      omega
    · have hkz : k = z := by omega
      subst hkz
      have ht : (((n : Int) + ((k : Int) + 1) + 8) % 64 != 0) = false := by
        have := (HZI.out k hk).1
        simp
        omega
      have HO := Lib.hid hown
      have HB := Lib.hid hb
      clear hown hb hlt
      go_wp2_with fail
      go_loopw [3, 4] (fun o i wr => ∃ j : Nat, i = .int .i64 (56 - 8 * (j : Int)) ∧ j ≤ 8 ∧ OwnU wr w.heap.size o (endA k ++ T.take j) ∧ Below w.heap.size w wr ∧ ∃ a m c, o = .slice a m c ∧ m = k + 1 + j) (fun _ i _ => (intOf i + 8).toNat)
      case atStart => exact ⟨0, rfl, by omega, by rw [List.take_zero, List.append_nil]; exact HO.out, HB.out, _, _, _, rfl, rfl⟩
      case round =>
        obtain ⟨j, rfl, hj, hown, hb, a, m, c, rfl, hm⟩ := hrel
        have hBr2 := hb.size
        by_cases hlt : j < 8
        · have hup : decide (8 * (j : Int) ≤ 56) = true := decide_eq_true (by omega)
          have HBJ := Lib.hid (HBT.out j hlt)
          have HQ := Lib.hid (byte_eq n j hlt)
          generalize UInt8.ofNat (8 * n / 256 ^ (7 - j)) = x at *
          have HO := Lib.hid hown
          have HB := Lib.hid hb
          have HM := Lib.hid (show (endA k ++ T.take j).length = m by rw [List.length_append, endA_len, List.length_take, HBL.out, hm]; omega)
          have hm2 : m ≤ 100 := by omega
          have HMM := Lib.hid hm
          clear hown hb hm
          go_wp2_with (refine wpList_append_bytes rfl _ _ rfl w.heap.size (.slice a m c) (.slice (some ⟨wr.heap.size, 0, none⟩) 1 1) (endA k ++ T.take j) [x] rfl rfl (OwnU.alloc HO.out _) (own_one wr x _ HQ.out).row (by rw [HM.out]; simp; omega) (by simp; omega) ?_; intro u2 w2 own2 gr2; rw [List.append_assoc, ← HBJ.out] at own2; have HO2 := Lib.hid own2; obtain ⟨ua, un, uc, rfl, hun⟩ := own2.shapeQ; have HUN := Lib.hid hun; have HB2 := Lib.hid ((HB.out.alloc hBr2 _).grown gr2 (by simp; omega) (fun g hg => (HO.out.lt g hg).1)); clear own2 gr2 hun)
          refine ⟨⟨j + 1, by congr 1; omega, by omega, HO2.out, HB2.out, _, _, _, rfl, by rw [HUN.out, List.length_append, endA_len, List.length_take, HBL.out]; omega⟩, ?_⟩
          simp only [intOf]
          omega
        · have hj8 : j = 8 := by omega
          subst hj8
          have hup : decide (8 * ((8 : Nat) : Int) ≤ 56) = false := decide_eq_false (by omega)
          rw [HEE.out] at hown
          have HO := Lib.hid hown
          have HB := Lib.hid hb
          clear hown hb hlt hm
          go_wp2_with fail
          go_ret
          exact ⟨_, rfl, HO.out, HB.out⟩
end Go.Proofs.Ytigdmgpejmfceaa
