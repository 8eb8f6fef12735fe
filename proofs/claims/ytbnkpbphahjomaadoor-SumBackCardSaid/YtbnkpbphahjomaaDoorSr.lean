/- The sum of bytes: the document's own, bit by bit. -/
import Derived.Test.YtbnkpbphahjomaaDoorSs
namespace Go.Proofs.YtbnkpbphahjomaaDoor
open Go.RowKit Su

theorem steps_snoc (k n : Nat) : steps (k + 1) n = Su.step (steps k n) := by rw [steps_add k 1]; rfl

set_option maxRecDepth 100000 in
set_option maxHeartbeats 2000000 in
theorem refSum_any (v : Value) (l : List UInt8) (w : World) (h : BRow w v l) :
    Calls Tryd.prog 21 #[v] w fun e w' => e = .returned (.int .i64 ((sum l : Nat) : Int)) ∧ w = w' := by
  have hlen := h.len
  have H := Lib.hid h
  obtain ⟨a, cap, rfl, h2, h3, h4, h5⟩ := h
  have H5 := Lib.hid h5
  unfold maxLen at hlen h3
  clear h5 h4
  go_enter Tryd.func21, Tryd.ntmps21
  go_wp2_with fail
  go_loop [3, 4, 5, 6] (fun n i _ _ => ∃ k : Nat, n = .int .u32 ((reg 4294967295 (l.take k) : Nat) : Int) ∧ i = .int .i64 (k : Int) ∧ k ≤ l.length) (fun _ i _ _ => l.length - (intOf i).toNat)
  case atStart => exact ⟨0, rfl, rfl, by omega⟩
  case round =>
    obtain ⟨k, rfl, rfl, hk⟩ := hrel
    by_cases hlt : k < l.length
    · have hlt' : (k : Int) < (l.length : Int) := by omega
      obtain ⟨b, off, rfl, hbl, hc⟩ := H5.out k hlt
      have hr1 := reg_lt (show 4294967295 < 4294967296 by omega) (l.take k)
      have HR := Lib.hid (show reg 4294967295 (l.take (k + 1)) = steps 8 (reg 4294967295 (l.take k) ^^^ l[k].toNat) by rw [List.take_succ_eq_append_getElem hlt, reg_snoc])
      obtain ⟨n, hn⟩ : ∃ n, n = reg 4294967295 (l.take k) := ⟨_, rfl⟩
      rw [← hn] at HR hr1 ⊢
      obtain ⟨x, hx⟩ : ∃ x, x = l[k].toNat := ⟨_, rfl⟩
      have hx2 : x < 256 := by rw [hx]; exact u8_lt _
      rw [← hx] at HR hc
      have q1 := u32_xor_nat n x hr1 (by omega)
      have hr2 := xor_lt hr1 (show x < 4294967296 by omega)
      obtain ⟨m, hm⟩ : ∃ m, m = n ^^^ x := ⟨_, rfl⟩
      rw [← hm] at HR q1 hr2
      clear hn hx hm
      go_wp2_with fail
      go_loop [3, 5, 6] (fun n i _ => ∃ j : Nat, n = .int .u32 ((steps j m : Nat) : Int) ∧ i = .int .i64 (j : Int) ∧ j ≤ 8) (fun _ i _ => 8 - (intOf i).toNat)
      case atStart => exact ⟨0, rfl, rfl, by omega⟩
      case round =>
        obtain ⟨j, rfl, rfl, hj⟩ := hrel
        have hs1 := steps_lt (k := j) hr2
        have HS := Lib.hid (steps_snoc j m)
        obtain ⟨t, ht⟩ : ∃ t, t = steps j m := ⟨_, rfl⟩
        rw [← ht] at hs1 HS ⊢
        by_cases hj8 : j < 8
        · have hj8' : (j : Int) < 8 := by omega
          have q2 := u32_xor_nat (t / 2) 3988292384 (by omega) (by omega)
          have q2 : bits .xor .u32 ((t : Int) / 2) 3988292384 = ((t / 2 ^^^ 3988292384 : Nat) : Int) := q2
          have h8 := xor_lt (show t / 2 < 4294967296 by omega) (show 3988292384 < 4294967296 by omega)
          obtain ⟨y, hy⟩ : ∃ y, y = t / 2 ^^^ 3988292384 := ⟨_, rfl⟩
          rw [← hy] at q2 h8
          have HY := Lib.hid hy
          clear hy ht
          by_cases ho : t % 2 = 1
          · have HO := Lib.hid ho
            have hd : ((t : Int) % 2 == 1) = true := by simp; omega
            clear ho
            go_wp2_with fail
            refine ⟨⟨j + 1, by rw [HS.out, Su.step, if_pos HO.out, ← HY.out], by rw [Int.natCast_add]; rfl, by omega⟩, ?_⟩
            simp only [intOf]
            omega
          · have HO := Lib.hid ho
            have hd : ((t : Int) % 2 == 1) = false := by simp; omega
            clear ho
            go_wp2_with fail
            refine ⟨⟨j + 1, by rw [HS.out, Su.step, if_neg HO.out]; rfl, by rw [Int.natCast_add]; rfl, by omega⟩, ?_⟩
            simp only [intOf]
            omega
        · have HJ := Lib.hid (show j = 8 by omega)
          have HT := Lib.hid ht
          clear ht
          have hge : ¬ (j : Int) < 8 := by omega
          go_wp2_with fail
          refine ⟨⟨k + 1, by rw [HR.out, ← HJ.out, HT.out], by rw [Int.natCast_add]; rfl, by omega⟩, ?_⟩
          simp only [intOf]
          omega
    · have HK := Lib.hid (show k = l.length by omega)
      have hge : ¬ (k : Int) < (l.length : Int) := by omega
      have hr1 := reg_lt (show 4294967295 < 4294967296 by omega) (l.take k)
      have HE := Lib.hid (show sum l = reg 4294967295 (l.take k) ^^^ 4294967295 by rw [HK.out, List.take_length]; rfl)
      obtain ⟨n, hn⟩ : ∃ n, n = reg 4294967295 (l.take k) := ⟨_, rfl⟩
      rw [← hn] at HE hr1 ⊢
      have q1 : bits .xor .u32 (n : Int) 4294967295 = ((n ^^^ 4294967295 : Nat) : Int) := u32_xor_nat n 4294967295 hr1 (by omega)
      have hx := xor_lt hr1 (show 4294967295 < 4294967296 by omega)
      obtain ⟨m, hm⟩ : ∃ m, m = n ^^^ 4294967295 := ⟨_, rfl⟩
      rw [← hm] at HE q1 hx
      clear hn hm
      go_wp2_with fail
      go_ret
      exact ⟨by rw [HE.out]; rfl, by trivial⟩
end Go.Proofs.YtbnkpbphahjomaaDoor
