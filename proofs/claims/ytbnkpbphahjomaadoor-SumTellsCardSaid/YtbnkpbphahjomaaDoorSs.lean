/- The sum of bytes: the program's. -/
import Derived.Test.YtbnkpbphahjomaaDoorSe
namespace Go.Proofs.YtbnkpbphahjomaaDoor
open Go.RowKit Su

theorem store_new (w : World) : (Instr.storeAt 42 (.pointer (some ⟨w.heap.size, 0, none⟩)) (.agg (mid 256))).run Tryd.prog (w.alloc (.cells (mid 0) 42)) = .ok () (w.alloc (.cells (mid 256) 42)) :=
  run_storeAt_new (P := Tryd.prog) w 42 (mid 0) (mid 256) (by rw [mid_size]; exact sizeTab) (by rw [mid_size, mid_size]) (mid_one 256)
theorem reg_take (l : List UInt8) (k : Nat) (h : k < l.length) : reg 4294967295 (l.take (k + 1)) = reg 4294967295 (l.take k) / 256 ^^^ steps 8 (reg 4294967295 (l.take k) % 256 ^^^ l[k].toNat) := by
  rw [List.take_succ_eq_append_getElem h, reg_snoc, byte_step _ _ (u8_lt _)]

set_option maxRecDepth 100000 in
set_option maxHeartbeats 2000000 in
theorem sum_any (v : Value) (l : List UInt8) (w : World) (h : BRow w v l) (hf : Fo w) :
    Calls Tryd.prog 9 #[v] w fun e w' => e = .returned (.int .i64 ((sum l : Nat) : Int)) ∧ Below w.heap.size w w' := by
  have hlen := h.len
  have H := Lib.hid h
  obtain ⟨a, cap, rfl, h2, h3, h4, h5⟩ := h
  have H5 := Lib.hid h5
  have HZ := Lib.hid zeroTab
  unfold maxLen at hlen h3
  have H8 := Lib.hid (eights_any w hf)
  clear h5 h4
  go_enter Tryd.func9, Tryd.ntmps9
  go_wp2_with fail
  refine H8.out.mono ?_
  rintro e w1 ⟨rfl, hb⟩
  have HB := Lib.hid hb
  have hs1 := hb.size
  have hz := HZ.out
  have hst := store_new w1
  clear hb
  go_wp2_with (refine wpList_stores rfl 42 _ _ rfl _ _ rfl rfl hst ?_; clear hst hz)
  go_loopw [4, 6, 10] (fun n _ i wr => ∃ k : Nat, n = .int .u32 ((reg 4294967295 (l.take k) : Nat) : Int) ∧ i = .int .i64 (k : Int) ∧ k ≤ l.length ∧ wr = w1.alloc (.cells (mid 256) 42)) (fun _ _ i _ => l.length - (intOf i).toNat)
  case atStart => exact ⟨0, rfl, rfl, by omega, rfl⟩
  case round =>
    obtain ⟨k, rfl, rfl, hk, rfl⟩ := hrel
    by_cases hlt : k < l.length
    · have hlt' : (k : Int) < (l.length : Int) := by omega
      obtain ⟨b, off, rfl, hbl, hc⟩ := H5.out k hlt
      have hc2 : (w1.alloc (.cells (mid 256) 42)).cell? ⟨b, off + k, none⟩ = some (.int .u8 (l[k].toNat : Int)) := (((HB.out).trans ((Below.refl _ _).alloc hs1 _)).cell (by exact hbl)).trans hc
      have HR := Lib.hid (reg_take l k hlt)
      have hr1 := reg_lt (show 4294967295 < 4294967296 by omega) (l.take k)
      obtain ⟨n, hn⟩ : ∃ n, n = reg 4294967295 (l.take k) := ⟨_, rfl⟩
      rw [← hn] at HR hr1 ⊢
      obtain ⟨x, hx⟩ : ∃ x, x = l[k].toNat := ⟨_, rfl⟩
      have hx2 : x < 256 := by rw [hx]; exact u8_lt _
      rw [← hx] at HR hc2
      have q1 := u8_xor_nat (n % 256) x (by omega) hx2
      have hix : n % 256 ^^^ x < 256 := Nat.xor_lt_two_pow (n := 8) (by omega) (by omega)
      obtain ⟨j, hj⟩ : ∃ j, j = n % 256 ^^^ x := ⟨_, rfl⟩
      rw [← hj] at HR q1 hix
      have q2 := u32_xor_nat (n / 256) (steps 8 j) (by omega) (steps_lt (by omega))
      obtain ⟨m, hm0⟩ : ∃ m, m = n / 256 ^^^ steps 8 j := ⟨_, rfl⟩
      rw [← hm0] at HR q2
      obtain ⟨s8, hs8⟩ : ∃ m, m = steps 8 j := ⟨_, rfl⟩
      have hm : (mid 256)[j]? = some (.int .u32 (s8 : Int)) := by rw [mid_at _ _ hix, if_pos hix, hs8]
      have hms := mid_size 256
      have hm2 : ∀ h, (mid 256)[j]'h = .int .u32 (s8 : Int) := fun h => by rw [Array.getElem?_eq_getElem h] at hm; exact Option.some.inj hm
      rw [← hs8] at q2
      have q1 : bits .xor .u8 ((n : Int) % 256) (x : Int) = (j : Int) := q1
      have q2 : bits .xor .u32 ((n : Int) / 256) (s8 : Int) = (m : Int) := q2
      clear hj hm0 hs8
      clear hn hx hc
      go_wp2_with fail
      refine ⟨⟨k + 1, by rw [HR.out], by rw [Int.natCast_add]; rfl, by omega, by trivial⟩, ?_⟩
      simp only [intOf]
      omega
    · have HK := Lib.hid (show k = l.length by omega)
      have hge : ¬ (k : Int) < (l.length : Int) := by omega
      have hr1 := reg_lt (show 4294967295 < 4294967296 by omega) (l.take k)
      have HE := Lib.hid (show sum l = reg 4294967295 (l.take k) ^^^ 4294967295 by rw [HK.out, List.take_length]; rfl)
      obtain ⟨n, hn⟩ : ∃ n, n = reg 4294967295 (l.take k) := ⟨_, rfl⟩
      rw [← hn] at HE hr1 ⊢
      have q1 : bits .xor .u32 (n : Int) 4294967295 = ((n ^^^ 4294967295 : Nat) : Int) := u32_xor_nat n 4294967295 hr1 (by omega)
      have hx := xor_lt hr1 (show 4294967295 < 4294967296 by omega)
      obtain ⟨m, hm⟩ : ∃ m, m = n ^^^ 4294967295 := ⟨_, rfl⟩
      rw [← hm] at HE q1 hx
      clear hn hm
      go_wp2_with fail
      go_ret
      exact ⟨by rw [HE.out]; rfl, HB.out.trans ((Below.refl _ _).alloc hs1 _)⟩
end Go.Proofs.YtbnkpbphahjomaaDoor
