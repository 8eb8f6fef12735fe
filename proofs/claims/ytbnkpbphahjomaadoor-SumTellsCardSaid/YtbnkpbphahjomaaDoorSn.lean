/- Numbers as bytes: the program's. -/
import Derived.Test.YtbnkpbphahjomaaDoorSb
import Derived.Deep.OwnRows
namespace Go.Proofs.YtbnkpbphahjomaaDoor
open Go.RowKit Su

/-- A row of so many bytes of which the last are done. -/
def dig (s d n : Nat) : Array Value := (List.replicate (s - d) (Value.int .u8 0) ++ Lib.byteCells (be d n)).toArray
theorem dig_size (s d n : Nat) (h : d ≤ s) : (dig s d n).size = s := by simp [dig, Lib.byteCells, be_len]; omega
theorem dig_set (s d n : Nat) (h : d < s) : (dig s d n).setIfInBounds (s - d - 1) (.int .u8 ((UInt8.ofNat (n / 256 ^ d)).toNat : Int)) = dig s (d + 1) n := by
  unfold dig
  rw [be_cons, show s - d = (s - (d + 1)) + 1 by omega, List.replicate_succ']
  apply Array.ext'
  rw [Array.toList_setIfInBounds]
  simp only [Lib.byteCells, List.map_cons, List.append_assoc, List.cons_append, List.nil_append]
  rw [show s - (d + 1) + 1 - 1 = (List.replicate (s - (d + 1)) (Value.int .u8 0)).length + 0 by simp, List.set_append_right _ _ (by omega)]
  simp

theorem infoByte : (Tryd.prog.info? 5).map (fun i => (i.zero, i.size, i.bytes)) = some (some (.int .u8 0), 1, 1) := by kernel_rfl
theorem made_eq (k : Nat) (v : Value) : madeCells #[v] k = (List.replicate k v).toArray := by
  apply Array.ext'
  simp only [madeCells, Array.toList_map, Array.toList_range]
  rw [List.eq_replicate_iff]
  refine ⟨by simp, fun b hb => ?_⟩
  obtain ⟨x, _, rfl⟩ := List.mem_map.1 hb
  simp [Nat.mod_one]
theorem make_dig (s n : Nat) (h : s ≤ 8) (W : World) : (Instr.makeSlice 22 (.int .i64 (s : Int)) (.int .i64 (s : Int))).run Tryd.prog W = .ok (.slice (some ⟨W.heap.size, 0, none⟩) s s) (W.alloc (.cells (dig s 0 n) 5)) := by
  obtain ⟨i0, hi, hz0, hz1, hz2⟩ := info_parts infoByte
  have h := run_make_row (P := Tryd.prog) 22 5 i0 (.int .u8 0) Tryd.underlying22 hi hz0 hz1 rfl .i64 .i64 s (by rw [hz2]; omega) (by omega) W
  rw [h, made_eq]
  simp [dig, be, Lib.byteCells]
theorem dig_own (s n : Nat) (h : s ≤ 8) (w : World) : OwnU (w.alloc (.cells (dig s s n) 5)) w.heap.size (.slice (some ⟨w.heap.size, 0, none⟩) s s) (be s n) := by
  unfold OwnU
  rw [be_len]
  refine ⟨by simp [Lib.byteCells, be_len], .inr ⟨w.heap.size, s, dig s s n, rfl, Nat.le_refl _, heap_alloc_last w _, Nat.le_refl _, by unfold maxLen; omega, by rw [dig_size _ _ _ (Nat.le_refl _)]; omega, ?_⟩⟩
  rw [List.take_of_length_le (by rw [Array.length_toList, dig_size _ _ _ (Nat.le_refl _)]; omega)]
  simp [dig]
theorem fits_pow (n s : Nat) (hn : n < 256 ^ s) : (n : Int) / 2 ^ (8 * s) = 0 := by
  have e : 2 ^ (8 * s) = 256 ^ s := by rw [Nat.pow_mul]
  have h : n / 2 ^ (8 * s) = 0 := by rw [e]; exact Nat.div_eq_of_lt hn
  have h2 : ((n / 2 ^ (8 * s) : Nat) : Int) = 0 := by rw [h]; rfl
  rw [Int.natCast_ediv] at h2
  simpa using h2

set_option maxRecDepth 100000 in
set_option maxHeartbeats 2000000 in
theorem number_ok (n s : Nat) (w : World) (h1 : 1 ≤ s) (h8 : s ≤ 8) (hn : n < 256 ^ s) (hm : n ≤ 9223372036854775807) :
    Calls Tryd.prog 14 #[.int .i64 (n : Int), .int .i64 (s : Int)] w fun e w' => ∃ v, e = .returned (.tuple #[v, .int .i64 0]) ∧ OwnU w' w.heap.size v (be s n) ∧ Below w.heap.size w w' := by
  have hmk := make_dig s n h8 w
  have d1 : decide ((s : Int) < 1) = false := decide_eq_false (by omega)
  have d2 : decide (8 < (s : Int)) = false := decide_eq_false (by omega)
  have d3 : decide ((n : Int) < 0) = false := decide_eq_false (by omega)
  have d4 : decide (0 < (n : Int) / 2 ^ (8 * s)) = false := decide_eq_false (by rw [fits_pow n s hn]; omega)
  have HD := Lib.hid (fun d => dig_set s d n)
  clear hn
  go_enter Tryd.func14, Tryd.ntmps14
  go_wp2_with fail
  go_loopw [0, 7] (fun m i wr => ∃ d j : Nat, j + d = s ∧ m = .int .i64 ((n / 256 ^ d : Nat) : Int) ∧ i = .int .i64 ((j : Int) - 1) ∧ wr = w.alloc (.cells (dig s d n) 5)) (fun _ i _ => (intOf i + 1).toNat)
  case atStart => exact ⟨0, s, rfl, by simp, rfl, rfl⟩
  case round =>
    obtain ⟨d, j, hj, rfl, rfl, rfl⟩ := hrel
    have hq : n / 256 ^ d ≤ 9223372036854775807 := Nat.le_trans (Nat.div_le_self _ _) hm
    have HQ := Lib.hid (show n / 256 ^ (d + 1) = n / 256 ^ d / 256 by rw [Nat.pow_succ, Nat.div_div_eq_div_mul])
    obtain ⟨q, hqq⟩ : ∃ q, q = n / 256 ^ d := ⟨_, rfl⟩
    cases j with
    | zero =>
      have HJ := Lib.hid (show d = s by omega)
      rw [show ((0 : Nat) : Int) - 1 = -1 from rfl]
      rw [← hqq]
      clear hj
      go_wp2_with fail
      rw [HJ.out]
      go_ret2
      exact ⟨_, rfl, dig_own s n h8 w, (Below.refl _ _).alloc (Nat.le_refl _) _⟩
    | succ c =>
      have hc : c < s := by omega
      rw [show ((c + 1 : Nat) : Int) - 1 = (c : Int) by omega]
      have hz := dig_size s d n (by omega)
      have hx : ∃ u, (dig s d n)[c]? = some u := ⟨_, Array.getElem?_eq_getElem (by omega)⟩
      obtain ⟨u, hu⟩ := hx
      have HS := Lib.hid (HD.out d (by omega))
      rw [show s - d - 1 = c by omega, ← hqq] at HS
      rw [← hqq] at HQ hq ⊢
      have hq0 : 0 ≤ (q : Int) := by omega
      have HJ := Lib.hid hj
      clear hqq hj
      go_wp2_with fail
      refine ⟨⟨d + 1, c, by have := HJ.out; omega, by rw [HQ.out]; rfl, rfl, ?_⟩, ?_⟩
      · rw [← HS.out]
        first
          | (congr 4; done)
          | (congr 4; rw [UInt8.toNat_ofNat']; rfl)
      · simp only [intOf]
        omega
/-- Does a number fit in so many bytes? -/
def fitsN (n s : Int) : Prop := 1 ≤ s ∧ s ≤ 8 ∧ 0 ≤ n ∧ n < 256 ^ s.toNat
theorem big_pow (n s : Nat) (hn : ¬ n < 256 ^ s) : 0 < (n : Int) / 2 ^ (8 * s) := by
  have e : 2 ^ (8 * s) = 256 ^ s := by rw [Nat.pow_mul]
  have h : 0 < n / 2 ^ (8 * s) := by rw [e]; exact Nat.div_pos (by omega) (Nat.pow_pos (by decide))
  have h2 : (0 : Int) < ((n / 2 ^ (8 * s) : Nat) : Int) := by omega
  rw [Int.natCast_ediv] at h2
  simpa using h2
set_option maxRecDepth 100000 in
set_option maxHeartbeats 2000000 in
theorem number_bad (n s : Int) (w : World) (hn : -9223372036854775808 ≤ n) (hn' : n ≤ 9223372036854775807) (hs : -9223372036854775808 ≤ s) (hs' : s ≤ 9223372036854775807) (hf : ¬ fitsN n s) :
    Calls Tryd.prog 14 #[.int .i64 n, .int .i64 s] w fun e w' => e = .returned (.tuple #[.slice none 0 0, .int .i64 1]) ∧ w = w' := by
  unfold fitsN at hf
  by_cases h1 : s < 1
  · have d1 : decide (s < 1) = true := decide_eq_true h1
    clear hf
    go_enter Tryd.func14, Tryd.ntmps14
    go_wp2_with fail
    go_ret2
    exact ⟨rfl, by trivial⟩
  · have d1 : decide (s < 1) = false := decide_eq_false h1
    by_cases h2 : 8 < s
    · have d2 : decide (8 < s) = true := decide_eq_true h2
      clear hf
      go_enter Tryd.func14, Tryd.ntmps14
      go_wp2_with fail
      go_ret2
      exact ⟨rfl, by trivial⟩
    · have d2 : decide (8 < s) = false := decide_eq_false h2
      by_cases h3 : n < 0
      · have d3 : decide (n < 0) = true := decide_eq_true h3
        clear hf
        go_enter Tryd.func14, Tryd.ntmps14
        go_wp2_with fail
        go_ret2
        exact ⟨rfl, by trivial⟩
      · have d3 : decide (n < 0) = false := decide_eq_false h3
        obtain ⟨k, rfl⟩ := Int.eq_ofNat_of_zero_le (show 0 ≤ n by omega)
        obtain ⟨t, rfl⟩ := Int.eq_ofNat_of_zero_le (show 0 ≤ s by omega)
        have hb : ¬ k < 256 ^ t := fun h => hf ⟨by omega, by omega, by omega, by
          rw [Int.toNat_natCast]
          have h2 : ((k : Nat) : Int) < ((256 ^ t : Nat) : Int) := by omega
          simpa using h2⟩
        have d4 : decide (0 < (k : Int) / 2 ^ (8 * t)) = true := decide_eq_true (big_pow k t hb)
        clear hf hb
        go_enter Tryd.func14, Tryd.ntmps14
        go_wp2_with fail
        go_ret2
        exact ⟨rfl, by trivial⟩
end Go.Proofs.YtbnkpbphahjomaaDoor
