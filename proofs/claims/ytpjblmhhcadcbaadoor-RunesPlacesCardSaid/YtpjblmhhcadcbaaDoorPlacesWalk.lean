/- The law RunesPlaces, walked: places and cuts are of the same runes. -/
import Derived.Test.YtpjblmhhcadcbaaDoorAny
namespace Go.Proofs.YtpjblmhhcadcbaaDoor
open Go.RowKit Rn

set_option maxHeartbeats 1000000 in
theorem places_walk (s : ByteArray) (a b : Int) (m : Int) (w : World) (hs : s.size ≤ maxLen) (hm : w.cell? ⟨0, 0, none⟩ = some (.int .i64 m)) :
    Calls Tryd.prog 8 #[.string s, .int .i64 a, .int .i64 b] w fun e w' => e = .returned (.bool true) ∧ Below w.heap.size w w' := by
  have HM := Lib.hid hm
  clear hm
  go_enter Tryd.func8, Tryd.ntmps8
  go_wp2_with fail
  refine (awake_any m _ HM.out).mono ?_
  rintro e w1 ⟨rfl, b1⟩
  have s1 := b1.size
  go_wp2_with fail
  refine (cut_any s a b _ hs).mono ?_
  rintro e w2 ⟨rfl, b2⟩
  have s2 := b2.size
  go_wp2_with fail
  refine (place_any s a _ hs).mono ?_
  rintro e w3 ⟨rfl, b3⟩
  have s3 := b3.size
  go_wp2_with fail
  refine (place_any s b _ hs).mono ?_
  rintro e w4 ⟨rfl, b4⟩
  have s4 := b4.size
  have b14 : Below w.heap.size w w4 := ((b1.trans (b2.mono s1)).trans (b3.mono (by omega))).trans (b4.mono (by omega))
  cases h : rd s.data.toList with
  | none =>
    have e1 : cutS s.data.toList a b = ⟨#[]⟩ := by unfold cutS; rw [h]
    have e2 : cutE s.data.toList a b = 10 := by unfold cutE; rw [h]
    rw [e1, e2]
    clear h e1 e2
    go_wp2_with fail
    go_ret
    exact ⟨rfl, b14⟩
  | some cs =>
    by_cases hab : a < 0 ∨ b < a ∨ (cs.length : Int) < b
    · have e1 : cutS s.data.toList a b = ⟨#[]⟩ := by unfold cutS; rw [h]; simp only [if_pos hab]
      have e2 : cutE s.data.toList a b = 1 := by unfold cutE; rw [h]; simp only [if_pos hab]
      rw [e1, e2]
      clear h e1 e2 hab
      go_wp2_with fail
      go_ret
      exact ⟨rfl, b14⟩
    · obtain ⟨c1, _, c3⟩ := rd_some h
      obtain ⟨n, rfl⟩ := Int.eq_ofNat_of_zero_le (show 0 ≤ a by omega)
      obtain ⟨k, rfl⟩ := Int.eq_ofNat_of_zero_le (show 0 ≤ b by omega)
      have hs' := rd_T h
      subst hs'
      have e1 : cutS (T cs).data.toList n k = T ((cs.take k).drop n) := by unfold cutS; rw [h]; simp only [if_neg hab, Int.toNat_natCast]
      have e2 : cutE (T cs).data.toList n k = 0 := by unfold cutE; rw [h]; simp only [if_neg hab]
      have e3 : plN (T cs).data.toList n = ((txt (cs.take n)).length : Int) := by unfold plN; rw [h]; simp only [Int.toNat_natCast]; rw [if_neg (by omega)]
      have e4 : plN (T cs).data.toList k = ((txt (cs.take k)).length : Int) := by unfold plN; rw [h]; simp only [Int.toNat_natCast]; rw [if_neg (by omega)]
      have e5 : plE (T cs).data.toList n = 0 := by unfold plE; rw [h]; simp only; rw [if_neg (by omega)]
      have e6 : plE (T cs).data.toList k = 0 := by unfold plE; rw [h]; simp only; rw [if_neg (by omega)]
      rw [e1, e2, e3, e4, e5, e6]
      have hn : n ≤ k := by omega
      have hk : k ≤ cs.length := by omega
      have q1 : (txt (cs.take n)).length ≤ (txt (cs.take k)).length := by rw [len_mid cs n k hn]; omega
      have q2 : (txt (cs.take k)).length ≤ (T cs).size := by rw [T_size]; exact len_take_le cs k
      have q3 : allOk ((cs.take k).drop n) := fun c hc => c1 c (List.mem_of_mem_take (List.mem_of_mem_drop hc))
      have q4 : ((cs.take k).drop n).length = k - n := by rw [List.length_drop, List.length_take]; omega
      have q5 : rd (txt ((cs.take k).drop n)) = some ((cs.take k).drop n) := rd_txt _ q3 (by omega)
      have q6 := Lib.hid (T_mid cs n k hn)
      have q7 := (txt_len ((cs.take k).drop n)).2
      have Q4 := Lib.hid q4; have Q5 := Lib.hid q5
      have q8 : (T ((cs.take k).drop n)).size ≤ maxLen := by rw [T_size]; unfold maxLen; omega
      have q9 : (T cs).size ≤ 80000 := by rw [T_size]; have := (txt_len cs).2; omega
      clear h e1 e2 e3 e4 e5 e6 hab q3 q4 q5 q7
      go_wp2_with fail
      refine (count_any _ _ q8).mono ?_
      rw [T_data, cnt_some Q5.out, er_some Q5.out, Q4.out]
      rintro e w5 ⟨rfl, b5⟩
      have e7 : ((k - n : Nat) : Int) = (k : Int) - n := by omega
      rw [e7]
      clear e7 q8
      have q10 := q6.out
      go_wp2_with fail
      go_ways
      go_ret
      exact ⟨rfl, b14.trans (b5.mono (by omega))⟩
end Go.Proofs.YtpjblmhhcadcbaaDoor
