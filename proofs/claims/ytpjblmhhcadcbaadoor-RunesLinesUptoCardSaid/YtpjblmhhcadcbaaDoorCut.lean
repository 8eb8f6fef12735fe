/- runes.Cut, runes.Place: at every string and every place. -/
import Derived.Test.YtpjblmhhcadcbaaDoorOffset
namespace Go.Proofs.YtpjblmhhcadcbaaDoor
open Go.RowKit Rn

theorem clone_any (s : ByteArray) (w : World) (hs : s.size ≤ 281474976710656) :
    Calls Tryd.prog 26 #[.string s] w fun e w' => e = .returned (.string s) ∧ Below w.heap.size w w' := by
  go_enter Tryd.func26, Tryd.ntmps26
  go_wp2_with fail
  refine (Tryd.stringslite_Clone s _ hs).mono ?_
  rintro e w1 ⟨rfl, hb1⟩
  go_wp2_with fail
  go_ret
  exact ⟨rfl, hb1⟩

set_option maxHeartbeats 400000 in
theorem cut_none (s : ByteArray) (a b : Int) (w : World) (h : rd s.data.toList = none) (hs : s.size ≤ maxLen) :
    Calls Tryd.prog 11 #[.string s, .int .i64 a, .int .i64 b] w fun e w' => e = .returned (.tuple #[.string ⟨#[]⟩, .int .i64 10]) ∧ Below w.heap.size w w' := by
  have H := Lib.hid h; clear h
  go_enter Tryd.func11, Tryd.ntmps11
  go_wp2_with fail
  refine (count_any s _ hs).mono ?_
  rintro e w1 ⟨rfl, hb1⟩
  rw [cnt_none H.out, er_none H.out]
  go_wp2_with fail
  go_ret2
  exact ⟨rfl, hb1⟩
set_option maxHeartbeats 400000 in
theorem cut_arg (s : ByteArray) (cs : List Nat) (a b : Int) (w : World) (h : rd s.data.toList = some cs) (hs : s.size ≤ maxLen) (hab : a < 0 ∨ b < a ∨ (cs.length : Int) < b) :
    Calls Tryd.prog 11 #[.string s, .int .i64 a, .int .i64 b] w fun e w' => e = .returned (.tuple #[.string ⟨#[]⟩, .int .i64 1]) ∧ Below w.heap.size w w' := by
  have H := Lib.hid h; clear h
  go_enter Tryd.func11, Tryd.ntmps11
  go_wp2_with fail
  refine (count_any s _ hs).mono ?_
  rintro e w1 ⟨rfl, hb1⟩
  rw [cnt_some H.out, er_some H.out]
  by_cases h1 : a < 0
  · clear hab
    go_wp2_with fail
    go_ret2
    exact ⟨rfl, hb1⟩
  · by_cases h2 : b < a
    · clear hab
      go_wp2_with fail
      go_ret2
      exact ⟨rfl, hb1⟩
    · have h3 : (cs.length : Int) < b := by omega
      clear hab
      go_wp2_with fail
      go_ret2
      exact ⟨rfl, hb1⟩
set_option maxHeartbeats 400000 in
theorem cut_ok (cs : List Nat) (a b : Nat) (w : World) (h : allOk cs) (hn : cs.length ≤ 20000) (hab : a ≤ b) (hb : b ≤ cs.length) :
    Calls Tryd.prog 11 #[.string (T cs), .int .i64 (a : Int), .int .i64 (b : Int)] w fun e w' => e = .returned (.tuple #[.string (T ((cs.take b).drop a)), .int .i64 0]) ∧ Below w.heap.size w w' := by
  have hl := (txt_len cs).2
  have H := Lib.hid (rd_txt cs h hn)
  have Hz := Lib.hid (T_size cs)
  go_enter Tryd.func11, Tryd.ntmps11
  go_wp2_with fail
  refine (count_any (T cs) _ (by rw [Hz.out]; unfold maxLen; omega)).mono ?_
  rintro e w1 ⟨rfl, hb1⟩
  rw [T_data, cnt_some H.out, er_some H.out]
  have hs1 := hb1.size
  have q1 : (txt (cs.take a)).length ≤ (T cs).size := by rw [Hz.out]; exact len_take_le cs a
  have q2 : (txt (cs.take b)).length ≤ (T cs).size := by rw [Hz.out]; exact len_take_le cs b
  have q4 : (T cs).size ≤ 80000 := by rw [Hz.out]; omega
  have q3 := Lib.hid (len_mid cs a b hab)
  go_wp2_with fail
  refine (offset_any cs a _ h (by omega) (by omega)).mono ?_
  rintro e w2 ⟨rfl, hb2⟩
  have hs2 := hb2.size
  go_wp2_with fail
  rw [T_drop, show ((b : Int) - a) = ((b - a : Nat) : Int) from by omega]
  refine (offset_any (cs.drop a) (b - a) _ (fun c hc => h c (List.mem_of_mem_drop hc)) (by rw [List.length_drop]; omega) (by rw [T_size]; have := (txt_len (cs.drop a)).2; rw [List.length_drop] at this; omega)).mono ?_
  rintro e w3 ⟨rfl, hb3⟩
  have hs3 := hb3.size
  have q5 : ((txt (cs.take a)).length : Int) + ((txt ((cs.drop a).take (b - a))).length : Int) = ((txt (cs.take b)).length : Int) := by rw [q3.out]; omega
  have q6 : (txt (cs.take a)).length ≤ (txt (cs.take b)).length := by rw [q3.out]; omega
  go_wp2_with fail
  rw [T_mid cs a b hab]
  refine (clone_any _ _ (by rw [T_size]; have := (txt_len ((cs.take b).drop a)).2; rw [List.length_drop, List.length_take] at this; omega)).mono ?_
  rintro e w4 ⟨rfl, hb4⟩
  have hs4 := hb4.size
  go_wp2_with fail
  go_ret2
  exact ⟨rfl, ((hb1.trans (hb2.mono hs1)).trans (hb3.mono (by omega))).trans (hb4.mono (by omega))⟩

set_option maxHeartbeats 400000 in
theorem place_none (s : ByteArray) (a : Int) (w : World) (h : rd s.data.toList = none) (hs : s.size ≤ maxLen) :
    Calls Tryd.prog 12 #[.string s, .int .i64 a] w fun e w' => e = .returned (.tuple #[.int .i64 0, .int .i64 10]) ∧ Below w.heap.size w w' := by
  have H := Lib.hid h; clear h
  go_enter Tryd.func12, Tryd.ntmps12
  go_wp2_with fail
  refine (count_any s _ hs).mono ?_
  rintro e w1 ⟨rfl, hb1⟩
  rw [cnt_none H.out, er_none H.out]
  go_wp2_with fail
  go_ret2
  exact ⟨rfl, hb1⟩
set_option maxHeartbeats 400000 in
theorem place_arg (s : ByteArray) (cs : List Nat) (a : Int) (w : World) (h : rd s.data.toList = some cs) (hs : s.size ≤ maxLen) (ha : a < 0 ∨ (cs.length : Int) < a) :
    Calls Tryd.prog 12 #[.string s, .int .i64 a] w fun e w' => e = .returned (.tuple #[.int .i64 0, .int .i64 1]) ∧ Below w.heap.size w w' := by
  have H := Lib.hid h; clear h
  go_enter Tryd.func12, Tryd.ntmps12
  go_wp2_with fail
  refine (count_any s _ hs).mono ?_
  rintro e w1 ⟨rfl, hb1⟩
  rw [cnt_some H.out, er_some H.out]
  by_cases h1 : a < 0
  · clear ha
    go_wp2_with fail
    go_ret2
    exact ⟨rfl, hb1⟩
  · have h3 : (cs.length : Int) < a := by omega
    clear ha
    go_wp2_with fail
    go_ret2
    exact ⟨rfl, hb1⟩
set_option maxHeartbeats 400000 in
theorem place_ok (cs : List Nat) (a : Nat) (w : World) (h : allOk cs) (hn : cs.length ≤ 20000) (hab : a ≤ cs.length) :
    Calls Tryd.prog 12 #[.string (T cs), .int .i64 (a : Int)] w fun e w' => e = .returned (.tuple #[.int .i64 ((txt (cs.take a)).length : Int), .int .i64 0]) ∧ Below w.heap.size w w' := by
  have hl := (txt_len cs).2
  have H := Lib.hid (rd_txt cs h hn)
  have Hz := Lib.hid (T_size cs)
  go_enter Tryd.func12, Tryd.ntmps12
  go_wp2_with fail
  refine (count_any (T cs) _ (by rw [Hz.out]; unfold maxLen; omega)).mono ?_
  rintro e w1 ⟨rfl, hb1⟩
  rw [T_data, cnt_some H.out, er_some H.out]
  have hs1 := hb1.size
  have q4 : (T cs).size ≤ 80000 := by rw [Hz.out]; omega
  go_wp2_with fail
  refine (offset_any cs a _ h (by omega) (by omega)).mono ?_
  rintro e w2 ⟨rfl, hb2⟩
  go_wp2_with fail
  go_ret2
  exact ⟨rfl, hb1.trans (hb2.mono hs1)⟩
end Go.Proofs.YtpjblmhhcadcbaaDoor
