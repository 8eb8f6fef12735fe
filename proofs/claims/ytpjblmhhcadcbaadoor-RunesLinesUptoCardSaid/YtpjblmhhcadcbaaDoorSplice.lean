/- runes.Splice: at every string and every place. -/
import Derived.Test.YtpjblmhhcadcbaaDoorCut
namespace Go.Proofs.YtpjblmhhcadcbaaDoor
open Go.RowKit Rn

set_option maxHeartbeats 400000 in
theorem splice_none (s p : ByteArray) (a g : Int) (w : World) (h : rd s.data.toList = none ∨ rd p.data.toList = none) (hs : s.size ≤ maxLen) (hp : p.size ≤ maxLen) :
    Calls Tryd.prog 16 #[.string s, .int .i64 a, .int .i64 g, .string p] w fun e w' => e = .returned (.tuple #[.string ⟨#[]⟩, .int .i64 10]) ∧ Below w.heap.size w w' := by
  have H := Lib.hid h; clear h
  go_enter Tryd.func16, Tryd.ntmps16
  go_wp2_with fail
  refine (counts_no s p _ H.out hs hp).mono ?_
  rintro e w1 ⟨rfl, hb1⟩
  go_wp2_with fail
  go_ret2
  exact ⟨rfl, hb1⟩
set_option maxHeartbeats 1000000 in
theorem splice_arg (s p : ByteArray) (cs ds : List Nat) (a g : Int) (w : World) (h1 : rd s.data.toList = some cs) (h2 : rd p.data.toList = some ds) (hs : s.size ≤ maxLen) (hp : p.size ≤ maxLen)
    (hl : cs.length ≤ 20000) (hag : a < 0 ∨ (cs.length : Int) < a ∨ g < 0 ∨ (cs.length : Int) - a < g) :
    Calls Tryd.prog 16 #[.string s, .int .i64 a, .int .i64 g, .string p] w fun e w' => e = .returned (.tuple #[.string ⟨#[]⟩, .int .i64 1]) ∧ Below w.heap.size w w' := by
  have H1 := Lib.hid h1; have H2 := Lib.hid h2; clear h1 h2
  go_enter Tryd.func16, Tryd.ntmps16
  go_wp2_with fail
  refine (counts_ok s p cs ds _ H1.out H2.out hs hp).mono ?_
  rintro e w1 ⟨rfl, hb1⟩
  by_cases q1 : a < 0
  · clear hag
    go_wp2_with fail
    go_ret2
    exact ⟨rfl, hb1⟩
  · by_cases q2 : (cs.length : Int) < a
    · clear hag
      go_wp2_with fail
      go_ret2
      exact ⟨rfl, hb1⟩
    · by_cases q3 : g < 0
      · clear hag
        go_wp2_with fail
        go_ret2
        exact ⟨rfl, hb1⟩
      · have q4 : (cs.length : Int) - a < g := by omega
        clear hag
        go_wp2_with fail
        go_ret2
        exact ⟨rfl, hb1⟩
set_option maxHeartbeats 1000000 in
theorem splice_big (s p : ByteArray) (cs ds : List Nat) (a g : Int) (w : World) (h1 : rd s.data.toList = some cs) (h2 : rd p.data.toList = some ds) (hs : s.size ≤ maxLen) (hp : p.size ≤ maxLen)
    (hl : cs.length ≤ 20000) (hd : ds.length ≤ 20000) (ha : 0 ≤ a) (ha2 : a ≤ (cs.length : Int)) (hg : 0 ≤ g) (hg2 : g ≤ (cs.length : Int) - a) (hbig : 20000 < (cs.length : Int) - g + (ds.length : Int)) :
    Calls Tryd.prog 16 #[.string s, .int .i64 a, .int .i64 g, .string p] w fun e w' => e = .returned (.tuple #[.string ⟨#[]⟩, .int .i64 3]) ∧ Below w.heap.size w w' := by
  have H1 := Lib.hid h1; have H2 := Lib.hid h2; clear h1 h2
  go_enter Tryd.func16, Tryd.ntmps16
  go_wp2_with fail
  refine (counts_ok s p cs ds _ H1.out H2.out hs hp).mono ?_
  rintro e w1 ⟨rfl, hb1⟩
  go_wp2_with fail
  go_ret2
  exact ⟨rfl, hb1⟩
set_option maxHeartbeats 1000000 in
theorem splice_ok (cs ds : List Nat) (a g : Nat) (w : World) (hc : allOk cs) (hd : allOk ds) (hl : cs.length ≤ 20000) (hl2 : ds.length ≤ 20000) (hag : a + g ≤ cs.length) (hfit : cs.length - g + ds.length ≤ 20000) :
    Calls Tryd.prog 16 #[.string (T cs), .int .i64 (a : Int), .int .i64 (g : Int), .string (T ds)] w fun e w' => e = .returned (.tuple #[.string (T (cs.take a ++ (ds ++ cs.drop (a + g)))), .int .i64 0]) ∧ Below w.heap.size w w' := by
  have hlc := (txt_len cs).2
  have hld := (txt_len ds).2
  have Hz := Lib.hid (T_size cs)
  have Hz2 := Lib.hid (T_size ds)
  have q4 : (T cs).size ≤ 80000 := by rw [Hz.out]; omega
  have q4' : (T ds).size ≤ 80000 := by rw [Hz2.out]; omega
  have H1 := Lib.hid (rd_txt cs hc hl)
  have H2 := Lib.hid (rd_txt ds hd hl2)
  go_enter Tryd.func16, Tryd.ntmps16
  go_wp2_with fail
  refine (counts_ok (T cs) (T ds) cs ds _ H1.out H2.out (by unfold maxLen; omega) (by unfold maxLen; omega)).mono ?_
  rintro e w1 ⟨rfl, hb1⟩
  have hs1 := hb1.size
  have q1 : (txt (cs.take a)).length ≤ (T cs).size := by rw [Hz.out]; exact len_take_le cs a
  have q2 : (txt (cs.take (a + g))).length ≤ (T cs).size := by rw [Hz.out]; exact len_take_le cs (a + g)
  have q3 := Lib.hid (len_mid cs a (a + g) (by omega))
  go_wp2_with fail
  refine (offset_any cs a _ hc (by omega) (by omega)).mono ?_
  rintro e w2 ⟨rfl, hb2⟩
  have hs2 := hb2.size
  go_wp2_with fail
  rw [T_drop]
  refine (offset_any (cs.drop a) g _ (fun c h => hc c (List.mem_of_mem_drop h)) (by rw [List.length_drop]; omega) (by rw [T_size]; have := (txt_len (cs.drop a)).2; rw [List.length_drop] at this; omega)).mono ?_
  rintro e w3 ⟨rfl, hb3⟩
  have hs3 := hb3.size
  have q5 : ((txt (cs.take a)).length : Int) + ((txt ((cs.drop a).take g)).length : Int) = ((txt (cs.take (a + g))).length : Int) := by have := q3.out; rw [Nat.add_sub_cancel_left] at this; rw [this]; omega
  have q6 : cs.length - g + ds.length ≤ 20000 := hfit
  have q7 : (txt (cs.take a)).length ≤ (txt (cs.take (a + g))).length := by rw [q3.out]; omega
  go_wp2_with fail
  rw [T_take]
  refine (Tryd.Builder_WriteString w3.heap.size w3.heap.size [] (T (cs.take a)) _ (Lib.fresh_isBuilder 50 5 w3) (by rw [T_size]; simp only [List.length_nil]; omega) (by simp)).mono ?_
  rintro e w4 ⟨rfl, hi4, hb4⟩
  have hs4 := hb4.size
  simp only [World.size_alloc] at hs4
  go_wp2_with fail
  refine (Tryd.Builder_WriteString w3.heap.size w3.heap.size _ (T ds) _ (Or.inr hi4) (by rw [T_size]; simp only [List.nil_append, Lib.strCells_length, T_size]; omega) (by omega)).mono ?_
  rintro e w5 ⟨rfl, hi5, hb5⟩
  have hs5 := hb5.size
  go_wp2_with fail
  rw [T_drop]
  have hd3 : (txt (cs.drop (a + g))).length ≤ 80000 := by have := (txt_len (cs.drop (a + g))).2; rw [List.length_drop] at this; omega
  refine (Tryd.Builder_WriteString w3.heap.size w3.heap.size _ (T (cs.drop (a + g))) _ (Or.inr hi5) (by rw [T_size]; simp only [List.nil_append, List.length_append, Lib.strCells_length, T_size]; omega) (by omega)).mono ?_
  rintro e w6 ⟨rfl, hi6, hb6⟩
  have hs6 := hb6.size
  go_wp2_with fail
  have hi7 : Lib.IsBuilder 50 5 w3.heap.size w3.heap.size (Lib.byteCells (txt (cs.take a ++ (ds ++ cs.drop (a + g))))) w6 := by
    have e : Lib.byteCells (txt (cs.take a ++ (ds ++ cs.drop (a + g)))) = [] ++ Lib.strCells (T (cs.take a)) ++ Lib.strCells (T ds) ++ Lib.strCells (T (cs.drop (a + g))) := by
      rw [txt_append, txt_append, Lib.byteCells_append, Lib.byteCells_append, List.append_assoc, List.append_assoc]; rfl
    rw [e]; exact Or.inr hi6
  refine (Tryd.Builder_String_any w3.heap.size w3.heap.size _ _ hi7 (by omega)).mono ?_
  rintro e w7 ⟨rfl, hb7⟩
  go_wp2_with fail
  go_ret2
  have hb3' : Below w.heap.size w w3 := (hb1.trans (hb2.mono hs1)).trans (hb3.mono (by omega))
  exact ⟨rfl, ((((hb3'.alloc (by omega) _).trans (hb4.mono (by omega))).trans (hb5.mono (by omega))).trans (hb6.mono (by omega))).trans (hb7.mono (by omega))⟩
end Go.Proofs.YtpjblmhhcadcbaaDoor
