/- The document's own answers: Right, Count, Cut, Place, Splice. -/
import Derived.Test.YtpjblmhhcadcbaaDoorWrite
import Derived.Test.YtpjblmhhcadcbaaDoorAny
namespace Go.Proofs.YtpjblmhhcadcbaaDoor
open Go.RowKit Rn

/-- A row of whole numbers, nil or not. -/
def Row (w : World) (v : Value) (cs : List Nat) : Prop :=
  (v = .slice none 0 0 ∧ cs = []) ∨ ∃ g off cap, v = .slice (some ⟨g, off, none⟩) cs.length cap ∧ cs.length ≤ cap ∧ cap ≤ maxLen ∧ g < w.heap.size ∧ ∀ i, i < cs.length → w.cell? ⟨g, off + i, none⟩ = some (.int .i64 (cs.getD i 0 : Nat))
theorem Row.holds {w : World} {v : Value} {cs : List Nat} (h : Row w v cs) : Holds .i64 w v cs := by
  rcases h with ⟨rfl, rfl⟩ | ⟨g, off, cap, rfl, h1, _, h3, h4⟩
  · exact ⟨none, 0, rfl, Nat.le_refl _, fun i hi => by simp at hi⟩
  · exact ⟨_, _, rfl, h1, fun i hi => ⟨g, off, rfl, h3, h4 i hi⟩⟩
theorem Row.below {w w' : World} {v : Value} {cs : List Nat} (h : Row w v cs) (hb : Below w.heap.size w w') : Row w' v cs := by
  rcases h with h | ⟨g, off, cap, rfl, h1, h2, h3, h4⟩
  · exact Or.inl h
  · exact Or.inr ⟨g, off, cap, rfl, h1, h2, Nat.lt_of_lt_of_le h3 hb.size, fun i hi => by rw [hb.cell (by exact h3)]; exact h4 i hi⟩
theorem Row.of {w : World} {B : Nat} {v : Value} {cs : List Nat} (h : w.ownsRow B 3 1 v cs.length (intVals cs)) : Row w v cs := by
  have h2 := h.2
  rcases h2 with ⟨hv, h2⟩ | ⟨g, cap, cur, hv, _, hg, h3, h4, h5, h6⟩
  · exact Or.inl ⟨hv, List.eq_nil_of_length_eq_zero h2⟩
  · refine Or.inr ⟨g, 0, cap, hv, h3, h4, lt_of_block hg, fun i hi => ?_⟩
    subst hv
    have := h.cells rfl i (.int .i64 (cs.getD i 0 : Nat)) (by simp [intVals, hi, List.getD_eq_getElem?_getD])
    have e : ((⟨g, 0, none⟩ : Addr).add i) = ⟨g, 0 + i, none⟩ := by cases i <;> simp [Addr.add]
    rw [e] at this
    exact this

def ReadPost2 (w : World) (l : List UInt8) (e : Ending) (w' : World) : Prop := Below w.heap.size w w' ∧
  ((rd l = none ∧ ∃ v, e = .returned (.tuple #[v, .bool false])) ∨ ∃ cs v, rd l = some cs ∧ e = .returned (.tuple #[v, .bool true]) ∧ Row w' v cs)
theorem read2 (s : ByteArray) (w : World) (hs : s.size ≤ 1048576) : Calls Tryd.prog 27 #[.string s] w (ReadPost2 w s.data.toList) := by
  refine (read_any s w hs).mono ?_
  rintro e w' ⟨hb, ⟨h, rfl⟩ | ⟨cs, v, h, rfl, ho⟩⟩
  · exact ⟨hb, Or.inl ⟨by unfold rd; rw [h], _, rfl⟩⟩
  · by_cases hl : cs.length ≤ 20000
    · refine ⟨hb, Or.inr ⟨cs, v, by unfold rd; rw [h]; simp only [if_pos hl], ?_, Row.of ho⟩⟩
      rw [decide_eq_true (show (cs.length : Int) ≤ 20000 by omega)]
    · refine ⟨hb, Or.inl ⟨by unfold rd; rw [h]; simp only [if_neg hl], v, ?_⟩⟩
      rw [decide_eq_false (show ¬ (cs.length : Int) ≤ 20000 by omega)]

set_option maxHeartbeats 400000 in
theorem refCount_any (s : ByteArray) (w : World) (hs : s.size ≤ 1048576) :
    Calls Tryd.prog 13 #[.string s] w fun e w' => e = .returned (.tuple #[.int .i64 (cnt s.data.toList), .int .i64 (er s.data.toList)]) ∧ Below w.heap.size w w' := by
  go_enter Tryd.func13, Tryd.ntmps13
  go_wp2_with fail
  refine (read2 s _ hs).mono ?_
  rintro e w1 ⟨hb, ⟨h, v, rfl⟩ | ⟨cs, v, h, rfl, ho⟩⟩
  · have H := Lib.hid h
    clear h
    go_wp2_with fail
    go_ret2
    rw [cnt_none H.out, er_none H.out]
    exact ⟨rfl, hb⟩
  · have H := Lib.hid h
    clear h
    obtain ⟨a, cap, rfl, _, _⟩ := ho.holds
    have HO := Lib.hid ho
    clear ho
    go_wp2_with fail
    go_ret2
    rw [cnt_some H.out, er_some H.out]
    exact ⟨rfl, hb⟩

set_option maxHeartbeats 1000000 in
theorem refCut_any (s : ByteArray) (a b : Int) (w : World) (hs : s.size ≤ 1048576) :
    Calls Tryd.prog 14 #[.string s, .int .i64 a, .int .i64 b] w fun e w' => e = .returned (.tuple #[.string (cutS s.data.toList a b), .int .i64 (cutE s.data.toList a b)]) ∧ Below w.heap.size w w' := by
  go_enter Tryd.func14, Tryd.ntmps14
  go_wp2_with fail
  refine (read2 s _ hs).mono ?_
  rintro e w1 ⟨hb, ⟨h, v, rfl⟩ | ⟨cs, v, h, rfl, ho⟩⟩
  · have e1 : cutS s.data.toList a b = ⟨#[]⟩ := by unfold cutS; rw [h]
    have e2 : cutE s.data.toList a b = 10 := by unfold cutE; rw [h]
    have E1 := Lib.hid e1
    have E2 := Lib.hid e2
    clear h e1 e2
    go_wp2_with fail
    go_ret2
    rw [E1.out, E2.out]
    exact ⟨rfl, hb⟩
  · by_cases hab : a < 0 ∨ b < a ∨ (cs.length : Int) < b
    · have e1 : cutS s.data.toList a b = ⟨#[]⟩ := by unfold cutS; rw [h]; simp only [if_pos hab]
      have e2 : cutE s.data.toList a b = 1 := by unfold cutE; rw [h]; simp only [if_pos hab]
      have E1 := Lib.hid e1
      have E2 := Lib.hid e2
      obtain ⟨a', cap, rfl, _, _⟩ := ho.holds
      clear h e1 e2 ho
      by_cases h1 : a < 0
      · clear hab
        go_wp2_with fail
        go_ret2
        rw [E1.out, E2.out]
        exact ⟨rfl, hb⟩
      · by_cases h2 : b < a
        · clear hab
          go_wp2_with fail
          go_ret2
          rw [E1.out, E2.out]
          exact ⟨rfl, hb⟩
        · have h3 : (cs.length : Int) < b := by omega
          clear hab
          go_wp2_with fail
          go_ret2
          rw [E1.out, E2.out]
          exact ⟨rfl, hb⟩
    · obtain ⟨n, rfl⟩ := Int.eq_ofNat_of_zero_le (show 0 ≤ a by omega)
      obtain ⟨k, rfl⟩ := Int.eq_ofNat_of_zero_le (show 0 ≤ b by omega)
      have e1 : cutS s.data.toList n k = T ((cs.take k).drop n) := by unfold cutS; rw [h]; simp only [if_neg hab, Int.toNat_natCast]
      have e2 : cutE s.data.toList n k = 0 := by unfold cutE; rw [h]; simp only [if_neg hab]
      have E1 := Lib.hid e1
      have E2 := Lib.hid e2
      obtain ⟨c1, _, c3⟩ := rd_some h
      have hnk : n ≤ k := by omega
      have hk : k ≤ cs.length := by omega
      clear h e1 e2 hab
      rcases ho with ⟨rfl, rfl⟩ | ⟨g, off, cap, rfl, h1, h2, h3, h4⟩
      · obtain rfl : k = 0 := by simpa using hk
        obtain rfl : n = 0 := by omega
        go_wp2_with fail
        refine (write_any [] _ _ ⟨none, 0, rfl, Nat.le_refl _, fun i hi => by simp at hi⟩ c1 (by simp)).mono ?_
        rintro e w2 ⟨rfl, hb2⟩
        go_wp2_with fail
        go_ret2
        rw [E1.out, E2.out]
        exact ⟨rfl, hb.trans (hb2.mono hb.size)⟩
      · have H4 := Lib.hid h4
        clear h4
        have hlen : ((cs.take k).drop n).length = k - n := by rw [List.length_drop, List.length_take]; omega
        have hokm : allOk ((cs.take k).drop n) := fun c hc => c1 c (List.mem_of_mem_take (List.mem_of_mem_drop hc))
        have Hlen := Lib.hid hlen
        clear hlen
        by_cases hcn : cap = n
        · have hkn : k = n := by omega
          subst hkn
          subst hcn
          have e0 : (cs.take cap).drop cap = [] := List.eq_nil_of_length_eq_zero (by rw [Hlen.out]; omega)
          rw [e0] at E1
          clear e0
          go_wp2_with fail
          refine (write_any [] _ _ ⟨_, _, rfl, by simp, fun i hi => by simp at hi⟩ (fun c hc => by cases hc) (by simp)).mono ?_
          rintro e w2 ⟨rfl, hb2⟩
          go_wp2_with fail
          go_ret2
          rw [E1.out, E2.out]
          exact ⟨rfl, hb.trans (hb2.mono hb.size)⟩
        · go_wp2_with fail
          refine (write_any ((cs.take k).drop n) _ _ ⟨_, _, by rw [Hlen.out], by rw [Hlen.out]; omega, fun i hi => ⟨g, off + n, rfl, h3, ?_⟩⟩ hokm (by rw [Hlen.out]; omega)).mono ?_
          · rw [Hlen.out] at hi
            rw [Nat.add_assoc, H4.out (n + i) (by omega)]
            congr 2
            rw [List.getD_eq_getElem?_getD, List.getD_eq_getElem?_getD, List.getElem?_drop, List.getElem?_take_of_lt (by omega)]
          rintro e w2 ⟨rfl, hb2⟩
          go_wp2_with fail
          go_ret2
          rw [E1.out, E2.out]
          exact ⟨rfl, hb.trans (hb2.mono hb.size)⟩

theorem T_len (cs : List Nat) : ((T cs).size : Int) = ((txt cs).length : Int) := by rw [T_size]
set_option maxHeartbeats 1000000 in
theorem refPlace_any (s : ByteArray) (a : Int) (w : World) (hs : s.size ≤ 1048576) :
    Calls Tryd.prog 15 #[.string s, .int .i64 a] w fun e w' => e = .returned (.tuple #[.int .i64 (plN s.data.toList a), .int .i64 (plE s.data.toList a)]) ∧ Below w.heap.size w w' := by
  have e1 : ((cutS s.data.toList 0 a).size : Int) = plN s.data.toList a := by
    unfold cutS plN
    cases h : rd s.data.toList with
    | none => rfl
    | some cs =>
      by_cases ha : a < 0 ∨ (cs.length : Int) < a
      · have ha' : (0 : Int) < 0 ∨ a < 0 ∨ (cs.length : Int) < a := Or.inr ha
        simp only [if_pos ha, if_pos ha']; rfl
      · have ha' : ¬ ((0 : Int) < 0 ∨ a < 0 ∨ (cs.length : Int) < a) := by omega
        simp only [if_neg ha, if_neg ha']
        rw [T_len]; simp
  have e2 : cutE s.data.toList 0 a = plE s.data.toList a := by
    unfold cutE plE
    cases h : rd s.data.toList with
    | none => rfl
    | some cs =>
      by_cases ha : a < 0 ∨ (cs.length : Int) < a
      · have ha' : (0 : Int) < 0 ∨ a < 0 ∨ (cs.length : Int) < a := Or.inr ha
        simp only [if_pos ha, if_pos ha']
      · have ha' : ¬ ((0 : Int) < 0 ∨ a < 0 ∨ (cs.length : Int) < a) := by omega
        simp only [if_neg ha, if_neg ha']
  have E1 := Lib.hid e1
  have E2 := Lib.hid e2
  clear e1 e2
  go_enter Tryd.func15, Tryd.ntmps15
  go_wp2_with fail
  refine (refCut_any s 0 a _ hs).mono ?_
  rintro e w1 ⟨rfl, hb⟩
  rw [E2.out]
  go_wp2_with fail
  go_ret2
  exact ⟨by rw [← E1.out]; rfl, hb⟩

set_option maxHeartbeats 400000 in
theorem refRight_ok (s : ByteArray) (cs : List Nat) (w : World) (hs : s.size ≤ 1048576) (h : rd s.data.toList = some cs) :
    Calls Tryd.prog 38 #[.string s] w fun e w' => e = .returned (.bool true) ∧ Below w.heap.size w w' := by
  have H := Lib.hid h
  clear h
  go_enter Tryd.func38, Tryd.ntmps38
  go_wp2_with fail
  refine (read2 s _ hs).mono ?_
  rintro e w1 ⟨hb, ⟨h, v, rfl⟩ | ⟨ds, v, h, rfl, ho⟩⟩
  · rw [H.out] at h; cases h
  · clear h ho
    go_wp2_with fail
    go_ret
    exact ⟨rfl, hb⟩
set_option maxHeartbeats 400000 in
theorem refRight_no (s : ByteArray) (w : World) (hs : s.size ≤ 1048576) (h : rd s.data.toList = none) :
    Calls Tryd.prog 38 #[.string s] w fun e w' => e = .returned (.bool false) ∧ Below w.heap.size w w' := by
  have H := Lib.hid h
  clear h
  go_enter Tryd.func38, Tryd.ntmps38
  go_wp2_with fail
  refine (read2 s _ hs).mono ?_
  rintro e w1 ⟨hb, ⟨h, v, rfl⟩ | ⟨ds, v, h, rfl, ho⟩⟩
  · clear h
    go_wp2_with fail
    go_ret
    exact ⟨rfl, hb⟩
  · rw [H.out] at h; cases h
end Go.Proofs.YtpjblmhhcadcbaaDoor
