/- The law RunesBack, walked: a text is its two parts, and what two texts are not alike in makes the one of the other. -/
import Derived.Test.YtpjblmhhcadcbaaDoorAny
namespace Go.Proofs.YtpjblmhhcadcbaaDoor
open Go.RowKit Rn

theorem pre_get (cs ds : List Nat) (j : Nat) (h : j < pre cs ds) : cs.getD j 0 = ds.getD j 0 := by
  have := (lead_spec (same cs ds) (min cs.length ds.length)).2.1 j h
  unfold same at this
  rw [beq_iff_eq] at this
  omega
theorem post_le (cs ds : List Nat) : pre cs ds + post cs ds ≤ min cs.length ds.length := by
  have h1 := pre_le cs ds
  have h2 := (lead_spec (sameB cs ds) (min cs.length ds.length - pre cs ds)).1
  change post cs ds ≤ _ at h2
  omega
theorem post_get (cs ds : List Nat) (j : Nat) (h : j < post cs ds) : cs.getD (cs.length - 1 - j) 0 = ds.getD (ds.length - 1 - j) 0 := by
  have := (lead_spec (sameB cs ds) (min cs.length ds.length - pre cs ds)).2.1 j h
  unfold sameB at this
  rw [beq_iff_eq] at this
  omega
theorem getD_ext {a b : List Nat} (hl : a.length = b.length) (h : ∀ i, i < a.length → a.getD i 0 = b.getD i 0) : a = b := by
  apply List.ext_getElem hl
  intro i h1 h2
  have := h i h1
  rw [List.getD_eq_getElem?_getD, List.getD_eq_getElem?_getD, List.getElem?_eq_getElem h1, List.getElem?_eq_getElem h2] at this
  exact this
theorem pre_take (cs ds : List Nat) : cs.take (pre cs ds) = ds.take (pre cs ds) := by
  have hp := pre_le cs ds
  apply getD_ext
  · rw [List.length_take, List.length_take]; omega
  · intro i hi
    rw [List.length_take] at hi
    have := pre_get cs ds i (by omega)
    rw [List.getD_eq_getElem?_getD, List.getD_eq_getElem?_getD] at this ⊢
    rw [List.getElem?_take_of_lt (by omega), List.getElem?_take_of_lt (by omega)]
    exact this
theorem post_drop (cs ds : List Nat) : cs.drop (cs.length - post cs ds) = ds.drop (ds.length - post cs ds) := by
  have hp := post_le cs ds
  apply getD_ext
  · rw [List.length_drop, List.length_drop]; omega
  · intro i hi
    rw [List.length_drop] at hi
    have := post_get cs ds (post cs ds - 1 - i) (by omega)
    rw [List.getD_eq_getElem?_getD, List.getD_eq_getElem?_getD] at this ⊢
    rw [List.getElem?_drop, List.getElem?_drop]
    rw [show cs.length - 1 - (post cs ds - 1 - i) = cs.length - post cs ds + i from by omega, show ds.length - 1 - (post cs ds - 1 - i) = ds.length - post cs ds + i from by omega] at this
    exact this
theorem back_eq (cs ds : List Nat) : cs.take (pre cs ds) ++ ((ds.take (ds.length - post cs ds)).drop (pre cs ds) ++ cs.drop (pre cs ds + (cs.length - post cs ds - pre cs ds))) = ds := by
  have hp := post_le cs ds
  rw [pre_take, show pre cs ds + (cs.length - post cs ds - pre cs ds) = cs.length - post cs ds from by omega, post_drop, ← List.append_assoc]
  have e : ds.take (pre cs ds) ++ (ds.take (ds.length - post cs ds)).drop (pre cs ds) = ds.take (ds.length - post cs ds) := by
    have := List.take_append_drop (pre cs ds) (ds.take (ds.length - post cs ds))
    rw [List.take_take, Nat.min_eq_left (by omega)] at this
    exact this
  rw [e, List.take_append_drop]

set_option maxRecDepth 100000 in
set_option maxHeartbeats 2000000 in
theorem back_walk (s t : ByteArray) (x : Int) (m : Int) (w : World) (hs : s.size ≤ maxLen) (ht : t.size ≤ maxLen) (hm : w.cell? ⟨0, 0, none⟩ = some (.int .i64 m)) :
    Calls Tryd.prog 7 #[.string s, .string t, .int .i64 x] w fun e w' => e = .returned (.bool true) ∧ Below w.heap.size w w' := by
  have HM := Lib.hid hm
  clear hm
  cases h1 : rd s.data.toList with
  | none =>
    have H1 := Lib.hid h1; clear h1
    go_enter Tryd.func7, Tryd.ntmps7
    go_wp2_with fail
    refine (awake_any m _ HM.out).mono ?_
    rintro e w1 ⟨rfl, b1⟩
    have s1 := b1.size
    go_wp2_with fail
    refine (count_any s _ hs).mono ?_
    rw [cnt_none H1.out, er_none H1.out]
    rintro e w2 ⟨rfl, b2⟩
    have s2 := b2.size
    go_wp2_with fail
    refine (count_any t _ ht).mono ?_
    rintro e w3 ⟨rfl, b3⟩
    go_wp2_with fail
    go_ret
    exact ⟨rfl, (b1.trans (b2.mono s1)).trans (b3.mono (by omega))⟩
  | some cs =>
    cases h2 : rd t.data.toList with
    | none =>
      have H1 := Lib.hid h1; clear h1
      have H2 := Lib.hid h2; clear h2
      go_enter Tryd.func7, Tryd.ntmps7
      go_wp2_with fail
      refine (awake_any m _ HM.out).mono ?_
      rintro e w1 ⟨rfl, b1⟩
      have s1 := b1.size
      go_wp2_with fail
      refine (count_any s _ hs).mono ?_
      rw [cnt_some H1.out, er_some H1.out]
      rintro e w2 ⟨rfl, b2⟩
      have s2 := b2.size
      go_wp2_with fail
      refine (count_any t _ ht).mono ?_
      rw [cnt_none H2.out, er_none H2.out]
      rintro e w3 ⟨rfl, b3⟩
      go_wp2_with fail
      go_ret
      exact ⟨rfl, (b1.trans (b2.mono s1)).trans (b3.mono (by omega))⟩
    | some ds =>
      obtain ⟨c1, _, c3⟩ := rd_some h1
      obtain ⟨d1, _, d3⟩ := rd_some h2
      have e1 := rd_T h1
      have e2 := rd_T h2
      subst e1; subst e2
      have H1 := Lib.hid h1; clear h1
      have H2 := Lib.hid h2; clear h2
      go_enter Tryd.func7, Tryd.ntmps7
      go_wp2_with fail
      refine (awake_any m _ HM.out).mono ?_
      rintro e w1 ⟨rfl, b1⟩
      have s1 := b1.size
      go_wp2_with fail
      refine (count_any _ _ hs).mono ?_
      rw [cnt_some H1.out, er_some H1.out]
      rintro e w2 ⟨rfl, b2⟩
      have s2 := b2.size
      go_wp2_with fail
      refine (count_any _ _ ht).mono ?_
      rw [cnt_some H2.out, er_some H2.out]
      rintro e w3 ⟨rfl, b3⟩
      have s3 := b3.size
      have b03 : Below w.heap.size w w3 := (b1.trans (b2.mono s1)).trans (b3.mono (by omega))
      have L1 := txt_len cs
      have hadd : Hid (∀ n, T (cs.take n) ++ T (cs.drop n) = T cs) := fun n => by
        apply ba_inj
        rw [ByteArray.data_append, Array.toList_append, T_data, T_data, T_data, ← txt_append, List.take_append_drop]
      by_cases hx : 0 ≤ x ∧ x ≤ (cs.length : Int)
      all_goals
        first
          | (obtain ⟨n, rfl⟩ := Int.eq_ofNat_of_zero_le hx.1
             have hn : n ≤ cs.length := by omega
             clear hx
             go_wp2_with fail
             refine (cut_ok cs 0 n _ c1 c3 (by omega) hn).mono ?_
             rw [List.drop_zero]
             rintro e w4 ⟨rfl, b4⟩
             have s4 := b4.size
             go_wp2_with fail
             refine (cut_ok cs n cs.length _ c1 c3 hn (Nat.le_refl _)).mono ?_
             rw [List.take_length]
             rintro e w5 ⟨rfl, b5⟩
             have s5 := b5.size
             go_wp2_with fail
             refine (count_any _ _ (by rw [T_size]; have := len_take_le cs n; unfold maxLen; omega)).mono ?_
             have hr : rd (txt (cs.take n)) = some (cs.take n) := rd_txt _ (fun c hc => c1 c (List.mem_of_mem_take hc)) (by rw [List.length_take]; omega)
             have hl : (cs.take n).length = n := by rw [List.length_take]; omega
             rw [T_data, cnt_some hr, er_some hr, hl]
             clear hr hl
             rintro e wz ⟨rfl, b6⟩
             have bz : Below w.heap.size w wz := ((b03.trans (b4.mono (by omega))).trans (b5.mono (by omega))).trans (b6.mono (by omega))
             have q1 := hadd.out n
             have q0 : (T (cs.take n)).size + (T (cs.drop n)).size ≤ 80000 := by
               have := congrArg ByteArray.size q1
               rw [ByteArray.size_append, T_size cs] at this
               omega
             clear b4 b5 b6 s4 s5
             go_wp2_with fail)
          | (have bz := b03
             obtain ⟨wz, rfl⟩ : ∃ wz, wz = w3 := ⟨_, rfl⟩
             by_cases hx0 : 0 ≤ x
             all_goals (try have hx1 : (cs.length : Int) < x := by omega)
             all_goals (clear hx; go_wp2_with fail))
      all_goals
        refine (Ahead_ok cs ds _ c1 d1 c3 d3).mono ?_
        rintro e w7 ⟨rfl, b7⟩
        have s7 := b7.size
        have sz := bz.size
        have p1 := post_le cs ds
        have L2 := txt_len ds
        go_wp2_with fail
        refine (Behind_ok cs ds _ c1 d1 c3 d3).mono ?_
        rintro e w8 ⟨rfl, b8⟩
        have s8 := b8.size
        go_wp2_with fail
        rw [show (ds.length : Int) - (post cs ds : Int) = ((ds.length - post cs ds : Nat) : Int) from by omega]
        refine (cut_ok ds (pre cs ds) (ds.length - post cs ds) _ d1 d3 (by omega) (by omega)).mono ?_
        rintro e w9 ⟨rfl, b9⟩
        have s9 := b9.size
        go_wp2_with fail
        rw [show (cs.length : Int) - (post cs ds : Int) - (pre cs ds : Int) = ((cs.length - post cs ds - pre cs ds : Nat) : Int) from by omega]
        have hd5 : allOk ((ds.take (ds.length - post cs ds)).drop (pre cs ds)) := fun c hc => d1 c (List.mem_of_mem_take (List.mem_of_mem_drop hc))
        have hl5 : ((ds.take (ds.length - post cs ds)).drop (pre cs ds)).length = ds.length - post cs ds - pre cs ds := by rw [List.length_drop, List.length_take]; omega
        refine (splice_ok cs _ (pre cs ds) (cs.length - post cs ds - pre cs ds) _ c1 hd5 c3 (by omega) (by omega) (by omega)).mono ?_
        rw [back_eq]
        rintro e w10 ⟨rfl, b10⟩
        clear hd5 hl5
        go_wp2_with fail
        go_ret
        exact ⟨rfl, (((bz.trans (b7.mono (by omega))).trans (b8.mono (by omega))).trans (b9.mono (by omega))).trans (b10.mono (by omega))⟩
end Go.Proofs.YtpjblmhhcadcbaaDoor
