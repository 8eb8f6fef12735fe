/- The law RunesSame, walked: a text is alike with itself all through, and with one more rune behind it as far as it goes. -/
import Derived.Test.YtpjblmhhcadcbabDoorAny
namespace Go.Proofs.YtpjblmhhcadcbabDoor
open Go.RowKit Rn

theorem pre_app (cs ds : List Nat) : pre cs (cs ++ ds) = cs.length := by
  refine lead_eq (by rw [List.length_append]; omega) (fun j hj => ?_) (Or.inl (by rw [List.length_append]; omega))
  unfold same
  rw [beq_iff_eq, List.getD_eq_getElem?_getD, List.getD_eq_getElem?_getD, List.getElem?_append_left hj]
theorem post_app (cs ds : List Nat) : post cs (cs ++ ds) = 0 := by
  unfold post
  rw [pre_app, show min cs.length (cs ++ ds).length - cs.length = 0 from by rw [List.length_append]; omega]
  rfl
theorem pre_self (cs : List Nat) : pre cs cs = cs.length := by have := pre_app cs []; rw [List.append_nil] at this; exact this
theorem post_self (cs : List Nat) : post cs cs = 0 := by have := post_app cs []; rw [List.append_nil] at this; exact this
theorem T_x (cs : List Nat) : T cs ++ ⟨#[120]⟩ = T (cs ++ [120]) := by
  apply ba_inj
  rw [ByteArray.data_append, Array.toList_append, T_data, T_data, txt_append]
  rfl
theorem x_ok : allOk [120] := by unfold allOk ok; decide

set_option maxRecDepth 100000 in
set_option maxHeartbeats 2000000 in
theorem same_walk (s : ByteArray) (m : Int) (w : World) (hs : s.size ≤ maxLen) (hm : w.cell? ⟨0, 0, none⟩ = some (.int .i64 m)) :
    Calls Tryd.prog 3 #[.string s] w fun e w' => e = .returned (.bool true) ∧ Below w.heap.size w w' := by
  have HM := Lib.hid hm
  clear hm
  cases h1 : rd s.data.toList with
  | none =>
    have E0 : Hid (ahN s.data.toList s.data.toList = 0 ∧ bhN s.data.toList s.data.toList = 0 ∧ twoE s.data.toList s.data.toList = 10) := by
      unfold ahN bhN twoE
      rw [h1]
      exact ⟨rfl, rfl, rfl⟩
    have H1 := Lib.hid h1
    clear h1
    go_enter Tryd.func3, Tryd.ntmps3
    go_wp2_with fail
    refine (awake_any m _ HM.out).mono ?_
    rintro e w1 ⟨rfl, b1⟩
    have s1 := b1.size
    go_wp2_with fail
    refine (count_any s _ hs).mono ?_
    rw [cnt_none H1.out, er_none H1.out]
    rintro e w2 ⟨rfl, b2⟩
    have s2 := b2.size
    go_wp2_with fail
    refine (Ahead_any s s _ hs hs).mono ?_
    rw [E0.out.1, E0.out.2.2]
    rintro e w3 ⟨rfl, b3⟩
    have s3 := b3.size
    go_wp2_with fail
    refine (Behind_any s s _ hs hs).mono ?_
    rw [E0.out.2.1, E0.out.2.2]
    rintro e w4 ⟨rfl, b4⟩
    go_wp2_with fail
    go_ret
    exact ⟨rfl, ((b1.trans (b2.mono s1)).trans (b3.mono (by omega))).trans (b4.mono (by omega))⟩
  | some cs =>
    obtain ⟨c1, _, c3⟩ := rd_some h1
    have e1 := rd_T h1
    subst e1
    have H1 := Lib.hid h1; clear h1
    have z1 : (T cs).size ≤ 80000 := by rw [T_size]; have := (txt_len cs).2; omega
    have tx := T_x cs
    go_enter Tryd.func3, Tryd.ntmps3
    go_wp2_with fail
    refine (awake_any m _ HM.out).mono ?_
    rintro e w1 ⟨rfl, b1⟩
    have s1 := b1.size
    go_wp2_with fail
    refine (count_any _ _ hs).mono ?_
    rw [cnt_some H1.out, er_some H1.out]
    rintro e w2 ⟨rfl, b2⟩
    have s2 := b2.size
    go_wp2_with fail
    refine (Ahead_ok cs cs _ c1 c1 c3 c3).mono ?_
    rw [pre_self]
    rintro e w3 ⟨rfl, b3⟩
    have s3 := b3.size
    go_wp2_with fail
    refine (Behind_ok cs cs _ c1 c1 c3 c3).mono ?_
    rw [post_self]
    rintro e w4 ⟨rfl, b4⟩
    have s4 := b4.size
    have b04 : Below w.heap.size w w4 := ((b1.trans (b2.mono s1)).trans (b3.mono (by omega))).trans (b4.mono (by omega))
    clear b1 b2 b3 b4
    by_cases hn : cs.length = 20000
    · have hr : rd (T (cs ++ [120])).data.toList = none := by
        rw [T_data]; unfold rd
        rw [runes_txt _ (fun c h => by rcases List.mem_append.1 h with h | h; exact c1 c h; exact x_ok c h)]
        simp [hn]
      have hni : (cs.length : Int) = 20000 := by omega
      have HN := Lib.hid hni
      clear hn hni
      go_wp2_with fail
      refine (Ahead_no _ _ _ (Or.inr hr) hs (by rw [T_size]; have := (txt_len (cs ++ [120])).2; rw [List.length_append] at this; unfold maxLen; simp only [List.length_cons, List.length_nil] at this; omega)).mono ?_
      rintro e w5 ⟨rfl, b5⟩
      have s5 := b5.size
      go_wp2_with fail
      refine (Behind_no _ _ _ (Or.inr hr) hs (by rw [T_size]; have := (txt_len (cs ++ [120])).2; rw [List.length_append] at this; unfold maxLen; simp only [List.length_cons, List.length_nil] at this; omega)).mono ?_
      rintro e w6 ⟨rfl, b6⟩
      rw [HN.out]
      go_wp2_with fail
      go_ret
      exact ⟨rfl, (b04.trans (b5.mono (by omega))).trans (b6.mono (by omega))⟩
    · have hok : allOk (cs ++ [120]) := fun c h => by rcases List.mem_append.1 h with h | h; exact c1 c h; exact x_ok c h
      have hl : (cs ++ [120]).length ≤ 20000 := by rw [List.length_append]; simp; omega
      have HOK := Lib.hid hok
      have HL := Lib.hid hl
      clear hok hl
      go_wp2_with fail
      refine (Ahead_ok cs (cs ++ [120]) _ c1 HOK.out c3 HL.out).mono ?_
      rw [pre_app]
      rintro e w5 ⟨rfl, b5⟩
      have s5 := b5.size
      go_wp2_with fail
      refine (Behind_ok cs (cs ++ [120]) _ c1 HOK.out c3 HL.out).mono ?_
      rw [post_app]
      rintro e w6 ⟨rfl, b6⟩
      go_wp2_with fail
      go_ret
      exact ⟨rfl, (b04.trans (b5.mono (by omega))).trans (b6.mono (by omega))⟩
end Go.Proofs.YtpjblmhhcadcbabDoor
