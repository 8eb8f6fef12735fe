/- The law RunesJoined, walked: two texts, one behind the other, have as many runes as both, and their lines. -/
import Derived.Test.YtpjblmhhcadcbabDoorAny
namespace Go.Proofs.YtpjblmhhcadcbabDoor
open Go.RowKit Rn

theorem T_app (a b : List Nat) : T a ++ T b = T (a ++ b) := by
  apply ba_inj
  rw [ByteArray.data_append, Array.toList_append, T_data, T_data, T_data, ← txt_append]
theorem T_ten : (⟨#[10]⟩ : ByteArray) = T [10] := rfl
theorem ten_ok : allOk [10] := by unfold allOk ok; decide
theorem lnsB_joined (cs ds : List Nat) : lnsB (txt (cs ++ 10 :: ds)) = lnsB (txt cs) ++ lnsB (txt ds) := by
  unfold lnsB lns
  rw [txt_append, show txt (10 :: ds) = 10 :: txt ds from rfl, lnsA_cut, List.map_append]
theorem allOk_app {a b : List Nat} (ha : allOk a) (hb : allOk b) : allOk (a ++ b) := fun c h => by
  rcases List.mem_append.1 h with h | h
  · exact ha c h
  · exact hb c h
theorem line_cell {W W' : World} {b : Nat} {l : List UInt8} (h : W.heap[b]? = some (.cells ((lnsB l).map Value.string).toArray 9 (0, 0))) (hb : Below W.heap.size W W') (i : Nat) (hi : i < (lnsB l).length) :
    W'.cell? ⟨b, i, none⟩ = some (.string (lnsB l)[i]) := by
  rw [hb.cell (by exact lt_of_block h), cell_of_block h]
  simp [hi]

set_option maxRecDepth 100000 in
set_option maxHeartbeats 1000000 in
theorem joined_walk (s t : ByteArray) (m : Int) (w : World) (hs : s.size ≤ maxLen) (ht : t.size ≤ maxLen) (hm : w.cell? ⟨0, 0, none⟩ = some (.int .i64 m)) :
    Calls Tryd.prog 4 #[.string s, .string t] w fun e w' => e = .returned (.bool true) ∧ Below w.heap.size w w' := by
  have HM := Lib.hid hm
  have hg := World.block_lt_of_cell? _ _ hm
  clear hm
  cases h1 : rd s.data.toList with
  | none =>
    have H1 := Lib.hid h1; clear h1
    go_enter Tryd.func4, Tryd.ntmps4
    go_wp2_with fail
    refine (awake_any m _ HM.out).mono ?_
    rintro e w1 ⟨rfl, b1⟩
    have s1 := b1.size
    go_wp2_with fail
    refine (count_any s _ hs).mono ?_
    rw [cnt_none H1.out, er_none H1.out]
    rintro e w2 ⟨rfl, b2⟩
    have s2 := b2.size
    go_wp2_with fail
    refine (count_any t _ ht).mono ?_
    rintro e w3 ⟨rfl, b3⟩
    go_wp2_with fail
    go_ret
    exact ⟨rfl, (b1.trans (b2.mono s1)).trans (b3.mono (by omega))⟩
  | some cs =>
    cases h2 : rd t.data.toList with
    | none =>
      have H1 := Lib.hid h1; clear h1
      have H2 := Lib.hid h2; clear h2
      go_enter Tryd.func4, Tryd.ntmps4
      go_wp2_with fail
      refine (awake_any m _ HM.out).mono ?_
      rintro e w1 ⟨rfl, b1⟩
      have s1 := b1.size
      go_wp2_with fail
      refine (count_any s _ hs).mono ?_
      rw [cnt_some H1.out, er_some H1.out]
      rintro e w2 ⟨rfl, b2⟩
      have s2 := b2.size
      go_wp2_with fail
      refine (count_any t _ ht).mono ?_
      rw [cnt_none H2.out, er_none H2.out]
      rintro e w3 ⟨rfl, b3⟩
      go_wp2_with fail
      go_ret
      exact ⟨rfl, (b1.trans (b2.mono s1)).trans (b3.mono (by omega))⟩
    | some ds =>
      obtain ⟨c1, _, c3⟩ := rd_some h1
      obtain ⟨d1, _, d3⟩ := rd_some h2
      have e1 := rd_T h1
      have e2 := rd_T h2
      subst e1; subst e2
      have H1 := Lib.hid h1; clear h1
      have H2 := Lib.hid h2; clear h2
      go_enter Tryd.func4, Tryd.ntmps4
      go_wp2_with fail
      refine (awake_any m _ HM.out).mono ?_
      rintro e w1 ⟨rfl, b1⟩
      have s1 := b1.size
      go_wp2_with fail
      refine (count_any _ _ hs).mono ?_
      rw [cnt_some H1.out, er_some H1.out]
      rintro e w2 ⟨rfl, b2⟩
      have s2 := b2.size
      go_wp2_with fail
      refine (count_any _ _ ht).mono ?_
      rw [cnt_some H2.out, er_some H2.out]
      rintro e w3 ⟨rfl, b3⟩
      have s3 := b3.size
      have b03 : Below w.heap.size w w3 := (b1.trans (b2.mono s1)).trans (b3.mono (by omega))
      clear b1 b2 b3
      by_cases hn : (20000 : Int) ≤ (cs.length : Int) + (ds.length : Int)
      · go_wp2_with fail
        go_ret
        exact ⟨rfl, b03⟩
      · have z1 := (txt_len cs).2
        have z2 := (txt_len ds).2
        have z3 : (T cs).size ≤ 80000 := by rw [T_size]; omega
        have z4 : (T ds).size ≤ 80000 := by rw [T_size]; omega
        have z5 : (T (cs ++ [10])).size ≤ 80004 := by
          rw [T_size]
          have := (txt_len (cs ++ [10])).2
          rw [List.length_append, List.length_singleton] at this
          omega
        have hsum : cs.length + ds.length < 20000 := by omega
        have app1 := T_app cs ds
        have app2 : T cs ++ (⟨#[10]⟩ : ByteArray) = T (cs ++ [10]) := T_app cs [10]
        have app3 : T (cs ++ [10]) ++ T ds = T (cs ++ 10 :: ds) := by rw [T_app, List.append_assoc]; rfl
        have Z1 := Lib.hid z1
        have Z2 := Lib.hid z2
        clear z1 z2
        have hokc : allOk (cs ++ ds) := allOk_app c1 d1
        have hokj : allOk (cs ++ 10 :: ds) := allOk_app c1 (allOk_app ten_ok d1)
        have R1 := Lib.hid (rd_txt (cs ++ ds) hokc (by rw [List.length_append]; omega))
        have R2 := Lib.hid (rd_txt (cs ++ 10 :: ds) hokj (by rw [List.length_append, List.length_cons]; omega))
        have l1 : (txt (cs ++ ds)).length ≤ 80000 := by
          have := (txt_len (cs ++ ds)).2
          rw [List.length_append] at this
          omega
        have l2 : (txt (cs ++ 10 :: ds)).length ≤ 90000 := by
          have := (txt_len (cs ++ 10 :: ds)).2
          rw [List.length_append, List.length_cons] at this
          omega
        clear hokc hokj
        go_wp2_with fail
        refine (count_any _ _ (by rw [T_size]; unfold maxLen; omega)).mono ?_
        rw [T_data, cnt_some R1.out, er_some R1.out, List.length_append]
        rintro e w4 ⟨rfl, b4⟩
        have s4 := b4.size
        have b04 := b03.trans (b4.mono (by omega))
        have ecast : ((cs.length + ds.length : Nat) : Int) = (cs.length : Int) + (ds.length : Int) := by omega
        rw [ecast]
        clear ecast
        go_wp2_with fail
        refine (lines_ok (T (cs ++ 10 :: ds)) (cs ++ 10 :: ds) m _ R2.out (by rw [T_size]; omega) (by rw [b04.cell (by exact hg)]; exact HM.out)).mono ?_
        rw [T_data]
        rintro e w5 ⟨bx, rfl, ⟨gx, hx⟩, b5⟩
        have s5 := b5.size
        have b05 := b04.trans (b5.mono (by omega))
        go_wp2_with fail
        refine (lines_ok (T cs) cs m _ H1.out (by omega) (by rw [b05.cell (by exact hg)]; exact HM.out)).mono ?_
        rw [T_data]
        rintro e w6 ⟨cy, rfl, ⟨gy, hy⟩, b6⟩
        have s6 := b6.size
        have b06 := b05.trans (b6.mono (by omega))
        go_wp2_with fail
        refine (lines_ok (T ds) ds m _ H2.out (by omega) (by rw [b06.cell (by exact hg)]; exact HM.out)).mono ?_
        rw [T_data]
        rintro e w7 ⟨cz, rfl, ⟨gz, hz⟩, b7⟩
        have s7 := b7.size
        have b07 := b06.trans (b7.mono (by omega))
        have hlx : (lns (txt (cs ++ 10 :: ds))).length = (lns (txt cs)).length + (lns (txt ds)).length := by
          rw [← lnsB_len, lnsB_joined, List.length_append, lnsB_len, lnsB_len]
        rw [hlx]
        have px : 1 ≤ (lns (txt ds)).length := lnsA_pos _ _
        have lx1 : (lns (txt cs)).length ≤ 80001 := by have := lnsA_len [] (txt cs); have := Z1.out; change (lnsA [] (txt cs)).length ≤ _; omega
        have lx2 : (lns (txt ds)).length ≤ 80001 := by have := lnsA_len [] (txt ds); have := Z2.out; change (lnsA [] (txt ds)).length ≤ _; omega
        have HX := Lib.hid hx
        have HY := Lib.hid hy
        have HZ := Lib.hid hz
        have LX := Lib.hid hlx
        clear hx hy hz hlx b4 b5 R1 R2
        obtain ⟨na, hna⟩ : ∃ na, na = (lns (txt cs)).length := ⟨_, rfl⟩
        obtain ⟨nb, hnb⟩ : ∃ nb, nb = (lns (txt ds)).length := ⟨_, rfl⟩
        rw [← hna] at lx1 ⊢
        rw [← hnb] at lx2 px ⊢
        have HNA := Lib.hid hna
        have HNB := Lib.hid hnb
        clear hna hnb
        have ecast : ((na + nb : Nat) : Int) = (na : Int) + (nb : Int) := by omega
        have hcx : Hid (∀ i (h : i < (lnsB (txt cs) ++ lnsB (txt ds)).length), w7.cell? ⟨bx, i, none⟩ = some (.string (lnsB (txt cs) ++ lnsB (txt ds))[i])) := fun i h => by
          have := line_cell HX.out (b6.trans (b7.mono (by omega))) i (by rw [lnsB_joined]; exact h)
          rw [this]
          simp only [lnsB_joined]
        have hcy : Hid (∀ i (h : i < (lnsB (txt cs)).length), w7.cell? ⟨cy, i, none⟩ = some (.string (lnsB (txt cs))[i])) := fun i h => line_cell HY.out b7 i h
        have hcz : Hid (∀ i (h : i < (lnsB (txt ds)).length), w7.cell? ⟨cz, i, none⟩ = some (.string (lnsB (txt ds))[i])) := fun i h => line_cell HZ.out (Below.refl _ _) i h
        have HNA' : Hid ((lnsB (txt cs)).length = na) := by show _ = _; rw [lnsB_len]; exact HNA.out.symm
        have HNB' : Hid ((lnsB (txt ds)).length = nb) := by show _ = _; rw [lnsB_len]; exact HNB.out.symm
        have EC := Lib.hid ecast
        clear b6 b7 ecast hg b03 b04 b05 b06 z3 z4 z5 hsum app1 app2 app3 l1 l2 s1 s2 s3 s4 s5 s6 s7 gx gy gz HX HY HZ HNA HNB LX
        go_wp2_with fail
        go_loopw [18] (fun v wr => ∃ (k j : Nat), v = .int .i64 (k : Int) ∧ k ≤ na + nb ∧ wr = w7.drewN j) (fun v _ => na + nb - (intOf v).toNat)
        case atStart => exact ⟨0, 0, rfl, by omega, rfl⟩
        case round =>
          obtain ⟨k, j, rfl, hk, rfl⟩ := hrel
          by_cases hlt : k < na + nb
          · have d0 : (k : Int) < (na : Int) + (nb : Int) := by omega
            by_cases h1 : k < na
            · have d1 : (k : Int) < (na : Int) := by omega
              have d5 : decide ((na : Int) ≤ (k : Int)) = false := by simp; omega
              have d6 : decide (na ≤ k) = false := by simp; omega
              have hkA : k < (lnsB (txt cs)).length := by rw [HNA'.out]; exact h1
              have x1 := hcx.out k (by rw [List.length_append]; omega)
              have y1 := hcy.out k hkA
              rw [List.getElem_append_left hkA] at x1
              obtain ⟨u, hu⟩ : ∃ u, u = (lnsB (txt cs))[k] := ⟨_, rfl⟩
              rw [← hu] at x1 y1
              clear hu hkA
              go_wp2_with fail
              go_quiet (fail)
              go_wp2_with fail
              go_roundw
              case rel => exact ⟨k + 1, _, by go_num, by omega, rfl⟩
              case measure => simp [intOf]; omega
            · have d1 : decide ((k : Int) < (na : Int)) = false := by simp; omega
              have d5 : decide ((na : Int) ≤ (k : Int)) = true := by simp; omega
              have d6 : decide (na ≤ k) = true := by simp; omega
              have d7 : decide (k < na) = false := by simp; omega
              have d2 : (na : Int) ≤ (k : Int) := by omega
              have d3 : (k : Int) - (na : Int) < (nb : Int) := by omega
              have d4 : 0 ≤ (k : Int) - (na : Int) := by omega
              have hkB : k - na < (lnsB (txt ds)).length := by rw [HNB'.out]; omega
              have x1 := hcx.out k (by rw [List.length_append, HNA'.out, HNB'.out]; exact hlt)
              have z1 := hcz.out (k - na) hkB
              rw [List.getElem_append_right (by rw [HNA'.out]; omega)] at x1
              simp only [HNA'.out] at x1
              obtain ⟨u, hu⟩ : ∃ u, u = (lnsB (txt ds))[k - na] := ⟨_, rfl⟩
              rw [← hu] at x1 z1
              clear hu hkB
              go_wp2_with fail
              go_quiet (fail)
              go_wp2_with fail
              go_roundw
              case rel => exact ⟨k + 1, _, by go_num, by omega, rfl⟩
              case measure => simp [intOf]; omega
          · have hkn : (k : Int) = (na : Int) + (nb : Int) := by omega
            have d0 : decide ((k : Int) < (na : Int) + (nb : Int)) = false := by simp; omega
            clear hkn
            go_wp2_with fail
            go_ret
            exact ⟨rfl, below_drewN b07 _⟩
end Go.Proofs.YtpjblmhhcadcbabDoor
