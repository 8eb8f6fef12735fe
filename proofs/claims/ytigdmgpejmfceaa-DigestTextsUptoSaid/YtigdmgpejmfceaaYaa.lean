/- The document's own Decode, sign by sign. -/
import Derived.Test.YtigdmgpejmfceaaYz
import Derived.Test.YtigdmgpejmfceaaYx
import Derived.Test.YtigdmgpejmfceaaYv
namespace Go.Proofs.Ytigdmgpejmfceaa
open Go.RowKit Su Yg

theorem sexA_in {st : BS} (c : UInt8) (h1 : st.2.2 < 8) (h2 : st.2.1 < 2 ^ st.2.2) : (sexA st c).2.2 < 14 ∧ (sexA st c).2.1 < 2 ^ (sexA st c).2.2 := by
  unfold sexA
  split
  · refine ⟨by simp; omega, ?_⟩
    simp only [Nat.pow_add]
    have : st.2.1 + 1 ≤ 2 ^ st.2.2 := h2
    have := Nat.mul_le_mul_right 64 this
    omega
  · exact ⟨by omega, h2⟩
theorem decS_take (s : List UInt8) (k : Nat) (hk : k < s.length) : decS ([], 0, 0) (s.take (k + 1)) = sexB (sexA (decS ([], 0, 0) (s.take k)) s[k]) := by
  rw [List.take_succ_eq_append_getElem hk, decS_snoc]; rfl

theorem pow_six (e : Nat) (he : e < 6) : ∃ p : Nat, p = 2 ^ e ∧ 0 < p ∧ p ≤ 32 ∧ wrap64 ((2 : Int) ^ e) = (p : Int) := by
  have h : e = 0 ∨ e = 1 ∨ e = 2 ∨ e = 3 ∨ e = 4 ∨ e = 5 := by omega
  rcases h with rfl | rfl | rfl | rfl | rfl | rfl <;> exact ⟨_, rfl, by decide, by decide, (IntWalk.wrap64_in _ (by decide)).trans (by decide)⟩
set_option maxRecDepth 100000 in
set_option maxHeartbeats 8000000 in
theorem refDecode_any (s : List UInt8) (w : World) (hn : s.length * 2 + 64 ≤ 140737488355328) :
    Calls Try.prog 20 #[.string (txB s)] w (DecOut s w) := by
  have HEN := Lib.hid (fun (W : World) (v : Value) (l : List UInt8) (h : BRow W v l) (hl : l.length ≤ s.length) => refEncode_any v l W h (by omega))
  have HRD := Lib.hid (ref_dcd s)
  have HDL := Lib.hid (decS_len s)
  have hXs : (txB s).size = s.length := by show s.toArray.size = _; simp
  have HTB := Lib.hid (fun l => tx_beq l s)
  obtain ⟨X, hX⟩ : ∃ X, X = txB s := ⟨_, rfl⟩
  have HXA := Lib.hid (fun k x hx W => run_at X s hX W k x hx)
  rw [← hX] at hXs HTB ⊢
  clear hX
  go_enter Try.func20, Try.ntmps20
  go_wp2_with fail
  go_loopw [4, 5, 6, 7] (fun o n c i wr => ∃ k : Nat, i = .int .i64 (k : Int) ∧ k ≤ s.length ∧ n = .int .i64 ((decS ([], 0, 0) (s.take k)).2.1 : Int) ∧ c = .int .i64 ((decS ([], 0, 0) (s.take k)).2.2 : Int) ∧ OwnU wr w.heap.size o (decS ([], 0, 0) (s.take k)).1 ∧ Below w.heap.size w wr) (fun _ _ _ i _ => s.length - (intOf i).toNat)
  case atStart => exact ⟨0, rfl, Nat.zero_le _, rfl, rfl, nil_own _ _, Below.refl _ _⟩
  case round =>
    obtain ⟨k, rfl, hk, rfl, rfl, hown, hb⟩ := hrel
    have hin := decS_in (s.take k)
    have hle := decS_len (s.take k)
    by_cases hlt : k < s.length
    · have hlt' : (k : Int) < (s.length : Int) := by omega
      have hrun := HXA.out k s[k] (List.getElem?_eq_getElem hlt)
      have HS := Lib.hid (decS_take s k hlt)
      obtain ⟨st, hst⟩ : ∃ st, st = decS ([], 0, 0) (s.take k) := ⟨_, rfl⟩
      rw [← hst] at HS hin hown hle ⊢
      generalize s[k] = x at *
      have HIN := Lib.hid hin
      have HIA := Lib.hid (sexA_in x hin.1 hin.2)
      have HOW := Lib.hid hown
      have HB := Lib.hid hb
      have HLE := Lib.hid (show st.1.length ≤ s.length by rw [List.length_take] at hle; omega)
      obtain ⟨ra, rn, rc, rfl⟩ := hown.shapeW
      clear hst hown hb hin hle
      go_wp2_with fail
      go_loopw [5, 6, 8] (fun n c j wr => ∃ m : Nat, j = .int .i64 (m : Int) ∧ m ≤ 64 ∧ n = .int .i64 ((if idx x < m then st.2.1 * 64 + idx x else st.2.1 : Nat) : Int) ∧ c = .int .i64 ((if idx x < m then st.2.2 + 6 else st.2.2 : Nat) : Int) ∧ OwnU wr w.heap.size (.slice ra rn rc) st.1 ∧ Below w.heap.size w wr) (fun _ _ j _ => 64 - (intOf j).toNat)
      case atStart => exact ⟨0, rfl, by omega, by simp, by simp, HOW.out, HB.out⟩
      case round =>
        obtain ⟨m, rfl, hm, rfl, rfl, hown, hb⟩ := hrel
        have HO2 := Lib.hid hown
        have HB2 := Lib.hid hb
        have hBr := hb.size
        clear hown hb
        by_cases hm64 : m < 64
        · have hm' : (m : Int) < 64 := by omega
          have r1 := fun W => run_sign W m hm64
          by_cases hq : idx x = m
          · have e : sgn m = x := (sgn_at m x hm64).2 hq
            rw [e] at r1
            rw [if_neg (by omega), if_neg (by omega)]
            have HQ := Lib.hid hq
            obtain ⟨o0, n0, c0⟩ := st
            have h1 := HIN.out.1
            have h2 : n0 < 128 := Nat.lt_of_lt_of_le HIN.out.2 (Nat.pow_le_pow_right (by omega) (show c0 ≤ 7 by simp only at h1; omega))
            simp only at h1 ⊢
            clear hq e
            go_wp2_with fail
            go_region
            go_wp2_with fail
            refine ⟨⟨m + 1, by rw [Int.natCast_add]; rfl, by omega, by rw [if_pos (by rw [HQ.out]; omega), HQ.out]; simp, by rw [if_pos (by rw [HQ.out]; omega)]; simp, HO2.out, ?_⟩, ?_⟩
            · exact HB2.out.drew
            · simp only [intOf]
              omega
          · have e : ¬ sgn m = x := fun e => hq ((sgn_at m x hm64).1 e)
            have e2 : (((sgn m).toNat : Int) == (x.toNat : Int)) = false := by
              simp only [beq_eq_false_iff_ne, ne_eq]
              exact fun h => e (UInt8.toNat_inj.1 (by omega))
            have HN1 : (if idx x < m + 1 then st.2.1 * 64 + idx x else st.2.1) = (if idx x < m then st.2.1 * 64 + idx x else st.2.1) := by
              by_cases h : idx x < m
              · rw [if_pos h, if_pos (by omega)]
              · rw [if_neg h, if_neg (by omega)]
            have HN2 : (if idx x < m + 1 then st.2.2 + 6 else st.2.2) = (if idx x < m then st.2.2 + 6 else st.2.2) := by
              by_cases h : idx x < m
              · rw [if_pos h, if_pos (by omega)]
              · rw [if_neg h, if_neg (by omega)]
            have HN := Lib.hid (And.intro HN1 HN2)
            clear HN1 HN2 e hq
            generalize (if idx x < m then st.2.1 * 64 + idx x else st.2.1) = nn at *
            generalize (if idx x < m then st.2.2 + 6 else st.2.2) = cc at *
            generalize (sgn m).toNat = sm at *
            go_wp2_with fail
            go_region
            go_wp2_with fail
            refine ⟨⟨m + 1, by rw [Int.natCast_add]; rfl, by omega, by rw [HN.out.1], by rw [HN.out.2], HO2.out, ?_⟩, ?_⟩
            · exact HB2.out.drew
            · simp only [intOf]
              omega
        · obtain rfl : m = 64 := by omega
          have hA : sexA st x = (st.1, (if idx x < 64 then st.2.1 * 64 + idx x else st.2.1), (if idx x < 64 then st.2.2 + 6 else st.2.2)) := by
            unfold sexA
            split <;> rfl
          have hia := HIA.out
          have hs := HS.out
          rw [hA] at hia hs
          have HLE2 := HLE
          generalize (if idx x < 64 then st.2.1 * 64 + idx x else st.2.1) = n1 at *
          generalize (if idx x < 64 then st.2.2 + 6 else st.2.2) = c1 at *
          generalize st.1 = o1 at *
          simp only at hia
          obtain ⟨hc14, hn1⟩ := hia
          have HS2 := Lib.hid hs
          clear hs hA HS HIA HIN hm hm64 HLE2 HXA hrun
          by_cases h8 : 8 ≤ c1
          · obtain ⟨e, rfl⟩ : ∃ e, c1 = e + 8 := ⟨c1 - 8, by omega⟩
            have he : e < 6 := by omega
            have hn14 : n1 < 16384 := Nat.lt_of_lt_of_le hn1 (Nat.pow_le_pow_right (by omega) (show e + 8 ≤ 14 by omega))
            have HS3 := Lib.hid (show decS ([], 0, 0) (s.take (k + 1)) = (o1 ++ [UInt8.ofNat (n1 / 2 ^ e)], n1 % 2 ^ e, e) by
              rw [HS2.out]; unfold sexB; rw [if_pos (by simp only; omega)]
              simp only [Nat.add_sub_cancel])
            have HU := Lib.hid (u8v n1 e)
            have h8' : (8 : Int) ≤ (e : Int) + 8 := by omega
            obtain ⟨p, hp, hp0, hp32, hw⟩ := pow_six e he
            have HP := Lib.hid hp
            have hp1 : (p : Int) ≠ 0 := Int.natCast_ne_zero.2 (Nat.ne_of_gt hp0)
            clear HS2 hn1 h8 hp
            go_wp2_with (refine wpList_append_bytes rfl _ _ rfl w.heap.size (.slice ra rn rc) (.slice (some ⟨wr.heap.size, 0, none⟩) 1 1) o1 [UInt8.ofNat (n1 / 2 ^ e)] rfl rfl (HO2.out.below ((Below.refl _ _).alloc (Nat.le_refl _) _)) (own_one wr _ _ HU.out.symm).row (by have := HLE.out; simp; omega) (by simp; omega) ?_; intro u w3 own3 gr3; have HB5 := Lib.hid ((HB2.out.alloc hBr _).grown gr3 (by simp; omega) (fun g hg => (HO2.out.lt g hg).1)); have HO5 := Lib.hid own3; obtain ⟨va, vn, vc, rfl⟩ := own3.shapeW; clear own3 gr3)
            refine ⟨⟨k + 1, by rw [Int.natCast_add]; rfl, by omega, by rw [HS3.out, ← HP.out]; simp, by rw [HS3.out], by rw [HS3.out]; exact HO5.out, HB5.out⟩, ?_⟩
            simp only [intOf]
            omega
          · have hlt8 : (c1 : Int) < 8 := by omega
            have HS3 := Lib.hid (show decS ([], 0, 0) (s.take (k + 1)) = (o1, n1, c1) by
              rw [HS2.out]; unfold sexB; rw [if_neg h8])
            go_wp2_with fail
            refine ⟨⟨k + 1, by rw [Int.natCast_add]; rfl, by omega, by rw [HS3.out], by rw [HS3.out], by rw [HS3.out]; exact HO2.out, HB2.out⟩, ?_⟩
            simp only [intOf]
            omega
    · have hkl : k = s.length := by omega
      subst hkl
      rw [List.take_length] at hown ⊢
      have HO := Lib.hid hown
      have HB := Lib.hid hb
      have hE := HEN.out wr _ _ hown.row (by have := HDL.out; omega)
      obtain ⟨ra, rn, rc, rfl⟩ := hown.shapeW
      generalize decS ([], 0, 0) s = st at *
      have HE := Lib.hid hE
      have hbq := HTB.out (enc st.1)
      obtain ⟨Y, hY⟩ : ∃ Y, Y = txB (enc st.1) := ⟨_, rfl⟩
      rw [← hY] at HE hbq
      clear hown hb hE hY hlt hin hle
      go_wp2_with fail
      refine HE.out.mono ?_
      rintro e w2 ⟨rfl, hb2⟩
      have HB2 := Lib.hid (below_trans HB.out hb2)
      have HO2 := Lib.hid (HO.out.below hb2)
      have hrd := HRD.out
      clear hb2 HE HEN HTB
      by_cases he : enc st.1 = s
      · rw [if_pos he] at hrd
        have HQ := Lib.hid hrd.symm
        rw [decide_eq_true he] at hbq
        clear hrd he
        go_wp2_with fail
        refine bodyPost_ret (v := .tuple #[.slice ra rn rc, .int .i64 0]) (by simp [results, Try.results20, go_sem]) rfl ⟨_, .inl ⟨_, HQ.out, rfl, HO2.out⟩, HB2.out⟩
      · rw [if_neg he] at hrd
        have HQ := Lib.hid hrd.symm
        rw [decide_eq_false he] at hbq
        clear hrd he
        go_wp2_with fail
        refine bodyPost_ret (v := .tuple #[.slice none 0 0, .int .i64 100]) (by simp [results, Try.results20, go_sem]) rfl ⟨_, .inr ⟨HQ.out, rfl, rfl⟩, HB2.out⟩
end Go.Proofs.Ytigdmgpejmfceaa
