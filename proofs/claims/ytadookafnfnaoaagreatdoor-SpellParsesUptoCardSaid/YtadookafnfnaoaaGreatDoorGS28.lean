import Derived.Test.YtadookafnfnaoaaGreatDoorGS27
/- The document's reader: attributes, where some stand. -/
namespace Go.Proofs.YtadookafnfnaoaaGreatDoor
open Go.RowKit Ch

set_option maxRecDepth 100000 in
set_option maxHeartbeats 8000000 in
theorem rxattrs_live (b : Nat) (s : ByteArray) (k : Nat) (w : World) (h : RxAt w b s k (-1)) (hd : (rst s k).head? = some 123) (hz : s.size ≤ 1048576) (hbw : b < w.heap.size) :
    Calls Tryz.prog 79 #[.pointer (some ⟨b, 0, none⟩)] w (RxAttrs b s k w) := by
  have HN := Lib.hid (next_any b s k (-1) w h)
  rw [nxt_live] at HN
  have hlt := head_lt hd
  have hd0 : (rst s k).headD 0 = 123 := by
    cases hr : rst s k with
    | nil => rw [hr] at hd; cases hd
    | cons y t => rw [hr] at hd; exact Option.some.inj hd
  rw [hd0] at HN
  have H := Lib.hid h
  obtain ⟨c0, c1, c2⟩ := h.at
  have c3 := h.free 1
  have hw1 := IntWalk.i64_in ((k : Int) + 1) (by omega)
  have HA := Lib.hid (show Sp.opt (rst s k) = Sp.attrs (rst s k) from if_pos hd)
  have e1 := fun m (h2 : Sp.attr (rst s (k + 1)) = .bad m) => Sp.attrs_bad1 (l := rst s k) hd (by rw [rst_drop]; exact h2)
  have e2 := fun x n (h2 : Sp.attr (rst s (k + 1)) = .ok x n) => Sp.attrs_go (l := rst s k) hd (by rw [rst_drop]; exact h2)
  simp only [rst_drop, rst_len] at e2
  have E1 := Lib.hid e1
  have E2 := Lib.hid e2
  unfold RxAttrs
  rw [HA.out]
  clear h hd e1 e2 hd0 HA
  generalize Sp.attrs (rst s k) = Y at *
  go_enter Tryz.func79, Tryz.ntmps79
  go_wp2_with fail
  refine HN.out.mono ?_
  rintro e w1 ⟨rfl, n1, rfl⟩
  have hst := (H.out.drewN n1).step (k + 1) hlt
  have HST := Lib.hid hst
  have f1' : (w.drewN n1).frozen? ⟨b, 1, none⟩ = false := (H.out.drewN n1).free 1
  have c0' : (w.drewN n1).cell? ⟨b, 0, none⟩ = some (.string s) := c0
  clear hst
  go_wp2_with fail
  go_loopg [3, 4, 5, 6] (s.size + 1 - k) (fun gk v fr ky vl wr => (∃ (j : Nat) (l : List Sp.A), s.size + 2 ≤ gk + j ∧ RxAt wr b s j (-1) ∧ k + 1 ≤ j ∧ l.length ≤ j ∧ Hid (∀ m, Sp.attr (rst s j) = .bad m → Y = .bad (j - k + m)) ∧ Hid (∀ x n, Sp.attr (rst s j) = .ok x n → ∃ f, s.size - (j + n) < f ∧ Y = Sp.prl (l ++ [x]) (j - k + n) (Sp.more f (rst s (j + n)))) ∧ Keep b [QT] w wr ∧ wr.ownsRow w.heap.size 53 2 v l.length (flat l)) ∨
    (∃ m j : Nat, Y = .bad m ∧ RxAt wr b s j ((k + m : Nat) : Int) ∧ Keep b [QT] w wr))
  case atStart =>
    refine .inl ⟨k + 1, [], by omega, ?_, Nat.le_refl _, Nat.zero_le _, fun m h2 => ?_, fun x n h2 => ⟨s.size - (k + (1 + n)) + 1, by omega, ?_⟩, ?_, own_nil _ _⟩
    · exact HST.out.1
    · rw [E1.out m h2, show k + 1 - k + m = 1 + m by omega]
    · rw [E2.out x n h2, show k + 1 - k + n = 1 + n by omega, show k + 1 + n = k + (1 + n) by omega]; rfl
    · exact (keep_drewN (Keep.refl _ _ _) n1).trans HST.out.2
  case round =>
    rcases hrel with ⟨j, l, hgk, r, hkj, hlj, HE1, HE2, kk, hown⟩ | ⟨m, j, hbm, r, kk⟩
    · have R := Lib.hid r
      have KK := Lib.hid kk
      have HO := Lib.hid hown
      have hjs := r.2.1
      obtain ⟨d0, d1, d2⟩ := r.at
      have hsw := kk.below.size
      obtain ⟨oa, oc, rfl⟩ := own_slice hown
      have qm : (-1 : Int) < 0 := by omega
      clear r kk hown c0 c0' c1 c2 c3 f1'
      obtain ⟨W0, rfl⟩ : ∃ W0, W0 = wr := ⟨_, rfl⟩
      obtain ⟨g0, rfl⟩ : ∃ g0, g0 = gk := ⟨_, rfl⟩
      go_wp2_with fail
      go_loopg [] (s.size - j) (fun gk wi => ∃ i : Nat, gk = s.size - i ∧ RxAt wi b s i (-1) ∧ j ≤ i ∧ (rst s j).takeWhile Sp.kb = (rst s j).take (i - j) ++ (rst s i).takeWhile Sp.kb ∧ Keep b [QT] W0 wi)
      case atStart => exact ⟨j, rfl, R.out, Nat.le_refl _, by rw [Nat.sub_self]; rfl, Keep.refl _ _ _⟩
      case round =>
        obtain ⟨i, rfl, ri, hji, htw, ki⟩ := hrel
        have RI := Lib.hid ri
        have KI := Lib.hid ki
        have TW := Lib.hid htw
        have his := ri.2.1
        obtain ⟨d0, d1, d2⟩ := ri.at
        have d3 := ri.free 1
        have HN := Lib.hid (next_any b s i (-1) wr ri)
        rw [nxt_live] at HN
        clear ri ki htw
        by_cases hkb : ∃ hlt : i < s.size, Sp.kb s[i] = true
        · obtain ⟨hlt, hk⟩ := hkb
          rw [rst_cons hlt, List.headD_cons] at HN
          have HP := Lib.hid fun w => refPlain_any s[i] w
          rw [hk] at HP
          have HT := Lib.hid (tw_step hji hlt hk TW.out)
          have hw2 := IntWalk.i64_in ((i : Int) + 1) (by omega)
          clear hk
          go_wp2_with fail
          refine HN.out.mono ?_
          rintro e w2 ⟨rfl, n2, rfl⟩
          go_wp2_with fail
          refine (HP.out _).mono ?_
          rintro e w3 ⟨rfl, rfl⟩
          have f1' : (wr.drewN n2).frozen? ⟨b, 1, none⟩ = false := (RI.out.drewN n2).free 1
          have HST2 := Lib.hid ((RI.out.drewN n2).step (i + 1) hlt)
          go_wp2_with fail
          go_roundg (s.size - (i + 1))
          case measure => omega
          case rel => exact ⟨i + 1, rfl, HST2.out.1, by omega, HT.out, KI.out.trans ((keep_drewN (Keep.refl _ _ _) n2).trans HST2.out.2)⟩
        · have hnd : ∀ h : i < s.size, Sp.kb s[i] = false := fun h => by
            cases hq : Sp.kb s[i] with
            | false => rfl
            | true => exact absurd ⟨h, hq⟩ hkb
          have hcc : Sp.kb ((rst s i).headD 0) = false := by
            rcases Nat.lt_or_ge i s.size with h | h
            · rw [rst_cons h]; exact hnd h
            · rw [rst_nil h]; decide
          have HP := Lib.hid fun w => refPlain_any ((rst s i).headD 0) w
          rw [hcc] at HP
          have HTE := Lib.hid (tw_end' hnd TW.out)
          have HDL := Lib.hid (rtake_len (s := s) (a := j) his)
          have HEX := Lib.hid (tw_end hji his hnd TW.out)
          clear hkb hnd hcc TW
          generalize (rst s i).headD 0 = c at *
          rcases Nat.eq_or_lt_of_le hji with rfl | hlt
          · have p1 : ((j : Int) == (j : Int)) = true := by simp
            have HB := Lib.hid fun n => bad_any b s j (-1) j (wr.drewN n) (RI.out.drewN n)
            have HE := Lib.hid (HE1.out 0 (Sp.attr_bad0 (by rw [HTE.out, Nat.sub_self]; rfl)))
            go_wp2_with fail
            refine HN.out.mono ?_
            rintro e w2 ⟨rfl, n2, rfl⟩
            go_wp2_with fail
            refine (HP.out _).mono ?_
            rintro e w3 ⟨rfl, rfl⟩
            go_wp2_with fail
            refine (HB.out n2).mono ?_
            rintro e w3 ⟨rfl, r3, k3⟩
            rw [noted_live (by omega)] at r3
            have R3 := Lib.hid r3
            have K3 := Lib.hid k3
            clear r3 k3
            go_wp2_with fail
            go_ret
            show RxGo b s k Y _ _ w _ _
            unfold RxGo
            rw [HE.out]
            exact ⟨_, rfl, KK.out.trans (KI.out.trans ((keep_drewN (Keep.refl _ _ _) n2).trans K3.out)), rfl, j, by rw [show k + (j - k + 0) = j by omega]; exact R3.out⟩
          · have p1 : ((i : Int) == (j : Int)) = false := by rw [beq_eq_false_iff_ne]; omega
            have hlI : (j : Int) ≤ (i : Int) := by omega
            have hiI : (i : Int) ≤ (s.size : Int) := by omega
            have HM := Lib.hid fun n => mustA_any b s i 58 (wr.drewN n) (RI.out.drewN n) (by decide)
            go_wp2_with fail
            refine HN.out.mono ?_
            rintro e w2 ⟨rfl, n2, rfl⟩
            go_wp2_with fail
            refine (HP.out _).mono ?_
            rintro e w3 ⟨rfl, rfl⟩
            go_wp2_with fail
            go_quiet (fail)
            go_wp2_with fail
            refine (HM.out _).mono ?_
            rintro e w4 ⟨rfl, k4, J1, X1, r4, h4⟩
            have R4 := Lib.hid r4
            have K4 := Lib.hid ((keep_drewN (Keep.refl b [QT] wr) _).trans k4)
            have H4 := Lib.hid h4
            have HQ := Lib.hid (quotedA_any b s J1 X1 w4 r4 (by rcases h4 with ⟨_, _, h⟩ | ⟨_, h⟩ <;> omega) hz)
            clear r4 k4 h4
            go_wp2_with fail
            refine HQ.out.mono ?_
            rintro e w5 ⟨t, rfl, k5, J2, X2, r5, h5⟩
            have HS := Lib.hid (attr_sum (t := t) (J2 := J2) (X2 := X2) (j := j) (J1 := J1) (X1 := X1) HTE.out (by intro e; have := congrArg List.length e; rw [HDL.out] at this; simp at this; omega)
              (by rw [HDL.out, show j + (i - j) = i by omega]; exact H4.out) h5)
            have R5 := Lib.hid r5
            have K5 := Lib.hid (KI.out.trans (K4.out.trans k5))
            clear r5 k5 h5
            have O5 := K5.out.own HO.out (by decide)
            have hbw5 : w.heap.size ≤ w5.heap.size := Nat.le_trans hsw K5.out.below.size
            have HKx := Lib.hid (show Sp.ba ((rst s j).take (i - j)) = s.extract j i from ba_eq (by rw [Sp.data_ba, ← HTE.out, HEX.out.1]))
            have hL : l.length + 1 ≤ 1048576 := by have := R5.out.2.1; omega
            go_wp2_with (at_builtin; refine append_attr rfl (.tmp 59) (.tmp 63) rfl w.heap.size (.slice oa l.length oc) l.length (flat l) (s.extract j i, t) rfl rfl O5 (l.length + 1) (flat (l ++ [(s.extract j i, t)])) rfl (flat_snoc l _).symm hL hbw5 ?_; intro u6 w6 o6 g6; have B6 := Lib.hid (((below_box w5 _).mono hbw5).trans ((Below.refl w.heap.size _).grown g6 (by simp; omega) (fun j hj => own_ge O5 j hj))); have Hown6 := Lib.hid o6; clear o6 g6)
            have R6 := Lib.hid (show RxAt w6 b s J2 X2 from ⟨(B6.out.block _ hbw).trans R5.out.1, R5.out.2⟩)
            have K6 := Lib.hid ((KK.out.trans K5.out).later B6.out (Nat.le_of_lt hbw) (Nat.le_refl _))
            have HN6 := Lib.hid (next_any b s J2 X2 w6 R6.out)
            clear O5
            rcases HS.out with ⟨hX2, n, hat, hJ2, hn1⟩ | ⟨m, hat, hX2⟩
            · obtain ⟨f, hf, hY⟩ := HE2.out _ _ hat
              rw [HKx.out, ← hJ2] at hY
              have hJs : J2 ≤ s.size := R6.out.2.1
              subst hX2
              rw [nxt_live] at HN6
              obtain ⟨e0, e1, e2⟩ := R6.out.at
              cases f with
              | zero => omega
              | succ f =>
              by_cases h125 : (rst s J2).head? = some 125
              · have hc : (rst s J2).headD 0 = 125 := by
                  cases hr : rst s J2 with
                  | nil => rw [hr] at h125; cases h125
                  | cons y t => rw [hr] at h125; exact Option.some.inj h125
                rw [hc] at HN6
                have hJl := head_lt h125
                have h44 : ¬ (rst s J2).head? = some 44 := by rw [h125]; decide
                have HE := Lib.hid (hY.trans (by rw [Sp.more_end f h44 h125]))
                have HST2 := Lib.hid fun n => (R6.out.drewN n).step (J2 + 1) hJl
                have hw3 := IntWalk.i64_in ((J2 : Int) + 1) (by omega)
                have HJ2 := Lib.hid hJ2
                clear hc h125 h44 hY hat hJ2
                go_wp2_with fail
                refine HN6.out.mono ?_
                rintro e w7 ⟨rfl, n7, rfl⟩
                have f1' : (w6.drewN n7).frozen? ⟨b, 1, none⟩ = false := (R6.out.drewN n7).free 1
                go_wp2_with fail
                go_ret
                show RxGo b s k Y _ _ w _ _
                unfold RxGo
                rw [HE.out]
                refine ⟨_, rfl, (keep_drewN K6.out n7).trans (HST2.out n7).2, ?_, ?_⟩
                · have := (HST2.out n7).2.own (show (w6.drewN n7).ownsRow w.heap.size 53 2 u6 (l.length + 1) (flat (l ++ [(s.extract j i, t)])) from Hown6.out) (by decide)
                  simpa [valAs] using this
                · have hJ2 := HJ2.out
                  rw [show k + (j - k + n + 1) = J2 + 1 by omega]; exact (HST2.out n7).1
              · have hne : (rst s J2).headD 0 ≠ 125 := fun e => by
                  cases hr : rst s J2 with
                  | nil => rw [hr] at e; exact absurd e (by decide)
                  | cons y t => rw [hr] at e h125; exact h125 (congrArg some e)
                have p9 := b_not' (n := 125) rfl hne
                generalize (rst s J2).headD 0 = c9 at *
                have HM2 := Lib.hid fun n => mustA_any b s J2 44 (w6.drewN n) (R6.out.drewN n) (by decide)
                have HYY := Lib.hid hY
                have HJ2 := Lib.hid hJ2
                clear hne hY hat hJ2
                go_wp2_with fail
                refine HN6.out.mono ?_
                rintro e w7 ⟨rfl, n7, rfl⟩
                go_wp2_with fail
                refine (HM2.out n7).mono ?_
                rintro e w8 ⟨rfl, k8, J8, X8, r8, h8⟩
                have R8 := Lib.hid r8
                have K8 := Lib.hid ((keep_drewN K6.out n7).trans k8)
                have H8 := Lib.hid h8
                have O8 := Lib.hid (k8.own (show (w6.drewN n7).ownsRow w.heap.size 53 2 u6 (l.length + 1) (flat (l ++ [(s.extract j i, t)])) from Hown6.out) (by decide))
                clear r8 k8 h8
                go_wp2_with fail
                go_roundg (g0 - 1)
                case measure => omega
                case rel =>
                  have hJ2 := HJ2.out
                  rcases H8.out with ⟨h44, rfl, rfl⟩ | ⟨h44, rfl⟩
                  · refine .inl ⟨J2 + 1, l ++ [(s.extract j i, t)], by omega, R8.out, by omega, by simp; omega, fun m h2 => ?_, fun x n' h2 => ⟨f, ?_, ?_⟩, K8.out, by simpa using O8.out⟩
                    · rw [HYY.out, Sp.more_bad1 f h44 (by rw [rst_drop]; exact h2)]
                      simp only [Sp.prl]; congr 1; omega
                    · have := head_lt h44
                      omega
                    · rw [HYY.out, Sp.more_go f h44 (by rw [rst_drop]; exact h2), Sp.prl_prl, rst_drop, show j - k + n + (1 + n') = J2 + 1 - k + n' by omega, show J2 + (1 + n') = J2 + 1 + n' by omega]
                  · refine .inr ⟨j - k + n, J8, ?_, by rw [show k + (j - k + n) = J2 by omega]; exact R8.out, K8.out⟩
                    rw [HYY.out, Sp.more_bad0 f h44 h125]
                    simp only [Sp.prl]; rfl
            · have HE := Lib.hid (HE1.out _ hat)
              have hX0 : 0 ≤ X2 := by omega
              rw [nxt_dead hX0] at HN6
              have HM2 := Lib.hid fun n => mustD_any b s J2 X2 44 (w6.drewN n) (R6.out.drewN n) hX0 (by decide)
              have HX2 := Lib.hid hX2
              clear hat hX2
              go_wp2_with fail
              refine HN6.out.mono ?_
              rintro e w7 ⟨rfl, n7, rfl⟩
              go_wp2_with fail
              refine (HM2.out n7).mono ?_
              rintro e w8 ⟨u8, rfl, k8, rfl, J8, r8⟩
              have R8 := Lib.hid r8
              have K8 := Lib.hid ((keep_drewN K6.out n7).trans k8)
              clear r8 k8
              go_wp2_with fail
              go_roundg (g0 - 1)
              case measure => omega
              case rel => exact .inr ⟨j - k + m, J8, HE.out, by rw [show k + (j - k + m) = j + m by omega, ← HX2.out]; exact R8.out, K8.out⟩
    · have R := Lib.hid r
      have KK := Lib.hid kk
      have HBm := Lib.hid hbm
      obtain ⟨d0, d1, d2⟩ := r.at
      have q0 : ¬ ((k + m : Nat) : Int) < 0 := by omega
      clear r kk hbm
      go_wp2_with fail
      go_ret
      show RxGo b s k Y _ _ w _ _
      unfold RxGo
      rw [HBm.out]
      exact ⟨_, rfl, KK.out, rfl, j, R.out⟩

theorem rxAttrs_any (b : Nat) (s : ByteArray) (k : Nat) (w : World) (h : RxAt w b s k (-1)) (hz : s.size ≤ 1048576) :
    Calls Tryz.prog 79 #[.pointer (some ⟨b, 0, none⟩)] w (RxAttrs b s k w) := by
  by_cases hd : (rst s k).head? = some 123
  · exact rxattrs_live b s k w h hd hz (lt_of_heap h.1)
  · exact rxattrs_none b s k w h hd
end Go.Proofs.YtadookafnfnaoaaGreatDoor
