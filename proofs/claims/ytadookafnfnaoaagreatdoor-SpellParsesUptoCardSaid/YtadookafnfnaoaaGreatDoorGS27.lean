import Derived.Test.YtadookafnfnaoaaGreatDoorGS26
import Derived.Test.YtadookafnfnaoaaGreatDoorGS12
import Derived.Test.YtadookafnfnaoaaGreatDoorGS13
/- The document's reader: quoted. -/
namespace Go.Proofs.YtadookafnfnaoaaGreatDoor
open Go.RowKit Ch

theorem Keep.grew {b : Nat} {ts : List TypeId} {w wr w' : World} {row : Option Nat} (h : Keep b ts w wr) (hg : wr.grownBy w' row) (hr : ∀ g, row = some g → w.heap.size ≤ g) (hb : b ≤ w.heap.size) : Keep b ts w w' :=
  ⟨h.below.grown hg (Nat.le_trans hb h.below.size) (fun j hj => Nat.le_trans hb (hr j hj)), fun i o hi ho => by
    have h1 := h.all i o hi ho
    exact (hg.block i (lt_of_heap h1) (fun e => by have h2 := hr i e.symm; have h3 := lt_of_heap hi; omega)).trans h1⟩

set_option maxRecDepth 100000 in
theorem conv_own (W : World) (B : Nat) (v : Value) (l : List UInt8) (h : OwnB W B v l) : (convert 57 9 v).run Tryz.prog W = .ok (.string (Sp.ba l)) W := by
  rcases Nat.eq_zero_or_pos l.length with h0 | h0
  · obtain rfl := List.length_eq_zero_iff.1 h0
    rcases h.2 with ⟨rfl, _⟩ | ⟨g, cap, cur, rfl, _⟩
    · rfl
    · exact run_convert_bytes_back (P := Tryz.prog) W 57 9 5 ⟨g, 0, none⟩ cap [] Tryz.underlying57 Tryz.underlying5 Tryz.underlying9 (fun j hj => by cases hj)
  · obtain ⟨g, cap, rfl⟩ := ownsRow_open h h0
    exact run_convert_bytes_back (P := Tryz.prog) W 57 9 5 ⟨g, 0, none⟩ cap l Tryz.underlying57 Tryz.underlying5 Tryz.underlying9 (fun j hj => World.ownsRow.cells h rfl j _ (by rw [Lib.byteCells, List.getElem?_map, List.getElem?_eq_getElem hj]; rfl))

def QuotedOut (b : Nat) (s : ByteArray) (k : Nat) (w : World) : Ending → World → Prop :=
  RxGo b s k (Sp.quoted (rst s k)) (fun v _ u => u = .string (Sp.ba v)) (fun _ u => ∃ t, u = .string t) w

set_option maxRecDepth 100000 in
set_option maxHeartbeats 4000000 in
theorem quotedX_any (b : Nat) (s : ByteArray) (k : Nat) (w : World) (h : RxAt w b s k (-1)) (hz : s.size ≤ 1048576) :
    Calls Tryz.prog 45 #[.pointer (some ⟨b, 0, none⟩)] w (QuotedOut b s k w) := by
  obtain ⟨i0, hi, hz0, hz1, hz2⟩ := info_parts infoU8
  have Hi := Lib.hid (show _ ∧ _ ∧ _ ∧ _ from ⟨hi, hz0, hz1, hz2⟩)
  clear hi hz0 hz1 hz2
  have HM := Lib.hid (mustX_any b s k 34 w h (by decide))
  have hbw : b < w.heap.size := lt_of_heap h.1
  by_cases h34 : (rst s k).head? = some 34
  · rw [show Sp.must 34 (rst s k) = .ok () 1 by unfold Sp.must; rw [if_pos h34]] at HM
    have HQ := Lib.hid (quoted_go h34)
    rw [rst_drop] at HQ
    clear h34 h
    go_enter Tryz.func45, Tryz.ntmps45
    go_wp2_with fail
    refine HM.out.mono ?_
    rintro e w1 ⟨u1, rfl, k1, rfl, r1⟩
    have R1 := Lib.hid r1
    have K1 := Lib.hid k1
    have s01 : w.heap.size ≤ w1.heap.size := k1.below.size
    have HBO := Lib.hid (rfl : Sp.body ((rst s (k + 1)).length + 1) (rst s (k + 1)) = Sp.body ((rst s (k + 1)).length + 1) (rst s (k + 1)))
    generalize hBX : Sp.body ((rst s (k + 1)).length + 1) (rst s (k + 1)) = BX at *
    have hBX' := Lib.hid hBX
    clear r1 k1 hBX HBO
    go_wp2_with fail
    go_loopg [3, 4] (s.size + 2) (fun gk v c wr => (∃ (j f : Nat) (l : List UInt8), s.size + 1 ≤ gk + j ∧ RxAt wr b s j (-1) ∧ k + 1 ≤ j ∧ l.length ≤ j ∧ s.size - j < f ∧ BX = Sp.pre l (j - (k + 1)) (Sp.body f (rst s j)) ∧ OwnB wr w1.heap.size v l ∧ Keep b [QT] w wr ∧ w1.heap.size ≤ wr.heap.size) ∨
      (∃ m j : Nat, BX = .bad m ∧ RxAt wr b s j ((k + 1 + m : Nat) : Int) ∧ Keep b [QT] w wr))
    case atStart => exact .inl ⟨k + 1, (rst s (k + 1)).length + 1, [], by omega, R1.out, Nat.le_refl _, Nat.zero_le _, by rw [rst_len]; omega, by rw [Nat.sub_self, Sp.pre_zero]; exact hBX'.out.symm, World.ownsRow_nil _ _ _ _, K1.out, Nat.le_refl _⟩
    case round =>
      rcases hrel with ⟨j, f, l, hgk, r, hkj, hlj, hf, hbo, ho, kk, hsz⟩ | ⟨m, j, hbm, r, kk⟩
      · have R := Lib.hid r
        have KK := Lib.hid kk
        have HO := Lib.hid ho
        have HBo := Lib.hid hbo
        have hjs := r.2.1
        obtain ⟨d0, d1, d2⟩ := r.at
        have d3 := r.free 1
        have HN := Lib.hid (next_any b s j (-1) wr r)
        rw [nxt_live] at HN
        have qm : (-1 : Int) < 0 := by omega
        obtain ⟨oa, oc, rfl⟩ := owns_shape ho
        clear r kk ho hbo
        cases f with
        | zero => omega
        | succ f =>
        by_cases h34 : (rst s j).head? = some 34
        · have hd34 : (rst s j).headD 0 = 34 := by
            cases hr : rst s j with
            | nil => rw [hr] at h34; cases h34
            | cons y t => rw [hr] at h34; exact Option.some.inj h34
          rw [hd34] at HN
          have hjl : j < s.size := by
            rcases Nat.lt_or_ge j s.size with h | h
            · exact h
            · rw [rst_nil h] at h34; cases h34
          have HE := Lib.hid (HBo.out.trans (by rw [Sp.body_34 f h34]))
          have hw2 := IntWalk.i64_in ((j : Int) + 1) (by omega)
          clear h34 hd34
          go_wp2_with fail
          refine HN.out.mono ?_
          rintro e w2 ⟨rfl, n2, rfl⟩
          have HST := Lib.hid ((R.out.drewN n2).step (j + 1) hjl)
          have hcv := conv_own _ _ _ _ (HST.out.2.own (show (wr.drewN n2).ownsRow w1.heap.size 5 1 (.slice oa l.length oc) l.length (Lib.byteCells l) from HO.out) (by decide))
          rw [show ((j + 1 : Nat) : Int) = (j : Int) + 1 by omega] at hcv
          have f1' : (wr.drewN n2).frozen? ⟨b, 1, none⟩ = false := (R.out.drewN n2).free 1
          go_wp2_with fail
          go_ret
          show QuotedOut b s k w _ _
          unfold QuotedOut RxGo
          rw [HQ.out, HE.out]
          exact ⟨_, rfl, (keep_drewN KK.out n2).trans HST.out.2, by simp, by rw [show k + (1 + (j - (k + 1) + 1)) = j + 1 by omega]; exact HST.out.1⟩
        · by_cases hct : Sp.inside (rst s j) = .bad 0 ∧ (((rst s j).headD 0).toNat < 32 ∨ ((rst s j).headD 0).toNat = 127)
          · have HE := Lib.hid (HBo.out.trans (by rw [Sp.body_bad f h34 hct.1]))
            have hcc := hct.2
            generalize (rst s j).headD 0 = c at *
            have q34 : ((c.toNat : Int) == 34) = false := by rw [beq_eq_false_iff_ne]; omega
            have HB := Lib.hid fun n => bad_any b s j (-1) j (wr.drewN n) (R.out.drewN n)
            clear h34 hct
            by_cases h32 : c.toNat < 32
            · have q32 : (c.toNat : Int) < 32 := by omega
              clear hcc
              go_wp2_with fail
              refine HN.out.mono ?_
              rintro e w2 ⟨rfl, n2, rfl⟩
              go_wp2_with fail
              refine (HB.out n2).mono ?_
              rintro e w3 ⟨rfl, r3, k3⟩
              rw [noted_live (by omega)] at r3
              have R3 := Lib.hid r3
              have K3 := Lib.hid k3
              clear r3 k3
              go_wp2_with fail
              go_roundg (gk - 1)
              case measure => omega
              case rel => exact .inr ⟨j - (k + 1), j, HE.out, by rw [show k + 1 + (j - (k + 1)) = j by omega]; exact R3.out, (keep_drewN KK.out n2).trans K3.out⟩
            · have q32 : ¬ (c.toNat : Int) < 32 := by omega
              have q127 : ((c.toNat : Int) == 127) = true := by rw [beq_iff_eq]; omega
              clear hcc
              go_wp2_with fail
              refine HN.out.mono ?_
              rintro e w2 ⟨rfl, n2, rfl⟩
              go_wp2_with fail
              refine (HB.out n2).mono ?_
              rintro e w3 ⟨rfl, r3, k3⟩
              rw [noted_live (by omega)] at r3
              have R3 := Lib.hid r3
              have K3 := Lib.hid k3
              clear r3 k3
              go_wp2_with fail
              go_roundg (gk - 1)
              case measure => omega
              case rel => exact .inr ⟨j - (k + 1), j, HE.out, by rw [show k + 1 + (j - (k + 1)) = j by omega]; exact R3.out, (keep_drewN KK.out n2).trans K3.out⟩
          · cases hr : rst s j with
            | nil => exact absurd ⟨by rw [hr]; rfl, .inl (by rw [hr]; decide)⟩ hct
            | cons y t =>
            have hjl : j < s.size := (Nat.lt_or_ge j s.size).elim id fun h => by rw [rst_nil h] at hr; cases hr
            have hnc : Sp.ctl y = false := by
              cases hq : Sp.ctl y with
              | false => rfl
              | true => exact absurd ⟨by rw [hr]; simp [Sp.inside, hq], by rw [hr]; exact of_decide_eq_true hq⟩ hct
            have hnc' := of_decide_eq_false (show decide (y.toNat < 32 ∨ y.toNat = 127) = false from hnc)
            have hy34 : y ≠ 34 := fun e => h34 (by rw [hr, e]; rfl)
            have q34 := b_not' (n := 34) rfl hy34
            have q32 : ¬ (y.toNat : Int) < 32 := by omega
            have q127 : ((y.toNat : Int) == 127) = false := by rw [beq_eq_false_iff_ne]; omega
            rw [hr, List.headD_cons] at HN
            have hw2 := IntWalk.i64_in ((j : Int) + 1) (by omega)
            have hbl : b < w1.heap.size := lt_of_heap R1.out.1
            by_cases h92 : y = 92
            · have q92 := b_is' (n := 92) rfl h92
              have HST := Lib.hid fun n => (R.out.drewN n).step (j + 1) hjl
              have hrr : rst s j = 92 :: rst s (j + 1) := by
                rw [rst_cons hjl] at hr ⊢
                rw [← h92, (List.cons.inj hr).1]
              have HRR := Lib.hid hrr
              have H34 := Lib.hid h34
              clear h34 hct hr hnc hnc' hy34 h92 hrr
              go_wp2_with fail
              refine HN.out.mono ?_
              rintro e w2 ⟨rfl, n2, rfl⟩
              have f1' : (wr.drewN n2).frozen? ⟨b, 1, none⟩ = false := (R.out.drewN n2).free 1
              go_wp2_with fail
              have HBH := Lib.hid (behind_any4 b s (j + 1) _ (HST.out n2).1 (by omega))
              have K2 := Lib.hid ((keep_drewN KK.out n2).trans (HST.out n2).2)
              have O2 := Lib.hid ((HST.out n2).2.own (show (wr.drewN n2).ownsRow w1.heap.size 5 1 (.slice oa l.length oc) l.length (Lib.byteCells l) from HO.out) (by decide))
              refine HBH.out.mono ?_
              rintro e w3 ⟨k3, h3⟩
              rw [← HRR.out] at h3
              have K3 := Lib.hid (K2.out.trans k3)
              have O3 := Lib.hid (k3.own O2.out (by decide))
              have Z3 : w1.heap.size ≤ w3.heap.size := by have := k3.below.size; simp at this; omega
              have hcase : ∃ (x : UInt8) (J : Nat) (X : Int), e = .returned (.int .u8 (x.toNat : Int)) ∧ RxAt w3 b s J X ∧ ((X = -1 ∧ j + 1 ≤ J ∧ BX = Sp.pre (l ++ [x]) (J - (k + 1)) (Sp.body f (rst s J))) ∨ ∃ m : Nat, BX = .bad m ∧ X = ((k + 1 + m : Nat) : Int)) := by
                cases hin : Sp.inside (rst s j) with
                | ok x n =>
                  rw [hin] at h3
                  obtain ⟨rfl, r3⟩ := h3
                  have HE := HBo.out.trans (Sp.body_ok f H34.out hin l (j - (k + 1)))
                  rw [rst_drop] at HE
                  obtain ⟨m1, m2⟩ := Sp.inside_len H34.out hin
                  refine ⟨x, j + 1 - 1 + n, -1, rfl, r3, .inl ⟨rfl, by omega, ?_⟩⟩
                  rw [show j + 1 - 1 + n - (k + 1) = j - (k + 1) + n by omega, show j + 1 - 1 + n = j + n by omega]
                  exact HE
                | bad m =>
                  rw [hin] at h3
                  obtain ⟨⟨x, rfl⟩, J, r3⟩ := h3
                  exact ⟨x, J, _, rfl, r3, .inr ⟨j - (k + 1) + m, HBo.out.trans (by rw [Sp.body_bad f H34.out hin]; rfl), by omega⟩⟩
              obtain ⟨x, J, X, rfl, r3, hfin⟩ := hcase
              have HF := Lib.hid hfin
              have R3 := Lib.hid r3
              have hown := O3.out
              have hi := Hi.out.1
              have hz0 := Hi.out.2.1
              have hz1 := Hi.out.2.2.1
              have hz2 := Hi.out.2.2.2
              have HV := Lib.hid (show Lib.byteCells [x] = [.int .u8 (x.toNat : Int)] by rfl)
              clear h3 k3 hfin r3
              go_wp2_with (first | (at_builtin; refine wpList_append_own _ rfl _ _ 57 rfl w1.heap.size 5 i0 (.int .u8 0) 1 1 Tryz.underlying57 hi hz0 hz1 hz2 rfl (by decide) _ _ _ rfl (World.ownsRow.alloc hown _) ⟨w3.heap.size, 0, none⟩ 1 1 [.int .u8 (x.toNat : Int)] rfl rfl ?_ ?_ ?_ ?_ ?_ ?_))
              all_goals
                first
                  | rfl
                  | (intro u hu; simp at hu; subst hu; rfl)
                  | (unfold maxLen; omega)
                  | omega
                  | (simp; omega)
                  | exact fun j u hj => newU8 _ _ _ j u hj
                  | (intro v' w4 hown' hgrow _
                     clear hown hi hz0 hz1 hz2
                     have RA := R3.out.later (below_box w3 (.cells #[.int .u8 (x.toNat : Int)] 5 (0, 0)))
                     have R4 := Lib.hid (show RxAt w4 b s J X from ⟨(hgrow.block b (lt_of_heap RA.1) (fun e => by have := (O3.out.lt b e.symm).1; omega)).trans RA.1, RA.2⟩)
                     have hb2 : b ≤ w3.heap.size := by omega
                     have K4 := Lib.hid (Keep.grew (K3.out.trans (keep_below (ts := [QT]) (below_box _ _) hb2)) hgrow (fun g e => by have := (O3.out.lt g e).1; omega) (Nat.le_of_lt hbw))
                     have O4 := Lib.hid (show OwnB w4 w1.heap.size v' (l ++ [x]) from by unfold OwnB; rw [List.length_append, Lib.byteCells_append]; exact hown')
                     have Z4 : w1.heap.size ≤ w4.heap.size := by have := hgrow.size; simp at this; omega
                     clear hown' hgrow RA
                     go_wp2_with fail
                     go_roundg (gk - 1)
                     case measure => omega
                     case rel =>
                       rcases HF.out with ⟨rfl, f1, f2⟩ | ⟨m, f1, rfl⟩
                       · exact .inl ⟨J, f, l ++ [x], by omega, R4.out, by omega, by simp; omega, by have := R4.out.2.1; omega, f2, O4.out, K4.out, Z4⟩
                       · exact .inr ⟨m, J, f1, R4.out, K4.out⟩)
            · have q92 := b_not' (n := 92) rfl h92
              have HE := Lib.hid (HBo.out.trans (Sp.body_ok f h34 (show Sp.inside (rst s j) = .ok y 1 by rw [hr]; simp [Sp.inside, hnc, h92]) l (j - (k + 1))))
              rw [rst_drop] at HE
              have HV := Lib.hid (show Lib.byteCells [y] = [.int .u8 (y.toNat : Int)] by rfl)
              clear h34 hct hr hnc hnc' hy34 h92
              go_wp2_with fail
              refine HN.out.mono ?_
              rintro e w2 ⟨rfl, n2, rfl⟩
              have hown := show (wr.drewN n2).ownsRow w1.heap.size 5 1 (.slice oa l.length oc) l.length (Lib.byteCells l) from HO.out
              have HOW := Lib.hid hown
              have hi := Hi.out.1
              have hz0 := Hi.out.2.1
              have hz1 := Hi.out.2.2.1
              have hz2 := Hi.out.2.2.2
              go_wp2_with (first | (at_builtin; refine wpList_append_own _ rfl _ _ 57 rfl w1.heap.size 5 i0 (.int .u8 0) 1 1 Tryz.underlying57 hi hz0 hz1 hz2 rfl (by decide) _ _ _ rfl (World.ownsRow.alloc hown _) ⟨wr.heap.size, 0, none⟩ 1 1 [.int .u8 (y.toNat : Int)] rfl rfl ?_ ?_ ?_ ?_ ?_ ?_))
              all_goals
                first
                  | rfl
                  | (intro u hu; simp at hu; subst hu; rfl)
                  | (unfold maxLen; omega)
                  | omega
                  | (simp; omega)
                  | exact fun j u hj => newU8 _ _ _ j u hj
                  | (intro v' w3 hown' hgrow _
                     clear hown hi hz0 hz1 hz2
                     have RA := (R.out.drewN n2).later (below_box (wr.drewN n2) (.cells #[.int .u8 (y.toNat : Int)] 5 (0, 0)))
                     have R3 : RxAt w3 b s j (-1) := ⟨(hgrow.block b (lt_of_heap RA.1) (fun e => by have := (HOW.out.lt b e.symm).1; omega)).trans RA.1, RA.2⟩
                     have hb2 : b ≤ (wr.drewN n2).heap.size := by show b ≤ wr.heap.size; omega
                     have K3 := Lib.hid (Keep.grew ((keep_drewN KK.out n2).trans (keep_below (ts := [QT]) (below_box _ _) hb2)) hgrow (fun g e => by have := (HOW.out.lt g e).1; omega) (Nat.le_of_lt hbw))
                     have O3 := Lib.hid (show OwnB w3 w1.heap.size v' (l ++ [y]) from by unfold OwnB; rw [List.length_append, Lib.byteCells_append]; exact hown')
                     have Z3 : w1.heap.size ≤ w3.heap.size := by have := hgrow.size; simp at this; omega
                     obtain ⟨e0, e1, e2⟩ := R3.at
                     have e3 := R3.free 1
                     have HR3 := Lib.hid (R3.step (j + 1) hjl)
                     obtain ⟨a', c', rfl⟩ := owns_shape O3.out
                     clear hown' hgrow RA R3
                     go_wp2_with fail
                     go_roundg (gk - 1)
                     case measure => omega
                     case rel => exact .inl ⟨j + 1, f, l ++ [y], by omega, HR3.out.1, by omega, by simp; omega, by omega, by rw [show j + 1 - (k + 1) = j - (k + 1) + 1 by omega]; exact HE.out, HR3.out.2.own O3.out (by decide), K3.out.trans HR3.out.2, by simpa using Z3⟩)
      · obtain ⟨d0, d1, d2⟩ := r.at
        have R := Lib.hid r
        have KK := Lib.hid kk
        have HBm := Lib.hid hbm
        have q0 : ¬ ((k + 1 + m : Nat) : Int) < 0 := by omega
        clear r kk hbm
        go_wp2_with fail
        go_ret
        show QuotedOut b s k w _ _
        unfold QuotedOut RxGo
        rw [HQ.out, HBm.out]
        exact ⟨_, rfl, KK.out, ⟨_, rfl⟩, j, by rw [show k + (1 + m) = k + 1 + m by omega]; exact R.out⟩
  · rw [show Sp.must 34 (rst s k) = .bad 0 by unfold Sp.must; rw [if_neg h34]] at HM
    have HQ := Lib.hid (quoted_bad h34)
    clear h34 h
    go_enter Tryz.func45, Tryz.ntmps45
    go_wp2_with fail
    refine HM.out.mono ?_
    rintro e w1 ⟨u1, rfl, k1, rfl, j, r1⟩
    have R1 := Lib.hid r1
    have K1 := Lib.hid k1
    have c2 := r1.c2
    have q0 : ¬ ((k + 0 : Nat) : Int) < 0 := by omega
    obtain ⟨x, hx⟩ : ∃ x : Int, x = ((k + 0 : Nat) : Int) := ⟨_, rfl⟩
    rw [← hx] at c2 q0 R1
    have HX := Lib.hid hx
    clear r1 k1 hx
    go_wp2_with fail
    go_loopg [] 1 (fun gk wr => wr = w1)
    case atStart => rfl
    case round =>
      obtain rfl := hrel
      go_wp2_with fail
      go_ret
      show QuotedOut b s k w _ _
      unfold QuotedOut RxGo
      rw [HQ.out]
      exact ⟨_, rfl, K1.out, ⟨_, rfl⟩, j, by rw [← HX.out]; exact R1.out⟩
end Go.Proofs.YtadookafnfnaoaaGreatDoor
/- The document's reader: quoted behind something wrong; the document's Read. -/
namespace Go.Proofs.YtadookafnfnaoaaGreatDoor
open Go.RowKit Ch

set_option maxRecDepth 100000 in
theorem quotedD_any (b : Nat) (s : ByteArray) (k : Nat) (x : Int) (w : World) (h : RxAt w b s k x) (hx : 0 ≤ x) :
    Calls Tryz.prog 45 #[.pointer (some ⟨b, 0, none⟩)] w (RxDead b s x (fun _ u => ∃ t, u = .string t) w) := by
  have HM := Lib.hid (mustD_any b s k x 34 w h hx (by decide))
  have q0 : ¬ x < 0 := by omega
  clear h
  go_enter Tryz.func45, Tryz.ntmps45
  go_wp2_with fail
  refine HM.out.mono ?_
  rintro e w1 ⟨u1, rfl, k1, rfl, j, r1⟩
  have R1 := Lib.hid r1
  have K1 := Lib.hid k1
  have c2 := r1.c2
  clear r1 k1
  go_wp2_with fail
  go_loopg [] 1 (fun gk wr => wr = w1)
  case atStart => rfl
  case round =>
    obtain rfl := hrel
    go_wp2_with fail
    go_ret
    show RxDead b s x _ w _ _
    exact ⟨_, rfl, K1.out, ⟨_, rfl⟩, j, R1.out⟩

set_option maxRecDepth 100000 in
set_option maxHeartbeats 4000000 in
theorem refRead_any (s : ByteArray) (p : Int) (w : World) (hz : s.size ≤ 1048576) :
    Calls Tryz.prog 18 #[.string s, .int .i64 p] w (SpReadOut w s p) := by
  by_cases hp : p < 0
  · have HE := Lib.hid (readF_out (s := s) (.inl hp))
    go_enter Tryz.func18, Tryz.ntmps18
    go_wp2_with fail
    refine bodyPost_ret (v := .tuple #[.string ⟨#[]⟩, .int .i64 0, .agg #[.int .i64 1, .int .i64 (-1)]]) (by simp [results, Tryz.results18, go_sem]) rfl ?_
    rw [SpReadOut, HE.out]
    exact ⟨rfl, below_box _ _⟩
  by_cases hp2 : (s.size : Int) < p
  · have HE := Lib.hid (readF_out (s := s) (.inr hp2))
    go_enter Tryz.func18, Tryz.ntmps18
    go_wp2_with fail
    refine bodyPost_ret (v := .tuple #[.string ⟨#[]⟩, .int .i64 0, .agg #[.int .i64 1, .int .i64 (-1)]]) (by simp [results, Tryz.results18, go_sem]) rfl ?_
    rw [SpReadOut, HE.out]
    exact ⟨rfl, below_box _ _⟩
  · obtain ⟨a, rfl⟩ : ∃ a : Nat, p = a := ⟨p.toNat, by omega⟩
    have ha : a ≤ s.size := by omega
    clear hp hp2
    have q0 : ¬ (a : Int) < 0 := by omega
    have q1 : ¬ (s.size : Int) < (a : Int) := by omega
    go_enter Tryz.func18, Tryz.ntmps18
    go_wp2_with fail
    obtain ⟨X, hX⟩ : ∃ X, X = (w.alloc (.cells #[.int .i64 0, .int .i64 0] 34)).alloc (.cells #[.string s, .int .i64 a, .int .i64 (-1)] 76) := ⟨_, rfl⟩
    rw [← hX]
    have sX : X.heap.size = w.heap.size + 2 := by rw [hX]; simp
    have hml : s.size ≤ maxLen := by unfold maxLen; omega
    have RX : RxAt X (w.heap.size + 1) s a (-1) := ⟨by rw [hX]; have := heap_new (w.alloc (.cells #[.int .i64 0, .int .i64 0] 34)) (.cells #[.string s, .int .i64 a, .int .i64 (-1)] 76); simpa using this, ha, hml⟩
    have BX := Lib.hid (show Below w.heap.size w X by rw [hX]; exact ((Below.refl _ _).alloc (Nat.le_refl _) _).alloc (by simp) _)
    have HF := Lib.hid (show X.heap[w.heap.size]? = some (.cells #[.int .i64 0, .int .i64 0] 34 (0, 0)) by rw [hX, Lib.alloc_old _ _ _ (by simp)]; exact heap_new _ _)
    have HQ := Lib.hid (quotedX_any (w.heap.size + 1) s a X RX hz)
    clear hX RX
    refine HQ.out.mono ?_
    intro e w1 h1
    unfold QuotedOut RxGo at h1
    cases hq : Sp.quoted (rst s a) with
    | bad m =>
      rw [hq] at h1
      obtain ⟨u, rfl, kk, ⟨t, rfl⟩, j, r⟩ := h1
      have HE := Lib.hid (readF_bad ha hq)
      have B1 := Lib.hid (BX.out.trans (kk.below.mono (by omega)))
      have d2 := r.c2
      have hF1 := (kk.below.block _ (show w.heap.size < w.heap.size + 1 by omega)).trans HF.out
      have e0 := (Lib.cell_of_heap hF1 0).trans (show _ = some (Value.int .i64 0) from rfl)
      have e1 := (Lib.cell_of_heap hF1 1).trans (show _ = some (Value.int .i64 0) from rfl)
      have q3 : (0 : Int) ≤ ((a + m : Nat) : Int) := by omega
      have g0 := Joins.unfrozen_of_block hF1 0
      have g1 := Joins.unfrozen_of_block hF1 1
      have hlt := lt_of_heap hF1
      generalize ((a + m : Nat) : Int) = xx at *
      clear hq r kk hF1
      go_wp2_with fail
      go_region
      go_wp2_with fail
      refine bodyPost_ret (v := .tuple #[.string ⟨#[]⟩, .int .i64 0, .agg #[.int .i64 40, .int .i64 xx]]) (by simp [results, Tryz.results18, go_sem, e0, e1]) rfl ?_
      rw [SpReadOut, HE.out]
      exact ⟨rfl, (B1.out.drew.setCell (p := ⟨w.heap.size, 0, none⟩) (Nat.le_refl w.heap.size) _).setCell (p := ⟨w.heap.size, 1, none⟩) (Nat.le_refl w.heap.size) _⟩
    | ok v n =>
      rw [hq] at h1
      obtain ⟨u, rfl, kk, rfl, r⟩ := h1
      have HE := Lib.hid (readF_ok ha hq)
      have B1 := Lib.hid (BX.out.trans (kk.below.mono (by omega)))
      obtain ⟨d0, d1, d2⟩ := r.at
      have hF1 := (kk.below.block _ (show w.heap.size < w.heap.size + 1 by omega)).trans HF.out
      have e0 := (Lib.cell_of_heap hF1 0).trans (show _ = some (Value.int .i64 0) from rfl)
      have e1 := (Lib.cell_of_heap hF1 1).trans (show _ = some (Value.int .i64 0) from rfl)
      have q3 : ¬ (0 : Int) ≤ -1 := by omega
      have g0 := Joins.unfrozen_of_block hF1 0
      have g1 := Joins.unfrozen_of_block hF1 1
      have hlt := lt_of_heap hF1
      generalize ((a + n : Nat) : Int) = xx at *
      clear hq r kk hF1
      go_wp2_with fail
      go_region
      go_wp2_with fail
      refine bodyPost_ret (v := .tuple #[.string (Sp.ba v), .int .i64 xx, .agg #[.int .i64 0, .int .i64 0]]) (by simp [results, Tryz.results18, go_sem, e0, e1]) rfl ?_
      rw [SpReadOut, HE.out]
      exact ⟨rfl, (B1.out.drew.setCell (p := ⟨w.heap.size, 0, none⟩) (Nat.le_refl w.heap.size) _).setCell (p := ⟨w.heap.size, 1, none⟩) (Nat.le_refl w.heap.size) _⟩
end Go.Proofs.YtadookafnfnaoaaGreatDoor
/- The document's reader: number; which bytes may stand in a key. -/
namespace Go.Proofs.YtadookafnfnaoaaGreatDoor
open Go.RowKit Ch

theorem rtake_snoc {s : ByteArray} {a k : Nat} (hak : a ≤ k) (hk : k < s.size) : (rst s a).take (k + 1 - a) = (rst s a).take (k - a) ++ [s[k]] := by
  have hl : k - a < (rst s a).length := by unfold rst; rw [List.length_drop]; have : s.data.toList.length = s.size := rfl; omega
  rw [show k + 1 - a = k - a + 1 by omega, List.take_succ_eq_append_getElem hl]
  congr 2
  have h2 := rst_drop s a (k - a)
  rw [show a + (k - a) = k by omega, rst_cons hk] at h2
  rw [List.drop_eq_getElem_cons hl] at h2
  simp only [List.cons.injEq] at h2
  exact h2.1
theorem rtake_len {s : ByteArray} {a k : Nat} (hk : k ≤ s.size) : ((rst s a).take (k - a)).length = k - a := by
  rw [List.length_take, rst_len]; omega
theorem rtake_head {s : ByteArray} {a k : Nat} (hak : a < k) (hk : k ≤ s.size) : ((rst s a).take (k - a)).head? = some (s[a]'(by omega)) := by
  rw [rst_cons (show a < s.size by omega), show k - a = (k - a - 1) + 1 by omega, List.take_succ_cons]; rfl
theorem num_big {s : ByteArray} {a k : Nat} (hak : a ≤ k) (h18 : 18 ≤ k - a) (hk : k < s.size) (hd : Sp.dig s[k] = true) (h : (rst s a).takeWhile Sp.dig = (rst s a).take (k - a) ++ (rst s k).takeWhile Sp.dig) : Sp.number (rst s a) = .bad 0 := by
  unfold Sp.number
  have h2 := tw_step hak hk hd h
  refine if_neg fun hn => ?_
  have h3 := hn.2.1
  rw [h2, List.length_append, rtake_len (show k + 1 ≤ s.size by omega)] at h3
  omega
theorem num_none {s : ByteArray} {a : Nat} (h : (rst s a).takeWhile Sp.dig = []) : Sp.number (rst s a) = .bad 0 := by
  unfold Sp.number; exact if_neg fun hn => hn.1 h
theorem num_zero {s : ByteArray} {a k : Nat} (hak : a + 1 < k) (hk : k ≤ s.size) (h0 : s[a]'(by omega) = 48) (h : (rst s a).takeWhile Sp.dig = (rst s a).take (k - a)) : Sp.number (rst s a) = .bad 0 := by
  unfold Sp.number
  refine if_neg fun hn => ?_
  have h1 := hn.2.2 (by rw [h, rtake_head (by omega) hk, h0])
  have h2 := congrArg List.length h1
  rw [h, rtake_len hk] at h2
  simp at h2; omega
theorem num_ok {s : ByteArray} {a k : Nat} (hak : a < k) (hk : k ≤ s.size) (h18 : k - a ≤ 18) (h0 : s[a]'(by omega) = 48 → k = a + 1) (h : (rst s a).takeWhile Sp.dig = (rst s a).take (k - a)) : Sp.number (rst s a) = .ok (Sp.val ((rst s a).take (k - a))) (k - a) := by
  unfold Sp.number
  rw [h, rtake_len hk]
  refine if_pos ⟨fun e => ?_, by rw [rtake_len hk]; exact h18, fun e => ?_⟩
  · have := congrArg List.length e
    rw [rtake_len hk] at this; simp at this; omega
  · rw [rtake_head hak hk] at e
    obtain rfl := h0 (Option.some.inj e)
    have h2 : a < s.size := by omega
    rw [rst_cons h2, show a + 1 - a = 1 by omega, Option.some.inj e]; rfl
theorem tw_end' {q : UInt8 → Bool} {s : ByteArray} {a k : Nat} (hq : ∀ h : k < s.size, q s[k] = false) (h : (rst s a).takeWhile q = (rst s a).take (k - a) ++ (rst s k).takeWhile q) : (rst s a).takeWhile q = (rst s a).take (k - a) := by
  have e : (rst s k).takeWhile q = [] := by
    rcases Nat.lt_or_ge k s.size with hlt | hge
    · rw [rst_cons hlt, List.takeWhile_cons, hq hlt]; rfl
    · rw [rst_nil hge]; rfl
  rw [h, e, List.append_nil]
theorem dig_take {s : ByteArray} {a k : Nat} (h : (rst s a).takeWhile Sp.dig = (rst s a).take (k - a) ++ (rst s k).takeWhile Sp.dig) : ∀ b ∈ (rst s a).take (k - a), Sp.dig b = true := fun b hb =>
  Sp.tw_mem (p := Sp.dig) (rst s a) b (by rw [h]; exact List.mem_append_left _ hb)

/-- A number below 10 ^ 17, and a digit. -/
theorem val_small {d : List UInt8} (hd : ∀ b ∈ d, Sp.dig b = true) (hl : d.length ≤ 17) : Sp.val d < 100000000000000000 := by
  have h1 := Sp.val_lt d hd
  have h2 : 10 ^ d.length ≤ 10 ^ 17 := Nat.pow_le_pow_right (by omega) hl
  have e : (10 : Nat) ^ 17 = 100000000000000000 := by decide
  omega

set_option maxRecDepth 100000 in
set_option maxHeartbeats 4000000 in
theorem rxNumber_any (b : Nat) (s : ByteArray) (k : Nat) (w : World) (h : RxAt w b s k (-1)) :
    Calls Tryz.prog 49 #[.pointer (some ⟨b, 0, none⟩)] w (RxGo b s k (Sp.number (rst s k)) (fun n _ u => u = .int .i64 (n : Int)) (fun _ u => u = .int .i64 0) w) := by
  have H := Lib.hid h
  obtain ⟨c0, c1, c2⟩ := h.at
  have h2 : s.size ≤ 9223372036854775807 := h.2.2
  have hks : k ≤ s.size := h.2.1
  obtain ⟨Y, hY⟩ : ∃ Y, Y = Sp.number (rst s k) := ⟨_, rfl⟩
  rw [← hY]
  have HY := Lib.hid hY
  clear h hY
  go_enter Tryz.func49, Tryz.ntmps49
  go_wp2_with fail
  go_loopg [4] (s.size + 1 - k) (fun gk v wr => ∃ j : Nat, gk = s.size + 1 - j ∧ RxAt wr b s j (-1) ∧ k ≤ j ∧ j - k ≤ 18 ∧ v = .int .i64 ((Sp.val ((rst s k).take (j - k)) : Nat) : Int) ∧ (rst s k).takeWhile Sp.dig = (rst s k).take (j - k) ++ (rst s j).takeWhile Sp.dig ∧ Keep b [QT] w wr)
  case atStart => exact ⟨k, rfl, H.out, Nat.le_refl _, by omega, by rw [Nat.sub_self]; rfl, by rw [Nat.sub_self]; rfl, Keep.refl _ _ _⟩
  case round =>
    obtain ⟨j, rfl, r, hkj, h18, rfl, htw, kk⟩ := hrel
    have R := Lib.hid r
    have KK := Lib.hid kk
    have TW := Lib.hid htw
    have hjs : j ≤ s.size := r.2.1
    obtain ⟨d0, d1, d2⟩ := r.at
    have d3 := r.free 1
    have HN0 := Lib.hid (next_any b s j (-1) wr r)
    rw [nxt_live] at HN0
    have HN := Lib.hid fun n => next_any b s j (-1) (wr.drewN n) (r.drewN n)
    rw [nxt_live] at HN
    have HB := Lib.hid fun n => bad_any b s j (-1) k (wr.drewN n) (r.drewN n)
    have hl := rtake_len (s := s) (a := k) hjs
    have HD := Lib.hid (dig_take htw)
    clear c0 c1 c2 r kk htw
    by_cases hdg : ∃ hlt : j < s.size, Sp.dig s[j] = true
    · obtain ⟨hlt, hd⟩ := hdg
      have hc := of_decide_eq_true (show decide _ = true from hd)
      have hsn := rtake_snoc hkj hlt
      have HS := Lib.hid (show Sp.val ((rst s k).take (j + 1 - k)) = Sp.val ((rst s k).take (j - k)) * 10 + (s[j].toNat - 48) by rw [hsn, Sp.val_snoc])
      have HT := Lib.hid (tw_step hkj hlt hd TW.out)
      have HBig := Lib.hid fun h => HY.out.trans (num_big hkj h hlt hd TW.out)
      rw [rst_cons hlt, List.headD_cons] at HN0 HN
      have HV := Lib.hid fun h => val_small HD.out (by rw [hl]; exact h)
      clear hd hsn
      generalize Sp.val ((rst s k).take (j - k)) = V at *
      generalize s[j] = c at *
      have q1 : (48 : Int) ≤ (c.toNat : Int) := by omega
      have q2 : (c.toNat : Int) ≤ 57 := by omega
      have hw0 := IntWalk.i64_in ((j : Int) - (k : Int)) (by omega)
      by_cases hge : 18 ≤ j - k
      · have q3 : (18 : Int) ≤ (j : Int) - (k : Int) := by omega
        have HE := Lib.hid (HBig.out hge)
        clear hc hge hl h18
        go_wp2_with fail
        refine HN0.out.mono ?_
        rintro e w2 ⟨rfl, n2, rfl⟩
        go_wp2_with fail
        refine (HN.out n2).mono ?_
        rintro e w3 ⟨rfl, n3, rfl⟩
        go_wp2_with fail
        refine (HB.out (n2 + n3)).mono ?_
        rintro e w3 ⟨rfl, r3, k3⟩
        rw [noted_live (by omega)] at r3
        have R3 := Lib.hid r3
        have K3 := Lib.hid k3
        clear r3 k3
        go_wp2_with fail
        go_ret
        show RxGo b s k Y _ _ w _ _
        unfold RxGo
        rw [HE.out]
        exact ⟨_, rfl, (keep_drewN KK.out (n2 + n3)).trans K3.out, rfl, j, R3.out⟩
      · have q3 : ¬ (18 : Int) ≤ (j : Int) - (k : Int) := by omega
        have hv := HV.out (by omega)
        have hw1 := IntWalk.i64_in ((V : Int) * 10) (by omega)
        have hw2 := IntWalk.i64_in ((V : Int) * 10 + (c.toNat : Int)) (by omega)
        have hw3 := IntWalk.i64_in ((V : Int) * 10 + (c.toNat : Int) - 48) (by omega)
        have hw4 := IntWalk.i64_in ((j : Int) + 1) (by omega)
        have HC := Lib.hid hc
        have HGE := Lib.hid hge
        clear hc hge hl h18 hv
        go_wp2_with fail
        refine HN0.out.mono ?_
        rintro e w2 ⟨rfl, n2, rfl⟩
        go_wp2_with fail
        refine (HN.out n2).mono ?_
        rintro e w3 ⟨rfl, n3, rfl⟩
        go_wp2_with fail
        refine (HN.out (n2 + n3)).mono ?_
        rintro e w4 ⟨rfl, n4, rfl⟩
        have f1' : ((wr.drewN (n2 + n3)).drewN n4).frozen? ⟨b, 1, none⟩ = false := d3
        have f1'' : (wr.drewN (n2 + n3 + n4)).frozen? ⟨b, 1, none⟩ = false := d3
        go_wp2_with fail
        go_roundg (s.size + 1 - (j + 1))
        case measure => omega
        case rel =>
          have hge := HGE.out
          have hc := HC.out
          have st := (R.out.drewN (n2 + n3 + n4)).step (j + 1) hlt
          refine ⟨j + 1, rfl, ?_, by omega, by omega, ?_, HT.out, ?_⟩
          · exact st.1
          · rw [HS.out]; congr 1; omega
          · exact (keep_drewN KK.out _).trans st.2
    · have hnd : ∀ h : j < s.size, Sp.dig s[j] = false := fun h => by
        cases hq : Sp.dig s[j] with
        | false => rfl
        | true => exact absurd ⟨h, hq⟩ hdg
      have hcc : Sp.dig ((rst s j).headD 0) = false := by
        rcases Nat.lt_or_ge j s.size with h | h
        · rw [rst_cons h]; exact hnd h
        · rw [rst_nil h]; decide
      have hc := of_decide_eq_false (show decide _ = false from hcc)
      have HTE := Lib.hid (tw_end' hnd TW.out)
      generalize (rst s j).headD 0 = c at *
      clear hdg hnd hcc TW
      rcases Nat.eq_or_lt_of_le hkj with rfl | hlt
      · have HE := Lib.hid (HY.out.trans (num_none (by rw [HTE.out, Nat.sub_self]; rfl)))
        have p1 : ((k : Int) == (k : Int)) = true := by simp
        by_cases q1 : (48 : Int) ≤ (c.toNat : Int)
        · have q2 : ¬ (c.toNat : Int) ≤ 57 := by omega
          clear hc
          go_wp2_with fail
          refine HN0.out.mono ?_
          rintro e w2 ⟨rfl, n2, rfl⟩
          go_wp2_with fail
          refine (HN.out n2).mono ?_
          rintro e w3 ⟨rfl, n3, rfl⟩
          go_wp2_with fail
          refine (HB.out (n2 + n3)).mono ?_
          rintro e w3 ⟨rfl, r3, k3⟩
          rw [noted_live (by omega)] at r3
          have R3 := Lib.hid r3
          have K3 := Lib.hid k3
          clear r3 k3
          go_wp2_with fail
          go_ret
          show RxGo b s k Y _ _ w _ _
          unfold RxGo
          rw [HE.out]
          exact ⟨_, rfl, (keep_drewN KK.out (n2 + n3)).trans K3.out, rfl, k, R3.out⟩
        · skip
          clear hc
          go_wp2_with fail
          refine HN0.out.mono ?_
          rintro e w2 ⟨rfl, n2, rfl⟩
          go_wp2_with fail
          refine (HB.out n2).mono ?_
          rintro e w3 ⟨rfl, r3, k3⟩
          rw [noted_live (by omega)] at r3
          have R3 := Lib.hid r3
          have K3 := Lib.hid k3
          clear r3 k3
          go_wp2_with fail
          go_ret
          show RxGo b s k Y _ _ w _ _
          unfold RxGo
          rw [HE.out]
          exact ⟨_, rfl, (keep_drewN KK.out _).trans K3.out, rfl, k, R3.out⟩
      · have p1 : ((j : Int) == (k : Int)) = false := by rw [beq_eq_false_iff_ne]; omega
        have hks' : k < s.size := by omega
        have hw5 := IntWalk.i64_in ((k : Int) + 1) (by omega)
        have hkI : (k : Int) < (s.size : Int) := by omega
        by_cases h0 : s[k] = 48
        · have p2 := b_is' (n := 48) rfl h0
          by_cases hk1 : k + 1 < j
          · have p3 : (k : Int) + 1 < (j : Int) := by omega
            have HE := Lib.hid (HY.out.trans (num_zero hk1 hjs h0 HTE.out))
            clear h0
            by_cases q1 : (48 : Int) ≤ (c.toNat : Int)
            · have q2 : ¬ (c.toNat : Int) ≤ 57 := by omega
              clear hc
              go_wp2_with fail
              refine HN0.out.mono ?_
              rintro e w2 ⟨rfl, n2, rfl⟩
              go_wp2_with fail
              refine (HN.out n2).mono ?_
              rintro e w3 ⟨rfl, n3, rfl⟩
              go_wp2_with fail
              refine (HB.out (n2 + n3)).mono ?_
              rintro e w3 ⟨rfl, r3, k3⟩
              rw [noted_live (by omega)] at r3
              have R3 := Lib.hid r3
              have K3 := Lib.hid k3
              clear r3 k3
              go_wp2_with fail
              go_ret
              show RxGo b s k Y _ _ w _ _
              unfold RxGo
              rw [HE.out]
              exact ⟨_, rfl, (keep_drewN KK.out (n2 + n3)).trans K3.out, rfl, j, R3.out⟩
            · skip
              clear hc
              go_wp2_with fail
              refine HN0.out.mono ?_
              rintro e w2 ⟨rfl, n2, rfl⟩
              go_wp2_with fail
              refine (HB.out n2).mono ?_
              rintro e w3 ⟨rfl, r3, k3⟩
              rw [noted_live (by omega)] at r3
              have R3 := Lib.hid r3
              have K3 := Lib.hid k3
              clear r3 k3
              go_wp2_with fail
              go_ret
              show RxGo b s k Y _ _ w _ _
              unfold RxGo
              rw [HE.out]
              exact ⟨_, rfl, (keep_drewN KK.out _).trans K3.out, rfl, j, R3.out⟩
          · have p3 : ¬ (k : Int) + 1 < (j : Int) := by omega
            have HE := Lib.hid (HY.out.trans (num_ok hlt hjs h18 (fun _ => by omega) HTE.out))
            clear h0
            generalize Sp.val ((rst s k).take (j - k)) = V at *
            by_cases q1 : (48 : Int) ≤ (c.toNat : Int)
            · have q2 : ¬ (c.toNat : Int) ≤ 57 := by omega
              clear hc
              go_wp2_with fail
              refine HN0.out.mono ?_
              rintro e w2 ⟨rfl, n2, rfl⟩
              go_wp2_with fail
              refine (HN.out n2).mono ?_
              rintro e w3 ⟨rfl, n3, rfl⟩
              go_wp2_with fail
              go_ret
              show RxGo b s k Y _ _ w _ _
              unfold RxGo
              rw [HE.out]
              exact ⟨_, rfl, keep_drewN KK.out (n2 + n3), rfl, by rw [show k + (j - k) = j by omega]; exact R.out⟩
            · skip
              clear hc
              go_wp2_with fail
              refine HN0.out.mono ?_
              rintro e w2 ⟨rfl, n2, rfl⟩
              go_wp2_with fail
              go_ret
              show RxGo b s k Y _ _ w _ _
              unfold RxGo
              rw [HE.out]
              exact ⟨_, rfl, keep_drewN KK.out _, rfl, by rw [show k + (j - k) = j by omega]; exact R.out⟩
        · have p2 := b_not' (n := 48) rfl h0
          have HE := Lib.hid (HY.out.trans (num_ok hlt hjs h18 (fun h => absurd h h0) HTE.out))
          clear h0
          generalize Sp.val ((rst s k).take (j - k)) = V at *
          by_cases q1 : (48 : Int) ≤ (c.toNat : Int)
          · have q2 : ¬ (c.toNat : Int) ≤ 57 := by omega
            clear hc
            go_wp2_with fail
            refine HN0.out.mono ?_
            rintro e w2 ⟨rfl, n2, rfl⟩
            go_wp2_with fail
            refine (HN.out n2).mono ?_
            rintro e w3 ⟨rfl, n3, rfl⟩
            go_wp2_with fail
            go_ret
            show RxGo b s k Y _ _ w _ _
            unfold RxGo
            rw [HE.out]
            exact ⟨_, rfl, keep_drewN KK.out (n2 + n3), rfl, by rw [show k + (j - k) = j by omega]; exact R.out⟩
          · skip
            clear hc
            go_wp2_with fail
            refine HN0.out.mono ?_
            rintro e w2 ⟨rfl, n2, rfl⟩
            go_wp2_with fail
            go_ret
            show RxGo b s k Y _ _ w _ _
            unfold RxGo
            rw [HE.out]
            exact ⟨_, rfl, keep_drewN KK.out _, rfl, by rw [show k + (j - k) = j by omega]; exact R.out⟩
end Go.Proofs.YtadookafnfnaoaaGreatDoor
/- The document's reader: attributes. -/
namespace Go.Proofs.YtadookafnfnaoaaGreatDoor
open Go.RowKit Ch

theorem refPlain_any (x : UInt8) (w : World) : Calls Tryz.prog 99 #[.int .u8 x.toNat] w fun e w' => e = .returned (.bool (Sp.kb x)) ∧ w' = w := by
  have hx := Sp.b_lt x
  obtain ⟨q, hq⟩ : ∃ q, q = Sp.kb x := ⟨_, rfl⟩
  rw [← hq]
  have Hq := Lib.hid hq
  clear hq
  go_enter Tryz.func99, Tryz.ntmps99
  go_wp2
  all_goals
    go_ret
    refine ⟨congrArg (fun b => Ending.returned (Value.bool b)) ?_, by trivial⟩
    rw [Hq.out]
    clear Hq
    unfold Sp.kb
    generalize x.toNat = n at *
    rw [Bool.eq_iff_iff]
    simp
    try omega
theorem mustA_any (b : Nat) (s : ByteArray) (k : Nat) (c : UInt8) (w : World) (h : RxAt w b s k (-1)) (hc : c ≠ 0) :
    Calls Tryz.prog 70 #[.pointer (some ⟨b, 0, none⟩), .int .u8 c.toNat] w fun e w' => e = .returned (.tuple #[]) ∧ Keep b [QT] w w' ∧
      ∃ J X, RxAt w' b s J X ∧ (((rst s k).head? = some c ∧ J = k + 1 ∧ X = -1) ∨ (¬ (rst s k).head? = some c ∧ X = (k : Int))) := by
  refine (mustX_any b s k c w h hc).mono ?_
  intro e w' h1
  unfold RxGo at h1
  by_cases hh : (rst s k).head? = some c
  · rw [Sp.must_yes hh] at h1
    obtain ⟨u, rfl, kk, rfl, r⟩ := h1
    exact ⟨rfl, kk, _, _, r, .inl ⟨hh, rfl, rfl⟩⟩
  · rw [Sp.must_no hh] at h1
    obtain ⟨u, rfl, kk, rfl, j, r⟩ := h1
    exact ⟨rfl, kk, _, _, r, .inr ⟨hh, by omega⟩⟩
theorem quotedA_any (b : Nat) (s : ByteArray) (k : Nat) (x : Int) (w : World) (h : RxAt w b s k x) (hx : x = -1 ∨ 0 ≤ x) (hz : s.size ≤ 1048576) :
    Calls Tryz.prog 45 #[.pointer (some ⟨b, 0, none⟩)] w fun e w' => ∃ t, e = .returned (.string t) ∧ Keep b [QT] w w' ∧
      ∃ J X, RxAt w' b s J X ∧ ((x = -1 ∧ X = -1 ∧ ∃ v n, Sp.quoted (rst s k) = .ok v n ∧ t = Sp.ba v ∧ J = k + n) ∨ (x = -1 ∧ ∃ m, Sp.quoted (rst s k) = .bad m ∧ X = ((k + m : Nat) : Int)) ∨ (0 ≤ x ∧ X = x)) := by
  rcases hx with rfl | hx
  · refine (quotedX_any b s k w h hz).mono ?_
    intro e w' h1
    unfold QuotedOut RxGo at h1
    cases hq : Sp.quoted (rst s k) with
    | ok v n =>
      rw [hq] at h1
      obtain ⟨u, rfl, kk, rfl, r⟩ := h1
      exact ⟨_, rfl, kk, _, _, r, .inl ⟨rfl, rfl, v, n, rfl, rfl, rfl⟩⟩
    | bad m =>
      rw [hq] at h1
      obtain ⟨u, rfl, kk, ⟨t, rfl⟩, j, r⟩ := h1
      exact ⟨_, rfl, kk, _, _, r, .inr (.inl ⟨rfl, m, rfl, rfl⟩)⟩
  · refine (quotedD_any b s k x w h hx).mono ?_
    rintro e w' ⟨u, rfl, kk, ⟨t, rfl⟩, j, r⟩
    exact ⟨_, rfl, kk, _, _, r, .inr (.inr ⟨hx, rfl⟩)⟩

/-- What the document's attrs answers. -/
def RxAttrs (b : Nat) (s : ByteArray) (k : Nat) (w : World) : Ending → World → Prop :=
  RxGo b s k (Sp.opt (rst s k)) (valAs w.heap.size) (fun _ u => u = .slice none 0 0) w
theorem rxattrs_dead (b : Nat) (s : ByteArray) (k : Nat) (x : Int) (w : World) (h : RxAt w b s k x) (hx : 0 ≤ x) :
    Calls Tryz.prog 79 #[.pointer (some ⟨b, 0, none⟩)] w (RxDead b s x (fun _ u => u = .slice none 0 0) w) := by
  have HN := Lib.hid fun n => next_any b s k x (w.drewN n) (h.drewN n)
  rw [nxt_dead hx] at HN
  have H := Lib.hid h
  clear h
  go_enter Tryz.func79, Tryz.ntmps79
  go_wp2_with fail
  refine (HN.out 0).mono ?_
  rintro e w1 ⟨rfl, n, rfl⟩
  go_wp2_with fail
  go_ret
  exact ⟨_, rfl, keep_drewN (Keep.refl _ _ _) n, rfl, k, H.out.drewN n⟩
theorem rxattrs_none (b : Nat) (s : ByteArray) (k : Nat) (w : World) (h : RxAt w b s k (-1)) (hd : ¬ (rst s k).head? = some 123) :
    Calls Tryz.prog 79 #[.pointer (some ⟨b, 0, none⟩)] w (RxAttrs b s k w) := by
  have HN := Lib.hid (next_any b s k (-1) w h)
  rw [nxt_live] at HN
  have hne : (rst s k).headD 0 ≠ 123 := fun e => by
    cases hr : rst s k with
    | nil => rw [hr] at e; exact absurd e (by decide)
    | cons y t => rw [hr] at e hd; exact hd (congrArg some e)
  have hq := b_not' (n := 123) rfl hne
  have H := Lib.hid h
  have HE := Lib.hid (show Sp.opt (rst s k) = .ok [] 0 from if_neg hd)
  generalize (rst s k).headD 0 = c at *
  clear h hd hne
  go_enter Tryz.func79, Tryz.ntmps79
  go_wp2_with fail
  refine HN.out.mono ?_
  rintro e w1 ⟨rfl, n, rfl⟩
  go_wp2_with fail
  go_ret
  show RxAttrs b s k w _ _
  unfold RxAttrs RxGo
  rw [HE.out]
  exact ⟨_, rfl, keep_drewN (Keep.refl _ _ _) n, own_nil _ _, H.out.drewN n⟩

theorem attr_sum {s : ByteArray} {j J1 J2 : Nat} {d : List UInt8} {t : ByteArray} {X1 X2 : Int} (hd : (rst s j).takeWhile Sp.kb = d) (hne : d ≠ [])
    (h1 : ((rst s (j + d.length)).head? = some 58 ∧ J1 = j + d.length + 1 ∧ X1 = -1) ∨ (¬ (rst s (j + d.length)).head? = some 58 ∧ X1 = ((j + d.length : Nat) : Int)))
    (h2 : (X1 = -1 ∧ X2 = -1 ∧ ∃ v n, Sp.quoted (rst s J1) = .ok v n ∧ t = Sp.ba v ∧ J2 = J1 + n) ∨ (X1 = -1 ∧ ∃ m, Sp.quoted (rst s J1) = .bad m ∧ X2 = ((J1 + m : Nat) : Int)) ∨ (0 ≤ X1 ∧ X2 = X1)) :
    (X2 = -1 ∧ ∃ n, Sp.attr (rst s j) = .ok (Sp.ba d, t) n ∧ J2 = j + n ∧ 1 ≤ n) ∨ ∃ m : Nat, Sp.attr (rst s j) = .bad m ∧ X2 = ((j + m : Nat) : Int) := by
  have hne' : (rst s j).takeWhile Sp.kb ≠ [] := by rw [hd]; exact hne
  rcases h1 with ⟨hh, rfl, rfl⟩ | ⟨hh, rfl⟩
  · have hh' : ((rst s j).drop ((rst s j).takeWhile Sp.kb).length).head? = some 58 := by rw [hd, rst_drop]; exact hh
    have e3 : (rst s j).drop (((rst s j).takeWhile Sp.kb).length + 1) = rst s (j + d.length + 1) := by rw [hd, rst_drop]; rfl
    rcases h2 with ⟨_, rfl, v, n, hq, rfl, rfl⟩ | ⟨_, m, hq, rfl⟩ | ⟨h, _⟩
    · refine .inl ⟨rfl, d.length + (1 + n), ?_, by omega, by omega⟩
      rw [Sp.attr_ok hne' hh' (by rw [e3]; exact hq), hd]
    · refine .inr ⟨d.length + (1 + m), ?_, by omega⟩
      rw [Sp.attr_bad2 hne' hh' (by rw [e3]; exact hq), hd]
    · omega
  · have hh' : ¬ ((rst s j).drop ((rst s j).takeWhile Sp.kb).length).head? = some 58 := by rw [hd, rst_drop]; exact hh
    refine .inr ⟨d.length, ?_, ?_⟩
    · rw [Sp.attr_bad1 hne' hh', hd]
    · rcases h2 with ⟨h, _⟩ | ⟨h, _⟩ | ⟨_, rfl⟩
      · omega
      · omega
      · rfl

end Go.Proofs.YtadookafnfnaoaaGreatDoor
