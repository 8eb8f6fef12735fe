import Derived.Test.YtadookafnfnaoaaGreatDoorGS19
import Derived.Test.YtadookafnfnaoaaGreatDoorGS11
import Derived.Test.YtadookafnfnaoaaGreatDoorGS15
import Derived.Test.YtadookafnfnaoaaGreatDoorGS4
import Derived.Test.YtadookafnfnaoaaGreatDoorRows
/- The document's Is. -/
namespace Go.Proofs.YtadookafnfnaoaaGreatDoor
open Go.RowKit Ch

theorem refNormal_ok (f : Int) (v : Value) (ops : List OpD) (w : World) (hv : OpRow w v ops) (hz : OSized ops) (hts : TSmall ops) (he : toE f ops = 0) :
    Calls Tryz.prog 23 #[chAgg f v] w fun e w' => ∃ v', e = .returned (.tuple #[chAgg f v', .int .i64 0]) ∧ OwnOps w' w.heap.size v' (norm ops) ∧ Below w.heap.size w w' :=
  (refNormal_any f v ops w hv hz hts).mono fun e w' h => by
    rcases h with ⟨h0, _⟩ | ⟨_, h⟩
    · exact absurd he h0
    · exact h
theorem refNormal_bad (f : Int) (v : Value) (ops : List OpD) (w : World) (hv : OpRow w v ops) (hz : OSized ops) (hts : TSmall ops) (he : toE f ops ≠ 0) :
    Calls Tryz.prog 23 #[chAgg f v] w fun e w' => e = .returned (.tuple #[chAgg 0 (.slice none 0 0), .int .i64 (toE f ops)]) ∧ Below w.heap.size w w' :=
  (refNormal_any f v ops w hv hz hts).mono fun e w' h => by
    rcases h with ⟨_, h⟩ | ⟨h0, _⟩
    · exact h
    · exact absurd h0 he

set_option maxRecDepth 100000 in
set_option maxHeartbeats 2000000 in
theorem refIs_any (f : Int) (v : Value) (ops : List OpD) (w : World) (hv : OpRow w v ops) (hz : OSized ops) (hts : TSmall ops) :
    Calls Tryz.prog 24 #[chAgg f v] w (OutB w (isB f ops)) := by
  have Hv := Lib.hid hv
  obtain ⟨a, c, rfl⟩ := hv.shape
  obtain ⟨W, hW⟩ : ∃ W, W = w.alloc (.cells #[.int .i64 f, .slice a ops.length c] 24) := ⟨_, rfl⟩
  have BW := Lib.hid (show Below w.heap.size w W by rw [hW]; exact below_box _ _)
  have b0 : W.heap[w.heap.size]? = some (.cells #[.int .i64 f, .slice a ops.length c] 24 (0, 0)) := by rw [hW]; exact heap_new _ _
  have c0 : W.cell? ⟨w.heap.size, 0, none⟩ = some (.int .i64 f) := (Lib.cell_of_heap b0 0).trans rfl
  have c1 : W.cell? ⟨w.heap.size, 1, none⟩ = some (.slice a ops.length c) := (Lib.cell_of_heap b0 1).trans rfl
  have HW := Lib.hid hW
  have HB0 := Lib.hid b0
  by_cases he : toE f ops = 0
  · have HC := Lib.hid (refNormal_ok f _ ops W (Hv.out.below BW.out) hz hts he)
    have HR := Lib.hid (show isB f ops = sameCh f f ops (norm ops) by unfold isB sameCh; simp [he])
    clear hv hz hts hW b0 he
    go_enter Tryz.func24, Tryz.ntmps24
    go_wp2_with fail
    rw [← HW.out]
    go_wp2_with fail
    refine HC.out.mono ?_
    rintro e w1 ⟨v1, rfl, O1, b1⟩
    obtain ⟨a1, k1, rfl⟩ := O1.row.shape
    have x0 := (b1.block _ (lt_of_heap HB0.out)).trans HB0.out
    have d0 : w1.cell? ⟨w.heap.size, 0, none⟩ = some (.int .i64 f) := (Lib.cell_of_heap x0 0).trans rfl
    have d1 : w1.cell? ⟨w.heap.size, 1, none⟩ = some (.slice a ops.length c) := (Lib.cell_of_heap x0 1).trans rfl
    have hlt : w.heap.size < w1.heap.size := lt_of_heap x0
    have B1 := Lib.hid (BW.out.trans (b1.mono BW.out.size))
    obtain ⟨X, hX⟩ : ∃ X, X = w1.alloc (.cells #[.int .i64 f, .slice a1 (norm ops).length k1] 24) := ⟨_, rfl⟩
    have BX := Lib.hid (show Below w1.heap.size w1 X by rw [hX]; exact below_box _ _)
    have HX := Lib.hid hX
    have y0 : X.cell? ⟨w1.heap.size, 0, none⟩ = some (.int .i64 f) := by rw [hX]; go_simp
    have y1 : X.cell? ⟨w1.heap.size, 1, none⟩ = some (.slice a1 (norm ops).length k1) := by rw [hX]; go_simp
    have y2 := (BX.out.cell (p := ⟨w.heap.size, 0, none⟩) (by exact hlt)).trans d0
    have y3 := (BX.out.cell (p := ⟨w.heap.size, 1, none⟩) (by exact hlt)).trans d1
    have HS := Lib.hid (refSameCh_any f f (.slice a ops.length c) (.slice a1 (norm ops).length k1) ops (norm ops) X ((Hv.out.below B1.out).below (BX.out)) (O1.row.below BX.out))
    clear O1 b1 x0 c0 c1 hX
    go_wp2_with fail
    rw [← HX.out]
    go_wp2_with fail
    refine HS.out.mono ?_
    rintro e w2 ⟨rfl, b2⟩
    have B2 := Lib.hid (B1.out.trans ((BX.out.trans (b2.mono BX.out.size)).mono B1.out.size))
    clear b2
    go_wp2_with fail
    go_ret
    exact outB_mk HR.out B2.out
  · have HC := Lib.hid (refNormal_bad f _ ops W (Hv.out.below BW.out) hz hts he)
    have HR := Lib.hid (show isB f ops = false from decide_eq_false fun h => he h.1)
    have t1 : (toE f ops == 0) = false := by rw [beq_eq_false_iff_ne]; exact he
    clear hv hz hts hW b0 he
    go_enter Tryz.func24, Tryz.ntmps24
    go_wp2_with fail
    rw [← HW.out]
    go_wp2_with fail
    refine HC.out.mono ?_
    rintro e w1 ⟨rfl, b1⟩
    have B1 := Lib.hid (BW.out.trans (b1.mono BW.out.size))
    clear b1 c0 c1
    go_wp2_with fail
    go_ret
    exact outB_mk HR.out (B1.out.alloc B1.out.size _)

end Go.Proofs.YtadookafnfnaoaaGreatDoor
/- Operations few and short enough to be copied. -/
namespace Go.Proofs.YtadookafnfnaoaaGreatDoor
open Go.RowKit Ch

def SmallO (ops : List OpD) : Prop := ops.length ≤ 1048576 ∧ ∀ o ∈ ops, o.text.size ≤ 1048576 ∧ SmallA o.attrs
theorem smallO_ok {f : Int} {ops : List OpD} (h : OkC f ops) : SmallO ops := ⟨by have := h.2.2.1; omega, fun o ho => by
  have hv := vop_of h ho
  have := hv.text
  exact ⟨by omega, hv.attrs⟩⟩
theorem small_sized {ops : List OpD} (h : SmallO ops) : OSized ops := fun o ho => by
  have := h.2 o ho
  exact ⟨by unfold maxLen; omega, this.2.sized⟩
end Go.Proofs.YtadookafnfnaoaaGreatDoor
/- The law SpellBack, walked. -/
namespace Go.Proofs.YtadookafnfnaoaaGreatDoor
open Go.RowKit Ch

theorem ba_nil : (Sp.ba []).toList.isEmpty = true := by rw [ByteArray.toList_eq]; rfl

set_option maxRecDepth 100000 in
set_option maxHeartbeats 8000000 in
theorem back_walk4 (f : Int) (v : Value) (ops : List OpD) (w : World) (hv : OpRow w v ops) (hz : OSized ops) (hts : TSmall ops) (hs : Std w) :
    Calls Tryz.prog 5 #[chAgg f v] w (OutB w true) := by
  have HV := Lib.hid hv
  have HS := Lib.hid hs
  obtain ⟨aa, acap, rfl⟩ := hv.shape
  obtain ⟨W, hW⟩ : ∃ W, W = w.alloc (.cells #[.int .i64 f, .slice aa ops.length acap] 24) := ⟨_, rfl⟩
  have bW := show Below w.heap.size w W by rw [hW]; exact below_box _ _
  have BW := Lib.hid bW
  have wh := Lib.hid (show W.heap[w.heap.size]? = some (.cells #[.int .i64 f, .slice aa ops.length acap] 24 (0, 0)) by rw [hW]; exact heap_new _ _)
  have SW := hs.keep bW
  have HAW := Lib.hid (awake4_any W SW.pow SW.syn SW.pl SW.sl)
  have HW := Lib.hid hW
  clear hv hs hW bW SW
  go_enter Tryz.func5, Tryz.ntmps5
  go_wp2_with fail
  rw [← HW.out]
  refine HAW.out.mono ?_
  rintro e w1 ⟨rfl, b⟩
  have B1 := Lib.hid (BW.out.trans (b.mono BW.out.size))
  have wh1 := Lib.hid ((b.block _ (lt_of_heap wh.out)).trans wh.out)
  have c0 : w1.cell? ⟨w.heap.size, 0, none⟩ = some (.int .i64 f) := (Lib.cell_of_heap wh1.out 0).trans rfl
  have c1 : w1.cell? ⟨w.heap.size, 1, none⟩ = some (.slice aa ops.length acap) := (Lib.cell_of_heap wh1.out 1).trans rfl
  have S1 := HS.out.keep B1.out
  have HP := Lib.hid (print_any f _ ops w1 (HV.out.below B1.out) hz S1.pow S1.pl)
  clear b S1
  go_wp2_with fail
  refine HP.out.mono ?_
  rintro e w2 ⟨rfl, b⟩
  have B2 := Lib.hid (B1.out.trans (b.mono B1.out.size))
  have wh2 := Lib.hid ((b.block _ (lt_of_heap wh1.out)).trans wh1.out)
  clear b c0 c1
  have c0 : w2.cell? ⟨w.heap.size, 0, none⟩ = some (.int .i64 f) := (Lib.cell_of_heap wh2.out 0).trans rfl
  have c1 : w2.cell? ⟨w.heap.size, 1, none⟩ = some (.slice aa ops.length acap) := (Lib.cell_of_heap wh2.out 1).trans rfl
  by_cases hpr : (Sp.printF f ops).1 = 0
  · obtain ⟨h1, h2⟩ := Sp.print_parse hpr
    have HN := Lib.hid (refNormal_ok f _ ops w2 (HV.out.below B2.out) hz hts h1)
    have HPF := Lib.hid h2
    generalize hpf : Sp.printF f ops = pf at *
    clear h1 h2
    have hsz : (Sp.ba pf.2).size ≤ maxLen := by
      have := (Sp.parse_print (s := pf.2) (by rw [HPF.out])).2.2.2
      rw [size_data, Sp.data_ba]; unfold maxLen; omega
    go_wp2_with fail
    refine HN.out.mono ?_
    rintro e w3 ⟨v3, rfl, o3, b⟩
    obtain ⟨na, nc, rfl⟩ := o3.row.shape
    have B3 := Lib.hid (B2.out.trans (b.mono B2.out.size))
    obtain ⟨Z, hZ⟩ : ∃ Z, Z = w3.alloc (.cells #[.int .i64 f, .slice na (norm ops).length nc] 24) := ⟨_, rfl⟩
    have bZ := show Below w3.heap.size w3 Z by rw [hZ]; exact below_box _ _
    have HZ := Lib.hid hZ
    have zn := Lib.hid (show Z.heap[w3.heap.size]? = some (.cells #[.int .i64 f, .slice na (norm ops).length nc] 24 (0, 0)) by rw [hZ]; exact heap_new _ _)
    have BZ := Lib.hid (B3.out.trans (bZ.mono B3.out.size))
    have OZ := Lib.hid (o3.below bZ)
    have SZ := HS.out.keep BZ.out
    have HPa := parse_any (Sp.ba pf.2) Z hsz SZ.syn SZ.sl
    rw [show ParseOut Z (Sp.ba pf.2) = fun e w' => ∃ v, e = .returned (.tuple #[chAgg f v, .agg #[.int .i64 0, .int .i64 0]]) ∧ OwnOps w' Z.heap.size v (norm ops) ∧ Below Z.heap.size Z w' by unfold ParseOut; rw [Sp.data_ba, HPF.out]] at HPa
    have HPa := Lib.hid HPa
    clear o3 b hZ bZ SZ
    go_wp2_with fail
    rw [← HZ.out]
    refine HPa.out.mono ?_
    rintro e w4 ⟨v4, rfl, o4, b⟩
    obtain ⟨da, dc, rfl⟩ := o4.row.shape
    have z4 := (b.block _ (lt_of_heap zn.out)).trans zn.out
    have z0 : w4.cell? ⟨w3.heap.size, 0, none⟩ = some (.int .i64 f) := (Lib.cell_of_heap z4 0).trans rfl
    have z1 : w4.cell? ⟨w3.heap.size, 1, none⟩ = some (.slice na (norm ops).length nc) := (Lib.cell_of_heap z4 1).trans rfl
    have lz := lt_of_heap z4
    have lne : w3.heap.size ≠ w4.heap.size := by omega
    have lne2 : w3.heap.size ≠ w4.heap.size + 1 := by omega
    obtain ⟨Y, hY⟩ : ∃ Y, Y = (w4.alloc (.cells #[.int .i64 f, .slice da (norm ops).length dc] 24)).alloc (.cells #[.int .i64 0, .int .i64 0] 34) := ⟨_, rfl⟩
    have bY := show Below w4.heap.size w4 Y by rw [hY]; exact below_alloc (below_box _ _) (Nat.le_refl _) _
    have HY := Lib.hid hY
    have B4 := Lib.hid (BZ.out.trans (b.mono BZ.out.size))
    have BY := Lib.hid (B4.out.trans (bY.mono B4.out.size))
    have y1 := Lib.hid (show Y.heap[w4.heap.size + 1]? = some (.cells #[.int .i64 0, .int .i64 0] 34 (0, 0)) by rw [hY]; have := heap_new (w4.alloc (.cells #[.int .i64 f, .slice da (norm ops).length dc] 24)) (.cells #[.int .i64 0, .int .i64 0] 34); simpa using this)
    have HSm := refSameCh_any f f (.slice da (norm ops).length dc) (.slice na (norm ops).length nc) (norm ops) (norm ops) Y (o4.row.below bY) ((OZ.out.row.below b).below bY)
    rw [show sameCh f f (norm ops) (norm ops) = true from decide_eq_true ⟨rfl, rfl⟩] at HSm
    have HSm := Lib.hid HSm
    clear o4 b z4 hY bY
    go_wp2_with fail
    rw [← HY.out]
    refine HSm.out.mono ?_
    rintro e w5 ⟨rfl, b⟩
    have q1 := (b.block _ (lt_of_heap y1.out)).trans y1.out
    have d0 : w5.cell? ⟨w4.heap.size + 1, 0, none⟩ = some (.int .i64 0) := (Lib.cell_of_heap q1 0).trans rfl
    have d1 : w5.cell? ⟨w4.heap.size + 1, 1, none⟩ = some (.int .i64 0) := (Lib.cell_of_heap q1 1).trans rfl
    have B5 := Lib.hid (BY.out.trans (b.mono BY.out.size))
    clear b q1
    go_wp2_with fail
    go_ret
    exact ⟨rfl, B5.out⟩
  · obtain ⟨h2, h1⟩ := Sp.print_bad hpr
    have hpb : ((Sp.printF f ops).1 == 0) = false := by rw [beq_eq_false_iff_ne]; exact hpr
    have hem := ba_nil
    have HN := Lib.hid (refNormal_any f _ ops w2 (HV.out.below B2.out) hz hts)
    rw [h2] at *
    clear h2
    generalize (Sp.printF f ops).1 = pc at *
    rcases h1 with h1 | ⟨h1, h3⟩
    · subst h1
      have hee : (toE f ops == toE f ops) = true := by simp
      have HN2 := Lib.hid (refNormal_bad f _ ops w2 (HV.out.below B2.out) hz hts hpr)
      generalize toE f ops = t at *
      clear hpr
      go_wp2_with fail
      refine HN2.out.mono ?_
      rintro e w3 ⟨rfl, b⟩
      have B3 := Lib.hid (B2.out.trans (b.mono B2.out.size))
      clear b
      go_wp2_with fail
      go_ret
      exact ⟨rfl, below_alloc B3.out (Nat.le_refl _) _⟩
    · subst h3
      have HN2 := Lib.hid (refNormal_ok f _ ops w2 (HV.out.below B2.out) hz hts h1)
      go_wp2_with fail
      refine HN2.out.mono ?_
      rintro e w3 ⟨v3, rfl, o3, b⟩
      obtain ⟨na, nc, rfl⟩ := o3.row.shape
      have B3 := Lib.hid (B2.out.trans (b.mono B2.out.size))
      clear b o3
      go_wp2_with fail
      go_ret
      exact ⟨rfl, below_alloc B3.out (Nat.le_refl _) _⟩
theorem smallO_t {ops : List OpD} (h : SmallO ops) : TSmall ops := fun o ho => (h.2 o ho).1
theorem back_walkB (f : Int) (v : Value) (ops : List OpD) (w : World) (hv : OpRow w v ops) (hz : SmallO ops) (hs : Std w) :
    Calls Tryz.prog 5 #[chAgg f v] w (OutB w true) := back_walk4 f v ops w hv (small_sized hz) (smallO_t hz) hs
end Go.Proofs.YtadookafnfnaoaaGreatDoor
/- The law SpellForm, walked. -/
namespace Go.Proofs.YtadookafnfnaoaaGreatDoor
open Go.RowKit Ch

theorem parse_small {s : ByteArray} (h : (Sp.parseF s.data.toList).code = 0) : SmallO (Sp.parseF s.data.toList).ops := by
  obtain ⟨h1, h2, _, _⟩ := Sp.parse_print h
  rw [h2]
  exact smallO_ok (norm_ok ((toE_iff _ _).1 h1)).1

set_option maxRecDepth 100000 in
set_option maxHeartbeats 8000000 in
theorem form_walk4 (s : ByteArray) (w : World) (hsz : s.size ≤ maxLen) (hs : Std w) :
    Calls Tryz.prog 6 #[.string s] w (OutB w true) := by
  have HS := Lib.hid hs
  have HAW := Lib.hid (awake4_any w hs.pow hs.syn hs.pl hs.sl)
  clear hs
  go_enter Tryz.func6, Tryz.ntmps6
  go_wp2_with fail
  refine HAW.out.mono ?_
  rintro e w1 ⟨rfl, b⟩
  have B1 := Lib.hid b
  have S1 := HS.out.keep b
  have HP := Lib.hid (parse_any s w1 hsz S1.syn S1.sl)
  clear b S1
  go_wp2_with fail
  refine HP.out.mono ?_
  rintro e w2 ⟨v2, rfl, o2, b⟩
  obtain ⟨na, nc, rfl⟩ := o2.row.shape
  have B2 := Lib.hid (B1.out.trans (b.mono B1.out.size))
  have O2 := Lib.hid o2
  clear b o2 HP
  by_cases hc : (Sp.parseF s.data.toList).code = 0
  · obtain ⟨h1, h2, h3, h4⟩ := Sp.parse_print hc
    have HZ := Lib.hid (parse_small hc)
    have HIs := Lib.hid (show isB (Sp.parseF s.data.toList).fr (Sp.parseF s.data.toList).ops = true from decide_eq_true ⟨h1, h2⟩)
    have HPr := Lib.hid h3
    have cs0 : ((Sp.parseF s.data.toList).code == 0) = true := by rw [hc]; rfl
    clear h1 h2 h3 h4
    generalize Sp.parseF s.data.toList = P at *
    obtain ⟨Y, hY⟩ : ∃ Y, Y = (w2.alloc (.cells #[.int .i64 P.fr, .slice na P.ops.length nc] 24)).alloc (.cells #[.int .i64 0, .int .i64 P.at_] 34) := ⟨_, rfl⟩
    have bY := show Below w2.heap.size w2 Y by rw [hY]; exact below_alloc (below_box _ _) (Nat.le_refl _) _
    have HY := Lib.hid hY
    have y0 := Lib.hid (show Y.heap[w2.heap.size]? = some (.cells #[.int .i64 P.fr, .slice na P.ops.length nc] 24 (0, 0)) by rw [hY, Lib.alloc_old _ _ _ (by simp)]; exact heap_new w2 _)
    have BY := Lib.hid (B2.out.trans (bY.mono B2.out.size))
    have OY := Lib.hid (O2.out.below bY)
    have HI := refIs_any P.fr (.slice na P.ops.length nc) P.ops Y OY.out.row (small_sized HZ.out) (smallO_t HZ.out)
    rw [HIs.out] at HI
    have HI := Lib.hid HI
    have hss : (s.toList == s.toList) = true := by simp
    clear hY bY
    go_wp2_with fail
    rw [← HY.out]
    refine HI.out.mono ?_
    rintro e w3 ⟨rfl, b⟩
    have q0 := (b.block _ (lt_of_heap y0.out)).trans y0.out
    have c0 : w3.cell? ⟨w2.heap.size, 0, none⟩ = some (.int .i64 P.fr) := (Lib.cell_of_heap q0 0).trans rfl
    have c1 : w3.cell? ⟨w2.heap.size, 1, none⟩ = some (.slice na P.ops.length nc) := (Lib.cell_of_heap q0 1).trans rfl
    have B3 := Lib.hid (BY.out.trans (b.mono BY.out.size))
    have S3 := HS.out.keep B3.out
    have HP3 := print_any P.fr (.slice na P.ops.length nc) P.ops w3 (OY.out.below b).row (small_sized HZ.out) S3.pow S3.pl
    rw [show PrintOut w3 P.fr P.ops = fun e w' => e = .returned (.tuple #[.string s, .int .i64 0]) ∧ Below w3.heap.size w3 w' by unfold PrintOut; rw [HPr.out, Sp.ba_data]] at HP3
    have HP3 := Lib.hid HP3
    clear b q0 S3 HI
    go_wp2_with fail
    refine HP3.out.mono ?_
    rintro e w4 ⟨rfl, b⟩
    have B4 := Lib.hid (B3.out.trans (b.mono B3.out.size))
    clear b c0 c1
    go_wp2_with fail
    go_ret
    exact ⟨rfl, B4.out⟩
  · obtain ⟨h1, h2⟩ := Sp.parse_bad hc
    have cs0 : ((Sp.parseF s.data.toList).code == 0) = false := by rw [beq_eq_false_iff_ne]; exact hc
    rw [h1, h2] at *
    clear h1 h2
    generalize (Sp.parseF s.data.toList).code = cd at *
    generalize (Sp.parseF s.data.toList).at_ = ca at *
    go_wp2_with fail
    go_ret
    exact ⟨rfl, below_alloc (below_alloc B2.out (Nat.le_refl _) _) (Nat.le_refl _) _⟩
end Go.Proofs.YtadookafnfnaoaaGreatDoor
/- The law SpellUnlike, walked. -/
namespace Go.Proofs.YtadookafnfnaoaaGreatDoor
open Go.RowKit Ch

theorem toList_ba_eq (l m : List UInt8) : ((Sp.ba l).toList == (Sp.ba m).toList) = decide (l = m) := by
  rw [ba_beq, ByteArray.toList_eq, Sp.data_ba]

set_option maxRecDepth 100000 in
set_option maxHeartbeats 8000000 in
theorem unlike_walk4 (f : Int) (v : Value) (ops : List OpD) (g : Int) (u : Value) (ds : List OpD) (w : World) (hv : OpRow w v ops) (hz : OSized ops) (hu : OpRow w u ds) (hdz : OSized ds) (hs : Std w) :
    Calls Tryz.prog 8 #[chAgg f v, chAgg g u] w (OutB w true) := by
  have HV := Lib.hid hv
  have HU := Lib.hid hu
  have HS := Lib.hid hs
  obtain ⟨aa, acap, rfl⟩ := hv.shape
  obtain ⟨da, dcap, rfl⟩ := hu.shape
  obtain ⟨W, hW⟩ : ∃ W, W = (w.alloc (.cells #[.int .i64 f, .slice aa ops.length acap] 24)).alloc (.cells #[.int .i64 g, .slice da ds.length dcap] 24) := ⟨_, rfl⟩
  have bW := show Below w.heap.size w W by rw [hW]; exact below_alloc (below_box _ _) (Nat.le_refl _) _
  have BW := Lib.hid bW
  have wh := Lib.hid (show W.heap[w.heap.size]? = some (.cells #[.int .i64 f, .slice aa ops.length acap] 24 (0, 0)) by rw [hW, Lib.alloc_old _ _ _ (by simp)]; exact heap_new w _)
  have xh := Lib.hid (show W.heap[w.heap.size + 1]? = some (.cells #[.int .i64 g, .slice da ds.length dcap] 24 (0, 0)) by rw [hW]; have := heap_new (w.alloc (.cells #[.int .i64 f, .slice aa ops.length acap] 24)) (.cells #[.int .i64 g, .slice da ds.length dcap] 24); simpa using this)
  have SW := hs.keep bW
  have HAW := Lib.hid (awake4_any W SW.pow SW.syn SW.pl SW.sl)
  have HW := Lib.hid hW
  clear hv hu hs hW bW SW
  go_enter Tryz.func8, Tryz.ntmps8
  go_wp2_with fail
  rw [← HW.out]
  refine HAW.out.mono ?_
  rintro e w1 ⟨rfl, b⟩
  have B1 := Lib.hid (BW.out.trans (b.mono BW.out.size))
  have wh1 := Lib.hid ((b.block _ (lt_of_heap wh.out)).trans wh.out)
  have xh1 := Lib.hid ((b.block _ (lt_of_heap xh.out)).trans xh.out)
  have c0 : w1.cell? ⟨w.heap.size, 0, none⟩ = some (.int .i64 f) := (Lib.cell_of_heap wh1.out 0).trans rfl
  have c1 : w1.cell? ⟨w.heap.size, 1, none⟩ = some (.slice aa ops.length acap) := (Lib.cell_of_heap wh1.out 1).trans rfl
  have S1 := HS.out.keep B1.out
  have HP := Lib.hid (print_any f _ ops w1 (HV.out.below B1.out) hz S1.pow S1.pl)
  clear b S1
  go_wp2_with fail
  refine HP.out.mono ?_
  rintro e w2 ⟨rfl, b⟩
  have B2 := Lib.hid (B1.out.trans (b.mono B1.out.size))
  have wh2 := Lib.hid ((b.block _ (lt_of_heap wh1.out)).trans wh1.out)
  have xh2 := Lib.hid ((b.block _ (lt_of_heap xh1.out)).trans xh1.out)
  have S2 := HS.out.keep B2.out
  have HP2 := Lib.hid (print_any g _ ds w2 (HU.out.below B2.out) hdz S2.pow S2.pl)
  clear b c0 c1 S2
  have c0 : w2.cell? ⟨w.heap.size + 1, 0, none⟩ = some (.int .i64 g) := (Lib.cell_of_heap xh2.out 0).trans rfl
  have c1 : w2.cell? ⟨w.heap.size + 1, 1, none⟩ = some (.slice da ds.length dcap) := (Lib.cell_of_heap xh2.out 1).trans rfl
  go_wp2_with fail
  refine HP2.out.mono ?_
  rintro e w3 ⟨rfl, b⟩
  have B3 := Lib.hid (B2.out.trans (b.mono B2.out.size))
  have wh3 := Lib.hid ((b.block _ (lt_of_heap wh2.out)).trans wh2.out)
  have xh3 := Lib.hid ((b.block _ (lt_of_heap xh2.out)).trans xh2.out)
  clear b c0 c1 HP HP2
  by_cases h1 : (Sp.printF f ops).1 = 0
  · by_cases h2 : (Sp.printF g ds).1 = 0
    · have HI := Lib.hid (Sp.print_inj h1 h2)
      have t1 := (Sp.print_parse h1).1
      have t2 := (Sp.print_parse h2).1
      have k1 := (toE_iff f ops).1 t1
      have k2 := (toE_iff g ds).1 t2
      have c0 : w3.cell? ⟨w.heap.size, 0, none⟩ = some (.int .i64 f) := (Lib.cell_of_heap wh3.out 0).trans rfl
      have c1 : w3.cell? ⟨w.heap.size, 1, none⟩ = some (.slice aa ops.length acap) := (Lib.cell_of_heap wh3.out 1).trans rfl
      have HN := Lib.hid (refNormal_ok f _ ops w3 (HV.out.below B3.out) hz (smallO_t (smallO_ok k1)) t1)
      have HN2 := Lib.hid (fun X (hb : Below w.heap.size w X) => refNormal_ok g _ ds X (HU.out.below hb) hdz (smallO_t (smallO_ok k2)) t2)
      have hd := toList_ba_eq (Sp.printF f ops).2 (Sp.printF g ds).2
      clear k1 k2 t1 t2
      generalize Sp.printF f ops = P at *
      generalize Sp.printF g ds = Q at *
      go_wp2_with fail
      refine HN.out.mono ?_
      rintro e w4 ⟨v4, rfl, o4, b⟩
      obtain ⟨na, nc, rfl⟩ := o4.row.shape
      have B4 := Lib.hid (B3.out.trans (b.mono B3.out.size))
      have O4 := Lib.hid o4
      have xh4 := Lib.hid ((b.block _ (lt_of_heap xh3.out)).trans xh3.out)
      clear b o4 c0 c1 HN
      obtain ⟨X, hX⟩ : ∃ X, X = w4.alloc (.cells #[.int .i64 f, .slice na (norm ops).length nc] 24) := ⟨_, rfl⟩
      have bX := show Below w4.heap.size w4 X by rw [hX]; exact below_box _ _
      have HX := Lib.hid hX
      have xn := Lib.hid (show X.heap[w4.heap.size]? = some (.cells #[.int .i64 f, .slice na (norm ops).length nc] 24 (0, 0)) by rw [hX]; exact heap_new _ _)
      have BX := Lib.hid (B4.out.trans (bX.mono B4.out.size))
      have OX := Lib.hid (O4.out.below bX)
      have HNN := Lib.hid (HN2.out X BX.out)
      have d0 : w4.cell? ⟨w.heap.size + 1, 0, none⟩ = some (.int .i64 g) := (Lib.cell_of_heap xh4.out 0).trans rfl
      have d1 : w4.cell? ⟨w.heap.size + 1, 1, none⟩ = some (.slice da ds.length dcap) := (Lib.cell_of_heap xh4.out 1).trans rfl
      have dl := lt_of_heap xh4.out
      have dn : w.heap.size + 1 ≠ w4.heap.size := by omega
      clear hX bX
      go_wp2_with fail
      rw [← HX.out]
      refine HNN.out.mono ?_
      rintro e w5 ⟨v5, rfl, o5, b⟩
      obtain ⟨ma, mc, rfl⟩ := o5.row.shape
      have B5 := Lib.hid (BX.out.trans (b.mono BX.out.size))
      have xn5 := (b.block _ (lt_of_heap xn.out)).trans xn.out
      have n0 : w5.cell? ⟨w4.heap.size, 0, none⟩ = some (.int .i64 f) := (Lib.cell_of_heap xn5 0).trans rfl
      have n1 : w5.cell? ⟨w4.heap.size, 1, none⟩ = some (.slice na (norm ops).length nc) := (Lib.cell_of_heap xn5 1).trans rfl
      have nl := lt_of_heap xn5
      have nn : w4.heap.size ≠ w5.heap.size := by omega
      obtain ⟨Y, hY⟩ : ∃ Y, Y = w5.alloc (.cells #[.int .i64 g, .slice ma (norm ds).length mc] 24) := ⟨_, rfl⟩
      have bY := show Below w5.heap.size w5 Y by rw [hY]; exact below_box _ _
      have HY := Lib.hid hY
      have BY := Lib.hid (B5.out.trans (bY.mono B5.out.size))
      have HSm := refSameCh_any f g (.slice na (norm ops).length nc) (.slice ma (norm ds).length mc) (norm ops) (norm ds) Y ((OX.out.below b).row.below bY) (o5.row.below bY)
      rw [show sameCh f g (norm ops) (norm ds) = decide (P.2 = Q.2) from decide_eq_decide.2 HI.out] at HSm
      generalize decide (P.2 = Q.2) = qq at *
      have HSm := Lib.hid HSm
      have hqq : (qq == qq) = true := by simp
      clear b o5 xn5 hY bY d0 d1
      go_wp2_with fail
      rw [← HY.out]
      refine HSm.out.mono ?_
      rintro e w6 ⟨rfl, b⟩
      have B6 := Lib.hid (BY.out.trans (b.mono BY.out.size))
      clear b
      go_wp2_with fail
      go_ret
      exact ⟨rfl, B6.out⟩
    · have hb1 : ((Sp.printF f ops).1 == 0) = true := by rw [h1]; rfl
      have hb2 : ((Sp.printF g ds).1 == 0) = false := by rw [beq_eq_false_iff_ne]; exact h2
      generalize Sp.printF f ops = P at *
      generalize Sp.printF g ds = Q at *
      go_wp2_with fail
      go_ret
      exact ⟨rfl, B3.out⟩
  · have hb1 : ((Sp.printF f ops).1 == 0) = false := by rw [beq_eq_false_iff_ne]; exact h1
    generalize Sp.printF f ops = P at *
    generalize Sp.printF g ds = Q at *
    go_wp2_with fail
    go_ret
    exact ⟨rfl, B3.out⟩
end Go.Proofs.YtadookafnfnaoaaGreatDoor
/- A changeset opened, of a bound on its bulk: its operations are few and short. -/
namespace Go.Proofs.YtadookafnfnaoaaGreatDoor
open Go.RowKit Go.ChangeShapes Go.WideShapes Go.Deep Go.Joins Ch

theorem bulk_pos {H : Type} (d : DataW H) : 1 ≤ Rows.uptoBulk d := by
  cases d with
  | lit l => cases l <;> simp [Rows.uptoBulk]
  | nil => simp [Rows.uptoBulk]
  | ptr d => simp [Rows.uptoBulk]
  | slice a b => simp [Rows.uptoBulk]
  | agg p => simp [Rows.uptoBulk]
  | iface _ d => simp [Rows.uptoBulk]
  | map e => simp [Rows.uptoBulk]
  | held _ => simp [Rows.uptoBulk]
theorem bulk_mem {H : Type} {l : List (DataW H)} {d : DataW H} (h : d ∈ l) : Rows.uptoBulk d ≤ Rows.uptoBulkAll l := by
  induction l with
  | nil => cases h
  | cons x r ih =>
    rw [Rows.uptoBulkAll]
    rcases List.mem_cons.1 h with rfl | h
    · omega
    · have := ih h; omega
theorem bulk_len {H : Type} (l : List (DataW H)) : l.length ≤ Rows.uptoBulkAll l := by
  induction l with
  | nil => simp [Rows.uptoBulkAll]
  | cons x r ih =>
    rw [Rows.uptoBulkAll, List.length_cons]
    have := bulk_pos x
    omega
theorem bulk_slice {H : Type} {es sp : List (DataW H)} {N : Nat} (h : Rows.uptoBulk (.slice es sp) ≤ N) : es.length ≤ N ∧ ∀ d ∈ es, Rows.uptoBulk d ≤ N := by
  rw [Rows.uptoBulk] at h
  have h1 := bulk_len es
  exact ⟨by omega, fun d hd => by have := bulk_mem hd; omega⟩
theorem bulk_agg {H : Type} {es : List (DataW H)} {N : Nat} (h : Rows.uptoBulk (.agg es) ≤ N) : ∀ d ∈ es, Rows.uptoBulk d ≤ N := fun d hd => by
  rw [Rows.uptoBulk] at h
  have := bulk_mem hd
  omega
theorem bulk_text {H : Type} {s : ByteArray} {N : Nat} (h : Rows.uptoBulk (.lit (.string s.data.toList) : DataW H) ≤ N) : s.size ≤ N := by
  rw [Rows.uptoBulk] at h
  have e : s.data.toList.length = s.size := by simp
  omega

set_option maxRecDepth 100000 in
theorem open_attrs_cellB {H : Type} {enc : TypeId × Value → H} {W : World} {fuel : Nat} {c : Value} {y : DataW H × List MemPlace} (hb : Rows.uptoBulk y.1 ≤ 1048576)
    (h : DataW.trod enc Tryz.prog W 0 (fun _ => true) true fuel 46 [c] = some y) : ∃ l, AtRow W c l ∧ SmallA l ∧ Proper c := by
  obtain ⟨f0, f1, hs, o0, o1, t0, t1⟩ := structAttrC
  rcases open_slice_pairs Tryz.underlying46 hs (by kernel_rfl) o0 o1 (by rw [t0]; kernel_rfl) (by rw [t1]; kernel_rfl) h with ⟨h0, _⟩ | ⟨a', len, cap, m, k, V0, V1, D0, D1, P0, P1, hcs, _, hl, hm, hmm, hx, hi⟩
  · obtain rfl : c = .slice none 0 0 := by simpa using h0
    exact ⟨[], ⟨none, 0, rfl, Nat.le_refl _, by simp [maxLen], fun i hi => by simp at hi⟩, ⟨by simp, fun x hx => by cases hx⟩, fun n' c' he => by simp at he; omega⟩
  · obtain rfl : c = .slice (some a') len cap := by simpa using hcs
    have hm' : m = cap := by rw [hmm]; rfl
    subst hm'
    rw [hx] at hb
    obtain ⟨hb1, hb2⟩ := bulk_slice hb
    rw [List.length_map, List.length_range] at hb1
    have each : ∀ i, i < len → ∃ q : ByteArray × ByteArray, V0 i = .string q.1 ∧ V1 i = .string q.2 ∧ q.1.size ≤ 1048576 ∧ q.2.size ≤ 1048576 := fun i hin => by
      obtain ⟨_, _, g0, g1⟩ := hi i (Nat.lt_of_lt_of_le hin hl)
      rw [t0] at g0
      rw [t1] at g1
      obtain ⟨s0, e0, d0, _⟩ := DataW.trod_string Tryz.underlying9 g0
      obtain ⟨s1, e1, d1, _⟩ := DataW.trod_string Tryz.underlying9 g1
      have hba := bulk_agg (hb2 (.agg [D0 i, D1 i]) (List.mem_map.2 ⟨i, List.mem_range.2 hin, rfl⟩))
      simp only [Prod.mk.injEq] at d0 d1
      have z0 := hba (D0 i) (by simp)
      have z1 := hba (D1 i) (by simp)
      rw [d0.1] at z0
      rw [d1.1] at z1
      exact ⟨(s0, s1), by simpa using e0, by simpa using e1, bulk_text z0, bulk_text z1⟩
    obtain ⟨q, hq⟩ := choose_lt each
    have hlen : ((List.range len).map q).length = len := by simp
    refine ⟨(List.range len).map q, ⟨some a', m, by rw [hlen], by rw [hlen]; exact hl, hm, fun i hin => ?_⟩, ⟨by rw [hlen]; exact hb1, fun x hx => ?_⟩, fun n' c' he => by simp at he⟩
    · have hin' : i < len := by simpa using hin
      obtain ⟨c0, c1, _, _⟩ := hi i (Nat.lt_of_lt_of_le hin' hl)
      obtain ⟨e0, e1, _, _⟩ := hq i hin'
      rw [e0] at c0
      rw [e1] at c1
      obtain ⟨b, off, spot⟩ := a'
      have hspot : spot = none := by
        have h0 := (hi 0 (by omega)).1
        simpa [Addr.add] using World.cell?_spot h0
      subst hspot
      rw [add_plain] at c0 c1
      have hb := World.block_lt_of_cell? _ _ c0
      exact ⟨b, off, rfl, hb, by simpa using c0, by simpa [Nat.add_assoc] using c1⟩
    · obtain ⟨i, hin, rfl⟩ := List.mem_map.1 hx
      obtain ⟨_, _, z0, z1⟩ := hq i (by simpa using hin)
      exact ⟨z0, z1⟩

set_option maxRecDepth 100000 in
theorem open_opB {H : Type} {enc : TypeId × Value → H} {W : World} {fuel : Nat} {cs : List Value} {y : DataW H × List MemPlace} (hb : Rows.uptoBulk y.1 ≤ 1048576) (h : DataW.trod enc Tryz.prog W 0 (fun _ => true) true fuel 48 cs = some y) :
    ∃ (o : OpD) (av : Value), cs = [.int .i64 o.kind, .int .i64 o.n, .string o.text, av] ∧ AtRow W av o.attrs ∧ Proper av ∧ o.text.size ≤ 1048576 ∧ SmallA o.attrs := by
  obtain ⟨f0, f1, f2, f3, hs, ⟨o0, o1, o2, o3⟩, t0, t1, t2, t3⟩ := structOp
  obtain ⟨xs, n, _, hy, hlen, hxl, hf⟩ := DataW.trod_struct hs h
  rw [hy] at hb
  have hba := bulk_agg hb
  have hC : Tryz.prog.cellsOf 48 = 4 := by kernel_rfl
  rw [hC] at hlen
  obtain ⟨c0, c1, c2, c3, rfl⟩ : ∃ c0 c1 c2 c3, cs = [c0, c1, c2, c3] := by
    match cs, hlen with
    | [c0, c1, c2, c3], _ => exact ⟨c0, c1, c2, c3, rfl⟩
  have g : ∀ (i : Nat) (hi : i < xs.length), xs[i]? = some xs[i] := fun i hi => List.getElem?_eq_getElem hi
  have hx : xs.length = 4 := hxl
  have k1 : Tryz.prog.cellsOf 3 = 1 := by kernel_rfl
  have k2 : Tryz.prog.cellsOf 9 = 1 := by kernel_rfl
  have k3 : Tryz.prog.cellsOf 46 = 1 := by kernel_rfl
  have g0 := (hf 0 f0 rfl).trans (g 0 (by omega))
  have g1 := (hf 1 f1 rfl).trans (g 1 (by omega))
  have g2 := (hf 2 f2 rfl).trans (g 2 (by omega))
  have g3 := (hf 3 f3 rfl).trans (g 3 (by omega))
  rw [o0, t0, k1] at g0
  rw [o1, t1, k1] at g1
  rw [o2, t2, k2] at g2
  rw [o3, t3, k3] at g3
  have m2 := hba xs[2].1 (List.mem_map.2 ⟨_, List.getElem_mem (by omega), rfl⟩)
  have m3 := hba xs[3].1 (List.mem_map.2 ⟨_, List.getElem_mem (by omega), rfl⟩)
  obtain ⟨n0, e0, _, _⟩ := DataW.trod_int Tryz.underlying3 g0
  obtain ⟨n1, e1, _, _⟩ := DataW.trod_int Tryz.underlying3 g1
  obtain ⟨s2, e2, d2, _⟩ := DataW.trod_string Tryz.underlying9 g2
  obtain ⟨l, r1, r2, r3⟩ := open_attrs_cellB (c := c3) m3 g3
  rw [d2] at m2
  obtain rfl : c0 = .int .i64 n0 := by simpa using e0
  obtain rfl : c1 = .int .i64 n1 := by simpa using e1
  obtain rfl : c2 = .string s2 := by simpa using e2
  exact ⟨⟨n0, n1, s2, l⟩, c3, rfl, r1, r3, bulk_text m2, r2⟩

set_option maxRecDepth 100000 in
theorem open_opsB {H : Type} {enc : TypeId × Value → H} {W : World} {fuel : Nat} {c : Value} {y : DataW H × List MemPlace} (hb : Rows.uptoBulk y.1 ≤ 1048576)
    (h : DataW.trod enc Tryz.prog W 0 (fun _ => true) true fuel 22 [c] = some y) : ∃ ops, OpRow W c ops ∧ SmallO ops := by
  rcases open_slice Tryz.underlying22 h with ⟨h0, _⟩ | ⟨a, len, cap, m, n, D, Pl, hcs, _, hl, hm, hmm, hx, hi⟩
  · obtain rfl : c = .slice none 0 0 := by simpa using h0
    exact ⟨[], OpRow.nil W, by simp, fun o ho => by cases ho⟩
  · obtain rfl : c = .slice (some a) len cap := by simpa using hcs
    have hm' : m = cap := by rw [hmm]; rfl
    subst hm'
    rw [hx] at hb
    obtain ⟨hb1, hb2⟩ := bulk_slice hb
    rw [List.length_map, List.length_range] at hb1
    have hC : Tryz.prog.cellsOf 48 = 4 := by kernel_rfl
    rw [hC] at hi
    have each : ∀ i, i < len → ∃ q : OpD × Value, W.cells? 0 (a.add (i * 4)) 4 = some [.int .i64 q.1.kind, .int .i64 q.1.n, .string q.1.text, q.2] ∧ AtRow W q.2 q.1.attrs ∧ Proper q.2 ∧ q.1.text.size ≤ 1048576 ∧ SmallA q.1.attrs := fun i hin => by
      obtain ⟨cs', h1, h2⟩ := hi i (Nat.lt_of_lt_of_le hin hl)
      obtain ⟨o, av, rfl, r⟩ := open_opB (hb2 (D i) (List.mem_map.2 ⟨i, List.mem_range.2 hin, rfl⟩)) h2
      exact ⟨(o, av), h1, r⟩
    obtain ⟨q, hq⟩ := choose_lt each
    have hlen : ((List.range len).map fun i => (q i).1).length = len := by simp
    refine ⟨(List.range len).map fun i => (q i).1, ⟨some a, m, by rw [hlen], by rw [hlen]; exact hl, hm, fun i hin => ?_⟩, by rw [hlen]; exact hb1, fun x hx => ?_⟩
    · have hin' : i < len := by simpa using hin
      obtain ⟨h1, h2, h3, _⟩ := hq i hin'
      obtain ⟨_, _, hat⟩ := World.cells?_some h1
      obtain ⟨b, off, spot⟩ := a
      have hspot : spot = none := by
        have h0 := (World.cells?_some (hq 0 (by omega)).1).2.2 0 (by omega)
        have h0' : W.cell? ⟨b, off, spot⟩ = some (.int .i64 (q 0).1.kind) := by simpa [Addr.add] using h0
        exact World.cell?_spot h0'
      subst hspot
      have hc : ∀ j, j < 4 → W.cell? ⟨b, off + i * 4 + j, none⟩ = ([.int .i64 (q i).1.kind, .int .i64 (q i).1.n, .string (q i).1.text, (q i).2] : List Value)[j]? := fun j hj => by
        have := hat j hj
        rw [add_plain, add_plain] at this
        exact this
      have hb := World.block_lt_of_cell? _ _ (hc 0 (by omega))
      refine ⟨b, off, rfl, hb, ?_⟩
      rw [List.getElem_map, List.getElem_range]
      exact ⟨(q i).2, h2, h3, hc 0 (by omega), hc 1 (by omega), hc 2 (by omega), hc 3 (by omega)⟩
    · obtain ⟨i, hin, rfl⟩ := List.mem_map.1 hx
      obtain ⟨_, _, _, z0, z1⟩ := hq i (by simpa using hin)
      exact ⟨z0, z1⟩

set_option maxRecDepth 100000 in
theorem open_changeB {H : Type} {enc : TypeId × Value → H} {W : World} {base : Nat} {v : Value} {d : DataW H} {p : List MemPlace} (hb : Rows.uptoBulk d ≤ 1048576) (hv : Value.okWide Tryz.prog W .any base 24 v)
    (h : DataW.Trod enc Tryz.prog W 0 (fun _ => true) true 24 v d p) : ∃ (f : Int) (x : Value) (ops : List OpD), v = chAgg f x ∧ OpRow W x ops ∧ SmallO ops := by
  obtain ⟨f0, f1, hs, hone, t0, t1⟩ := structChange
  obtain ⟨v0, v1, y0, y1, n, rfl, hd, _, g0, g1⟩ := open_agg2 hs hone (by kernel_rfl) hv h
  rw [t0] at g0
  rw [t1] at g1
  rw [hd] at hb
  obtain ⟨n0, e0, _, _⟩ := DataW.trod_int Tryz.underlying3 g0
  obtain rfl : v0 = .int .i64 n0 := by simpa using e0
  obtain ⟨ops, r1, r2⟩ := open_opsB (bulk_agg hb y1.1 (by simp)) g1
  exact ⟨n0, v1, ops, rfl, r1, r2⟩
end Go.Proofs.YtadookafnfnaoaaGreatDoor
/- The law SpellPlain, walked. -/
namespace Go.Proofs.YtadookafnfnaoaaGreatDoor
open Go.RowKit Ch

theorem U8.keep {w w' : World} (h : U8 w) (hb : Below w.heap.size w w') (h1 : 0 < w.heap.size) (h2 : 1 < w.heap.size) : U8 w' := h.below hb h1 h2
theorem ctl_int {x : UInt8} (h : Sp.ctl x = false) : ¬ ((x.toNat : Int) < 32) ∧ ((x.toNat : Int) == 127) = false := by
  unfold Sp.ctl at h
  have := of_decide_eq_false h
  refine ⟨by omega, ?_⟩
  rw [beq_eq_false_iff_ne]; omega

theorem read_whole (s : ByteArray) : Sp.readF (Sp.ba (Sp.qt s.data.toList)).data.toList 0 = ⟨0, 0, s.data.toList, ((Sp.qt s.data.toList).length : Int)⟩ := by
  have := Sp.read_qt [] s.data.toList []
  simpa [Sp.data_ba] using this
set_option maxRecDepth 100000 in
set_option maxHeartbeats 8000000 in
theorem plain_walk4 (s : ByteArray) (w : World) (hsz : s.size ≤ 1048576) (hs : Std w) (hu : U8 w) (hg1 : 0 < w.heap.size) (hg2 : 1 < w.heap.size) :
    Calls Tryz.prog 7 #[.string s] w (OutB w true) := by
  have HS := Lib.hid hs
  have HU := Lib.hid hu
  have HAW := Lib.hid (awake4_any w hs.pow hs.syn hs.pl hs.sl)
  clear hs hu
  go_enter Tryz.func7, Tryz.ntmps7
  go_wp2_with fail
  refine HAW.out.mono ?_
  rintro e w1 ⟨rfl, b⟩
  have B1 := Lib.hid b
  have HQ := Lib.hid (quoteT_any s w1 (by omega) (HU.out.keep b hg1 hg2))
  clear b
  go_wp2_with fail
  refine HQ.out.mono ?_
  rintro e w2 ⟨rfl, b⟩
  have B2 := Lib.hid (B1.out.trans (b.mono B1.out.size))
  clear b HQ
  cases hv : Lib.validD s.data.toList with
  | false =>
    have he : quoteF s = ([], 10) := by unfold quoteF; rw [if_neg (by rw [hv]; decide)]
    have hem := ba_nil
    rw [he]
    clear he hv
    go_wp2_with fail
    go_ret
    exact ⟨rfl, B2.out⟩
  | true =>
    have he : quoteF s = (Sp.qt s.data.toList, 0) := by unfold quoteF; rw [if_pos hv]
    have hqs : (Sp.ba (Sp.qt s.data.toList)).size = (Sp.qt s.data.toList).length := by rw [size_data, Sp.data_ba]
    have hql := Sp.qt_len s.data.toList
    have hss : s.data.toList.length = s.size := rfl
    have HPl := Lib.hid (Sp.qt_plain s.data.toList)
    rw [he]
    clear he hv
    have HR := Lib.hid (spRead_any (Sp.ba (Sp.qt s.data.toList)) 0 w2 (by omega) (by omega) (by omega))
    rw [show SpReadOut w2 (Sp.ba (Sp.qt s.data.toList)) 0 = fun e w' => e = .returned (.tuple #[.string s, .int .i64 (Sp.qt s.data.toList).length, .agg #[.int .i64 0, .int .i64 0]]) ∧ Below w2.heap.size w2 w' by unfold SpReadOut; rw [read_whole, Sp.ba_data]] at HR
    have HPC := Lib.hid (Sp.parse_one s.data.toList)
    rw [Sp.ba_data] at HPC
    obtain ⟨qb, hqb⟩ : ∃ q, q = Sp.ba (Sp.qt s.data.toList) := ⟨_, rfl⟩
    rw [← hqb] at hqs HR ⊢
    have hN : (Sp.qt s.data.toList).length = qb.size := hqs.symm
    rw [hN] at hql HR HPC
    have HB := Lib.hid (show ∀ k (h : k < qb.size), Sp.ctl qb[k] = false by
      rw [hqb]
      exact fun k h => HPl.out _ (List.getElem_mem (l := Sp.qt s.data.toList) (n := k) h))
    have HQB := Lib.hid hqb
    clear HPl hqs hqb hN
    go_wp2_with fail
    go_loopw [6] (fun i wr => ∃ k : Nat, i = .int .i64 (k : Int) ∧ k ≤ qb.size ∧ wr = w2) (fun i _ => qb.size - (intOf i).toNat)
    case atStart => exact ⟨0, rfl, Nat.zero_le _, rfl⟩
    case round =>
      obtain ⟨k, rfl, hk, rfl⟩ := hrel
      by_cases hlt : k < qb.size
      · have hlt' : (k : Int) < (qb.size : Int) := by omega
        obtain ⟨j1, j2⟩ := ctl_int (HB.out k hlt)
        go_wp2_with fail
        go_roundw
        case measure => simp only [intOf]; omega
        case rel => exact ⟨k + 1, rfl, hlt, by trivial⟩
      · have hlt' : decide ((k : Int) < (qb.size : Int)) = false := decide_eq_false (by omega)
        have hss1 : (s.toList == s.toList) = true := by simp
        have hqq : ((qb.size : Int) == (qb.size : Int)) = true := by simp
        clear hk
        go_wp2_with fail
        refine HR.out.mono ?_
        rintro e w3 ⟨rfl, b⟩
        have B3 := Lib.hid (B2.out.trans (b.mono B2.out.size))
        obtain ⟨X, hX⟩ : ∃ X, X = w3.alloc zeroF := ⟨_, rfl⟩
        have bX := show Below w3.heap.size w3 X by rw [hX]; exact below_box _ _
        have HX := Lib.hid hX
        have BX := Lib.hid (B3.out.trans (bX.mono B3.out.size))
        have SX := HS.out.keep BX.out
        have hap : (⟨#[48, 32, 43]⟩ ++ qb : ByteArray).data.toList = 48 :: 32 :: 43 :: Sp.qt s.data.toList := by rw [HQB.out, cat_eq, cat_data, Sp.data_ba]; rfl
        have hsz3 : (⟨#[48, 32, 43]⟩ ++ qb : ByteArray).size ≤ maxLen := by
          rw [size_data, hap]
          have : (Sp.qt s.data.toList).length = qb.size := by rw [HQB.out]; rfl
          simp only [List.length_cons]; unfold maxLen; omega
        have HPa := parse_any (⟨#[48, 32, 43]⟩ ++ qb) X hsz3 SX.syn SX.sl
        unfold ParseOut at HPa
        rw [hap] at HPa
        have HPL := Lib.hid (show 262141 < qb.size → Sp.parseF (48 :: 32 :: 43 :: Sp.qt s.data.toList) = ⟨2, -1, 0, []⟩ from fun h => by
          unfold Sp.parseF
          exact if_pos (by have : (Sp.qt s.data.toList).length = qb.size := by rw [HQB.out]; rfl
                           simp only [List.length_cons]; omega))
        have HPa := Lib.hid HPa
        have HEm := Lib.hid (show s.size = 0 → (qb.toList == [34, 34]) = true ∧ qb.size = 2 from fun h => by
          have h0 := List.length_eq_zero_iff.1 (show s.data.toList.length = 0 from h)
          rw [HQB.out, h0]
          exact ⟨by rw [ba_beq]; rfl, rfl⟩)
        generalize Sp.parseF (48 :: 32 :: 43 :: Sp.qt s.data.toList) = P at *
        clear b hX bX SX hap hsz3
        go_wp2_with fail
        rw [← HX.out]
        refine HPa.out.mono ?_
        rintro e w4 ⟨v4, rfl, o4, b⟩
        obtain ⟨na, nc, rfl⟩ := o4.row.shape
        have B4 := Lib.hid (BX.out.trans (b.mono BX.out.size))
        have O4 := Lib.hid o4
        clear b o4
        by_cases h0 : s.size = 0
        · obtain ⟨t1, t2⟩ := HEm.out h0
          have em := (text_empty h0).1
          have hP := HPC.out (by omega)
          have he0 : s = Sp.ba [] := ba_eq (List.length_eq_zero_iff.1 (show s.data.toList.length = 0 from h0))
          rw [he0, Sp.toE_empty, if_neg (by decide)] at hP
          subst hP
          clear h0 he0
          go_wp2_with fail
          go_ret
          exact ⟨rfl, below_alloc (below_alloc B4.out (Nat.le_refl _) _) (Nat.le_refl _) _⟩
        · have em := text_full h0
          obtain ⟨Y, hY⟩ : ∃ Y, Y = (w4.alloc (.cells #[.int .i64 P.fr, .slice na P.ops.length nc] 24)).alloc (.cells #[.int .i64 P.code, .int .i64 P.at_] 34) := ⟨_, rfl⟩
          have bY := show Below w4.heap.size w4 Y by rw [hY]; exact below_alloc (below_box _ _) (Nat.le_refl _) _
          have HY := Lib.hid hY
          have y0 := Lib.hid (show Y.heap[w4.heap.size]? = some (.cells #[.int .i64 P.fr, .slice na P.ops.length nc] 24 (0, 0)) by rw [hY, Lib.alloc_old _ _ _ (by simp)]; exact heap_new w4 _)
          have y1 := Lib.hid (show Y.heap[w4.heap.size + 1]? = some (.cells #[.int .i64 P.code, .int .i64 P.at_] 34 (0, 0)) by rw [hY]; have := heap_new (w4.alloc (.cells #[.int .i64 P.fr, .slice na P.ops.length nc] 24)) (.cells #[.int .i64 P.code, .int .i64 P.at_] 34); simpa using this)
          have BY := Lib.hid (B4.out.trans (bY.mono B4.out.size))
          have OY := Lib.hid (O4.out.below bY)
          clear hY bY
          go_wp2_with fail
          rw [← HY.out]
          refine (lawPut_any s Y).mono ?_
          rintro e w5 ⟨rfl, b⟩
          have B5 := Lib.hid (BY.out.trans (b.mono BY.out.size))
          have O5 := Lib.hid (OY.out.below b)
          have y05 := Lib.hid ((b.block _ (lt_of_heap y0.out)).trans y0.out)
          have y15 := Lib.hid ((b.block _ (lt_of_heap y1.out)).trans y1.out)
          clear b
          obtain ⟨Z, hZ⟩ : ∃ Z, Z = w5.alloc (.cells #[.int .i64 2, .int .i64 0, .string s, .slice none 0 0] 48) := ⟨_, rfl⟩
          have bZ := show Below w5.heap.size w5 Z by rw [hZ]; exact below_box _ _
          have HZ := Lib.hid hZ
          have hrow : OpRow Z (.slice (some ⟨w5.heap.size, 0, none⟩) 1 1) [⟨2, 0, s, []⟩] := by
            rw [hZ]
            exact opRow_new w5 [(⟨2, 0, s, []⟩, .slice none 0 0)] (fun p hp => by rw [List.mem_singleton.1 hp]; exact ⟨rfl, rfl⟩) (show 1 ≤ maxLen by decide)
          have BZ := Lib.hid (B5.out.trans (bZ.mono B5.out.size))
          have OZ := Lib.hid (O5.out.below bZ)
          have z0 := Lib.hid ((bZ.block _ (lt_of_heap y05.out)).trans y05.out)
          have z1 := Lib.hid ((bZ.block _ (lt_of_heap y15.out)).trans y15.out)
          have HRt := Lib.hid (refRight_any 0 _ [⟨2, 0, s, []⟩] Z hrow (fun o ho => by rw [List.mem_singleton.1 ho]; exact ⟨by show s.size ≤ maxLen; unfold maxLen; omega, fun x hx => by cases hx⟩) (fun o ho => by rw [List.mem_singleton.1 ho]; exact hsz))
          clear hZ bZ hrow
          go_wp2_with fail
          rw [← HZ.out]
          refine HRt.out.mono ?_
          rintro e w6 ⟨rfl, b⟩
          have B6 := Lib.hid (BZ.out.trans (b.mono BZ.out.size))
          have q0 := (b.block _ (lt_of_heap z0.out)).trans z0.out
          have q1 := (b.block _ (lt_of_heap z1.out)).trans z1.out
          have c1 : w6.cell? ⟨w4.heap.size, 1, none⟩ = some (.slice na P.ops.length nc) := (Lib.cell_of_heap q0 1).trans rfl
          have d0 : w6.cell? ⟨w4.heap.size + 1, 0, none⟩ = some (.int .i64 P.code) := (Lib.cell_of_heap q1 0).trans rfl
          have d1 : w6.cell? ⟨w4.heap.size + 1, 1, none⟩ = some (.int .i64 P.at_) := (Lib.cell_of_heap q1 1).trans rfl
          have O6 := Lib.hid (OZ.out.below b)
          have hp1 := HPC.out
          have hp2 := HPL.out
          clear b q0 q1 HRt
          by_cases ht : toE 0 [⟨2, 0, s, []⟩] = 0
          · rw [if_pos ht] at hp1
            rw [ht]
            by_cases hq : (200000 : Int) < (qb.size : Int)
            · by_cases hc : P.code = 0
              · have hcb : (P.code == 0) = true := by rw [hc]; rfl
                clear hp1 hp2
                go_wp2_with fail
                go_ret
                exact ⟨rfl, B6.out⟩
              · have hcb : (P.code == 0) = false := by rw [beq_eq_false_iff_ne]; exact hc
                clear hp1 hp2
                go_wp2_with fail
                go_ret
                exact ⟨rfl, B6.out⟩
            · have hP := hp1 (by omega)
              have hss2 : (s.toList == s.toList) = true := by simp
              subst hP
              obtain ⟨_, _, he, g1, g2, g3⟩ := O6.out.row
              simp only [Value.slice.injEq, true_and] at he
              obtain ⟨rfl, rfl⟩ := he
              obtain ⟨gb, off, rfl, hgl, av, _, _, _, _, gt, _⟩ := g3 0 (show 0 < 1 by decide)
              have gt' : w6.cell? ⟨gb, off + 2, none⟩ = some (.string s) := by simpa using gt
              clear hp1 hp2 g1 g2 g3 gt
              go_wp2_with fail
              go_ret
              exact ⟨rfl, B6.out⟩
          · rw [if_neg ht] at hp1
            have htb : (toE 0 [⟨2, 0, s, []⟩] == 0) = false := by rw [beq_eq_false_iff_ne]; exact ht
            have hc : (P.code == 0) = false := by
              rw [beq_eq_false_iff_ne]
              rcases Nat.lt_or_ge 262141 qb.size with h | h
              · rw [hp2 h]; show (2 : Int) ≠ 0; decide
              · rw [hp1 h]; exact ht
            have hc2 : ¬ P.code = 0 := by rw [beq_eq_false_iff_ne] at hc; exact hc
            have hte := ht
            clear hp1 hp2 ht
            generalize toE 0 [⟨2, 0, s, []⟩] = te at *
            clear HPC HPL
            by_cases hq : (200000 : Int) < (qb.size : Int)
            · go_wp2_with fail
              go_ret
              exact ⟨rfl, B6.out⟩
            · go_wp2_with fail
              go_ret
              exact ⟨rfl, B6.out⟩
end Go.Proofs.YtadookafnfnaoaaGreatDoor
