/- Texts of this seat, put together: AnG. -/
import Derived.Test.YtggjeiemofkfbaaGN5
import Derived.Test.YtggjeiemofkfbaaGK9
/- The law AnchorMoves, walked. -/
namespace Go.Proofs.Ytggjeiemofkfbaa
open Go.RowKit Rn Ch

set_option maxRecDepth 100000 in
set_option maxHeartbeats 8000000 in
theorem amoves_walk (f : Int) (v : Value) (ops : List OpD) (rf rt : Int) (rl : Bool) (a n : Int) (w : World) (hv : OpRow w v ops) (hz : SmallO ops) (_ : -9223372036854775808 ≤ rf) (_ : rf ≤ 9223372036854775807) (_ : -9223372036854775808 ≤ rt) (_ : rt ≤ 9223372036854775807) (_ : -9223372036854775808 ≤ a) (_ : a ≤ 9223372036854775807) (_ : -9223372036854775808 ≤ n) (_ : n ≤ 9223372036854775807) :
    Calls Try.prog 9 #[chAgg f v, .agg #[.int .i64 rf, .int .i64 rt, .bool rl], .int .i64 a, .int .i64 n] w (OutB w true) := by
  have HV := Lib.hid hv
  have HZ := Lib.hid hz
  have HSZ := Lib.hid (small_sized hz)
  have HSC := Lib.hid (SmallC.mk (small_sized hz) (small_t hz))
  obtain ⟨aa, acap, rfl⟩ := hv.shape
  obtain ⟨W, hW, x, y, bW⟩ : ∃ W, W = (w.alloc (.cells #[.int .i64 f, .slice aa ops.length acap] 24)).alloc (.cells #[.int .i64 rf, .int .i64 rt, .bool rl] 46) ∧ W.heap[w.heap.size]? = some (.cells #[.int .i64 f, .slice aa ops.length acap] 24 (0, 0)) ∧ W.heap[w.heap.size + 1]? = some (.cells #[.int .i64 rf, .int .i64 rt, .bool rl] 46 (0, 0)) ∧ Below w.heap.size w W :=
    ⟨_, rfl, (box2V _ _ _).1, (box2V _ _ _).2.1, (box2V _ _ _).2.2⟩
  have HW := Lib.hid hW
  have HX := Lib.hid x
  have HY := Lib.hid y
  have BW := Lib.hid bW
  clear hz hv hW x y bW
  go_enter Try.func9, Try.ntmps9
  go_wp2_with fail
  rw [← HW.out]
  refine (awake8_any _).mono ?_
  rintro e w1 ⟨rfl, b1⟩
  have B1 := Lib.hid (BW.out.trans (b1.mono BW.out.size))
  have X1 := Lib.hid (heap_up8 HX.out b1)
  have Y1 := Lib.hid (heap_up8 HY.out b1)
  have s01 := B1.out.size
  have hy1 := lt_of_heap Y1.out
  obtain ⟨p0, p1, _, _⟩ := cells2 X1.out
  clear b1
  have HC := Lib.hid (lentC_any f (.slice aa ops.length acap) ops w1 (HV.out.below B1.out) HZ.out)
  go_wp2_with fail
  refine HC.out.mono ?_
  rintro e w2 ⟨gg, gc, ps, rfl, hps, L2, b2⟩
  have HPS := Lib.hid hps
  have hln : ps.length = ops.length := by rw [← hps]; simp
  have hgE : gg < w2.heap.size := (L2.row.lt gg rfl).2
  have haE := Lib.hid (fun q (hq : q ∈ ps) j (hj : q.2.ownBlock = some j) => ((L2.att q hq).lt j hj).2)
  have B2 := Lib.hid (B1.out.trans (b2.mono B1.out.size))
  have s12 := b2.size
  obtain ⟨V, hV, iV, bV⟩ : ∃ V, V = w2.alloc (.cells #[.int .i64 f, .slice (some ⟨gg, 0, none⟩) ops.length gc] 24) ∧ V.heap[w2.heap.size]? = some (.cells #[.int .i64 f, .slice (some ⟨gg, 0, none⟩) ops.length gc] 24 (0, 0)) ∧ Below w2.heap.size w2 V := ⟨_, rfl, heap_new _ _, below_box _ _⟩
  have LV := Lib.hid (L2.below bV)
  have BV := Lib.hid (B2.out.trans (bV.mono B2.out.size))
  have HV2 := Lib.hid hV
  have XV := Lib.hid (heap_up8 (heap_up8 X1.out b2) bV)
  have YV := Lib.hid (heap_up8 (heap_up8 Y1.out b2) bV)
  have IV := Lib.hid iV
  have hin : ∀ X : World, Below V.heap.size V X → OpRow X (.slice (some ⟨gg, 0, none⟩) ops.length gc) ops := fun X hb => by
    have := (LV.out.below hb).ops
    rw [hln, HPS.out] at this
    exact this
  have HIN := Lib.hid hin
  have SV := Lib.hid (show V.heap.size = w2.heap.size + 1 by rw [hV]; simp)
  have HN := Lib.hid (anStart_any f a (.slice (some ⟨gg, 0, none⟩) ops.length gc) ops V (hin V (Below.refl _ _)) HSZ.out)
  have J0 := Lib.hid (Below.refl V.heap.size V)
  clear hps L2 b2 bV hV iV hin p0 p1 hln HC
  go_wp2_with fail
  rw [← HV2.out]
  refine HN.out.mono ?_
  clear HN
  rintro e w3 ⟨rfl, b1⟩
  have J3 := Lib.hid (J0.out.trans (b1.mono J0.out.size))
  have I3 := Lib.hid (heap_up8 IV.out b1)
  have Y3 := Lib.hid (heap_up8 YV.out b1)
  clear b1
  obtain ⟨i0, i1, _, _⟩ := cells2 I3.out
  have HN := Lib.hid (anEnd_any f a (.slice (some ⟨gg, 0, none⟩) ops.length gc) ops w3 (HIN.out w3 J3.out) HSZ.out)
  go_wp2_with fail
  refine HN.out.mono ?_
  clear HN i0 i1
  rintro e w4 ⟨rfl, b1⟩
  have J4 := Lib.hid (J3.out.trans (b1.mono J3.out.size))
  have I4 := Lib.hid (heap_up8 I3.out b1)
  have Y4 := Lib.hid (heap_up8 Y3.out b1)
  clear b1
  obtain ⟨i0, i1, _, _⟩ := cells2 I4.out
  obtain ⟨q0, q1, q2, _⟩ := cells3 Y4.out
  have HN := Lib.hid (anMove_any f ⟨rf, rt, rl⟩ (.slice (some ⟨gg, 0, none⟩) ops.length gc) ops w4 (HIN.out w4 J4.out) HSZ.out)
  go_wp2_with fail
  refine HN.out.mono ?_
  clear HN i0 i1 q0 q1 q2
  rintro e w5 ⟨rfl, b1⟩
  obtain ⟨ya, yb, yl, hyy⟩ : ∃ ya yb yl, mvR f ops ⟨rf, rt, rl⟩ = ⟨ya, yb, yl⟩ := ⟨_, _, _, rfl⟩
  have HYY := Lib.hid hyy
  rw [hyy]
  have J5 := Lib.hid (J4.out.trans (b1.mono J4.out.size))
  have I5 := Lib.hid (heap_up8 I4.out b1)
  obtain ⟨U, hU, sU, bU⟩ : ∃ U, U = w5.alloc (.cells #[.int .i64 ya, .int .i64 yb, .bool yl] 46) ∧ U.heap[w5.heap.size]? = some (.cells #[.int .i64 ya, .int .i64 yb, .bool yl] 46 (0, 0)) ∧ Below w5.heap.size w5 U := ⟨_, rfl, heap_new _ _, below_box _ _⟩
  have HU := Lib.hid hU
  have JU := Lib.hid (J5.out.trans (bU.mono J5.out.size))
  have SU := Lib.hid sU
  have IU := Lib.hid (heap_up8 I5.out bU)
  have XU := Lib.hid (heap_up8 XV.out JU.out)
  have YU := Lib.hid (heap_up8 YV.out JU.out)
  obtain ⟨i0, i1, _, _⟩ := cells2 I5.out
  obtain ⟨p0, p1, _, _⟩ := cells2 (heap_up8 XV.out J5.out)
  have hi5 := lt_of_heap I5.out
  have hx5 := lt_of_heap (heap_up8 XV.out J5.out)
  have hsU : U.heap.size = w5.heap.size + 1 := by rw [hU]; simp
  have BU := Lib.hid (BV.out.trans (JU.out.mono BV.out.size))
  have hJV := J5.out.size
  have hSV := SV.out
  have HN := Lib.hid (keptC_any f (.slice aa ops.length acap) ops w1.heap.size w2.heap.size gg gc ps w U (LV.out.below JU.out) HPS.out HV.out BU.out s01 HZ.out hgE haE.out (by omega))
  clear b1 bU hU sU hyy
  go_wp2_with fail
  rw [← HU.out]
  refine HN.out.mono ?_
  clear HN i0 i1 p0 p1
  rintro e w7 ⟨rfl, S7⟩
  have B7 := Lib.hid (BU.out.trans (S7.below.mono s01))
  have X7 := Lib.hid ((S7.below.block w.heap.size (by omega)).trans XU.out)
  have Y7 := Lib.hid ((S7.below.block (w.heap.size + 1) (by omega)).trans YU.out)
  have S7' := Lib.hid ((S7.block w5.heap.size (by omega) (by omega)).trans SU.out)
  clear S7
  obtain ⟨p0, p1, _, _⟩ := cells2 X7.out
  have HN := Lib.hid (refStart_any f a (.slice aa ops.length acap) ops w7 (HV.out.below B7.out) HSC.out)
  go_wp2_with fail
  refine HN.out.mono ?_
  clear HN p0 p1
  rintro e w8 ⟨rfl, b1⟩
  have B8 := Lib.hid (B7.out.trans (b1.mono B7.out.size))
  have X8 := Lib.hid (heap_up8 X7.out b1)
  have Y8 := Lib.hid (heap_up8 Y7.out b1)
  have S8 := Lib.hid (heap_up8 S7'.out b1)
  clear b1
  obtain ⟨p0, p1, _, _⟩ := cells2 X8.out
  have HN := Lib.hid (refEnd_any f a (.slice aa ops.length acap) ops w8 (HV.out.below B8.out) HSC.out)
  go_wp2_with fail
  refine HN.out.mono ?_
  clear HN p0 p1
  rintro e w9 ⟨rfl, b1⟩
  have B9 := Lib.hid (B8.out.trans (b1.mono B8.out.size))
  have X9 := Lib.hid (heap_up8 X8.out b1)
  have Y9 := Lib.hid (heap_up8 Y8.out b1)
  have S9 := Lib.hid (heap_up8 S8.out b1)
  clear b1
  obtain ⟨p0, p1, _, _⟩ := cells2 X9.out
  obtain ⟨q0, q1, q2, _⟩ := cells3 Y9.out
  have HN := Lib.hid (refMove_any f ⟨rf, rt, rl⟩ (.slice aa ops.length acap) ops w9 (HV.out.below B9.out) HSC.out)
  go_wp2_with fail
  refine HN.out.mono ?_
  clear HN p0 p1 q0 q1 q2
  rintro e wA ⟨rfl, b1⟩
  rw [HYY.out]
  have BA := Lib.hid (B9.out.trans (b1.mono B9.out.size))
  have YA := Lib.hid (heap_up8 Y9.out b1)
  have SA := Lib.hid (heap_up8 S9.out b1)
  clear b1
  obtain ⟨k0, k1, k2, _⟩ := cells3 SA.out
  obtain ⟨q0, q1, q2, _⟩ := cells3 YA.out
  have hkA := lt_of_heap SA.out
  have hqA := lt_of_heap YA.out
  obtain ⟨ea, hea⟩ : ∃ ea, movE f ops a = ea := ⟨_, rfl⟩
  obtain ⟨eb, heb⟩ : ∃ eb, mvE f ops ⟨rf, rt, rl⟩ = eb := ⟨_, rfl⟩
  obtain ⟨na, hna⟩ : ∃ na, movN true f ops a = na := ⟨_, rfl⟩
  obtain ⟨nb, hnb⟩ : ∃ nb, movN false f ops a = nb := ⟨_, rfl⟩
  have t1 : (movE f ops a == movE f ops a) = true := by simp
  have t2 : (mvE f ops ⟨rf, rt, rl⟩ == mvE f ops ⟨rf, rt, rl⟩) = true := by simp
  have t3 : (movN true f ops a == movN true f ops a) = true := by simp
  have t4 : (movN false f ops a == movN false f ops a) = true := by simp
  have t5 : (ya == ya) = true := by simp
  have t6 : (yb == yb) = true := by simp
  have t7 : (yl == yl) = true := by simp
  clear hea heb hna hnb
  go_wp2_with fail
  obtain ⟨T, hT, tT, bT⟩ : ∃ T, T = wA.alloc (.cells #[.int .i64 ya, .int .i64 yb, .bool yl] 46) ∧ T.heap[wA.heap.size]? = some (.cells #[.int .i64 ya, .int .i64 yb, .bool yl] 46 (0, 0)) ∧ Below wA.heap.size wA T := ⟨_, rfl, heap_new _ _, below_box _ _⟩
  rw [← hT]
  have BT := Lib.hid (BA.out.trans (bT.mono BA.out.size))
  have YT := Lib.hid (heap_up8 YA.out bT)
  have ST := Lib.hid (heap_up8 SA.out bT)
  have TT := Lib.hid tT
  have cells : ∀ X : World, Below T.heap.size T X → (X.cell? ⟨w.heap.size + 1, 0, none⟩ = some (.int .i64 rf) ∧ X.cell? ⟨w.heap.size + 1, 1, none⟩ = some (.int .i64 rt) ∧ X.cell? ⟨w.heap.size + 1, 2, none⟩ = some (.bool rl) ∧ X.cell? ⟨w5.heap.size, 0, none⟩ = some (.int .i64 ya) ∧ X.cell? ⟨w5.heap.size, 1, none⟩ = some (.int .i64 yb) ∧ X.cell? ⟨w5.heap.size, 2, none⟩ = some (.bool yl) ∧ X.cell? ⟨wA.heap.size, 0, none⟩ = some (.int .i64 ya) ∧ X.cell? ⟨wA.heap.size, 1, none⟩ = some (.int .i64 yb) ∧ X.cell? ⟨wA.heap.size, 2, none⟩ = some (.bool yl)) := fun X hb => by
    obtain ⟨a0, a1, a2, _⟩ := cells3 (heap_up8 YT.out hb)
    obtain ⟨b0, b1, b2, _⟩ := cells3 (heap_up8 ST.out hb)
    obtain ⟨c0, c1, c2, _⟩ := cells3 (heap_up8 TT.out hb)
    exact ⟨a0, a1, a2, b0, b1, b2, c0, c1, c2⟩
  have CS := Lib.hid cells
  have HRA := Lib.hid (fun W => anRight_any ⟨rf, rt, rl⟩ n W)
  have HRB := Lib.hid (fun W => refRgRight_any ⟨rf, rt, rl⟩ n W)
  have t8 : (rgE ⟨rf, rt, rl⟩ n == rgE ⟨rf, rt, rl⟩ n) = true := by simp
  clear hT tT bT cells k0 k1 k2 q0 q1 q2 hkA hqA
  go_region_held3 (fun w' => w'.cell? ⟨w.heap.size + 1, 0, none⟩ = some (.int .i64 rf) ∧ w'.cell? ⟨w.heap.size + 1, 1, none⟩ = some (.int .i64 rt) ∧ w'.cell? ⟨w.heap.size + 1, 2, none⟩ = some (.bool rl) ∧ w'.cell? ⟨w5.heap.size, 0, none⟩ = some (.int .i64 ya) ∧ w'.cell? ⟨w5.heap.size, 1, none⟩ = some (.int .i64 yb) ∧ w'.cell? ⟨w5.heap.size, 2, none⟩ = some (.bool yl) ∧ w'.cell? ⟨wA.heap.size, 0, none⟩ = some (.int .i64 ya) ∧ w'.cell? ⟨wA.heap.size, 1, none⟩ = some (.int .i64 yb) ∧ w'.cell? ⟨wA.heap.size, 2, none⟩ = some (.bool yl))
    (first
      | exact CS.out _ (Below.refl T.heap.size T).drew
      | exact CS.out _ HBB.out
      | exact CS.out _ HBA.out)
    (first
      | (go_at_call 38; (with_reducible refine (HRB.out _).mono ?_); rintro e wC ⟨rfl, bC⟩; have HBB := Lib.hid (HBA.out.trans (bC.mono HBA.out.size)); clear bC)
      | (go_at_call 37; (with_reducible refine (HRA.out _).mono ?_); rintro e wB ⟨rfl, bB⟩; have HBA := Lib.hid ((Below.refl T.heap.size T).drew.trans (bB.mono (Nat.le_refl _))); clear bB))
  have BF := Lib.hid (BT.out.trans (HBB.out.mono BT.out.size))
  go_wp2_with fail
  go_ret
  exact ⟨rfl, BF.out⟩
end Go.Proofs.Ytggjeiemofkfbaa
