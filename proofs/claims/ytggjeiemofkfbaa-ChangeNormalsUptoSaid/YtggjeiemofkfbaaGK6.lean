/- Texts of this seat, put together: ChNormalsWalk. -/
import Derived.Test.YtggjeiemofkfbaaGK9
/- The law ChangeNormals, walked. -/
namespace Go.Proofs.Ytggjeiemofkfbaa
open Go.RowKit Ch

set_option maxRecDepth 100000 in
set_option maxHeartbeats 8000000 in
theorem normals_walk (f : Int) (v : Value) (ops : List OpD) (w : World) (hv : OpRow w v ops) (hz : SmallO ops) :
    Calls Try.prog 4 #[chAgg f v] w (OutB w true) := by
  have HV := Lib.hid hv
  have HZ := Lib.hid hz
  have HSZ := Lib.hid (small_sized hz)
  have HTS := Lib.hid (small_t hz)
  obtain ⟨aa, acap, rfl⟩ := hv.shape
  obtain ⟨W, hW⟩ : ∃ W, W = w.alloc (.cells #[.int .i64 f, .slice aa ops.length acap] 24) := ⟨_, rfl⟩
  have B0 := Lib.hid (show Below w.heap.size w W by rw [hW]; exact below_box _ _)
  have K0 := Lib.hid (show Boxes W [(w.heap.size, #[.int .i64 f, .slice aa ops.length acap])] by rw [hW]; exact (show Boxes w [] from fun x hx => by cases hx).more _)
  have HW := Lib.hid hW
  have HAW := Lib.hid (awake_any W)
  clear hv hz hW
  go_enter Try.func4, Try.ntmps4
  go_wp2_with fail
  rw [← HW.out]
  refine HAW.out.mono ?_
  rintro e w1 ⟨rfl, b1⟩
  have B1 := Lib.hid (B0.out.trans (b1.mono B0.out.size))
  have K1 := Lib.hid (K0.out.below b1)
  obtain ⟨c0, c1, c2⟩ := K1.out.at (b := w.heap.size) (u := .int .i64 f) (v := .slice aa ops.length acap) (by simp)
  have HC := Lib.hid (lentC_any f (.slice aa ops.length acap) ops w1 (HV.out.below B1.out) HZ.out)
  clear b1
  go_wp2_with fail
  refine HC.out.mono ?_
  rintro e w2 ⟨gg, gc, ps, rfl, hps, L2, b2⟩
  have HPS := Lib.hid hps
  have hln : ps.length = ops.length := by rw [← hps]; simp
  have hgE : gg < w2.heap.size := (L2.row.lt gg rfl).2
  have haE := Lib.hid (fun q (hq : q ∈ ps) j (hj : q.2.ownBlock = some j) => ((L2.att q hq).lt j hj).2)
  have B2 := Lib.hid (B1.out.trans (b2.mono B1.out.size))
  have K2 := Lib.hid (K1.out.below b2)
  have s12 := b2.size
  have s01 := B1.out.size
  obtain ⟨X2, hX2⟩ : ∃ X, X = w2.alloc (.cells #[.int .i64 f, .slice (some ⟨gg, 0, none⟩) ops.length gc] 24) := ⟨_, rfl⟩
  have bx := show Below w2.heap.size w2 X2 by rw [hX2]; exact below_box _ _
  have KX2 := Lib.hid (show Boxes X2 [(w.heap.size, #[.int .i64 f, .slice aa ops.length acap]), (w2.heap.size, #[.int .i64 f, .slice (some ⟨gg, 0, none⟩) ops.length gc])] by rw [hX2]; exact K2.out.more _)
  have LX2 := Lib.hid (L2.below bx)
  have BX2 := Lib.hid (B2.out.trans (bx.mono B2.out.size))
  have HX2 := Lib.hid hX2
  have hin : ∀ X : World, Below X2.heap.size X2 X → OpRow X (.slice (some ⟨gg, 0, none⟩) ops.length gc) ops := fun X hb => by
    have := (LX2.out.below hb).ops
    rw [hln, HPS.out] at this
    exact this
  have HIN := Lib.hid hin
  have HC3 := Lib.hid (normU_any f (.slice (some ⟨gg, 0, none⟩) ops.length gc) ops X2 (hin X2 (Below.refl _ _)) HSZ.out)
  have sx2 : X2.heap.size = w2.heap.size + 1 := by rw [hX2]; simp
  have SX2 := Lib.hid sx2
  clear hps L2 b2 bx hX2 hin c0 c1 hln sx2
  go_wp2_with fail
  rw [← HX2.out]
  refine HC3.out.mono ?_
  rintro e w3 ⟨v3, ps3, rfl, e3, o3, b3⟩
  have U3 := Lib.hid (ownU_mk o3)
  have E3 := Lib.hid e3
  obtain ⟨va3, vn3, vc3, hv3⟩ : ∃ a n c, v3 = .slice a n c := by obtain ⟨a, c, h⟩ := own_slice o3.1; exact ⟨a, _, c, h⟩
  subst hv3
  have B3 := Lib.hid (BX2.out.trans (b3.mono BX2.out.size))
  have Y3 := Lib.hid (b3)
  have K3 := Lib.hid (KX2.out.below b3)
  have s3 := b3.size
  obtain ⟨l0, l1, l2⟩ := K3.out.at (b := w2.heap.size) (u := .int .i64 f) (v := .slice (some ⟨gg, 0, none⟩) ops.length gc) (by simp)
  obtain ⟨X3, hX3⟩ : ∃ X, X = w3.alloc (.cells #[.int .i64 (nF f ops), .slice va3 vn3 vc3] 24) := ⟨_, rfl⟩
  have bx := show Below w3.heap.size w3 X3 by rw [hX3]; exact below_box _ _
  have KX3 := Lib.hid (show Boxes X3 [(w.heap.size, #[.int .i64 f, .slice aa ops.length acap]), (w2.heap.size, #[.int .i64 f, .slice (some ⟨gg, 0, none⟩) ops.length gc]), (w3.heap.size, #[.int .i64 (nF f ops), .slice va3 vn3 vc3])] by rw [hX3]; exact K3.out.more _)
  have BX3 := Lib.hid (B3.out.trans (bx.mono B3.out.size))
  have YX3 := Lib.hid (Y3.out.trans (bx.mono Y3.out.size))
  have U3_X3 := Lib.hid (U3.out.below bx)
  have HX3 := Lib.hid hX3
  have sx3 : X3.heap.size = w3.heap.size + 1 := by rw [hX3]; simp
  have SX3 := Lib.hid sx3
  have HN := Lib.hid (normU_any f (.slice (some ⟨gg, 0, none⟩) ops.length gc) ops X3 (HIN.out X3 YX3.out) HSZ.out)
  clear e3 o3 b3 bx hX3 sx3
  go_wp2_with fail
  rw [← HX3.out]
  refine HN.out.mono ?_
  clear HN
  clear l0 l1 l2
  rintro e w4 ⟨v4, ps4, rfl, e4, o4, b4⟩
  have U4 := Lib.hid (ownU_mk o4)
  have E4 := Lib.hid e4
  obtain ⟨va4, vn4, vc4, hv4⟩ : ∃ a n c, v4 = .slice a n c := by obtain ⟨a, c, h⟩ := own_slice o4.1; exact ⟨a, _, c, h⟩
  subst hv4
  have B4 := Lib.hid (BX3.out.trans (b4.mono BX3.out.size))
  have Y4 := Lib.hid (YX3.out.trans (b4.mono YX3.out.size))
  have K4 := Lib.hid (KX3.out.below b4)
  have s4 := b4.size
  have U3_4 := Lib.hid (U3_X3.out.below b4)
  obtain ⟨l0, l1, l2⟩ := K4.out.at (b := w2.heap.size) (u := .int .i64 f) (v := .slice (some ⟨gg, 0, none⟩) ops.length gc) (by simp)
  obtain ⟨X4, hX4⟩ : ∃ X, X = w4.alloc (.cells #[.int .i64 (nF f ops), .slice va4 vn4 vc4] 24) := ⟨_, rfl⟩
  have bx := show Below w4.heap.size w4 X4 by rw [hX4]; exact below_box _ _
  have KX4 := Lib.hid (show Boxes X4 [(w.heap.size, #[.int .i64 f, .slice aa ops.length acap]), (w2.heap.size, #[.int .i64 f, .slice (some ⟨gg, 0, none⟩) ops.length gc]), (w3.heap.size, #[.int .i64 (nF f ops), .slice va3 vn3 vc3]), (w4.heap.size, #[.int .i64 (nF f ops), .slice va4 vn4 vc4])] by rw [hX4]; exact K4.out.more _)
  have BX4 := Lib.hid (B4.out.trans (bx.mono B4.out.size))
  have YX4 := Lib.hid (Y4.out.trans (bx.mono Y4.out.size))
  have U4_X4 := Lib.hid (U4.out.below bx)
  have HX4 := Lib.hid hX4
  have sx4 : X4.heap.size = w4.heap.size + 1 := by rw [hX4]; simp
  have SX4 := Lib.hid sx4
  have U3_X4 := Lib.hid (U3_4.out.below bx)
  have HN := Lib.hid (changeClone_any f (.slice (some ⟨gg, 0, none⟩) ops.length gc) ops X4 (HIN.out X4 YX4.out) HZ.out)
  clear e4 o4 b4 bx hX4 sx4
  go_wp2_with fail
  rw [← HX4.out]
  refine HN.out.mono ?_
  clear HN
  clear l0 l1 l2
  rintro e w5 ⟨v5, rfl, ⟨ps5, e5, o5⟩, b5⟩
  have U5 := Lib.hid (ownU_mk o5)
  have E5 := Lib.hid e5
  obtain ⟨va5, vn5, vc5, hv5⟩ : ∃ a n c, v5 = .slice a n c := by obtain ⟨a, c, h⟩ := own_slice o5.1; exact ⟨a, _, c, h⟩
  subst hv5
  have B5 := Lib.hid (BX4.out.trans (b5.mono BX4.out.size))
  have Y5 := Lib.hid (YX4.out.trans (b5.mono YX4.out.size))
  have K5 := Lib.hid (KX4.out.below b5)
  have s5 := b5.size
  have U3_5 := Lib.hid (U3_X4.out.below b5)
  have U4_5 := Lib.hid (U4_X4.out.below b5)
  obtain ⟨l0, l1, l2⟩ := K5.out.at (b := w2.heap.size) (u := .int .i64 f) (v := .slice (some ⟨gg, 0, none⟩) ops.length gc) (by simp)
  obtain ⟨X5, hX5⟩ : ∃ X, X = w5.alloc (.cells #[.int .i64 f, .slice va5 vn5 vc5] 24) := ⟨_, rfl⟩
  have bx := show Below w5.heap.size w5 X5 by rw [hX5]; exact below_box _ _
  have KX5 := Lib.hid (show Boxes X5 [(w.heap.size, #[.int .i64 f, .slice aa ops.length acap]), (w2.heap.size, #[.int .i64 f, .slice (some ⟨gg, 0, none⟩) ops.length gc]), (w3.heap.size, #[.int .i64 (nF f ops), .slice va3 vn3 vc3]), (w4.heap.size, #[.int .i64 (nF f ops), .slice va4 vn4 vc4]), (w5.heap.size, #[.int .i64 f, .slice va5 vn5 vc5])] by rw [hX5]; exact K5.out.more _)
  have BX5 := Lib.hid (B5.out.trans (bx.mono B5.out.size))
  have YX5 := Lib.hid (Y5.out.trans (bx.mono Y5.out.size))
  have U5_X5 := Lib.hid (U5.out.below bx)
  have HX5 := Lib.hid hX5
  have sx5 : X5.heap.size = w5.heap.size + 1 := by rw [hX5]; simp
  have SX5 := Lib.hid sx5
  have U3_X5 := Lib.hid (U3_5.out.below bx)
  have U4_X5 := Lib.hid (U4_5.out.below bx)
  have HN := Lib.hid (changeClone_any f (.slice (some ⟨gg, 0, none⟩) ops.length gc) ops X5 (HIN.out X5 YX5.out) HZ.out)
  clear e5 o5 b5 bx hX5 sx5
  go_wp2_with fail
  rw [← HX5.out]
  refine HN.out.mono ?_
  clear HN
  clear l0 l1 l2
  rintro e w6 ⟨v6, rfl, ⟨ps6, e6, o6⟩, b6⟩
  have U6 := Lib.hid (ownU_mk o6)
  have E6 := Lib.hid e6
  obtain ⟨va6, vn6, vc6, hv6⟩ : ∃ a n c, v6 = .slice a n c := by obtain ⟨a, c, h⟩ := own_slice o6.1; exact ⟨a, _, c, h⟩
  subst hv6
  have B6 := Lib.hid (BX5.out.trans (b6.mono BX5.out.size))
  have Y6 := Lib.hid (YX5.out.trans (b6.mono YX5.out.size))
  have K6 := Lib.hid (KX5.out.below b6)
  have s6 := b6.size
  have U3_6 := Lib.hid (U3_X5.out.below b6)
  have U4_6 := Lib.hid (U4_X5.out.below b6)
  have U5_6 := Lib.hid (U5_X5.out.below b6)
  obtain ⟨l0, l1, l2⟩ := K6.out.at (b := w2.heap.size) (u := .int .i64 f) (v := .slice (some ⟨gg, 0, none⟩) ops.length gc) (by simp)
  obtain ⟨l3, l4, l5⟩ := K6.out.at (b := w.heap.size) (u := .int .i64 f) (v := .slice aa ops.length acap) (by simp)
  obtain ⟨X6, hX6⟩ : ∃ X, X = w6.alloc (.cells #[.int .i64 f, .slice va6 vn6 vc6] 24) := ⟨_, rfl⟩
  have bx := show Below w6.heap.size w6 X6 by rw [hX6]; exact below_box _ _
  have KX6 := Lib.hid (show Boxes X6 [(w.heap.size, #[.int .i64 f, .slice aa ops.length acap]), (w2.heap.size, #[.int .i64 f, .slice (some ⟨gg, 0, none⟩) ops.length gc]), (w3.heap.size, #[.int .i64 (nF f ops), .slice va3 vn3 vc3]), (w4.heap.size, #[.int .i64 (nF f ops), .slice va4 vn4 vc4]), (w5.heap.size, #[.int .i64 f, .slice va5 vn5 vc5]), (w6.heap.size, #[.int .i64 f, .slice va6 vn6 vc6])] by rw [hX6]; exact K6.out.more _)
  have BX6 := Lib.hid (B6.out.trans (bx.mono B6.out.size))
  have YX6 := Lib.hid (Y6.out.trans (bx.mono Y6.out.size))
  have U6_X6 := Lib.hid (U6.out.below bx)
  have HX6 := Lib.hid hX6
  have sx6 : X6.heap.size = w6.heap.size + 1 := by rw [hX6]; simp
  have SX6 := Lib.hid sx6
  have U3_X6 := Lib.hid (U3_6.out.below bx)
  have U4_X6 := Lib.hid (U4_6.out.below bx)
  have U5_X6 := Lib.hid (U5_6.out.below bx)
  have HN := Lib.hid (keptC_any f (.slice aa ops.length acap) ops w1.heap.size w2.heap.size gg gc ps w X6 (LX2.out.below YX6.out) HPS.out HV.out BX6.out s01 HZ.out hgE haE.out (by have := SX2.out; have := YX6.out.size; omega))
  clear e6 o6 b6 bx hX6 sx6
  go_wp2_with fail
  rw [← HX6.out]
  refine HN.out.mono ?_
  clear HN
  clear l3 l4 l5
  clear l0 l1 l2
  rintro e w7 ⟨rfl, S7⟩
  have z2 := SX2.out
  have z3 := SX3.out
  have z4 := SX4.out
  have z5 := SX5.out
  have z6 := SX6.out
  have B7 := Lib.hid (BX6.out.trans (S7.below.mono s01))
  have K7 := Lib.hid (KX6.out.span S7 (by
    intro x hx
    simp only [List.mem_cons, List.not_mem_nil, or_false] at hx
    rcases hx with rfl | rfl | rfl | rfl | rfl | rfl <;> (simp only; omega)))
  have U3_7 := Lib.hid (U3_X6.out.span S7 (by omega))
  have U4_7 := Lib.hid (U4_X6.out.span S7 (by omega))
  have U5_7 := Lib.hid (U5_X6.out.span S7 (by omega))
  have U6_7 := Lib.hid (U6_X6.out.span S7 (by omega))
  have s7 := S7.below.size
  have s67 : X6.heap.size ≤ w7.heap.size := s7
  obtain ⟨l0, l1, l2⟩ := K7.out.at (b := w.heap.size) (u := .int .i64 f) (v := .slice aa ops.length acap) (by simp)
  have HN := Lib.hid (refNormU_any f (.slice aa ops.length acap) ops w7 (HV.out.below B7.out) HSZ.out HTS.out)
  clear S7
  go_wp2_with fail
  refine HN.out.mono ?_
  rintro e w8 ⟨v8, ps8, rfl, e8, o8, b8⟩
  clear HN l0 l1 l2
  have U8 := Lib.hid (ownU_mk o8)
  have E8 := Lib.hid e8
  obtain ⟨va8, vn8, vc8, hv8⟩ : ∃ a n c, v8 = .slice a n c := by obtain ⟨a, c, h⟩ := own_slice o8.1; exact ⟨a, _, c, h⟩
  subst hv8
  have B8 := Lib.hid (B7.out.trans (b8.mono B7.out.size))
  have K8 := Lib.hid (K7.out.below b8)
  have s8 := b8.size
  have U3_8 := Lib.hid (U3_7.out.below b8)
  have U4_8 := Lib.hid (U4_7.out.below b8)
  have U5_8 := Lib.hid (U5_7.out.below b8)
  have U6_8 := Lib.hid (U6_7.out.below b8)
  obtain ⟨l0, l1, l2⟩ := K8.out.at (b := w3.heap.size) (u := .int .i64 (nF f ops)) (v := .slice va3 vn3 vc3) (by simp)
  obtain ⟨X8, hX8⟩ : ∃ X, X = w8.alloc (.cells #[.int .i64 (nF f ops), .slice va8 vn8 vc8] 24) := ⟨_, rfl⟩
  have bx := show Below w8.heap.size w8 X8 by rw [hX8]; exact below_box _ _
  have KX8 := Lib.hid (show Boxes X8 [(w.heap.size, #[.int .i64 f, .slice aa ops.length acap]), (w2.heap.size, #[.int .i64 f, .slice (some ⟨gg, 0, none⟩) ops.length gc]), (w3.heap.size, #[.int .i64 (nF f ops), .slice va3 vn3 vc3]), (w4.heap.size, #[.int .i64 (nF f ops), .slice va4 vn4 vc4]), (w5.heap.size, #[.int .i64 f, .slice va5 vn5 vc5]), (w6.heap.size, #[.int .i64 f, .slice va6 vn6 vc6]), (w8.heap.size, #[.int .i64 (nF f ops), .slice va8 vn8 vc8])] by rw [hX8]; exact K8.out.more _)
  have BX8 := Lib.hid (B8.out.trans (bx.mono B8.out.size))
  have U3_X8 := Lib.hid (U3_8.out.below bx)
  have U4_X8 := Lib.hid (U4_8.out.below bx)
  have U5_X8 := Lib.hid (U5_8.out.below bx)
  have U6_X8 := Lib.hid (U6_8.out.below bx)
  have U8_X8 := Lib.hid (U8.out.below bx)
  have HX8 := Lib.hid hX8
  have sx8 : w8.heap.size < X8.heap.size := by rw [hX8]; simp
  have HN := Lib.hid (refSame_yes (nF f ops) (.slice va3 vn3 vc3) (.slice va8 vn8 vc8) (nL f ops) X8 (U3_X8.out.row E3.out) (U8_X8.out.row E8.out))
  clear e8 o8 b8 bx hX8
  go_wp2_with fail
  rw [← HX8.out]
  refine HN.out.mono ?_
  rintro e w9 ⟨rfl, b9⟩
  clear HN l0 l1 l2
  have B9 := Lib.hid (BX8.out.trans (b9.mono BX8.out.size))
  have K9 := Lib.hid (KX8.out.below b9)
  have s9 := b9.size
  have U3_9 := Lib.hid (U3_X8.out.below b9)
  have U4_9 := Lib.hid (U4_X8.out.below b9)
  have U5_9 := Lib.hid (U5_X8.out.below b9)
  have U6_9 := Lib.hid (U6_X8.out.below b9)
  have U8_9 := Lib.hid (U8_X8.out.below b9)
  obtain ⟨l0, l1, l2⟩ := K9.out.at (b := w5.heap.size) (u := .int .i64 f) (v := .slice va5 vn5 vc5) (by simp)
  obtain ⟨l3, l4, l5⟩ := K9.out.at (b := w.heap.size) (u := .int .i64 f) (v := .slice aa ops.length acap) (by simp)
  have HN := Lib.hid (refSame_yes f (.slice va5 vn5 vc5) (.slice aa ops.length acap) ops w9 (U5_9.out.row E5.out) (HV.out.below B9.out))
  clear b9
  go_wp2_with fail
  refine HN.out.mono ?_
  rintro e w10 ⟨rfl, b10⟩
  clear HN l0 l1 l2 l3 l4 l5
  have B10 := Lib.hid (B9.out.trans (b10.mono B9.out.size))
  have K10 := Lib.hid (K9.out.below b10)
  have s10 := b10.size
  have U3_10 := Lib.hid (U3_9.out.below b10)
  have U4_10 := Lib.hid (U4_9.out.below b10)
  have U5_10 := Lib.hid (U5_9.out.below b10)
  have U6_10 := Lib.hid (U6_9.out.below b10)
  have U8_10 := Lib.hid (U8_9.out.below b10)
  obtain ⟨l0, l1, l2⟩ := K10.out.at (b := w3.heap.size) (u := .int .i64 (nF f ops)) (v := .slice va3 vn3 vc3) (by simp)
  obtain ⟨l3, l4, l5⟩ := K10.out.at (b := w5.heap.size) (u := .int .i64 f) (v := .slice va5 vn5 vc5) (by simp)
  have S0 : w10.drew.cell? ⟨w3.heap.size, 0, none⟩ = some (.int .i64 (nF f ops)) ∧ w10.drew.cell? ⟨w3.heap.size, 1, none⟩ = some (.slice va3 vn3 vc3) ∧ w10.drew.cell? ⟨w5.heap.size, 0, none⟩ = some (.int .i64 f) ∧ w10.drew.cell? ⟨w5.heap.size, 1, none⟩ = some (.slice va5 vn5 vc5) := ⟨l0, l1, l3, l4⟩
  clear b10
  go_wp2_with fail
  refine wp_region_B (fun w' => w'.cell? ⟨w3.heap.size, 0, none⟩ = some (.int .i64 (nF f ops)) ∧ w'.cell? ⟨w3.heap.size, 1, none⟩ = some (.slice va3 vn3 vc3) ∧ w'.cell? ⟨w5.heap.size, 0, none⟩ = some (.int .i64 f) ∧ w'.cell? ⟨w5.heap.size, 1, none⟩ = some (.slice va5 vn5 vc5)) [3] (by kernel_rfl) (?_ : wpAnyB _ _ _ _ _ _ 6 (Array.replicate 6 false) _ _)
  refine wpAnyB_load [0,1,3] (fuel := 5) (i := 0) (v := ?_) rfl (by kernel_rfl) (by kernel_rfl) (by kernel_rfl) (by kernel_rfl) (by kernel_rfl) (fun _ _ _ h => h) (.inr S0) ?_ (by rfl) ?_
  rotate_left
  · intro w' hw'; obtain ⟨m0, m1, m2, m3⟩ := hw'; go_simp; (try with_reducible rfl)
  simp only [Act.put, List.getElem_toArray, List.getElem_cons_zero, List.setIfInBounds_toArray, List.set_cons_zero, List.set_cons_succ]
  refine wpAnyB_load [2,3] (fuel := 4) (i := 2) (v := ?_) rfl (by kernel_rfl) (by kernel_rfl) (by kernel_rfl) (by kernel_rfl) (by kernel_rfl) (fun _ _ _ h => h) (.inr S0) ?_ (by rfl) ?_
  rotate_left
  · intro w' hw'; obtain ⟨m0, m1, m2, m3⟩ := hw'; go_simp; (try with_reducible rfl)
  simp only [Act.put, List.getElem_toArray, List.getElem_cons_zero, List.getElem_cons_succ, List.setIfInBounds_toArray, List.set_cons_zero, List.set_cons_succ]
  refine wpAnyB_one (fuel := 3) (i := 1) rfl (by kernel_rfl) ?_
  intro KB hKB
  go_simp
  refine (spoilC_any (nF f ops) (.slice va3 vn3 vc3) X2.heap.size w3.heap.size ps3 w10.drew (U3_10.out.own.keep (keep_below (ts := []) (Below.refl _ w10).drew (Nat.le_refl _)) (by simp) (by simp)) (by rw [E3.out]; exact nL_small f ops) U3_10.out.top U3_10.out.att (show w3.heap.size ≤ w10.heap.size by omega) (show X2.heap.size ≤ w10.heap.size by omega)).mono ?_
  rintro e w11 ⟨N11, rfl, n11a, n11b, S11⟩
  have S11' : Span X2.heap.size w3.heap.size w10 w11 := ⟨⟨S11.below.os, S11.below.tape, S11.below.output, S11.below.size, S11.below.block⟩, S11.block⟩
  have B11 := Lib.hid (B10.out.trans (S11'.below.mono (by omega)))
  have K11 := Lib.hid (K10.out.span S11' (by
    intro x hx
    simp only [List.mem_cons, List.not_mem_nil, or_false] at hx
    rcases hx with rfl | rfl | rfl | rfl | rfl | rfl | rfl <;> (simp only; omega)))
  have U4_11 := Lib.hid (U4_10.out.span S11' (by omega))
  have U5_11 := Lib.hid (U5_10.out.span S11' (by omega))
  have U6_11 := Lib.hid (U6_10.out.span S11' (by omega))
  have U8_11 := Lib.hid (U8_10.out.span S11' (by omega))
  have s11 := S11'.below.size
  have k11 := K11.out
  have SA : w11.cell? ⟨w3.heap.size, 0, none⟩ = some (.int .i64 (nF f ops)) ∧ w11.cell? ⟨w3.heap.size, 1, none⟩ = some (.slice va3 vn3 vc3) ∧ w11.cell? ⟨w5.heap.size, 0, none⟩ = some (.int .i64 f) ∧ w11.cell? ⟨w5.heap.size, 1, none⟩ = some (.slice va5 vn5 vc5) := by
    obtain ⟨a0, a1, _⟩ := k11.at (b := w3.heap.size) (u := .int .i64 (nF f ops)) (v := .slice va3 vn3 vc3) (by simp)
    obtain ⟨a3, a4, _⟩ := k11.at (b := w5.heap.size) (u := .int .i64 f) (v := .slice va5 vn5 vc5) (by simp)
    exact ⟨a0, a1, a3, a4⟩
  clear S11 S11' k11
  refine hKB _ _ (.inr SA) ?_
  (try simp only [Act.put, List.getElem_toArray, List.getElem_cons_zero, List.getElem_cons_succ, List.setIfInBounds_toArray, List.set_cons_zero, List.set_cons_succ])
  refine wpAnyB_one (fuel := 2) (i := 3) rfl (by kernel_rfl) ?_
  intro KB hKB
  go_simp
  refine (spoilC_any f (.slice va5 vn5 vc5) X4.heap.size w5.heap.size ps5 w11 U5_11.out.own (by rw [E5.out]; exact HZ.out) U5_11.out.top U5_11.out.att (show w5.heap.size ≤ w11.heap.size by omega) (show X4.heap.size ≤ w11.heap.size by omega)).mono ?_
  rintro e w12 ⟨N12, rfl, n12a, n12b, S12⟩
  have B12 := Lib.hid (B11.out.trans (S12.below.mono (by omega)))
  have K12 := Lib.hid (K11.out.span S12 (by
    intro x hx
    simp only [List.mem_cons, List.not_mem_nil, or_false] at hx
    rcases hx with rfl | rfl | rfl | rfl | rfl | rfl | rfl <;> (simp only; omega)))
  have U4_12 := Lib.hid (U4_11.out.under (S12.below.mono (by omega)))
  have U6_12 := Lib.hid (U6_11.out.span S12 (by omega))
  have U8_12 := Lib.hid (U8_11.out.span S12 (by omega))
  have s12' := S12.below.size
  clear S12
  refine hKB _ _ (.inl (by kernel_rfl)) ?_
  (try simp only [Act.put, List.getElem_toArray, List.getElem_cons_zero, List.getElem_cons_succ, List.setIfInBounds_toArray, List.set_cons_zero, List.set_cons_succ])
  refine wpAnyB_free (fuel := 1) (i := 4) (v := ?_) rfl (by kernel_rfl) (by kernel_rfl) (by kernel_rfl) (by kernel_rfl) (fun _ _ _ h => h) (.inl (by kernel_rfl)) ?_ (by rfl) ?_
  rotate_left
  · intro w'; go_simp; (try with_reducible rfl)
  simp only [Act.put, List.getElem_toArray, List.getElem_cons_zero, List.getElem_cons_succ, List.setIfInBounds_toArray, List.set_cons_zero, List.set_cons_succ]
  refine wpAnyB_free (fuel := 0) (i := 5) (v := ?_) rfl (by kernel_rfl) (by kernel_rfl) (by kernel_rfl) (by kernel_rfl) (fun _ _ _ h => h) (.inl (by kernel_rfl)) ?_ (by rfl) ?_
  rotate_left
  · intro w'; go_simp; (try with_reducible rfl)
  simp only [Act.put, List.getElem_toArray, List.getElem_cons_zero, List.getElem_cons_succ, List.setIfInBounds_toArray, List.set_cons_zero, List.set_cons_succ]
  refine wpAnyB_done (by kernel_rfl) ?_
  clear l0 l1 l2 l3 l4 l5 S0 SA
  obtain ⟨l0, l1, l2⟩ := K12.out.at (b := w4.heap.size) (u := .int .i64 (nF f ops)) (v := .slice va4 vn4 vc4) (by simp)
  obtain ⟨l3, l4, l5⟩ := K12.out.at (b := w8.heap.size) (u := .int .i64 (nF f ops)) (v := .slice va8 vn8 vc8) (by simp)
  have HN := Lib.hid (refSame_yes (nF f ops) (.slice va4 vn4 vc4) (.slice va8 vn8 vc8) (nL f ops) w12 (U4_12.out.row E4.out) (U8_12.out.row E8.out))
  go_wp2_with fail
  refine HN.out.mono ?_
  rintro e w13 ⟨rfl, b13⟩
  clear HN l0 l1 l2 l3 l4 l5
  have B13 := Lib.hid (B12.out.trans (b13.mono B12.out.size))
  have K13 := Lib.hid (K12.out.below b13)
  have U6_13 := Lib.hid (U6_12.out.below b13)
  obtain ⟨l0, l1, l2⟩ := K13.out.at (b := w6.heap.size) (u := .int .i64 f) (v := .slice va6 vn6 vc6) (by simp)
  obtain ⟨l3, l4, l5⟩ := K13.out.at (b := w.heap.size) (u := .int .i64 f) (v := .slice aa ops.length acap) (by simp)
  have HN := Lib.hid (refSame_yes f (.slice va6 vn6 vc6) (.slice aa ops.length acap) ops w13 (U6_13.out.row E6.out) (HV.out.below B13.out))
  clear b13
  go_wp2_with fail
  refine HN.out.mono ?_
  rintro e w14 ⟨rfl, b14⟩
  clear HN l0 l1 l2 l3 l4 l5
  have B14 := Lib.hid (B13.out.trans (b14.mono B13.out.size))
  have hn2 : 2 ≤ N11 + N12 := by omega
  have tt : (toE f ops == toE f ops) = true := by simp
  clear b14
  go_wp2_with fail
  go_ret
  exact ⟨rfl, B14.out⟩
end Go.Proofs.Ytggjeiemofkfbaa
