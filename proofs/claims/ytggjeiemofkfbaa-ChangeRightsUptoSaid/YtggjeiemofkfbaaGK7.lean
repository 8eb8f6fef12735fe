/- Texts of this seat, put together: ChRightsWalk. -/
import Derived.Test.YtggjeiemofkfbaaGK9
/- The law ChangeRights, walked. -/
namespace Go.Proofs.Ytggjeiemofkfbaa
open Go.RowKit Ch

set_option maxRecDepth 100000 in
set_option maxHeartbeats 8000000 in
theorem rights_walkC (f : Int) (v : Value) (ops : List OpD) (g : Int) (u : Value) (ds : List OpD) (n : Int) (w : World) (hv : OpRow w v ops) (hz : SmallO ops) (hu : OpRow w u ds) :
    Calls Try.prog 3 #[chAgg f v, chAgg g u, .int .i64 n] w (OutB w true) := by
  have HV := Lib.hid hv
  have HU := Lib.hid hu
  have HZ := Lib.hid hz
  have HSZ := Lib.hid (small_sized hz)
  have HTS := Lib.hid (small_t hz)
  obtain ⟨aa, acap, rfl⟩ := hv.shape
  obtain ⟨da, dcap, rfl⟩ := hu.shape
  obtain ⟨W, hW⟩ : ∃ W, W = (w.alloc (.cells #[.int .i64 f, .slice aa ops.length acap] 24)).alloc (.cells #[.int .i64 g, .slice da ds.length dcap] 24) := ⟨_, rfl⟩
  have B0 := Lib.hid (show Below w.heap.size w W by rw [hW]; exact ((Below.refl _ _).alloc (Nat.le_refl _) _).alloc (by simp) _)
  have K0 := Lib.hid (show Boxes W [(w.heap.size, #[.int .i64 f, .slice aa ops.length acap]), (w.heap.size + 1, #[.int .i64 g, .slice da ds.length dcap])] by rw [hW]; have := ((show Boxes w [] from fun x hx => by cases hx).more #[.int .i64 f, .slice aa ops.length acap]).more #[.int .i64 g, .slice da ds.length dcap]; simpa using this)
  have HW := Lib.hid hW
  have HAW := Lib.hid (awake_any W)
  clear hv hu hz hW
  go_enter Try.func3, Try.ntmps3
  go_wp2_with fail
  rw [← HW.out]
  refine HAW.out.mono ?_
  rintro e w1 ⟨rfl, b1⟩
  have B1 := Lib.hid (B0.out.trans (b1.mono B0.out.size))
  have K1 := Lib.hid (K0.out.below b1)
  obtain ⟨c0, c1, c2⟩ := K1.out.at (b := w.heap.size) (u := .int .i64 f) (v := .slice aa ops.length acap) (by simp)
  have HC := Lib.hid (lentC_any f (.slice aa ops.length acap) ops w1 (HV.out.below B1.out) HZ.out)
  clear b1
  go_wp2_with fail
  refine HC.out.mono ?_
  rintro e w2 ⟨gg, gc, ps, rfl, hps, L2, b2⟩
  have HPS := Lib.hid hps
  have hln : ps.length = ops.length := by rw [← hps]; simp
  have hgE : gg < w2.heap.size := (L2.row.lt gg rfl).2
  have haE := Lib.hid (fun q (hq : q ∈ ps) j (hj : q.2.ownBlock = some j) => ((L2.att q hq).lt j hj).2)
  have B2 := Lib.hid (B1.out.trans (b2.mono B1.out.size))
  have K2 := Lib.hid (K1.out.below b2)
  have s12 := b2.size
  have s01 := B1.out.size
  have s00 : w.heap.size + 2 ≤ w1.heap.size := (K1.out.at (b := w.heap.size + 1) (u := .int .i64 g) (v := .slice da ds.length dcap) (by simp)).2.2
  obtain ⟨X2, hX2⟩ : ∃ X, X = w2.alloc (.cells #[.int .i64 f, .slice (some ⟨gg, 0, none⟩) ops.length gc] 24) := ⟨_, rfl⟩
  have bx := show Below w2.heap.size w2 X2 by rw [hX2]; exact below_box _ _
  have KX2 := Lib.hid (show Boxes X2 [(w.heap.size, #[.int .i64 f, .slice aa ops.length acap]), (w.heap.size + 1, #[.int .i64 g, .slice da ds.length dcap]), (w2.heap.size, #[.int .i64 f, .slice (some ⟨gg, 0, none⟩) ops.length gc])] by rw [hX2]; exact K2.out.more _)
  have LX2 := Lib.hid (L2.below bx)
  have BX2 := Lib.hid (B2.out.trans (bx.mono B2.out.size))
  have HX2 := Lib.hid hX2
  have hin : ∀ X : World, Below X2.heap.size X2 X → OpRow X (.slice (some ⟨gg, 0, none⟩) ops.length gc) ops := fun X hb => by
    have := (LX2.out.below hb).ops
    rw [hln, HPS.out] at this
    exact this
  have HIN := Lib.hid hin
  have HN := Lib.hid (changeRight_any f (.slice (some ⟨gg, 0, none⟩) ops.length gc) ops X2 (hin X2 (Below.refl _ _)) HSZ.out)
  have sx2 : X2.heap.size = w2.heap.size + 1 := by rw [hX2]; simp
  have SX2 := Lib.hid sx2
  have Y2 := Lib.hid (Below.refl X2.heap.size X2)
  clear hps L2 b2 bx hX2 hin c0 c1 hln sx2
  go_wp2_with fail
  rw [← HX2.out]
  refine HN.out.mono ?_
  clear HN
  rintro e w3 ⟨rfl, b3⟩
  have B3 := Lib.hid (BX2.out.trans (b3.mono BX2.out.size))
  have Y3 := Lib.hid (Y2.out.trans (b3.mono Y2.out.size))
  have K3 := Lib.hid (KX2.out.below b3)
  have s3 := b3.size
  obtain ⟨l0, l1, l2⟩ := K3.out.at (b := w2.heap.size) (u := .int .i64 f) (v := .slice (some ⟨gg, 0, none⟩) ops.length gc) (by simp)
  have HN := Lib.hid (to_any f (.slice (some ⟨gg, 0, none⟩) ops.length gc) ops w3 (HIN.out w3 Y3.out) HSZ.out)
  clear b3
  go_wp2_with fail
  refine HN.out.mono ?_
  clear HN l0 l1 l2
  rintro e w4 ⟨rfl, b4⟩
  have B4 := Lib.hid (B3.out.trans (b4.mono B3.out.size))
  have Y4 := Lib.hid (Y3.out.trans (b4.mono Y3.out.size))
  have K4 := Lib.hid (K3.out.below b4)
  have s4 := b4.size
  obtain ⟨l0, l1, l2⟩ := K4.out.at (b := w2.heap.size) (u := .int .i64 f) (v := .slice (some ⟨gg, 0, none⟩) ops.length gc) (by simp)
  have HN := Lib.hid (is_any f (.slice (some ⟨gg, 0, none⟩) ops.length gc) ops w4 (HIN.out w4 Y4.out) HSZ.out)
  clear b4
  go_wp2_with fail
  refine HN.out.mono ?_
  clear HN l0 l1 l2
  rintro e w5 ⟨rfl, b5⟩
  have B5 := Lib.hid (B4.out.trans (b5.mono B4.out.size))
  have Y5 := Lib.hid (Y4.out.trans (b5.mono Y4.out.size))
  have K5 := Lib.hid (K4.out.below b5)
  have s5 := b5.size
  obtain ⟨l0, l1, l2⟩ := K5.out.at (b := w2.heap.size) (u := .int .i64 f) (v := .slice (some ⟨gg, 0, none⟩) ops.length gc) (by simp)
  obtain ⟨m0, m1, m2⟩ := K5.out.at (b := w.heap.size + 1) (u := .int .i64 g) (v := .slice da ds.length dcap) (by simp)
  have HN := Lib.hid (changeSame_any f g (.slice (some ⟨gg, 0, none⟩) ops.length gc) (.slice da ds.length dcap) ops ds w5 (HIN.out w5 Y5.out) (HU.out.below B5.out))
  clear b5
  go_wp2_with fail
  refine HN.out.mono ?_
  clear HN l0 l1 l2 m0 m1 m2
  rintro e w6 ⟨rfl, b6⟩
  have B6 := Lib.hid (B5.out.trans (b6.mono B5.out.size))
  have Y6 := Lib.hid (Y5.out.trans (b6.mono Y5.out.size))
  have K6 := Lib.hid (K5.out.below b6)
  have s6 := b6.size
  obtain ⟨l0, l1, l2⟩ := K6.out.at (b := w2.heap.size) (u := .int .i64 f) (v := .slice (some ⟨gg, 0, none⟩) ops.length gc) (by simp)
  obtain ⟨m0, m1, m2⟩ := K6.out.at (b := w.heap.size) (u := .int .i64 f) (v := .slice aa ops.length acap) (by simp)
  have HN := Lib.hid (keptC_any f (.slice aa ops.length acap) ops w1.heap.size w2.heap.size gg gc ps w w6 (LX2.out.below Y6.out) HPS.out HV.out B6.out s01 HZ.out hgE haE.out (by have := SX2.out; have := Y6.out.size; omega))
  clear b6
  go_wp2_with fail
  refine HN.out.mono ?_
  clear HN l0 l1 l2 m0 m1 m2
  rintro e w7 ⟨rfl, S7⟩
  have z2 := SX2.out
  have z6 := Y6.out.size
  have B7 := Lib.hid (B6.out.trans (S7.below.mono s01))
  have K7 := Lib.hid (K6.out.span S7 (by
    intro x hx
    simp only [List.mem_cons, List.not_mem_nil, or_false] at hx
    rcases hx with rfl | rfl | rfl <;> (simp only; omega)))
  obtain ⟨l0, l1, l2⟩ := K7.out.at (b := w.heap.size) (u := .int .i64 f) (v := .slice aa ops.length acap) (by simp)
  have HN := Lib.hid (refTo_any f (.slice aa ops.length acap) ops w7 (HV.out.below B7.out) HSZ.out HTS.out)
  clear S7
  go_wp2_with fail
  refine HN.out.mono ?_
  clear HN l0 l1 l2
  rintro e w8 ⟨rfl, b8⟩
  have B8 := Lib.hid (B7.out.trans (b8.mono B7.out.size))
  have K8 := Lib.hid (K7.out.below b8)
  have HN := Lib.hid (nothing_any n w8)
  have HIS := Lib.hid (fun X (hb : Below w.heap.size w X) => refIs_any f (.slice aa ops.length acap) ops X (HV.out.below hb) HSZ.out HTS.out)
  have HSM := Lib.hid (fun X (hb : Below w.heap.size w X) => refSameCh_any f g (.slice aa ops.length acap) (.slice da ds.length dcap) ops ds X (HV.out.below hb) (HU.out.below hb))
  have t1 : (toE f ops == toE f ops) = true := by simp
  have t2 : (toN f ops == toN f ops) = true := by simp
  clear b8
  go_wp2_with fail
  refine HN.out.mono ?_
  clear HN
  rintro e w9 ⟨⟨hn, rfl⟩ | ⟨hn, rfl⟩, b9⟩
  · have B9 := Lib.hid (B8.out.trans (b9.mono B8.out.size))
    have K9 := Lib.hid (K8.out.below b9)
    obtain ⟨l0, l1, l2⟩ := K9.out.at (b := w.heap.size) (u := .int .i64 f) (v := .slice aa ops.length acap) (by simp)
    have s9 := B9.out.size
    obtain ⟨X9, hX9⟩ : ∃ X, X = w9.alloc (.cells #[.int .i64 0, .slice none 0 0] 24) := ⟨_, rfl⟩
    have bx := show Below w9.heap.size w9 X9 by rw [hX9]; exact below_box _ _
    have BX9 := Lib.hid (B9.out.trans (bx.mono B9.out.size))
    have KX9 := Lib.hid (K9.out.below bx)
    have HX9 := Lib.hid hX9
    have HI := Lib.hid (HIS.out X9 BX9.out)
    clear b9 bx hX9
    rcases hn with hn | hn
    · skip
      go_wp2_with fail
      rw [← HX9.out]
      refine HI.out.mono ?_
      rintro e w10 ⟨rfl, b10⟩
      have B10 := Lib.hid (BX9.out.trans (b10.mono BX9.out.size))
      have K10 := Lib.hid (KX9.out.below b10)
      clear l0 l1 l2
      obtain ⟨l0, l1, l2⟩ := K10.out.at (b := w.heap.size) (u := .int .i64 f) (v := .slice aa ops.length acap) (by simp)
      obtain ⟨m0, m1, m2⟩ := K10.out.at (b := w.heap.size + 1) (u := .int .i64 g) (v := .slice da ds.length dcap) (by simp)
      have HS := Lib.hid (HSM.out w10 B10.out)
      have t3 : (isB f ops == isB f ops) = true := by simp
      have t4 : (sameCh f g ops ds == sameCh f g ops ds) = true := by simp
      clear b10
      go_wp2_with fail
      refine HS.out.mono ?_
      rintro e w11 ⟨rfl, b11⟩
      have B11 := Lib.hid (B10.out.trans (b11.mono B10.out.size))
      clear b11 l0 l1 m0 m1
      go_wp2_with fail
      go_ret
      exact ⟨rfl, B11.out⟩
    · have hn0 : 0 ≤ n := by omega
      go_wp2_with fail
      rw [← HX9.out]
      refine HI.out.mono ?_
      rintro e w10 ⟨rfl, b10⟩
      have B10 := Lib.hid (BX9.out.trans (b10.mono BX9.out.size))
      have K10 := Lib.hid (KX9.out.below b10)
      clear l0 l1 l2
      obtain ⟨l0, l1, l2⟩ := K10.out.at (b := w.heap.size) (u := .int .i64 f) (v := .slice aa ops.length acap) (by simp)
      obtain ⟨m0, m1, m2⟩ := K10.out.at (b := w.heap.size + 1) (u := .int .i64 g) (v := .slice da ds.length dcap) (by simp)
      have HS := Lib.hid (HSM.out w10 B10.out)
      have t3 : (isB f ops == isB f ops) = true := by simp
      have t4 : (sameCh f g ops ds == sameCh f g ops ds) = true := by simp
      clear b10
      go_wp2_with fail
      refine HS.out.mono ?_
      rintro e w11 ⟨rfl, b11⟩
      have B11 := Lib.hid (B10.out.trans (b11.mono B10.out.size))
      clear b11 l0 l1 m0 m1
      go_wp2_with fail
      go_ret
      exact ⟨rfl, B11.out⟩
  · have B9 := Lib.hid (B8.out.trans (b9.mono B8.out.size))
    have K9 := Lib.hid (K8.out.below b9)
    obtain ⟨l0, l1, l2⟩ := K9.out.at (b := w.heap.size) (u := .int .i64 f) (v := .slice aa ops.length acap) (by simp)
    have s9 := B9.out.size
    obtain ⟨X9, hX9⟩ : ∃ X, X = w9.alloc (.cells #[.int .i64 n, .slice none 0 0] 24) := ⟨_, rfl⟩
    have bx := show Below w9.heap.size w9 X9 by rw [hX9]; exact below_box _ _
    have BX9 := Lib.hid (B9.out.trans (bx.mono B9.out.size))
    have KX9 := Lib.hid (K9.out.below bx)
    have HX9 := Lib.hid hX9
    have HI := Lib.hid (HIS.out X9 BX9.out)
    clear b9 bx hX9
    obtain ⟨hn0, hn1⟩ := hn
    have nn : (n == n) = true := by simp
    go_wp2_with fail
    rw [← HX9.out]
    refine HI.out.mono ?_
    rintro e w10 ⟨rfl, b10⟩
    have B10 := Lib.hid (BX9.out.trans (b10.mono BX9.out.size))
    have K10 := Lib.hid (KX9.out.below b10)
    clear l0 l1 l2
    obtain ⟨l0, l1, l2⟩ := K10.out.at (b := w.heap.size) (u := .int .i64 f) (v := .slice aa ops.length acap) (by simp)
    obtain ⟨m0, m1, m2⟩ := K10.out.at (b := w.heap.size + 1) (u := .int .i64 g) (v := .slice da ds.length dcap) (by simp)
    have HS := Lib.hid (HSM.out w10 B10.out)
    have t3 : (isB f ops == isB f ops) = true := by simp
    have t4 : (sameCh f g ops ds == sameCh f g ops ds) = true := by simp
    clear b10
    go_wp2_with fail
    refine HS.out.mono ?_
    rintro e w11 ⟨rfl, b11⟩
    have B11 := Lib.hid (B10.out.trans (b11.mono B10.out.size))
    clear b11 l0 l1 m0 m1
    go_wp2_with fail
    go_ret
    exact ⟨rfl, B11.out⟩

theorem rights_walkB (f : Int) (v : Value) (ops : List OpD) (g : Int) (u : Value) (ds : List OpD) (n : Int) (w : World) (hv : OpRow w v ops) (hz : SmallO ops) (hu : OpRow w u ds) (_ : OSized ds) (_ : -9223372036854775808 ≤ n) (_ : n ≤ 9223372036854775807) :
    Calls Try.prog 3 #[chAgg f v, chAgg g u, .int .i64 n] w (OutB w true) := rights_walkC f v ops g u ds n w hv hz hu
end Go.Proofs.Ytggjeiemofkfbaa
