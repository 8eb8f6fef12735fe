/- Texts of this seat, put together: MjQ, MlQ, ChLawQ, LaQ, HbQ, HdQ, Dj0Q, DjQ, LbQ, HeQ. -/
import Derived.Test.YtlfodemmdfaeeaaDoorGM5
import Derived.Test.YtlfodemmdfaeeaaDoorGM7
import Derived.Test.YtlfodemmdfaeeaaDoorGQA
import Derived.Test.YtlfodemmdfaeeaaDoorGD0
import Derived.Test.YtlfodemmdfaeeaaDoorGH1
import Derived.Test.YtlfodemmdfaeeaaDoorGG1
import Derived.Test.YtlfodemmdfaeeaaDoorGL2
import Derived.RegionTactic
import Derived.ChangeAlike
import Derived.BigRegion
import Derived.WalkKit
/- The program's normal: two changesets in their normal forms, if the one goes on where the other ends. -/
namespace Go.Proofs.YtlfodemmdfaeeaaDoor
open Go.RowKit Rn Ch
open At hiding put

def Nrm5Out (w : World) (f g : Int) (A C : List OpD) (e : Ending) (w' : World) : Prop :=
  Below w.heap.size w w' ∧ ∃ (x0 y0 : Int) (ua va : Option Addr) (un uc vn vc : Nat), e = .returned (.tuple #[chAgg x0 (.slice ua un uc), chAgg y0 (.slice va vn vc), .int .i64 (nrmE f g A C)]) ∧
    (nrmE f g A C = 0 → x0 = f ∧ y0 = g ∧ OwnOps w' w.heap.size (.slice ua un uc) (norm A) ∧ OwnOps w' w.heap.size (.slice va vn vc) (norm C))
set_option maxRecDepth 100000 in
set_option maxHeartbeats 4000000 in
theorem normal5_any (f g : Int) (va vb : Value) (A C : List OpD) (w : World) (hv : OpRow w va A) (hz : OSized A) (hu : OpRow w vb C) (hy : OSized C) :
    Calls Tryd.prog 25 #[chAgg f va, chAgg g vb] w (Nrm5Out w f g A C) := by
  obtain ⟨W, hW⟩ : ∃ W, W = (((w.alloc (.cells #[.int .i64 f, va] 25)).alloc (.cells #[.int .i64 g, vb] 25)).alloc (.cells #[.int .i64 0, .slice none 0 0] 25)).alloc (.cells #[.int .i64 0, .slice none 0 0] 25) := ⟨_, rfl⟩
  have BW := Lib.hid (show Below w.heap.size w W by rw [hW]; exact ((((Below.refl _ _).alloc (Nat.le_refl _) _).alloc (by simp) _).alloc (by simp; omega) _).alloc (by simp; omega) _)
  have k1 : W.heap[w.heap.size + 1]? = some (.cells #[.int .i64 g, vb] 25 (0, 0)) := by
    rw [hW]
    have := heap_new (w.alloc (.cells #[.int .i64 f, va] 25)) (.cells #[.int .i64 g, vb] 25)
    rw [World.size_alloc] at this
    exact (Below.heap_alloc _ _ _ (by simp)).trans ((Below.heap_alloc _ _ _ (by simp)).trans this)
  have k2 : W.heap[w.heap.size + 1 + 1]? = some (.cells #[.int .i64 0, .slice none 0 0] 25 (0, 0)) := by
    rw [hW]
    exact (Below.heap_alloc _ _ _ (by simp)).trans (by
      have := heap_new ((w.alloc (.cells #[.int .i64 f, va] 25)).alloc (.cells #[.int .i64 g, vb] 25)) (.cells #[.int .i64 0, .slice none 0 0] 25)
      rwa [World.size_alloc, World.size_alloc] at this)
  have k3 : W.heap[w.heap.size + 1 + 1 + 1]? = some (.cells #[.int .i64 0, .slice none 0 0] 25 (0, 0)) := by
    rw [hW]
    have := heap_new (((w.alloc (.cells #[.int .i64 f, va] 25)).alloc (.cells #[.int .i64 g, vb] 25)).alloc (.cells #[.int .i64 0, .slice none 0 0] 25)) (.cells #[.int .i64 0, .slice none 0 0] 25)
    rwa [World.size_alloc, World.size_alloc, World.size_alloc] at this
  have HK := Lib.hid (And.intro k1 (And.intro k2 k3))
  have HU := Lib.hid (fun X (hb : Below w.heap.size w X) => hu.below hb)
  have HV := Lib.hid (hv.below BW.out)
  have HZ := Lib.hid hz
  have HYZ := Lib.hid hy
  obtain ⟨aa, ac, rfl⟩ := hv.shape
  obtain ⟨ca, cc, rfl⟩ := hu.shape
  have HW := Lib.hid hW
  clear hW k1 k2 k3 hv hu hz hy
  by_cases hA : toE f A = 0
  · have HN := Lib.hid (normal_ok f _ A W HV.out HZ.out hA)
    have HEA := Lib.hid hA
    clear hA
    by_cases hC : toE g C = 0
    · have HNB := Lib.hid (fun Y (h : Below w.heap.size w Y) => normal_ok g _ C Y (HU.out Y h) HYZ.out hC)
      have hEE : nrmE f g A C = if toN f A ≠ g then 31 else 0 := by unfold nrmE; rw [if_neg (by rw [HEA.out]; simp), if_neg (by rw [hC]; simp)]
      have HNT := Lib.hid (And.intro (norm_to HEA.out).2 (norm_to HEA.out).1)
      have HNS := Lib.hid (show OSized (norm A) from fun o ho => by
        have hvo := vop_of ((toE_iff f (norm A)).1 (norm_to HEA.out).1) ho
        exact ⟨by have := hvo.text; unfold maxLen; omega, hvo.attrs.sized⟩)
      unfold Nrm5Out
      rw [hEE]
      clear hC hEE
      generalize toN f A = nn at HNT ⊢
      by_cases hm : nn = g
      · have tm : (nn != g) = false := by rw [hm]; simp
        rw [if_neg (by simpa using hm)]
        have HM := Lib.hid hm
        clear hm
        go_enter Tryd.func25, Tryd.ntmps25
        go_wp2_with fail
        rw [← HW.out]
        refine HN.out.mono ?_
        rintro e w1 ⟨u, rfl, hO, b⟩
        obtain ⟨ua, uc, rfl⟩ := own_nil_slice hO
        have B1 := Lib.hid (BW.out.trans (b.mono BW.out.size))
        have z1 := (b.block _ (lt_of_heap HK.out.1)).trans HK.out.1
        have z2 := (b.block _ (lt_of_heap HK.out.2.1)).trans HK.out.2.1
        have z3 := (b.block _ (lt_of_heap HK.out.2.2)).trans HK.out.2.2
        obtain ⟨p0, p1, p2, p3⟩ := cells2 z2
        obtain ⟨n0, n1, _, _⟩ := cells2 z1
        have l1 := lt_of_heap z1
        have l2 := lt_of_heap z2
        have l3 := lt_of_heap z3
        obtain ⟨Y, hY, y2, y1, y3, yk⟩ : ∃ Y, Y = (w1.setCell ⟨w.heap.size + 1 + 1, 0, none⟩ (.int .i64 f)).setCell ⟨w.heap.size + 1 + 1, 1, none⟩ (.slice ua (norm A).length uc) ∧ Y.heap[w.heap.size + 1 + 1]? = some (.cells #[.int .i64 f, .slice ua (norm A).length uc] 25 (0, 0)) ∧ Y.heap[w.heap.size + 1]? = some (.cells #[.int .i64 g, .slice ca C.length cc] 25 (0, 0)) ∧ Y.heap[w.heap.size + 1 + 1 + 1]? = some (.cells #[.int .i64 0, .slice none 0 0] 25 (0, 0)) ∧ Keep (w.heap.size + 1 + 1) [25] w1 Y := by
          obtain ⟨r1, r2, r3⟩ := agg_set (.int .i64 f) (.slice ua (norm A).length uc) z2
          exact ⟨_, rfl, r1, (r3 _ (by omega)).trans z1, (r3 _ (by omega)).trans z3, r2⟩
        have BY := Lib.hid (B1.out.trans (yk.below.mono (by omega)))
        have OY := Lib.hid ((hO.keep' yk (by decide) (by decide)).base' (show w.heap.size ≤ W.heap.size from BW.out.size))
        have YY := Lib.hid (And.intro y2 (And.intro y1 y3))
        have HYE := Lib.hid hY
        clear b hO z1 z2 z3 y1 y2 y3 yk hY HK HN
        go_wp2_with fail
        rw [← HYE.out]
        refine (HNB.out Y BY.out).mono ?_
        rintro e w2 ⟨u2, rfl, hO2, b⟩
        obtain ⟨va, vc, rfl⟩ := own_nil_slice hO2
        have B2 := Lib.hid (BY.out.trans (b.mono BY.out.size))
        have z2 := (b.block _ (lt_of_heap YY.out.1)).trans YY.out.1
        have z3 := (b.block _ (lt_of_heap YY.out.2.2)).trans YY.out.2.2
        obtain ⟨g0, g1, g2, g3⟩ := cells2 z2
        obtain ⟨q0, q1, q2, q3⟩ := cells2 z3
        have m2 := lt_of_heap z2
        have m3 := lt_of_heap z3
        obtain ⟨X, hX, x3, x2, xk⟩ : ∃ X, X = (w2.setCell ⟨w.heap.size + 1 + 1 + 1, 0, none⟩ (.int .i64 g)).setCell ⟨w.heap.size + 1 + 1 + 1, 1, none⟩ (.slice va (norm C).length vc) ∧ X.heap[w.heap.size + 1 + 1 + 1]? = some (.cells #[.int .i64 g, .slice va (norm C).length vc] 25 (0, 0)) ∧ X.heap[w.heap.size + 1 + 1]? = some (.cells #[.int .i64 f, .slice ua (norm A).length uc] 25 (0, 0)) ∧ Keep (w.heap.size + 1 + 1 + 1) [25] w2 X := by
          obtain ⟨r1, r2, r3⟩ := agg_set (.int .i64 g) (.slice va (norm C).length vc) z3
          exact ⟨_, rfl, r1, (r3 _ (by omega)).trans z2, r2⟩
        have BX := Lib.hid (B2.out.trans (xk.below.mono (by omega)))
        have OX := Lib.hid (And.intro ((OwnOps.keep' (ts := []) OY.out (keep_below (B := w.heap.size) b (by have := BY.out.size; omega)) (by simp) (by simp)).keep' xk (by decide) (by decide)) ((hO2.keep' xk (by decide) (by decide)).base' (show w.heap.size ≤ Y.heap.size from BY.out.size)))
        have HTO := Lib.hid (to_any f (.slice ua (norm A).length uc) (norm A) X (by obtain ⟨ps, hps, hP⟩ := OX.out.1; rw [← hps]; rw [← hps] at hP; exact hP.row) HNS.out)
        unfold ToOut at HTO
        rw [HNT.out.1, HNT.out.2] at HTO
        have XX := Lib.hid (And.intro x2 x3)
        have HXE := Lib.hid hX
        clear b hO2 z2 z3 x2 x3 xk hX HNB
        go_wp2_with fail
        rw [← HXE.out]
        refine HTO.out.mono ?_
        rintro e w3 ⟨rfl, b⟩
        have B3 := Lib.hid (BX.out.trans (b.mono BX.out.size))
        have z2 := (b.block _ (lt_of_heap XX.out.1)).trans XX.out.1
        have z3 := (b.block _ (lt_of_heap XX.out.2)).trans XX.out.2
        have O3 := Lib.hid (And.intro (OwnOps.keep' (ts := []) OX.out.1 (keep_below (B := w.heap.size) b (by have := BX.out.size; omega)) (by simp) (by simp)) (OwnOps.keep' (ts := []) OX.out.2 (keep_below (B := w.heap.size) b (by have := BX.out.size; omega)) (by simp) (by simp)))
        obtain ⟨g0', g1', g2', g3'⟩ := cells2 z2
        obtain ⟨q0', q1', q2', q3'⟩ := cells2 z3
        have m2' := lt_of_heap z2
        have m3' := lt_of_heap z3
        have Z2 := Lib.hid z2
        have Z3 := Lib.hid z3
        clear b z2 z3 HTO
        go_wp2_with fail
        go_region
        go_wp2_with fail
        obtain ⟨s1, s2, s3⟩ := set22 (u0 := .int .i64 f) (u1 := .slice ua (norm A).length uc) (v0 := .int .i64 g) (v1 := .slice va (norm C).length vc) Z2.out Z3.out (show w.heap.size + 1 + 1 + 1 ≠ w.heap.size + 1 + 1 by omega) (show w.heap.size ≤ w.heap.size + 1 + 1 by omega) (by omega)
        refine bodyPost_ret (results_nrm rfl rfl rfl rfl s1 s2) rfl ?_
        have o1 := O3.out.1.keep' (ts := [25]) s3 (by decide) (by decide)
        have o2 := O3.out.2.keep' (ts := [25]) s3 (by decide) (by decide)
        exact ⟨(B3.out.trans (s3.below.mono (by omega))).drew, f, g, ua, va, (norm A).length, uc, (norm C).length, vc, rfl, fun _ => ⟨rfl, rfl, o1, o2⟩⟩
      · have tm : (nn != g) = true := by rw [bne_iff_ne]; exact hm
        rw [if_pos hm]
        have HM := Lib.hid hm
        clear hm
        go_enter Tryd.func25, Tryd.ntmps25
        go_wp2_with fail
        rw [← HW.out]
        refine HN.out.mono ?_
        rintro e w1 ⟨u, rfl, hO, b⟩
        obtain ⟨ua, uc, rfl⟩ := own_nil_slice hO
        have B1 := Lib.hid (BW.out.trans (b.mono BW.out.size))
        have z1 := (b.block _ (lt_of_heap HK.out.1)).trans HK.out.1
        have z2 := (b.block _ (lt_of_heap HK.out.2.1)).trans HK.out.2.1
        have z3 := (b.block _ (lt_of_heap HK.out.2.2)).trans HK.out.2.2
        obtain ⟨p0, p1, p2, p3⟩ := cells2 z2
        obtain ⟨n0, n1, _, _⟩ := cells2 z1
        have l1 := lt_of_heap z1
        have l2 := lt_of_heap z2
        have l3 := lt_of_heap z3
        obtain ⟨Y, hY, y2, y1, y3, yk⟩ : ∃ Y, Y = (w1.setCell ⟨w.heap.size + 1 + 1, 0, none⟩ (.int .i64 f)).setCell ⟨w.heap.size + 1 + 1, 1, none⟩ (.slice ua (norm A).length uc) ∧ Y.heap[w.heap.size + 1 + 1]? = some (.cells #[.int .i64 f, .slice ua (norm A).length uc] 25 (0, 0)) ∧ Y.heap[w.heap.size + 1]? = some (.cells #[.int .i64 g, .slice ca C.length cc] 25 (0, 0)) ∧ Y.heap[w.heap.size + 1 + 1 + 1]? = some (.cells #[.int .i64 0, .slice none 0 0] 25 (0, 0)) ∧ Keep (w.heap.size + 1 + 1) [25] w1 Y := by
          obtain ⟨r1, r2, r3⟩ := agg_set (.int .i64 f) (.slice ua (norm A).length uc) z2
          exact ⟨_, rfl, r1, (r3 _ (by omega)).trans z1, (r3 _ (by omega)).trans z3, r2⟩
        have BY := Lib.hid (B1.out.trans (yk.below.mono (by omega)))
        have OY := Lib.hid ((hO.keep' yk (by decide) (by decide)).base' (show w.heap.size ≤ W.heap.size from BW.out.size))
        have YY := Lib.hid (And.intro y2 (And.intro y1 y3))
        have HYE := Lib.hid hY
        clear b hO z1 z2 z3 y1 y2 y3 yk hY HK HN
        go_wp2_with fail
        rw [← HYE.out]
        refine (HNB.out Y BY.out).mono ?_
        rintro e w2 ⟨u2, rfl, hO2, b⟩
        obtain ⟨va, vc, rfl⟩ := own_nil_slice hO2
        have B2 := Lib.hid (BY.out.trans (b.mono BY.out.size))
        have z2 := (b.block _ (lt_of_heap YY.out.1)).trans YY.out.1
        have z3 := (b.block _ (lt_of_heap YY.out.2.2)).trans YY.out.2.2
        obtain ⟨g0, g1, g2, g3⟩ := cells2 z2
        obtain ⟨q0, q1, q2, q3⟩ := cells2 z3
        have m2 := lt_of_heap z2
        have m3 := lt_of_heap z3
        obtain ⟨X, hX, x3, x2, xk⟩ : ∃ X, X = (w2.setCell ⟨w.heap.size + 1 + 1 + 1, 0, none⟩ (.int .i64 g)).setCell ⟨w.heap.size + 1 + 1 + 1, 1, none⟩ (.slice va (norm C).length vc) ∧ X.heap[w.heap.size + 1 + 1 + 1]? = some (.cells #[.int .i64 g, .slice va (norm C).length vc] 25 (0, 0)) ∧ X.heap[w.heap.size + 1 + 1]? = some (.cells #[.int .i64 f, .slice ua (norm A).length uc] 25 (0, 0)) ∧ Keep (w.heap.size + 1 + 1 + 1) [25] w2 X := by
          obtain ⟨r1, r2, r3⟩ := agg_set (.int .i64 g) (.slice va (norm C).length vc) z3
          exact ⟨_, rfl, r1, (r3 _ (by omega)).trans z2, r2⟩
        have BX := Lib.hid (B2.out.trans (xk.below.mono (by omega)))
        have OX := Lib.hid (And.intro ((OwnOps.keep' (ts := []) OY.out (keep_below (B := w.heap.size) b (by have := BY.out.size; omega)) (by simp) (by simp)).keep' xk (by decide) (by decide)) ((hO2.keep' xk (by decide) (by decide)).base' (show w.heap.size ≤ Y.heap.size from BY.out.size)))
        have HTO := Lib.hid (to_any f (.slice ua (norm A).length uc) (norm A) X (by obtain ⟨ps, hps, hP⟩ := OX.out.1; rw [← hps]; rw [← hps] at hP; exact hP.row) HNS.out)
        unfold ToOut at HTO
        rw [HNT.out.1, HNT.out.2] at HTO
        have XX := Lib.hid (And.intro x2 x3)
        have HXE := Lib.hid hX
        clear b hO2 z2 z3 x2 x3 xk hX HNB
        go_wp2_with fail
        rw [← HXE.out]
        refine HTO.out.mono ?_
        rintro e w3 ⟨rfl, b⟩
        have B3 := Lib.hid (BX.out.trans (b.mono BX.out.size))
        have z2 := (b.block _ (lt_of_heap XX.out.1)).trans XX.out.1
        have z3 := (b.block _ (lt_of_heap XX.out.2)).trans XX.out.2
        have O3 := Lib.hid (And.intro (OwnOps.keep' (ts := []) OX.out.1 (keep_below (B := w.heap.size) b (by have := BX.out.size; omega)) (by simp) (by simp)) (OwnOps.keep' (ts := []) OX.out.2 (keep_below (B := w.heap.size) b (by have := BX.out.size; omega)) (by simp) (by simp)))
        obtain ⟨g0', g1', g2', g3'⟩ := cells2 z2
        obtain ⟨q0', q1', q2', q3'⟩ := cells2 z3
        have m2' := lt_of_heap z2
        have m3' := lt_of_heap z3
        have Z2 := Lib.hid z2
        have Z3 := Lib.hid z3
        clear b z2 z3 HTO
        go_wp2_with fail
        go_region
        go_wp2_with fail
        obtain ⟨s1, s2, s3⟩ := set22 (u0 := .int .i64 f) (u1 := .slice ua (norm A).length uc) (v0 := .int .i64 g) (v1 := .slice va (norm C).length vc) Z2.out Z3.out (show w.heap.size + 1 + 1 + 1 ≠ w.heap.size + 1 + 1 by omega) (show w.heap.size ≤ w.heap.size + 1 + 1 by omega) (by omega)
        refine bodyPost_ret (results_nrm rfl rfl rfl rfl s1 s2) rfl ?_
        exact ⟨(B3.out.trans (s3.below.mono (by omega))).drew, f, g, ua, va, (norm A).length, uc, (norm C).length, vc, rfl, fun h => by omega⟩
    · have HNB := Lib.hid (fun Y (h : Below w.heap.size w Y) => normal_bad g _ C Y (HU.out Y h) HYZ.out hC)
      have te : (toE g C != 0) = true := by rw [bne_iff_ne]; exact hC
      have hE : nrmE f g A C = toE g C := by unfold nrmE; rw [if_neg (by rw [HEA.out]; simp), if_pos hC]
      have HC0 := Lib.hid hC
      unfold Nrm5Out
      rw [hE]
      clear hC hE
      generalize toE g C = z at te HC0 HNB ⊢
      go_enter Tryd.func25, Tryd.ntmps25
      go_wp2_with fail
      rw [← HW.out]
      refine HN.out.mono ?_
      rintro e w1 ⟨u, rfl, hO, b⟩
      obtain ⟨ua, uc, rfl⟩ := own_nil_slice hO
      have B1 := Lib.hid (BW.out.trans (b.mono BW.out.size))
      have z1 := (b.block _ (lt_of_heap HK.out.1)).trans HK.out.1
      have z2 := (b.block _ (lt_of_heap HK.out.2.1)).trans HK.out.2.1
      have z3 := (b.block _ (lt_of_heap HK.out.2.2)).trans HK.out.2.2
      obtain ⟨p0, p1, p2, p3⟩ := cells2 z2
      obtain ⟨n0, n1, _, _⟩ := cells2 z1
      have l1 := lt_of_heap z1
      have l2 := lt_of_heap z2
      have l3 := lt_of_heap z3
      obtain ⟨Y, hY, y2, y1, y3, yk⟩ : ∃ Y, Y = (w1.setCell ⟨w.heap.size + 1 + 1, 0, none⟩ (.int .i64 f)).setCell ⟨w.heap.size + 1 + 1, 1, none⟩ (.slice ua (norm A).length uc) ∧ Y.heap[w.heap.size + 1 + 1]? = some (.cells #[.int .i64 f, .slice ua (norm A).length uc] 25 (0, 0)) ∧ Y.heap[w.heap.size + 1]? = some (.cells #[.int .i64 g, .slice ca C.length cc] 25 (0, 0)) ∧ Y.heap[w.heap.size + 1 + 1 + 1]? = some (.cells #[.int .i64 0, .slice none 0 0] 25 (0, 0)) ∧ Keep (w.heap.size + 1 + 1) [25] w1 Y := by
        obtain ⟨r1, r2, r3⟩ := agg_set (.int .i64 f) (.slice ua (norm A).length uc) z2
        exact ⟨_, rfl, r1, (r3 _ (by omega)).trans z1, (r3 _ (by omega)).trans z3, r2⟩
      have BY := Lib.hid (B1.out.trans (yk.below.mono (by omega)))
      have OY := Lib.hid ((hO.keep' yk (by decide) (by decide)).base' (show w.heap.size ≤ W.heap.size from BW.out.size))
      have YY := Lib.hid (And.intro y2 (And.intro y1 y3))
      have HYE := Lib.hid hY
      clear b hO z1 z2 z3 y1 y2 y3 yk hY HK HN
      go_wp2_with fail
      rw [← HYE.out]
      refine (HNB.out Y BY.out).mono ?_
      rintro e w2 ⟨rfl, b⟩
      have B2 := Lib.hid (BY.out.trans (b.mono BY.out.size))
      have z2 := (b.block _ (lt_of_heap YY.out.1)).trans YY.out.1
      have z3 := (b.block _ (lt_of_heap YY.out.2.2)).trans YY.out.2.2
      obtain ⟨g0, g1, g2, g3⟩ := cells2 z2
      obtain ⟨q0, q1, q2, q3⟩ := cells2 z3
      have m2 := lt_of_heap z2
      have m3 := lt_of_heap z3
      have Z2 := Lib.hid z2
      have Z3 := Lib.hid z3
      clear b z2 z3 HNB
      go_wp2_with fail
      go_region
      go_wp2_with fail
      obtain ⟨X, hX⟩ : ∃ X, X = (w2.setCell ⟨w.heap.size + 1 + 1 + 1, 0, none⟩ (.int .i64 0)).setCell ⟨w.heap.size + 1 + 1 + 1, 1, none⟩ (.slice none 0 0) := ⟨_, rfl⟩
      obtain ⟨r1, r2, r3⟩ := agg_set (.int .i64 0) (.slice none 0 0) Z3.out
      have r4 := (r3 (w.heap.size + 1 + 1) (by omega)).trans Z2.out
      rw [← hX] at r1 r2 r4 ⊢
      clear hX r3
      obtain ⟨s1, s2, s3⟩ := set22 (u0 := .int .i64 f) (u1 := .slice ua (norm A).length uc) (v0 := .int .i64 0) (v1 := .slice none 0 0) r4 r1 (show w.heap.size + 1 + 1 + 1 ≠ w.heap.size + 1 + 1 by omega) (show w.heap.size ≤ w.heap.size + 1 + 1 by omega) (by omega)
      refine bodyPost_ret (results_nrm rfl rfl rfl rfl s1 s2) rfl ?_
      exact ⟨((B2.out.trans (r2.below.mono (by omega))).trans s3.below).drew, f, 0, ua, none, (norm A).length, uc, 0, 0, rfl, fun h => absurd h HC0.out⟩
  · have HN := Lib.hid (normal_bad f _ A W HV.out HZ.out hA)
    have te : (toE f A != 0) = true := by rw [bne_iff_ne]; exact hA
    have hE : nrmE f g A C = toE f A := by unfold nrmE; rw [if_pos hA]
    have HA0 := Lib.hid hA
    unfold Nrm5Out
    rw [hE]
    clear hA hE
    generalize toE f A = z at te HA0 HN ⊢
    go_enter Tryd.func25, Tryd.ntmps25
    go_wp2_with fail
    rw [← HW.out]
    refine HN.out.mono ?_
    rintro e w1 ⟨rfl, b⟩
    have B1 := Lib.hid (BW.out.trans (b.mono BW.out.size))
    have z2 := (b.block _ (lt_of_heap HK.out.2.1)).trans HK.out.2.1
    have z3 := (b.block _ (lt_of_heap HK.out.2.2)).trans HK.out.2.2
    obtain ⟨p0, p1, p2, p3⟩ := cells2 z2
    obtain ⟨q0, q1, q2, q3⟩ := cells2 z3
    have l2 := lt_of_heap z2
    have l3 := lt_of_heap z3
    have Z2 := Lib.hid z2
    have Z3 := Lib.hid z3
    clear b z2 z3 HK
    go_wp2_with fail
    go_region
    go_wp2_with fail
    obtain ⟨Y, hY⟩ : ∃ Y, Y = (w1.setCell ⟨w.heap.size + 1 + 1, 0, none⟩ (.int .i64 0)).setCell ⟨w.heap.size + 1 + 1, 1, none⟩ (.slice none 0 0) := ⟨_, rfl⟩
    obtain ⟨r1, r2, r3⟩ := agg_set (.int .i64 0) (.slice none 0 0) Z2.out
    have r4 := (r3 (w.heap.size + 1 + 1 + 1) (by omega)).trans Z3.out
    rw [← hY] at r1 r2 r4 ⊢
    clear hY r3
    obtain ⟨s1, s2, s3⟩ := set22 (u0 := .int .i64 0) (u1 := .slice none 0 0) (v0 := .int .i64 0) (v1 := .slice none 0 0) r1 r4 (show w.heap.size + 1 + 1 + 1 ≠ w.heap.size + 1 + 1 by omega) (show w.heap.size ≤ w.heap.size + 1 + 1 by omega) (by omega)
    refine bodyPost_ret (results_nrm rfl rfl rfl rfl s1 s2) rfl ?_
    exact ⟨((B1.out.trans (r2.below.mono (by omega))).trans s3.below).drew, 0, 0, none, none, 0, 0, 0, 0, rfl, fun h => absurd h HA0.out⟩
end Go.Proofs.YtlfodemmdfaeeaaDoor

/- The program's Compose. -/
namespace Go.Proofs.YtlfodemmdfaeeaaDoor
open Go.RowKit Go.Shelf Rn Ch
open At hiding put
open Cp (Piece oneO oneE alC zeroO atm atms)
attribute [local go_sem] Oper.semAt_some

set_option maxRecDepth 100000 in
theorem aloneC_any (w : World) (x y : QV5) : Calls Tryd.prog 26 #[opA4 x, opA4 y] w fun e w' => e = .returned (.int .i64 (alC x.1 y.1)) ∧ Below w.heap.size w w' := by
  have b2 := Lib.hid (show Below w.heap.size w ((w.alloc (.cells #[.int .i64 x.1.kind, .int .i64 x.1.n, .string x.1.text, qv x] 45)).alloc (.cells #[.int .i64 y.1.kind, .int .i64 y.1.n, .string y.1.text, qv y] 45)) from ((Below.refl _ _).alloc (Nat.le_refl _) _).alloc (by simp) _)
  unfold alC
  by_cases k1 : x.1.kind = 3
  · have t1 : (x.1.kind == 3) = true := by rw [k1]; rfl
    rw [if_pos k1]
    clear k1
    go_enter Tryd.func26, Tryd.ntmps26
    go_wp2_with fail
    go_ret
    exact ⟨rfl, b2.out⟩
  · have t1 : (x.1.kind == 3) = false := by rw [beq_eq_false_iff_ne]; exact k1
    rw [if_neg k1]
    clear k1
    by_cases k2 : y.1.kind = 2
    · have t2 : (y.1.kind == 2) = true := by rw [k2]; rfl
      rw [if_pos k2]
      clear k2
      go_enter Tryd.func26, Tryd.ntmps26
      go_wp2_with fail
      go_ret
      exact ⟨rfl, b2.out⟩
    · have t2 : (y.1.kind == 2) = false := by rw [beq_eq_false_iff_ne]; exact k2
      rw [if_neg k2]
      clear k2
      go_enter Tryd.func26, Tryd.ntmps26
      go_wp2_with fail
      go_ret
      exact ⟨rfl, b2.out⟩
theorem cmpE_unfit {f g : Int} {A C : List OpD} (h : nrmE f g A C = 0) (hf : ¬ Cp.fit (atms (norm A)) (atms (norm C))) : cmpE f g A C = 3 := by
  unfold cmpE
  rw [if_neg (by rw [h]; simp), if_pos hf]
theorem cmpE_fit {f g : Int} {A C : List OpD} (h : nrmE f g A C = 0) (hf : Cp.fit (atms (norm A)) (atms (norm C))) : cmpE f g A C = if 2000 < (Cp.cmpN (norm A) (norm C)).length then 2 else 0 := by
  unfold cmpE
  rw [if_neg (by rw [h]; simp), if_neg (fun hn => hn hf)]
theorem three_set5 {W : World} {n : Nat} {t1 t2 : TypeId} {a b c : Value} (x y u : Value) (h1 : W.heap[n]? = some (.cells #[a, b] t1 (0, 0))) (h2 : Boxed W (n + 1) t2 c) :
    (((W.setCell ⟨n, 0, none⟩ x).setCell ⟨n, 1, none⟩ y).setCell ⟨n + 1, 0, none⟩ u).heap[n]? = some (.cells #[x, y] t1 (0, 0)) ∧ Boxed (((W.setCell ⟨n, 0, none⟩ x).setCell ⟨n, 1, none⟩ y).setCell ⟨n + 1, 0, none⟩ u) (n + 1) t2 u ∧ Keep n [t1, t2] W (((W.setCell ⟨n, 0, none⟩ x).setCell ⟨n, 1, none⟩ y).setCell ⟨n + 1, 0, none⟩ u) := by
  obtain ⟨a1, a2, a3⟩ := agg_set x y h1
  have b2 : Boxed ((W.setCell ⟨n, 0, none⟩ x).setCell ⟨n, 1, none⟩ y) (n + 1) t2 c := (a3 (n + 1) (by omega)).trans h2
  exact ⟨(Below.heap_setCell _ _ _ _ (by simp)).trans a1, b2.set u, (a2.more (by simp)).trans (keep_set (B := n) (ts := [t1, t2]) b2 (by simp) (by omega) ⟨n + 1, 0, none⟩ rfl u)⟩
/-- What Compose answers. -/
def CmpOut (w : World) (f g : Int) (A C : List OpD) (e : Ending) (w' : World) : Prop :=
  Below w.heap.size w w' ∧ ∃ a n c, e = .returned (.tuple #[chAgg (if cmpE f g A C = 0 then f else 0) (.slice a n c), .int .i64 (cmpE f g A C)]) ∧ OwnOps w' w.heap.size (.slice a n c) (if cmpE f g A C = 0 then Cp.cmpN (norm A) (norm C) else [])
theorem results_cmp {fn : Func} (h : fn.results = #[.cell 4 25, .cell 5 27]) {tmps : Array Value} {w : World} {b4 b5 : Nat} {x y v : Value} (h4 : tmps.getD 4 undef = .pointer (some ⟨b4, 0, none⟩)) (h5 : tmps.getD 5 undef = .pointer (some ⟨b5, 0, none⟩))
    (a : w.heap[b4]? = some (.cells #[x, y] 25 (0, 0))) (b : Boxed w b5 27 v) : (results fn tmps).run Tryd.prog w = .ok (.tuple #[.agg #[x, y], v]) w := by
  rw [Array.getD_eq_getD_getElem?] at h4 h5
  have a0 : w.cell? ⟨b4, 0, none⟩ = some x := by simp [World.cell?, a]
  have a1 : w.cell? ⟨b4, 1, none⟩ = some y := by simp [World.cell?, a]
  have b0 := b.cell
  clear a b
  simp [results, h, h4, h5, go_sem, a0, a1, b0]
set_option maxRecDepth 100000 in
set_option maxHeartbeats 4000000 in
theorem compose_any (f g : Int) (va vb : Value) (A C : List OpD) (w : World) (hv : OpRow w va A) (hz : OSized A) (hu : OpRow w vb C) (hy : OSized C) :
    Calls Tryd.prog 8 #[chAgg f va, chAgg g vb] w (CmpOut w f g A C) := by
  obtain ⟨W, hW⟩ : ∃ W, W = (((w.alloc (.cells #[.int .i64 f, va] 25)).alloc (.cells #[.int .i64 g, vb] 25)).alloc (.cells #[.int .i64 0, .slice none 0 0] 25)).alloc (.cells #[.int .i64 0] 27) := ⟨_, rfl⟩
  have BW := Lib.hid (show Below w.heap.size w W by rw [hW]; exact ((((Below.refl _ _).alloc (Nat.le_refl _) _).alloc (by simp) _).alloc (by simp; omega) _).alloc (by simp; omega) _)
  have HN := Lib.hid (normal5_any f g va vb A C W (hv.below BW.out) hz (hu.below BW.out) hy)
  have k0 : W.heap[w.heap.size]? = some (.cells #[.int .i64 f, va] 25 (0, 0)) := by
    rw [hW]
    exact (Below.heap_alloc _ _ _ (by simp; omega)).trans ((Below.heap_alloc _ _ _ (by simp; omega)).trans ((Below.heap_alloc _ _ _ (by simp)).trans (heap_new _ _)))
  have k1 : W.heap[w.heap.size + 1]? = some (.cells #[.int .i64 g, vb] 25 (0, 0)) := by
    rw [hW]
    have := heap_new (w.alloc (.cells #[.int .i64 f, va] 25)) (.cells #[.int .i64 g, vb] 25)
    rw [World.size_alloc] at this
    exact (Below.heap_alloc _ _ _ (by simp)).trans ((Below.heap_alloc _ _ _ (by simp)).trans this)
  have k2 : W.heap[w.heap.size + 1 + 1]? = some (.cells #[.int .i64 0, .slice none 0 0] 25 (0, 0)) := by
    rw [hW]
    exact (Below.heap_alloc _ _ _ (by simp)).trans (by
      have := heap_new ((w.alloc (.cells #[.int .i64 f, va] 25)).alloc (.cells #[.int .i64 g, vb] 25)) (.cells #[.int .i64 0, .slice none 0 0] 25)
      rwa [World.size_alloc, World.size_alloc] at this)
  have k3 : W.heap[w.heap.size + 1 + 1 + 1]? = some (.cells #[.int .i64 0] 27 (0, 0)) := by
    rw [hW]
    have := heap_new (((w.alloc (.cells #[.int .i64 f, va] 25)).alloc (.cells #[.int .i64 g, vb] 25)).alloc (.cells #[.int .i64 0, .slice none 0 0] 25)) (.cells #[.int .i64 0] 27)
    rwa [World.size_alloc, World.size_alloc, World.size_alloc] at this
  have HK := Lib.hid (And.intro k0 (And.intro k1 (And.intro k2 k3)))
  obtain ⟨aa, ac, rfl⟩ := hv.shape
  obtain ⟨ca, cc, rfl⟩ := hu.shape
  have HW := Lib.hid hW
  clear hW k0 k1 k2 k3 hv hu hz hy
  refine (callsIn_wide (n := 0)).1 ?_
  unfold CmpOut
  by_cases hE : nrmE f g A C = 0
  · have hnz : toE f A = 0 ∧ toE g C = 0 ∧ toN f A = g := by
      unfold nrmE at hE
      by_cases h1 : toE f A = 0
      · rw [if_neg (by rw [h1]; simp)] at hE
        by_cases h2 : toE g C = 0
        · rw [if_neg (by rw [h2]; simp)] at hE
          by_cases h3 : toN f A = g
          · exact ⟨h1, h2, h3⟩
          · rw [if_pos h3] at hE; omega
        · rw [if_pos h2] at hE; exact absurd hE h2
      · rw [if_pos h1] at hE; exact absurd hE h1
    have HCF := Lib.hid (nrm_zero hnz.1 hnz.2.1 hnz.2.2)
    have HCE := Lib.hid (And.intro (fun hf => cmpE_unfit hE hf) (fun hf => cmpE_fit hE hf))
    unfold Nrm5Out at HN
    rw [hE] at HN
    clear hE hnz
    obtain ⟨E, hEE⟩ : ∃ E, E = cmpE f g A C := ⟨_, rfl⟩
    obtain ⟨F, hFF⟩ : ∃ F, F = (if cmpE f g A C = 0 then f else 0) := ⟨_, rfl⟩
    obtain ⟨L, hLL⟩ : ∃ L, L = (if cmpE f g A C = 0 then Cp.cmpN (norm A) (norm C) else []) := ⟨_, rfl⟩
    rw [← hEE] at hFF hLL ⊢
    rw [← hFF, ← hLL]
    have HEF := Lib.hid (And.intro hEE (And.intro hFF hLL))
    clear hEE hFF hLL
    refine callsIn_of_wp_marks Tryd.func8 rfl trivial ?_ rfl
    simp only [Tryd.ntmps8, List.size_toArray, List.length_cons, List.length_nil, Nat.reduceAdd, Nat.reduceSub, Array.replicate_succ, Array.replicate_zero, List.push_toArray, List.append_toArray, List.nil_append, List.cons_append]
    gi_wp2
    rw [← HW.out]
    refine ⟨trivial, rfl, (callsIn_wide.2 HN.out).mono ?_⟩
    rintro e w1 ⟨b, x0, y0, ua, va', un, uc, vn, vc, rfl, hO⟩
    obtain ⟨rfl, rfl, ⟨pA, hpA, oA⟩, ⟨pC, hpC, oC⟩⟩ := hO trivial
    have B1 := Lib.hid (BW.out.trans (b.mono BW.out.size))
    have z0 := (b.block _ (lt_of_heap HK.out.1)).trans HK.out.1
    have z1 := (b.block _ (lt_of_heap HK.out.2.1)).trans HK.out.2.1
    have z2 := (b.block _ (lt_of_heap HK.out.2.2.1)).trans HK.out.2.2.1
    have z3 := (b.block _ (lt_of_heap HK.out.2.2.2)).trans HK.out.2.2.2
    obtain ⟨p0, p1, p2, p3⟩ := cells2 z0
    obtain ⟨q0, q1, q2, q3⟩ := cells2 z1
    obtain ⟨r0, r1, r2, r3⟩ := cells2 z2
    have l0 := lt_of_heap z0
    have l1 := lt_of_heap z1
    have l3 := lt_of_heap z3
    have hn1 : w.heap.size + 3 < w1.heap.size := l3
    have ZZ := Lib.hid (And.intro z0 (And.intro z1 (And.intro z2 z3)))
    have HOP := Lib.hid (And.intro oA oC)
    have HPE := Lib.hid (And.intro hpA hpC)
    clear b z0 z1 z2 z3 HN HK HW hO hpA hpC oA oC
    gi_wp2
    obtain ⟨Y1, hY1, s1, s2, s3⟩ : ∃ Y1, Y1 = (((w1.setCell ⟨w.heap.size, 0, none⟩ (.int .i64 x0)).setCell ⟨w.heap.size, 1, none⟩ (.slice ua un uc)).setCell ⟨w.heap.size + 1, 0, none⟩ (.int .i64 y0)).setCell ⟨w.heap.size + 1, 1, none⟩ (.slice va' vn vc) ∧ Y1.heap[w.heap.size]? = some (.cells #[.int .i64 x0, .slice ua un uc] 25 (0, 0)) ∧ (∀ i, i ≠ w.heap.size → i ≠ w.heap.size + 1 → Y1.heap[i]? = w1.heap[i]?) ∧ Keep w.heap.size [25] w1 Y1 := by
      obtain ⟨r1, r2, r3⟩ := set22 (B := w.heap.size) (u0 := .int .i64 x0) (u1 := .slice ua un uc) (v0 := .int .i64 y0) (v1 := .slice va' vn vc) ZZ.out.1 ZZ.out.2.1 (show w.heap.size + 1 ≠ w.heap.size by omega) (Nat.le_refl _) (by omega)
      exact ⟨_, rfl, r1, fun i h1 h2 => (Below.heap_setCell _ _ _ _ h2).trans ((Below.heap_setCell _ _ _ _ h2).trans ((Below.heap_setCell _ _ _ _ h1).trans (Below.heap_setCell _ _ _ _ h1))), r3⟩
    have hsY1 : Y1.heap.size = w1.heap.size := by rw [hY1]; simp
    obtain ⟨Y, hY⟩ : ∃ Y, Y = Y1.alloc (.cells #[.slice none 0 0, .pointer none, .slice none 0 0, .int .i64 0] 58) := ⟨_, rfl⟩
    have bY : Below Y1.heap.size Y1 Y := by rw [hY]; exact below_box Y1 _
    have gY : Y.heap[w1.heap.size]? = some (.cells #[.slice none 0 0, .pointer none, .slice none 0 0, .int .i64 0] 58 (0, 0)) := by rw [hY, ← hsY1]; exact heap_new _ _
    have kY : ∀ {i : Nat} {o : Obj}, Y1.heap[i]? = some o → Y.heap[i]? = some o := fun hi => (bY.block _ (lt_of_heap hi)).trans hi
    have oA' := (HOP.out.1.keep s3 (by decide) (by decide)).keep (keep_below (ts := []) bY (Nat.le_refl _)) (by simp) (by simp)
    have oC' := (HOP.out.2.keep s3 (by decide) (by decide)).keep (keep_below (ts := []) bY (Nat.le_refl _)) (by simp) (by simp)
    obtain ⟨qA, eA, rA, tA⟩ := qs_of oA'
    obtain ⟨qC, eC, rC, tC⟩ := qs_of oC'
    have eA' := eA.trans HPE.out.1
    have eC' := eC.trans HPE.out.2
    have vA := vq_of HCF.out.okA eA'
    have vC := vq_of HCF.out.okB eC'
    have lA : qA.length ≤ 2000 := by have := congrArg List.length eA'; rw [List.length_map] at this; rw [this]; exact HCF.out.okA.2.2.1
    have lC : qC.length ≤ 2000 := by have := congrArg List.length eC'; rw [List.length_map] at this; rw [this]; exact HCF.out.okB.2.2.1
    obtain ⟨ps, hM⟩ := met_ex (qA.length + qC.length) qA qC (Nat.le_refl _) vA vC
    have BY := Lib.hid ((B1.out.trans s3.below).trans (bY.mono (by have := s3.below.size; have := B1.out.size; omega)))
    have S0 : StM w Y w1.heap.size x0 (.slice ua un uc) qA qC ps 0 := {
      below := BY.out
      gat := ⟨_, nst_new gY⟩
      ba := kY s1
      r4 := kY ((s2 _ (by omega) (by omega)).trans ZZ.out.2.2.1)
      r5 := kY ((s2 _ (by omega) (by omega)).trans ZZ.out.2.2.2)
      own := fun q hq => hq.elim (fun h => ⟨_, tA q h⟩) (fun h => ⟨_, tC q h⟩)
      ok := fun i _ h => absurd h (Nat.not_lt_zero _) }
    have hsY : w1.heap.size < Y.heap.size := lt_of_heap gY
    rw [← hY1, ← hY]
    have HS0 := Lib.hid S0
    have HM := Lib.hid hM
    have HRQ := Lib.hid (And.intro rA rC)
    have HVQ := Lib.hid (And.intro (And.intro vA vC) (And.intro eA' eC'))
    have hn4 : w.heap.size + 1 + 1 + 1 < Y.heap.size := by omega
    have HLN := Lib.hid (And.intro lA lC)
    clear hY1 hY s1 s2 s3 bY gY kY oA' oC' eA eC eA' eC' rA rC tA tC S0 hM hsY1 p0 p1 p2 p3 q0 q1 q2 q3 r0 r1 r2 r3 l0 l1 l3 ZZ HOP HPE
    refine ⟨trivial, rfl, (callsIn_wide.2 (meet5_any x0 y0 (.slice ua un uc) (.slice va' vn vc) (.func (.func 26) #[] #[]) 26 rfl ⟨_, _, _, rfl⟩ ⟨_, _, _, rfl⟩ Y)).mono ?_⟩
    rintro e w3 ⟨rfl, hw3⟩
    have b3 : Below Y.heap.size Y w3 := by rw [hw3]; exact (((Below.refl _ _).alloc (Nat.le_refl _) _).alloc (by simp) _).alloc (by simp; omega) _
    have h30 : w3.heap[Y.heap.size]? = some (.cells #[.int .i64 x0, .slice ua un uc] 25 (0, 0)) := by rw [hw3]; exact (Below.heap_alloc _ _ _ (by simp; omega)).trans ((Below.heap_alloc _ _ _ (by simp)).trans (heap_new _ _))
    have h31 : w3.heap[Y.heap.size + 1]? = some (.cells #[.int .i64 y0, .slice va' vn vc] 25 (0, 0)) := by
      rw [hw3]
      have := heap_new (Y.alloc (.cells #[.int .i64 x0, .slice ua un uc] 25)) (.cells #[.int .i64 y0, .slice va' vn vc] 25)
      rw [World.size_alloc] at this
      exact (Below.heap_alloc _ _ _ (by simp)).trans this
    have h32 : Boxed w3 (Y.heap.size + 1 + 1) 71 (.func (.func 26) #[] #[]) := by
      rw [hw3]
      have := heap_new ((Y.alloc (.cells #[.int .i64 x0, .slice ua un uc] 25)).alloc (.cells #[.int .i64 y0, .slice va' vn vc] 25)) (.cells #[.func (.func 26) #[] #[]] 71)
      rw [World.size_alloc, World.size_alloc] at this
      exact this
    have S3 := Lib.hid (HS0.out.step (step_below (N := 0) (own := []) WT5 b3 (by omega)))
    have H3 := Lib.hid (And.intro h30 (And.intro h31 h32))
    have HB3 := Lib.hid b3
    have hs3 := b3.size
    have HIT := Lib.hid (meet_iter w.heap.size Y.heap.size (Y.heap.size + 1) (Y.heap.size + 1 + 1) x0 y0 (.slice ua un uc) (.slice va' vn vc) qA qC ps alC (.func (.func 26) #[] #[]) TB5 (fun _ _ => True) (fun _ _ => True) HM.out.met HVQ.out.1.1 HVQ.out.1.2 lA lC ⟨fun _ _ => trivial, fun _ => trivial, fun _ _ _ _ _ _ => trivial⟩ (by decide) (by decide) (by decide) (by decide) (by decide) (fun _ => True) (fun _ _ => trivial) (fun _ _ _ _ => trivial)
      (fun X hb _ x y => alone_any _ _ 26 alC rfl (enters_of Tryd.func26 (by kernel_rfl) rfl) (fun X x y => aloneC_any X x y) X hb x y))
    clear hw3 b3 h30 h31 h32 lA lC
    gi_wp2
    refine range_it HIT.out rfl (enters_of Tryd.func56 (by kernel_rfl) rfl) (fun _ => rfl) (by omega) ?hS (fun _ _ => trivial) (fun _ _ _ _ _ _ => trivial)
      (fun k W' => StM w W' w1.heap.size x0 (.slice ua un uc) qA qC ps k) (fun c k W' => c = .ret ∧ EndM w W' ps)
      (fun _ _ _ h hs => h.step hs) (fun _ _ _ _ h hs => ⟨h.1, h.2.step hs⟩) (fun _ _ _ _ _ => trivial) S3.out ?rnd ?done ?stop (fun _ _ _ _ => trivial)
    case hS =>
      intro X hb
      have hk : ∀ {i : Nat} {o : Obj}, w3.heap[i]? = some o → X.heap[i]? = some o := fun hi => (hb.block _ (lt_of_heap hi)).trans hi
      have hbY := HB3.out.trans (hb.mono hs3)
      exact ⟨hk H3.out.1, hk H3.out.2.1, hk H3.out.2.2, HRQ.out.1.below hbY, HRQ.out.2.below hbY⟩
    case stop =>
      rintro D c k X hle hk ⟨rfl, hx⟩ hD
      gi_wp2
      refine ⟨by simp, .inl ⟨_, _, rfl, run_takeDeferred hD, ?_⟩⟩
      have e4 : (X.putObj D (.deferred none)).heap[w.heap.size + 1 + 1]? = some (.cells #[.int .i64 0, .slice none 0 0] 25 (0, 0)) := putObj_cells hD rfl hx.r4
      have e5 : Boxed (X.putObj D (.deferred none)) (w.heap.size + 1 + 1 + 1) 27 (.int .i64 3) := putObj_cells hD rfl hx.r5
      have hnf : ¬ Cp.fit (atms (norm A)) (atms (norm C)) := by
        rw [← HVQ.out.2.1, ← HVQ.out.2.2]
        intro hf
        obtain ⟨p, hp, hb⟩ := hx.bad
        exact hb (HM.out.fit.1 hf p hp)
      have hE3 : E = 3 := HEF.out.1.trans (HCE.out.1 hnf)
      have hF0 : F = 0 := by rw [HEF.out.2.1, if_neg (by omega)]
      have hL0 : L = [] := by rw [HEF.out.2.2, if_neg (by omega)]
      rw [hE3, hF0, hL0]
      exact ⟨_, results_cmp rfl rfl rfl e4 e5, hx.below.trans (below_put (by omega) hD), none, 0, 0, rfl, [], rfl, World.ownsRow_nil _ _ _ _, fun p hp => (by cases hp)⟩
    case done =>
      rintro D X hle hI _ hD
      have hall : ∀ p ∈ ps, oneE p.1.1 p.2.1 = 0 := fun p hp => by
        obtain ⟨i, hi, rfl⟩ := List.getElem_of_mem hp
        exact hI.ok i hi hi
      have hpl : ps.length ≤ 4000 := by have := HM.out.len; have := HLN.out.1; have := HLN.out.2; omega
      have hfit : Cp.fit (atms (norm A)) (atms (norm C)) := by
        rw [← HVQ.out.2.1, ← HVQ.out.2.2]
        exact HM.out.fit.2 hall
      obtain ⟨ov, hN⟩ := hI.gat
      obtain ⟨f0, f1, f2⟩ := (sM_sm HM.out ps.length (Nat.le_refl _) (fun i _ hl => hI.ok i hl hl)).fin (by omega) (by omega) (by omega)
      have HCH := changeG_any w.heap.size w1.heap.size ov (sM ps ps.length) x0 X hN (by omega) f0 f1 f2
      have hchg : chgL (sM ps ps.length) = Cp.cmpN (norm A) (norm C) := by rw [sM_all HM.out hall, HVQ.out.2.1, HVQ.out.2.2]
      unfold ChgOut at HCH
      rw [hchg] at HCH
      have HCH := Lib.hid HCH
      have hE' := HEF.out.1.trans (HCE.out.2 hfit)
      have c0 := (cells2 hI.ba).1
      have HI := Lib.hid hI
      have HD := Lib.hid hD
      clear hI hD hall hpl hfit hN f0 f1 f2 hchg
      gi_wp2
      refine ⟨trivial, rfl, (callsIn_wide.2 HCH.out).mono ?_⟩
      rintro e W9 ⟨cv, rfl, hO, hK⟩
      have hD2 : W9.heap[D]? = some (.deferred (some [])) := hK.all _ _ HD.out (out_not5 rfl)
      have r4 : W9.heap[w.heap.size + 1 + 1]? = some (.cells #[.int .i64 0, .slice none 0 0] 25 (0, 0)) := hK.kept _ _ _ _ HI.out.r4 (by decide)
      have r5 : Boxed W9 (w.heap.size + 1 + 1 + 1) 27 (.int .i64 0) := hK.kept _ _ _ _ HI.out.r5 (by decide)
      have HB4 := Lib.hid (HI.out.below.trans hK.below)
      have HR2 := Lib.hid (And.intro r4 r5)
      have HD2 := Lib.hid hD2
      have hDl := lt_of_heap hD2
      have hEi : E = if 2000 < (Cp.cmpN (norm A) (norm C)).length then 2 else 0 := hE'
      have hif : ∀ {α : Type} (x y : α), (if 2000 < (Cp.cmpN (norm A) (norm C)).length then y else x) = if E = 0 then x else y := fun x y => by
        rw [hEi]
        by_cases h2 : 2000 < (Cp.cmpN (norm A) (norm C)).length
        · rw [if_pos h2, if_pos h2, if_neg (by omega)]
        · rw [if_neg h2, if_neg h2, if_pos rfl]
      rw [← hEi, hif]
      rw [hif] at hO
      have hF : F = if E = 0 then x0 else 0 := HEF.out.2.1
      have hL : L = if E = 0 then Cp.cmpN (norm A) (norm C) else [] := HEF.out.2.2
      rw [← hF]
      rw [← hL] at hO
      obtain ⟨cps, hcp, hcO⟩ := hO
      obtain ⟨ka, kc, rfl⟩ := own_slice hcO.1
      have HO := Lib.hid (And.intro hcp hcO)
      clear hif hEi hE' hF hL hK hD2 r4 r5 HI HD HCH hcp hcO c0
      have c4 : W9.cell? ⟨w.heap.size + 1 + 1, 0, none⟩ = some (.int .i64 0) := (cells2 HR2.out.1).1
      have c4' : W9.cell? ⟨w.heap.size + 1 + 1, 1, none⟩ = some (.slice none 0 0) := (cells2 HR2.out.1).2.1
      have f4 : W9.frozen? ⟨w.heap.size + 1 + 1, 0, none⟩ = false := (cells2 HR2.out.1).2.2.1
      have f4' : W9.frozen? ⟨w.heap.size + 1 + 1, 1, none⟩ = false := (cells2 HR2.out.1).2.2.2
      have c5 := HR2.out.2.cell
      have f5 := HR2.out.2.frozen
      gi_wp2
      obtain ⟨q1, q2, q3⟩ := three_set5 (.int .i64 F) (.slice ka cps.length kc) (.int .i64 E) HR2.out.1 HR2.out.2
      have qD := q3.all _ _ HD2.out (out_not5 rfl)
      refine ⟨by simp, .inl ⟨_, _, rfl, run_takeDeferred qD, ?_⟩⟩
      have e4 := putObj_cells (o' := .deferred none) qD rfl q1
      have e5 : Boxed _ _ _ _ := putObj_cells (o' := .deferred none) qD rfl q2
      refine ⟨_, results_cmp rfl rfl rfl e4 e5, (HB4.out.trans (q3.below.mono (by omega))).trans (below_put (by omega) qD), ka, cps.length, kc, rfl, cps, HO.out.1, ?_⟩
      exact (HO.out.2.keep q3 (by decide) (by decide)).cells5 fun _ _ _ _ hi => putObj_cells qD rfl hi
    case rnd =>
      rintro l' k hk W2 hle hI
      have hmem : ps[k] ∈ ps := List.getElem_mem hk
      have hsr := HM.out.src _ hmem
      have her := HM.out.err _ hmem
      have hsm := HM.out.small _ hmem
      have hsuc := sM_succ hk
      generalize hpk : ps[k] = p at hsr her hsm hsuc hmem ⊢
      obtain ⟨x, y⟩ := p
      have sx : Sized x.1.attrs := src_sized hsr.1 HVQ.out.1.1
      have sy : Sized y.1.attrs := src_sized hsr.2 HVQ.out.1.2
      have HPK := Lib.hid (And.intro hpk hmem)
      have HSR := Lib.hid hsr
      have HER := Lib.hid her
      have HSO := Lib.hid hsm
      have HSU := Lib.hid hsuc
      have HI := Lib.hid hI
      have HSZ := Lib.hid (And.intro sx sy)
      have hW2 : w.heap.size + 4 ≤ W2.heap.size := by have := hI.r5.lt; omega
      clear hI hmem hsr her hsm hsuc hpk sx sy
      obtain ⟨⟨xk, xn, xt, xa⟩, xp, xc⟩ := x
      obtain ⟨⟨yk, yn, yt, ya⟩, yp, yc⟩ := y
      unfold opA4
      gi_wp2
      obtain ⟨W3, hW3⟩ : ∃ W3, W3 = (W2.alloc (.cells #[.int .i64 xk, .int .i64 xn, .string xt, .slice xp xa.length xc] 45)).alloc (.cells #[.int .i64 yk, .int .i64 yn, .string yt, .slice yp ya.length yc] 45) := ⟨_, rfl⟩
      rw [← hW3]
      have B3 : Below W2.heap.size W2 W3 := by rw [hW3]; exact ((Below.refl _ W2).alloc (Nat.le_refl _) _).alloc (by simp) _
      have o3 : W3.heap[W2.heap.size]? = some (.cells #[.int .i64 xk, .int .i64 xn, .string xt, .slice xp xa.length xc] 45 (0, 0)) := by
        rw [hW3, Below.heap_alloc _ _ _ (by simp)]; exact heap_new _ _
      have x3 : W3.heap[W2.heap.size + 1]? = some (.cells #[.int .i64 yk, .int .i64 yn, .string yt, .slice yp ya.length yc] 45 (0, 0)) := by
        rw [hW3]
        have := heap_new (W2.alloc (.cells #[.int .i64 xk, .int .i64 xn, .string xt, .slice xp xa.length xc] 45)) (.cells #[.int .i64 yk, .int .i64 yn, .string yt, .slice yp ya.length yc] 45)
        rwa [World.size_alloc] at this
      have HI3 := HI.out.step (step_below (N := 0) (own := []) WT5 B3 (by omega))
      refine ⟨rnd_below TB5 B3 (by omega), HI3, fun W4 hs hsz4 r4 hr4 => ?_⟩
      have HI4 := Lib.hid (HI3.step (hs.more (own' := []) (fun _ h => by cases h) (fun _ _ h => by cases h) (Nat.le_refl _)))
      have o4 := hs.cells _ _ _ _ o3 (.inl (by simp))
      have x4 := hs.cells _ _ _ _ x3 (.inl (by simp))
      obtain ⟨bx, ox⟩ := src_row HSR.out.1 (fun z hz => HI4.out.own z (.inl hz))
      obtain ⟨by', oy⟩ := src_row HSR.out.2 (fun z hz => HI4.out.own z (.inr hz))
      have HON := Lib.hid (one_any _ _ W4 (row_of_own ox) (row_of_own oy) HSZ.out.1 HSZ.out.2)
      have HOX := Lib.hid (And.intro ox oy)
      have p0 : W4.cell? ⟨W2.heap.size, 0, none⟩ = some (.int .i64 xk) := by simp [World.cell?, o4]
      have p1 : W4.cell? ⟨W2.heap.size, 1, none⟩ = some (.int .i64 xn) := by simp [World.cell?, o4]
      have p2 : W4.cell? ⟨W2.heap.size, 2, none⟩ = some (.string xt) := by simp [World.cell?, o4]
      have p3 : W4.cell? ⟨W2.heap.size, 3, none⟩ = some (.slice xp xa.length xc) := by simp [World.cell?, o4]
      have q0 : W4.cell? ⟨W2.heap.size + 1, 0, none⟩ = some (.int .i64 yk) := by simp [World.cell?, x4]
      have q1 : W4.cell? ⟨W2.heap.size + 1, 1, none⟩ = some (.int .i64 yn) := by simp [World.cell?, x4]
      have q2 : W4.cell? ⟨W2.heap.size + 1, 2, none⟩ = some (.string yt) := by simp [World.cell?, x4]
      have q3 : W4.cell? ⟨W2.heap.size + 1, 3, none⟩ = some (.slice yp ya.length yc) := by simp [World.cell?, x4]
      have sx4 := lt_of_heap x4
      clear hs hsz4 hr4 o4 x4 o3 x3 B3 HI3 hW3 ox oy
      gi_wp2
      refine ⟨trivial, rfl, CallsIn.inRound _ ((callsIn_wide.2 HON.out).mono ?_)⟩
      rintro e W5 ⟨oa, oc, rfl, hrow, hb5⟩
      have hs45 := hb5.size
      have HI5 := Lib.hid (HI4.out.step (step_below (N := 0) (own := []) WT5 hb5 (by omega)))
      have HEK := Lib.hid (show oneE ps[k].1.1 ps[k].2.1 = oneE ⟨xk, xn, xt, xa⟩ ⟨yk, yn, yt, ya⟩ by rw [HPK.out.1])
      have HB5 := Lib.hid hb5
      have HRW := Lib.hid hrow
      generalize oneO ⟨xk, xn, xt, xa⟩ ⟨yk, yn, yt, ya⟩ = oo at HRW HSO HSU ⊢
      generalize oneE ⟨xk, xn, xt, xa⟩ ⟨yk, yn, yt, ya⟩ = ee at HEK HER HSO ⊢
      obtain ⟨ok, on, ot, ol⟩ := oo
      have r4' : (W5.alloc (.cells #[.int .i64 ok, .int .i64 on, .string ot, .slice oa ol.length oc] 45)).heap[w.heap.size + 1 + 1]? = some (.cells #[.int .i64 0, .slice none 0 0] 25 (0, 0)) := (Below.heap_alloc _ _ _ (by omega)).trans HI5.out.r4
      have r5' : Boxed (W5.alloc (.cells #[.int .i64 ok, .int .i64 on, .string ot, .slice oa ol.length oc] 45)) (w.heap.size + 1 + 1 + 1) 27 (.int .i64 0) := (Below.heap_alloc _ _ _ (by omega)).trans HI5.out.r5
      have HR6 := Lib.hid (And.intro r4' r5')
      have c4 := (cells2 r4').1
      have c4' := (cells2 r4').2.1
      have f4 := (cells2 r4').2.2.1
      have f4' := (cells2 r4').2.2.2
      have c5 := r5'.cell
      have f5 := r5'.frozen
      have hs5 : W5.heap.size < (W5.alloc (.cells #[.int .i64 ok, .int .i64 on, .string ot, .slice oa ol.length oc] 45)).heap.size := by simp
      have b6 : Below W5.heap.size W5 (W5.alloc (.cells #[.int .i64 ok, .int .i64 on, .string ot, .slice oa ol.length oc] 45)) := below_box W5 _
      have HI6 := Lib.hid (HI5.out.step (step_below (N := 0) (own := []) WT5 b6 (by omega)))
      have RB6 := Lib.hid ((rnd_below (B := w.heap.size) (N := w3.heap.size) TB5 HB5.out (by omega)).trans (rnd_below (B := w.heap.size) (N := w3.heap.size) TB5 b6 (by omega)))
      have HB6 := Lib.hid b6
      clear hrow hb5 p0 p1 p2 p3 q0 q1 q2 q3 r4' r5' b6 hs5
      unfold opAgg
      by_cases he : ee = 0
      · have te : (ee != 0) = false := by rw [he]; rfl
        have HHE := Lib.hid he
        obtain ⟨ov, hN⟩ := HI6.out.gat
        obtain ⟨s1, s2, s3, s4⟩ := HSO.out he
        have hpl : ps.length ≤ 4000 := by have := HM.out.len; have := HLN.out.1; have := HLN.out.2; omega
        have hSM := sM_sm HM.out k (by omega) (fun i hi hl => HI6.out.ok i hl hi)
        have hrows : ∀ w', Keep w.heap.size TS (W5.alloc (.cells #[.int .i64 ok, .int .i64 on, .string ot, .slice oa ol.length oc] 45)) w' → AtRow w' (.slice oa ol.length oc) ol := fun w' hw => by
          rcases HRW.out with ⟨B, h⟩ | ⟨h1, h2⟩ | ⟨h1, h2⟩
          · exact row_of_own (own_cells5 h fun i cs fr hi => hw.kept _ _ _ _ ((HB6.out.block i (lt_of_heap hi)).trans hi) (by decide))
          · rw [show Value.slice oa ol.length oc = qv _ from h1, show ol = xa from h2]
            exact row_of_own (own_cells5 HOX.out.1 fun i cs fr hi => hw.kept _ _ _ _ ((HB6.out.block i (lt_of_heap ((HB5.out.block i (lt_of_heap hi)).trans hi))).trans ((HB5.out.block i (lt_of_heap hi)).trans hi)) (by decide))
          · rw [show Value.slice oa ol.length oc = qv _ from h1, show ol = ya from h2]
            exact row_of_own (own_cells5 HOX.out.2 fun i cs fr hi => hw.kept _ _ _ _ ((HB6.out.block i (lt_of_heap ((HB5.out.block i (lt_of_heap hi)).trans hi))).trans ((HB5.out.block i (lt_of_heap hi)).trans hi)) (by decide))
        have HAD := Lib.hid (addG_any w.heap.size w1.heap.size ov (sM ps k) ⟨ok, on, ot, ol⟩ (.slice oa ol.length oc) (W5.alloc (.cells #[.int .i64 ok, .int .i64 on, .string ot, .slice oa ol.length oc] 45)) hN (by omega)
          (hSM.fits (by omega) (by omega) (by omega) s1 (by show on ≤ _; have : on ≤ 20000 := s2; omega) (by show ot.size ≤ _; have : ot.size ≤ 80000 := s3; omega) (small_one s4)) hrows)
        clear he hN s1 s2 s3 s4 hpl hSM hrows
        gi_wp2
        refine ⟨trivial, rfl, CallsIn.inRound _ ((callsIn_wide.2 HAD.out).mono ?_)⟩
        rintro e W7 ⟨rfl, ov', hN7, hK7⟩
        have HF := Lib.hid (show Rnd w.heap.size w3.heap.size TB5 W4 W7 ∧ StM w W7 w1.heap.size x0 (.slice ua un uc) qA qC ps (k + 1) from
          ⟨RB6.out.trans ((rnd_of_keep5 hK7.keep).more (by decide) (Nat.le_refl _)), {
            below := HI6.out.below.trans hK7.keep.below
            gat := ⟨ov', by rw [HSU.out]; exact hN7⟩
            ba := hK7.keep.kept _ _ _ _ HI6.out.ba (by decide)
            r4 := hK7.keep.kept _ _ _ _ HI6.out.r4 (by decide)
            r5 := hK7.keep.kept _ _ _ _ HI6.out.r5 (by decide)
            own := fun q hq => by obtain ⟨B, h⟩ := HI6.out.own q hq; exact ⟨B, own_cells5 h fun i cs fr hi => hK7.keep.kept _ _ _ _ hi (by decide)⟩
            ok := fun i h hi => by
              by_cases hik : i = k
              · subst hik; rw [HEK.out]; exact HHE.out
              · exact HI6.out.ok i h (by omega) }⟩)
        clear hN7 hK7
        gi_wp2
        exact ⟨HF.out.1, trivial, HF.out.2⟩
      · have te : (ee != 0) = true := by rw [bne_iff_ne]; exact he
        have he3 : ee = 3 := by
          have : ee = 0 ∨ ee = 3 := HER.out
          omega
        have HHE := Lib.hid (And.intro he he3)
        clear he he3
        gi_wp2
        obtain ⟨q1, q2, q3⟩ := three_set5 (.int .i64 0) (.slice none 0 0) (.int .i64 ee) HR6.out.1 HR6.out.2
        refine ⟨RB6.out.trans ((rnd_of_keep5 (q3.mono (by omega))).more (by decide) (Nat.le_refl _)), rfl, ?_⟩
        exact { below := HI6.out.below.trans (q3.below.mono (by omega)), r4 := q1, r5 := by rw [← HHE.out.2]; exact q2, bad := ⟨ps[k], List.getElem_mem hk, by rw [HEK.out]; exact HHE.out.1⟩ }
  · have te : (nrmE f g A C != 0) = true := by rw [bne_iff_ne]; exact hE
    have hC : cmpE f g A C = nrmE f g A C := by unfold cmpE; rw [if_pos hE]
    have HE0 := Lib.hid hE
    rw [hC, if_neg hE, if_neg hE]
    clear hC hE
    unfold Nrm5Out at HN
    generalize nrmE f g A C = z at te HE0 HN ⊢
    refine callsIn_of_wp_marks Tryd.func8 rfl trivial ?_ rfl
    simp only [Tryd.ntmps8, List.size_toArray, List.length_cons, List.length_nil, Nat.reduceAdd, Nat.reduceSub, Array.replicate_succ, Array.replicate_zero, List.push_toArray, List.append_toArray, List.nil_append, List.cons_append]
    gi_wp2
    rw [← HW.out]
    refine ⟨trivial, rfl, (callsIn_wide.2 HN.out).mono ?_⟩
    rintro e w1 ⟨b, x0, y0, ua, va', un, uc, vn, vc, rfl, _⟩
    have B1 := Lib.hid (BW.out.trans (b.mono BW.out.size))
    have z0 := (b.block _ (lt_of_heap HK.out.1)).trans HK.out.1
    have z1 := (b.block _ (lt_of_heap HK.out.2.1)).trans HK.out.2.1
    have z2 := (b.block _ (lt_of_heap HK.out.2.2.1)).trans HK.out.2.2.1
    have z3 := (b.block _ (lt_of_heap HK.out.2.2.2)).trans HK.out.2.2.2
    obtain ⟨p0, p1, p2, p3⟩ := cells2 z0
    obtain ⟨q0, q1, q2, q3⟩ := cells2 z1
    obtain ⟨r0, r1, r2, r3⟩ := cells2 z2
    have s0 := Boxed.cell z3
    have s1 := Boxed.frozen z3
    have l3 := lt_of_heap z3
    have hn1 : w.heap.size + 3 < w1.heap.size := l3
    have ZZ := Lib.hid (And.intro z0 (And.intro z1 (And.intro z2 z3)))
    clear b z0 z1 z2 z3 HN HK HW
    gi_wp2
    obtain ⟨Y, hY, y2, y3, yb⟩ : ∃ Y, Y = (((w1.setCell ⟨w.heap.size, 0, none⟩ (.int .i64 x0)).setCell ⟨w.heap.size, 1, none⟩ (.slice ua un uc)).setCell ⟨w.heap.size + 1, 0, none⟩ (.int .i64 y0)).setCell ⟨w.heap.size + 1, 1, none⟩ (.slice va' vn vc) ∧ Y.heap[w.heap.size + 1 + 1]? = some (.cells #[.int .i64 0, .slice none 0 0] 25 (0, 0)) ∧ Boxed Y (w.heap.size + 1 + 1 + 1) 27 (.int .i64 0) ∧ Below w.heap.size w Y :=
      ⟨_, rfl, (Below.heap_setCell _ _ _ _ (by simp)).trans ((Below.heap_setCell _ _ _ _ (by simp)).trans ((Below.heap_setCell _ _ _ _ (by simp; omega)).trans ((Below.heap_setCell _ _ _ _ (by simp; omega)).trans ZZ.out.2.2.1))),
        (Below.heap_setCell _ _ _ _ (by simp; omega)).trans ((Below.heap_setCell _ _ _ _ (by simp; omega)).trans ((Below.heap_setCell _ _ _ _ (by simp; omega)).trans ((Below.heap_setCell _ _ _ _ (by simp; omega)).trans ZZ.out.2.2.2))),
        (((B1.out.setCell (Nat.le_refl _) _).setCell (Nat.le_refl _) _).setCell (show w.heap.size ≤ w.heap.size + 1 by omega) _).setCell (show w.heap.size ≤ w.heap.size + 1 by omega) _⟩
    rw [← hY]
    clear hY
    obtain ⟨q1, q2, q3⟩ := agg_set (.int .i64 0) (.slice none 0 0) y2
    have y4 : Boxed _ (w.heap.size + 1 + 1 + 1) 27 (.int .i64 0) := (q3 _ (by omega)).trans y3
    have y5 := y4.set (.int .i64 z)
    have y6 := (Below.heap_setCell _ ⟨w.heap.size + 1 + 1 + 1, 0, none⟩ (.int .i64 z) _ (show w.heap.size + 1 + 1 ≠ w.heap.size + 1 + 1 + 1 by omega)).trans q1
    exact ⟨_, results_cmp rfl rfl rfl y6 y5, (yb.trans (q2.below.mono (by omega))).setCell (show w.heap.size ≤ w.heap.size + 1 + 1 + 1 by omega) _, none, 0, 0, rfl, [], rfl, World.ownsRow_nil _ _ _ _, fun p hp => (by cases hp)⟩
end Go.Proofs.YtlfodemmdfaeeaaDoor

/- The law's own Keep, Put, Cut. -/
namespace Go.Proofs.YtlfodemmdfaeeaaDoor
open Go.RowKit Ch

set_option maxRecDepth 100000 in
set_option maxHeartbeats 1000000 in
theorem lawKeep_any (n : Int) (w : World) : Calls Tryd.prog 18 #[.int .i64 n, .slice none 0 0] w (OutV w (opAgg ⟨1, n, ⟨#[]⟩, []⟩ (.slice none 0 0))) := by
  go_enter Tryd.func18, Tryd.ntmps18
  go_wp2_with fail
  exact bodyPost_ret (v := opAgg ⟨1, n, ⟨#[]⟩, []⟩ (.slice none 0 0)) (by simp [results, Tryd.results18, go_sem]) rfl ⟨rfl, below_box _ _⟩
set_option maxRecDepth 100000 in
set_option maxHeartbeats 1000000 in
theorem lawCut_any (n : Int) (w : World) : Calls Tryd.prog 17 #[.int .i64 n] w (OutV w (opAgg ⟨3, n, ⟨#[]⟩, []⟩ (.slice none 0 0))) := by
  go_enter Tryd.func17, Tryd.ntmps17
  go_wp2_with fail
  exact bodyPost_ret (v := opAgg ⟨3, n, ⟨#[]⟩, []⟩ (.slice none 0 0)) (by simp [results, Tryd.results17, go_sem]) rfl ⟨rfl, below_box _ _⟩
end Go.Proofs.YtlfodemmdfaeeaaDoor

/- Compose, as the laws' walks take it: what follows where it tells no error. -/
namespace Go.Proofs.YtlfodemmdfaeeaaDoor
open Go.RowKit Rn Ch
open At hiding put
open Cp (atms)

theorem nrmE_zero {f g : Int} {A C : List OpD} (h : nrmE f g A C = 0) : toE f A = 0 ∧ toE g C = 0 ∧ toN f A = g := by
  unfold nrmE at h
  by_cases h1 : toE f A = 0
  · rw [if_neg (by rw [h1]; simp)] at h
    by_cases h2 : toE g C = 0
    · rw [if_neg (by rw [h2]; simp)] at h
      by_cases h3 : toN f A = g
      · exact ⟨h1, h2, h3⟩
      · rw [if_pos h3] at h; omega
    · rw [if_pos h2] at h; exact absurd h h2
  · rw [if_pos h1] at h; exact absurd h h1
theorem nrmE_mk {f g : Int} {A C : List OpD} (h1 : toE f A = 0) (h2 : toE g C = 0) (h3 : toN f A = g) : nrmE f g A C = 0 := by
  unfold nrmE
  rw [if_neg (by rw [h1]; simp), if_neg (by rw [h2]; simp), if_neg (by rw [h3]; simp)]
theorem cmp_ok {f g : Int} {A C : List OpD} (h : cmpE f g A C = 0) : CmpG f g A C (Cp.cmpN (norm A) (norm C)) := by
  have h0 : nrmE f g A C = 0 := by
    refine Classical.byContradiction fun hn => ?_
    unfold cmpE at h
    rw [if_pos hn] at h
    exact hn h
  obtain ⟨h1, h2, h3⟩ := nrmE_zero h0
  have hf : Cp.fit (atms (norm A)) (atms (norm C)) := by
    refine Classical.byContradiction fun hn => ?_
    rw [cmpE_unfit h0 hn] at h
    omega
  have hl : (Cp.cmpN (norm A) (norm C)).length ≤ 2000 := by
    rw [cmpE_fit h0 hf] at h
    refine Classical.byContradiction fun hn => ?_
    rw [if_pos (by omega)] at h
    omega
  have hc := nrm_zero h1 h2 h3
  obtain ⟨_, b2, _, b4, b5⟩ := hc.all hf
  have ok := b4 hl
  obtain ⟨_, d1, d2⟩ := norm_ok ((toE_iff _ _).1 h2)
  exact ⟨h1, h2, h3, hf, rfl, ok, b2, by rw [toN_ok ((toE_iff _ _).2 ok), toN_ok h2, b5, d1, d2]⟩
/-- .. and where it does. -/
theorem cmpE_cases {f g : Int} {A C : List OpD} (h : nrmE f g A C = 0) : cmpE f g A C = 0 ∨ cmpE f g A C = 2 ∨ cmpE f g A C = 3 := by
  by_cases hf : Cp.fit (atms (norm A)) (atms (norm C))
  · rw [cmpE_fit h hf]
    split
    · exact .inr (.inl rfl)
    · exact .inl rfl
  · exact .inr (.inr (cmpE_unfit h hf))
theorem cmpR_ok {f g : Int} {A C : List OpD} (h : cmpE f g A C = 0) : CmpG f g A C (cmpR f g A C) := by
  unfold cmpR
  rw [if_pos h]
  exact cmp_ok h
theorem cmpO {f g : Int} {va vb : Value} {A C : List OpD} {w : World} (hv : OpRow w va A) (hz : OSized A) (hu : OpRow w vb C) (hy : OSized C) :
    Calls Tryd.prog 8 #[chAgg f va, chAgg g vb] w (ChOwn w (if cmpE f g A C = 0 then f else 0) (cmpE f g A C) (cmpR f g A C)) :=
  (compose_any f g va vb A C w hv hz hu hy).mono fun e w' ⟨b, a, n, c, h1, h2⟩ => by
    have hr : OpRow w' (.slice a n c) (cmpR f g A C) := OwnOps.row h2
    obtain ⟨a2, c2, h3⟩ := hr.shape
    injection h3 with e1 e2 e3
    subst e2
    exact ⟨a, c, h1, h2, b⟩
theorem cmpH {f g : Int} {va vb : Value} {A C : List OpD} {w : World} (hv : OpRow w va A) (hz : OSized A) (hu : OpRow w vb C) (hy : OSized C) :
    Calls Tryd.prog 8 #[chAgg f va, chAgg g vb] w (ChHas w (if cmpE f g A C = 0 then f else 0) (cmpE f g A C) (cmpR f g A C)) :=
  (cmpO hv hz hu hy).mono fun _ _ h => h.has
theorem cmpH_ok {f g : Int} {va vb : Value} {A C : List OpD} {w : World} (hv : OpRow w va A) (hz : OSized A) (hu : OpRow w vb C) (hy : OSized C) (h : cmpE f g A C = 0) :
    Calls Tryd.prog 8 #[chAgg f va, chAgg g vb] w (ChHas w f 0 (cmpR f g A C)) := by
  have := cmpH (f := f) (g := g) hv hz hu hy
  rwa [h, if_pos rfl] at this
theorem cmpH_bad {f g : Int} {va vb : Value} {A C : List OpD} {w : World} (hv : OpRow w va A) (hz : OSized A) (hu : OpRow w vb C) (hy : OSized C) (h : cmpE f g A C ≠ 0) :
    Calls Tryd.prog 8 #[chAgg f va, chAgg g vb] w (ChHas w 0 (cmpE f g A C) []) := by
  have := cmpH (f := f) (g := g) hv hz hu hy
  unfold cmpR at this
  rwa [if_neg h, if_neg h] at this
theorem toH {f : Int} {v : Value} {ops : List OpD} {w : World} (hv : OpRow w v ops) (hz : OSized ops) (he : toE f ops = 0) :
    Calls Tryd.prog 10 #[chAgg f v] w fun e w' => e = .returned (.tuple #[.int .i64 (toN f ops), .int .i64 0]) ∧ Below w.heap.size w w' :=
  (to_any f v ops w hv hz).mono fun e w' ⟨h1, h2⟩ => ⟨by rw [h1, he], h2⟩
end Go.Proofs.YtlfodemmdfaeeaaDoor

/- Composed, and carried out: what both do, one behind the other. -/
namespace Go.Proofs.YtlfodemmdfaeeaaDoor
open Go.RowKit Rn Ch
open At hiding put
open Cp (atms okA actA OkX kA dA iA)

/-- One changeset does what two do, one behind the other. -/
theorem comp_app {l : List RunD} {f g : Int} {A C R : List OpD} (h1 : appE l f A = 0) (h2 : appE (appL l f A) g C = 0) (h : CmpG f g A C R) : appE l f R = 0 ∧ appL l f R = appL (appL l f A) g C := by
  have ha := appF_of h1
  have hb := appF_of h2
  have ga := fitG_of ha.fit
  have gb := fitG_of hb.fit
  obtain ⟨hc, hr⟩ := fitG_row ga
  obtain ⟨_, hr2⟩ := fitG_row gb
  have hF := nrm_zero h.a h.c h.n
  have okA' := Cp.okX_atms hF.okA.2.2.2.1
  have okC' := Cp.okX_atms hF.okB.2.2.2.1
  obtain ⟨x1, x2⟩ := act_nrm ga.okc ga.fc hr
  obtain ⟨y1, y2⟩ := act_nrm gb.okc gb.fc hr2
  obtain ⟨a1, a2, a3⟩ := Cp.sums_atms hF.okA.2.2.2.1
  obtain ⟨b1, b2, b3⟩ := Cp.sums_atms hF.okB.2.2.2.1
  obtain ⟨f0, f1, _, _, fk, ft⟩ := hF.okA
  obtain ⟨g0, g1, _, _, gk, gt⟩ := hF.okB
  have hm := hF.meet
  have hfc := ga.fc
  have hk : kA (atms (norm A)) ≤ (cellsD l).length := by omega
  have okb : okA (atms (norm C)) (actA (atms (norm A)) (cellsD l)) := by
    have := y2.1 hb.ok
    rw [ha.cells, x1] at this
    exact this
  obtain ⟨m1, m2⟩ := Cp.actA_comp _ _ _ okA' okC' h.fit hk hc (x2.1 ha.ok) okb
  have hs := Cp.sums_comp (atms (norm A)) (atms (norm C))
  have hkc := Cp.kA_comp (atms (norm A)) (atms (norm C)) f.toNat (by omega) (by omega)
  have hd := dA_kA (Cp.comp (atms (norm A)) (atms (norm C)))
  obtain ⟨r1, r2⟩ := act_normA (cs := cellsD l) (Cp.okX_comp _ _ okA' okC' h.fit) (by omega) (by omega) hr
  have he : act R (cellsD l) = act C (cellsD (appL l f A)) := by
    rw [h.eq]
    show act (Cp.normA _) _ = _
    rw [r1, m2, y1, ha.cells, x1]
  have hok : actOk R (cellsD l) := by
    rw [h.eq]
    exact r2.2 m1
  obtain ⟨t1, t2, t3⟩ := fit_iff.1 ha.fit
  have hz := app_mk (fit_iff.2 ⟨t1, h.toE, t3⟩) hok (by rw [he]; exact hb.len)
  exact ⟨hz, by rw [(appF_of hz).val, he, hb.val]⟩
/-- A changeset and its way back, as one. -/
theorem back_app {l : List RunD} {f : Int} {ops R : List OpD} (h : appE l f ops = 0) (hl : (invL l ops).length ≤ 2000) (hc : CmpG f (lenN (appL l f ops)) ops (invL l ops) R) :
    appE l f R = 0 ∧ appL l f R = l ∧ toE f R = 0 ∧ toN f R = f := by
  have hi := invF_of h hl
  obtain ⟨e1, e2⟩ := comp_app h hi.back hc
  have hb := appF_of hi.back
  have hn := hb.num
  rw [hi.val] at hn
  obtain ⟨_, _, t3⟩ := fit_iff.1 (appF_of h).fit
  exact ⟨e1, e2.trans hi.val, hc.toE, by rw [hc.tn, ← hn]; exact t3.symm⟩
end Go.Proofs.YtlfodemmdfaeeaaDoor

/- Documents in the laws' walks: Apply, Inverse and Same, by the runs they say. -/
namespace Go.Proofs.YtlfodemmdfaeeaaDoor
open Go.RowKit Rn Ch
open At hiding put

theorem cmpO_eq {f g : Int} {va vb : Value} {A C : List OpD} {w : World} (hv : OpRow w va A) (hz : OSized A) (hu : OpRow w vb C) (hy : OSized C) {F E : Int} {R : List OpD} (hF : (if cmpE f g A C = 0 then f else 0) = F) (hE : cmpE f g A C = E) (hR : cmpR f g A C = R) :
    Calls Tryd.prog 8 #[chAgg f va, chAgg g vb] w (ChOwn w F E R) := by
  have := cmpO (f := f) (g := g) hv hz hu hy
  rwa [hF, hE, hR] at this
end Go.Proofs.YtlfodemmdfaeeaaDoor

/- What Inverse keeps on the way: the frames of its loop over met. -/
namespace Go.Proofs.YtlfodemmdfaeeaaDoor
open Go.RowKit Rn Ch At

theorem OwnP.cells {w w' : World} {B : Nat} {v : Value} {ps : List (OpD × Value)} (h : OwnP w B v ps) (h1 : ∀ (i : Nat) (cs : Array Value) (fr : Nat × Nat), w.heap[i]? = some (.cells cs 45 fr) → w'.heap[i]? = some (.cells cs 45 fr))
    (h2 : ∀ (i : Nat) (cs : Array Value) (fr : Nat × Nat), w.heap[i]? = some (.cells cs 99 fr) → w'.heap[i]? = some (.cells cs 99 fr)) : OwnP w' B v ps :=
  ⟨own_cells h.1 h1, fun p hp => own_cells (h.2 p hp) h2⟩
theorem NSt.step {w w' : World} {B C N b : Nat} {own : List Nat} {ov : Value} {l : List OpD} {g : Int} {ts : List TypeId} (h : NSt w B b ov l g) (hs : Step C N ts own w w') (h1 : 45 ∉ ts) (h2 : 99 ∉ ts) (h3 : 58 ∉ ts) (h4 : 5 ∉ ts) : NSt w' B b ov l g := by
  obtain ⟨ps, ad, bv, bt, a1, a2, a3, a4, a5⟩ := h
  exact ⟨ps, ad, bv, bt, hs.cells _ _ _ _ a1 (.inl h3), a2, a3.cells (fun i cs fr hi => hs.cells _ _ _ _ hi (.inl h1)) (fun i cs fr hi => hs.cells _ _ _ _ hi (.inl h2)), ⟨own_cells a4.1 (fun i cs fr hi => hs.cells _ _ _ _ hi (.inl h4)), a4.2⟩, a5⟩
theorem NSt.keepD {w w' : World} {B C b : Nat} {ov : Value} {l : List OpD} {g : Int} {ts : List TypeId} (h : NSt w B b ov l g) (hs : Keep C ts w w') (h1 : 45 ∉ ts) (h2 : 99 ∉ ts) (h3 : 58 ∉ ts) (h4 : 5 ∉ ts) : NSt w' B b ov l g := by
  obtain ⟨ps, ad, bv, bt, a1, a2, a3, a4, a5⟩ := h
  exact ⟨ps, ad, bv, bt, hs.kept _ _ _ _ a1 h3, a2, ⟨hs.own a3.1 h1, fun p hp => hs.own (a3.2 p hp) h2⟩, ⟨hs.own a4.1 h4, a4.2⟩, a5⟩
/-- Block i is not the row of the operations on the way. -/
def FrG (bd : Nat) (W : World) (i : Nat) : Prop := ∃ ov ad bv g, NBlk W bd ov ad bv g ∧ ov.ownBlock ≠ some i
def KpG (bd : Nat) (x y : World) : Prop := ∀ (i : Nat) (cs : Array Value) (e : TypeId) (fr : Nat × Nat), x.heap[i]? = some (.cells cs e fr) → e = 85 ∨ e = 45 → FrG bd x i → y.heap[i]? = some (.cells cs e fr) ∧ FrG bd y i
theorem FrG.cells {bd i : Nat} {x y : World} (h : FrG bd x i) (hk : ∀ (j : Nat) (cs : Array Value) (fr : Nat × Nat), x.heap[j]? = some (.cells cs 58 fr) → y.heap[j]? = some (.cells cs 58 fr)) : FrG bd y i := by
  obtain ⟨ov, ad, bv, g, h1, h2⟩ := h
  exact ⟨ov, ad, bv, g, hk _ _ _ h1, h2⟩
theorem frG_step {bd : Nat} {B N : Nat} {own : List Nat} {x y : World} {i : Nat} (hs : Step B N WT own x y) (h : FrG bd x i) : FrG bd y i := h.cells fun j cs fr hj => hs.cells _ _ _ _ hj (.inl (by decide))
theorem kpG_ok (bd : Nat) : KpOk (KpG bd) where
  trans := fun h k i cs e fr hi he hf => by
    obtain ⟨a, b⟩ := h i cs e fr hi he hf
    exact k i cs e fr a he b
  below := fun hb i cs e fr hi _ hf => ⟨(hb.block _ (lt_of_heap hi)).trans hi, hf.cells fun j cs fr hj => (hb.block _ (lt_of_heap hj)).trans hj⟩
  put := fun W l o o' hl ho i cs e fr hi _ hf => ⟨putObj_cells hl ho hi, hf.cells fun j cs fr hj => putObj_cells hl ho hj⟩
theorem kpG_keep {bd B : Nat} {ts : List TypeId} {x y : World} (h : Keep B ts x y) (h1 : 85 ∉ ts) (h2 : 45 ∉ ts) (h3 : 58 ∉ ts) : KpG bd x y := fun i cs e fr hi he hf =>
  ⟨h.kept _ _ _ _ hi (by rcases he with rfl | rfl <;> assumption), hf.cells fun j cs fr hj => h.kept _ _ _ _ hj h3⟩
theorem kpG_ops {bd B : Nat} {x y : World} {ov ov' : Value} {l l' : List OpD} {g g' : Int} (hx : NSt x B bd ov l g) (hy : NSt y B bd ov' l' g') (h : KeepO B x y ov ov') : KpG bd x y := fun i cs e fr hi he hf => by
  obtain ⟨ov0, ad0, bv0, g0, e0, n0⟩ := hf
  obtain ⟨_, ad, bv, _, e1, _⟩ := hx
  have hov : ov = ov0 := by
    have h2 := e0.symm.trans e1
    simp only [Option.some.injEq, Obj.cells.injEq, Array.mk.injEq, List.cons.injEq] at h2
    exact h2.1.1.symm
  subst hov
  obtain ⟨ps', ad', bv', _, e2, _, hO', _⟩ := hy
  rcases he with rfl | rfl
  · have hk := h.keep.kept _ _ _ _ hi (by decide)
    exact ⟨hk, ov', ad', bv', _, e2, own_ne hO'.1 hk (by decide)⟩
  · obtain ⟨a, b⟩ := h.ops i cs fr hi n0
    exact ⟨a, ov', ad', bv', _, e2, b⟩
theorem frG_new {W : World} {B bd i : Nat} {ov : Value} {l : List OpD} {g : Int} (h : NSt W B bd ov l g) (hi : W.heap.size ≤ i) : FrG bd W i := by
  obtain ⟨ps, ad, bv, _, h1, _, h3, _⟩ := h
  refine ⟨ov, ad, bv, g, h1, fun e => ?_⟩
  obtain ⟨_, cs, fr, h2⟩ := own_row h3.1 i e
  have := lt_of_heap h2
  omega
theorem results_chg2 {fn : Func} (h : fn.results = #[.cell 4 25, .cell 5 27]) {tmps : Array Value} {w : World} {b4 b5 : Nat} {v x y : Value} (h4 : tmps.getD 4 undef = .pointer (some ⟨b4, 0, none⟩)) (h5 : tmps.getD 5 undef = .pointer (some ⟨b5, 0, none⟩))
    (z4 : w.cell? ⟨b4, 0, none⟩ = some x) (z4' : w.cell? ⟨b4, 1, none⟩ = some y) (z5 : w.cell? ⟨b5, 0, none⟩ = some v) : (results fn tmps).run Tryd.prog w = .ok (.tuple #[.agg #[x, y], v]) w := by
  rw [Array.getD_eq_getD_getElem?] at h4 h5
  simp [results, h, h4, h5, go_sem, z4, z4', z5]
theorem three_set {W : World} {n : Nat} {t1 t2 : TypeId} {a b c : Value} (x y u : Value) (h1 : W.heap[n]? = some (.cells #[a, b] t1 (0, 0))) (h2 : Boxed W (n + 1) t2 c) :
    (((W.setCell ⟨n, 0, none⟩ x).setCell ⟨n, 1, none⟩ y).setCell ⟨n + 1, 0, none⟩ u).heap[n]? = some (.cells #[x, y] t1 (0, 0)) ∧ Boxed (((W.setCell ⟨n, 0, none⟩ x).setCell ⟨n, 1, none⟩ y).setCell ⟨n + 1, 0, none⟩ u) (n + 1) t2 u ∧ Keep n [t1, t2] W (((W.setCell ⟨n, 0, none⟩ x).setCell ⟨n, 1, none⟩ y).setCell ⟨n + 1, 0, none⟩ u) := by
  obtain ⟨a1, a2, a3⟩ := agg_set x y h1
  have b2 : Boxed ((W.setCell ⟨n, 0, none⟩ x).setCell ⟨n, 1, none⟩ y) (n + 1) t2 c := (a3 (n + 1) (by omega)).trans h2
  exact ⟨(Below.heap_setCell _ _ _ _ (by simp)).trans a1, b2.set u, (a2.more (by simp)).trans (keep_set (B := n) (ts := [t1, t2]) b2 (by simp) (by omega) ⟨n + 1, 0, none⟩ rfl u)⟩
end Go.Proofs.YtlfodemmdfaeeaaDoor

/- The program's Inverse: the changeset that brings a document back. -/
namespace Go.Proofs.YtlfodemmdfaeeaaDoor
open Go.RowKit Go.Shelf Rn Ch At
attribute [local go_sem] Oper.semAt_some

abbrev TI : List TypeId := [45, 58, 5, 43, 27, 25]
structure StI (B : Nat) (w0 : World) (ys : List MD) (nv : Value) (rs : List RP) (bd bb lb q4 : Nat) (k : Nat) (W : World) : Prop where
  below : Below B w0 W
  row : ∃ ov, NSt W B bd ov (invS ys k).1 (invS ys k).2
  rem : ∃ L C, RemSt 20 invertR invertE W B bb L C
  laid : Boxed W lb WAYT (.func (.func 43) #[] (capR bb))
  now : OwnR W B nv rs
  r4 : W.heap[q4]? = some (.cells #[.int .i64 0, .slice none 0 0] 25 (0, 0))
  r5 : Boxed W (q4 + 1) 27 (.int .i64 0)
theorem OwnR.stepD {w w' : World} {B C N : Nat} {own : List Nat} {v : Value} {rs : List RP} {ts : List TypeId} (h : OwnR w B v rs) (hs : Step C N ts own w w') (h1 : 85 ∉ ts) (h2 : 99 ∉ ts) : OwnR w' B v rs :=
  h.cells (fun _ _ _ hi => hs.cells _ _ _ _ hi (.inl h1)) (fun _ _ _ hi => hs.cells _ _ _ _ hi (.inl h2))
theorem StI.step {B N : Nat} {own : List Nat} {w0 W W' : World} {ys : List MD} {nv : Value} {rs : List RP} {bd bb lb q4 k : Nat} (h : StI B w0 ys nv rs bd bb lb q4 k W) (hs : Step B N WT own W W') : StI B w0 ys nv rs bd bb lb q4 k W' :=
  { below := h.below.trans hs.below
    row := by obtain ⟨ov, h⟩ := h.row; exact ⟨ov, h.step hs (by decide) (by decide) (by decide) (by decide)⟩
    rem := by obtain ⟨L, C, h⟩ := h.rem; exact ⟨L, C, h.step hs (by decide) (by decide) (by decide) (by decide)⟩
    laid := hs.cells _ _ _ _ h.laid (.inl (by decide))
    now := h.now.stepD hs (by decide) (by decide)
    r4 := hs.cells _ _ _ _ h.r4 (.inl (by decide))
    r5 := hs.cells _ _ _ _ h.r5 (.inl (by decide)) }
/-- One more, put by Add. -/
theorem StI.next {B : Nat} {w0 W W' : World} {ys : List MD} {nv : Value} {rs : List RP} {bd bb lb q4 k : Nat} {ov ov' : Value} {o : OpD} (h : StI B w0 ys nv rs bd bb lb q4 k W) (hk : k < ys.length) (ho : backOne ys[k] = o) (h' : NSt W' B bd ov' (addG (invS ys k) o).1 (addG (invS ys k) o).2) (hK : KeepO B W W' ov ov') : StI B w0 ys nv rs bd bb lb q4 (k + 1) W' :=
  { below := h.below.trans hK.keep.below
    row := ⟨ov', by rw [invS_succ hk, ho]; exact h'⟩
    rem := by obtain ⟨L, C, h⟩ := h.rem; exact ⟨L, C, h.keep hK.keep (by decide) (by decide) (by decide) (by decide)⟩
    laid := hK.keep.kept _ _ _ _ h.laid (by decide)
    now := h.now.keep hK.keep (by decide) (by decide)
    r4 := hK.keep.kept _ _ _ _ h.r4 (by decide)
    r5 := hK.keep.kept _ _ _ _ h.r5 (by decide) }
theorem StI.laid' {B bb' : Nat} {w0 W W' : World} {ys : List MD} {nv : Value} {rs : List RP} {bd bb lb q4 k : Nat} {L C : List (K × V)} (h : StI B w0 ys nv rs bd bb lb q4 k W) (hr : RemSt 20 invertR invertE W' B bb L C) (hK : Keep bb' TM W W') (hb : B ≤ bb') (hq : q4 + 1 < bb') : StI B w0 ys nv rs bd bb lb q4 k W' :=
  { below := h.below.trans (hK.mono hb).below
    row := by obtain ⟨ov, h⟩ := h.row; exact ⟨ov, h.keepD hK (by decide) (by decide) (by decide) (by decide)⟩
    rem := ⟨L, C, hr⟩
    laid := hK.kept _ _ _ _ h.laid (by decide)
    now := h.now.keep hK (by decide) (by decide)
    r4 := hK.kept _ _ _ _ h.r4 (by decide)
    r5 := (hK.below.block _ hq).trans h.r5 }

def InvOut (w : World) (B : Nat) (l : List RunD) (f : Int) (ops : List OpD) (e : Ending) (w' : World) : Prop :=
  ∃ v, e = .returned (.tuple #[chAgg (if invE l f ops = 0 then lenN (appL l f ops) else 0) v, .int .i64 (invE l f ops)]) ∧ Below w.heap.size w w' ∧ OwnOps w' B v (if invE l f ops = 0 then invL l ops else [])
theorem ownOps_nilD (w : World) (B : Nat) : OwnOps w B (.slice none 0 0) [] := ⟨[], rfl, World.ownsRow_nil _ _ _ _, fun p hp => by cases hp⟩
theorem invOut_bad {w w' : World} {B : Nat} {l : List RunD} {f E : Int} {ops : List OpD} (h : invE l f ops = E) (hE : E ≠ 0) (hb : Below w.heap.size w w') : InvOut w B l f ops (.returned (.tuple #[.agg #[.int .i64 0, .slice none 0 0], .int .i64 E])) w' :=
  ⟨.slice none 0 0, by rw [h, if_neg hE], hb, by rw [h, if_neg hE]; exact ownOps_nilD _ _⟩
theorem rsized_app (l : List RunD) (f : Int) (ops : List OpD) (h : appE l f ops = 0) : RSized (appL l f ops) := by
  have hd := docF_of (appF_of h).right
  intro r hr
  have h1 := (hd.oks r hr).rns
  have h2 := (txt_len (rns r)).2
  refine ⟨?_, sized_rgt (hd.rgt r hr)⟩
  rw [h1.2.1, T_size]
  unfold maxLen
  omega

set_option maxRecDepth 100000 in
set_option maxHeartbeats 8000000 in
theorem inverse_any (v ov : Value) (ps : List RP) (f : Int) (ops : List OpD) (w : World) (hv : RunRow w v ps) (hz : RSized (ps.map (·.1))) (hc : OpRow w ov ops) (hpr : Proper ov) (hy : OSized ops) (hU : U8s w.heap.size w) :
    Calls Tryd.prog 7 #[v, chAgg f ov] w (InvOut w w.heap.size (ps.map (·.1)) f ops) := by
  have hB : w.heap.size ≤ w.heap.size := Nat.le_refl _
  have HV := Lib.hid hv
  have HC := Lib.hid hc
  have HPR := Lib.hid hpr
  have HU := Lib.hid hU
  have HAP := Lib.hid (fun W (h : Below w.heap.size w W) => (apply_any v ov ps f ops W (hv.below h) hz (hc.below h) hpr hy ⟨Nat.lt_of_lt_of_le hU.1 h.size, Nat.lt_of_lt_of_le hU.2.1 h.size, (hU.to h).2.2⟩))
  obtain ⟨l, hl⟩ : ∃ l, l = ps.map (·.1) := ⟨_, rfl⟩
  simp only [← hl] at HAP
  rw [← hl]
  have HLL := Lib.hid hl
  obtain ⟨qs, hqs, hops, hqa⟩ := opRow_cells hc hpr
  obtain ⟨oa, oc, rfl, _⟩ := id hops
  have HQS := Lib.hid hqs
  have HOPS := Lib.hid hops
  have HQA := Lib.hid hqa
  obtain ⟨a, cap, rfl⟩ := hv.shape
  clear hv hz hc hpr hy hU hl hqs hops hqa
  refine (callsIn_wide (n := 0)).1 (callsIn_of_wp_marks Tryd.func7 rfl trivial ?_ rfl)
  simp only [Tryd.ntmps7, List.size_toArray, List.length_cons, List.length_nil, Nat.reduceAdd, Nat.reduceSub, Array.replicate_succ, Array.replicate_zero, List.push_toArray, List.append_toArray, List.nil_append, List.cons_append]
  gi_wp2
  obtain ⟨X, hX⟩ : ∃ X, X = ((w.alloc (.cells #[.int .i64 f, .slice oa qs.length oc] 25)).alloc (.cells #[.int .i64 0, .slice none 0 0] 25)).alloc (.cells #[.int .i64 0] 27) := ⟨_, rfl⟩
  rw [← hX]
  have BX : Below w.heap.size w X := by rw [hX]; exact (((Below.refl _ w).alloc (Nat.le_refl _) _).alloc (by simp) _).alloc (by simp; omega) _
  have sX : X.heap.size = w.heap.size + 3 := by rw [hX]; simp
  have x0 : X.heap[w.heap.size]? = some (.cells #[.int .i64 f, .slice oa qs.length oc] 25 (0, 0)) := by
    rw [hX, Below.heap_alloc _ _ _ (by simp; omega), Below.heap_alloc _ _ _ (by simp)]; exact heap_new _ _
  have x1 : X.heap[w.heap.size + 1]? = some (.cells #[.int .i64 0, .slice none 0 0] 25 (0, 0)) := by
    rw [hX, Below.heap_alloc _ _ _ (by simp)]
    have := heap_new (w.alloc (.cells #[.int .i64 f, .slice oa qs.length oc] 25)) (.cells #[.int .i64 0, .slice none 0 0] 25)
    rwa [World.size_alloc] at this
  have x2 : Boxed X (w.heap.size + 1 + 1) 27 (.int .i64 0) := by
    rw [hX]
    have := Boxed.new ((w.alloc (.cells #[.int .i64 f, .slice oa qs.length oc] 25)).alloc (.cells #[.int .i64 0, .slice none 0 0] 25)) 27 (.int .i64 0)
    simpa only [World.size_alloc] using this
  have HBX := Lib.hid BX
  have HAP1 := Lib.hid (HAP.out X BX)
  have hlt : w.heap.size + 3 ≤ X.heap.size := by omega
  clear hX BX sX HAP
  refine ⟨trivial, rfl, (callsIn_wide.2 HAP1.out).mono ?_⟩
  rintro e w1 ⟨nv, rfl, hb1, rs, hrs, hown⟩
  have hk1 : ∀ {i : Nat} {o : Obj}, X.heap[i]? = some o → w1.heap[i]? = some o := fun hi => (hb1.block _ (lt_of_heap hi)).trans hi
  have y0 : w1.heap[w.heap.size]? = some (.cells #[.int .i64 f, .slice oa qs.length oc] 25 (0, 0)) := hk1 x0
  have y1 : w1.heap[w.heap.size + 1]? = some (.cells #[.int .i64 0, .slice none 0 0] 25 (0, 0)) := hk1 x1
  have y2 : Boxed w1 (w.heap.size + 1 + 1) 27 (.int .i64 0) := hk1 x2
  have s1 := hb1.size
  have HB1 := Lib.hid (HBX.out.trans (hb1.mono HBX.out.size))
  have HRS := Lib.hid hrs
  obtain ⟨na, nc, rfl⟩ := own_slice hown.1
  have HNO := Lib.hid (hown.base HBX.out.size)
  clear hk1 hb1 x0 x1 x2 hrs hown HAP1
  by_cases hE : appE l f ops = 0
  · have tE : (appE l f ops != 0) = false := by rw [hE]; rfl
    have HAF := Lib.hid (appF_of hE)
    have HFF := Lib.hid (fit_facts (appF_of hE).fit)
    have HE0 := Lib.hid hE
    clear hE
    have HREM := Lib.hid (remembered_i w.heap.size w1)
    gi_wp2
    refine ⟨trivial, rfl, (callsIn_wide.2 HREM.out).mono ?_⟩
    rintro e w2 ⟨rfl, hb2, hrem⟩
    have s2 := hb2.size
    have hk2 : ∀ {i : Nat} {o : Obj}, w1.heap[i]? = some o → w2.heap[i]? = some o := fun hi => (hb2.block _ (lt_of_heap hi)).trans hi
    have y0 := hk2 y0
    have y1 := hk2 y1
    have y2 : Boxed w2 (w.heap.size + 1 + 1) 27 (.int .i64 0) := hk2 y2
    have HB2 := Lib.hid (HB1.out.trans (hb2.mono HB1.out.size))
    have HN2 := Lib.hid (HNO.out.cells (fun _ _ _ hi => hk2 hi) (fun _ _ _ hi => hk2 hi))
    clear hk2 hb2 HREM
    have HRM := Lib.hid hrem
    clear hrem
    have z0 : w2.cell? ⟨w.heap.size, 1, none⟩ = some (.slice oa qs.length oc) := by rw [Lib.cell_of_heap y0]; rfl
    have l0 := lt_of_heap y0
    have HY := Lib.hid (And.intro y0 (And.intro y1 y2))
    clear y0 y1 y2
    gi_wp2
    refine ⟨trivial, rfl, (callsIn_wide.2 (met_any _ _ _ _ _ _ _)).mono ?_⟩
    rintro e w3 ⟨rfl, rfl⟩
    simp only [World.size_alloc]
    obtain ⟨Y, hY⟩ : ∃ Y, Y = ((((w2.alloc (.cells #[.func (.func 43) #[] (capR w1.heap.size)] 49)).alloc (.cells #[.slice none 0 0, .pointer none, .slice none 0 0, .int .i64 0] 58)).alloc (.cells #[.slice a ps.length cap] 22)).alloc (.cells #[.slice oa qs.length oc] 23)).alloc (.cells #[.int .i64 1, .int .i64 20000, .string ⟨#[]⟩, .slice none 0 0] 45) := ⟨_, rfl⟩
    rw [← hY]
    have sY : Y.heap.size = w2.heap.size + 5 := by rw [hY]; simp
    have BY : Below w2.heap.size w2 Y := by rw [hY]; exact (((((Below.refl _ w2).alloc (Nat.le_refl _) _).alloc (by simp) _).alloc (by simp; omega) _).alloc (by simp; omega) _).alloc (by simp; omega) _
    have b0 : Boxed Y w2.heap.size WAYT (.func (.func 43) #[] (capR w1.heap.size)) := by
      rw [hY]; exact ((((Boxed.new w2 _ _).alloc _).alloc _).alloc _).alloc _
    have b1 : Y.heap[w2.heap.size + 1]? = some (.cells #[.slice none 0 0, .pointer none, .slice none 0 0, .int .i64 0] 58 (0, 0)) := by
      rw [hY, Below.heap_alloc _ _ _ (by simp <;> omega), Below.heap_alloc _ _ _ (by simp <;> omega), Below.heap_alloc _ _ _ (by simp)]
      have := heap_new (w2.alloc (.cells #[.func (.func 43) #[] (capR w1.heap.size)] 49)) (.cells #[.slice none 0 0, .pointer none, .slice none 0 0, .int .i64 0] 58)
      rwa [World.size_alloc] at this
    have b2 : Boxed Y (w2.heap.size + 1 + 1) 22 (.slice a ps.length cap) := by
      rw [hY]
      have := ((Boxed.new ((w2.alloc (.cells #[.func (.func 43) #[] (capR w1.heap.size)] 49)).alloc (.cells #[.slice none 0 0, .pointer none, .slice none 0 0, .int .i64 0] 58)) 22 (.slice a ps.length cap)).alloc (.cells #[.slice oa qs.length oc] 23)).alloc (.cells #[.int .i64 1, .int .i64 20000, .string ⟨#[]⟩, .slice none 0 0] 45)
      simpa only [World.size_alloc] using this
    have b3 : Boxed Y (w2.heap.size + 1 + 1 + 1) 23 (.slice oa qs.length oc) := by
      rw [hY]
      have := (Boxed.new (((w2.alloc (.cells #[.func (.func 43) #[] (capR w1.heap.size)] 49)).alloc (.cells #[.slice none 0 0, .pointer none, .slice none 0 0, .int .i64 0] 58)).alloc (.cells #[.slice a ps.length cap] 22)) 23 (.slice oa qs.length oc)).alloc (.cells #[.int .i64 1, .int .i64 20000, .string ⟨#[]⟩, .slice none 0 0] 45)
      simpa only [World.size_alloc] using this
    have b4 : Y.heap[w2.heap.size + 1 + 1 + 1 + 1]? = some (.cells #[.int .i64 1, .int .i64 20000, .string ⟨#[]⟩, .slice none 0 0] 45 (0, 0)) := by
      rw [hY]
      have := heap_new ((((w2.alloc (.cells #[.func (.func 43) #[] (capR w1.heap.size)] 49)).alloc (.cells #[.slice none 0 0, .pointer none, .slice none 0 0, .int .i64 0] 58)).alloc (.cells #[.slice a ps.length cap] 22)).alloc (.cells #[.slice oa qs.length oc] 23)) (.cells #[.int .i64 1, .int .i64 20000, .string ⟨#[]⟩, .slice none 0 0] 45)
      simpa only [World.size_alloc] using this
    have hbY : Below w.heap.size w2 Y := BY.mono (by omega)
    have BWY := HB2.out.trans hbY
    have ys0 : StI w.heap.size w (metC (ops ++ [restQ.1]) (cellsD l)) (.slice na rs.length nc) rs (w2.heap.size + 1) w1.heap.size w2.heap.size (w.heap.size + 1) 0 Y :=
      { below := BWY
        row := ⟨_, nst_new b1⟩
        rem := ⟨[], [], HRM.out.keep (keep_below (ts := []) BY (by omega)) (by simp) (by simp) (by simp) (by simp)⟩
        laid := b0
        now := HN2.out.keep (keep_below (ts := []) BY (by omega)) (by simp) (by simp)
        r4 := (BY.block _ (by omega)).trans HY.out.2.1
        r5 := (BY.block _ (by omega)).trans HY.out.2.2 }
    have HYS0 := Lib.hid ys0
    have HBS := Lib.hid (And.intro b2 (And.intro b3 b4))
    have HBY := Lib.hid BWY
    clear ys0 b0 b1 b2 b3 b4 hY BY hbY BWY
    have hn2 : w.heap.size + 3 ≤ w1.heap.size := by omega
    have hw1 : w1.heap.size ≤ w2.heap.size := s2
    have hB1 : w.heap.size ≤ w1.heap.size := by omega
    clear z0 l0 s1 hlt y0 y1 y2 HB1 HBX HRM HY HN2 HNO
    generalize w2.heap.size = n2 at sY HYS0 HBS s2 hw1
    generalize w1.heap.size = bb at HYS0 s2 hn2 hw1 hB1
    gi_wp2
    obtain ⟨ys, hys⟩ : ∃ ys, ys = metC (ops ++ [restQ.1]) (cellsD l) := ⟨_, rfl⟩
    obtain ⟨xs, hxs⟩ : ∃ xs, xs = metL (qs ++ [restQ]) (ps, 0) := ⟨_, rfl⟩
    rw [← hys] at HYS0
    have hOK : ∀ p ∈ ps, OkR p.1 := fun p hp => (HFF.out.runs p.1 (by rw [HLL.out]; exact List.mem_map.2 ⟨p, hp, rfl⟩)).1
    have hPL : Place (ps, 0) := by
      cases hps : ps with
      | nil => exact .inl ⟨rfl, rfl⟩
      | cons p r => exact .inr ⟨p, r, rfl, List.length_pos_iff.2 (hOK p (by rw [hps]; exact List.mem_cons_self ..)).rns.2.2.1⟩
    have hxy : xs.map pmet = ys := by
      rw [hxs, hys, metL_plain _ _ hPL hOK, List.map_append, HQS.out]
      congr 1
      unfold rem
      rw [List.drop_zero, cellsD_of, ← HLL.out]
    have hlen : ys.length = xs.length := by rw [← hxy, List.length_map]
    have hq : ∀ q ∈ qs, (q.1.kind = 2 → OkR ⟨q.1.text, q.1.attrs⟩) ∧ q.1.n ≤ 1073741824 := fun q hq => by
      have hm : q.1 ∈ ops := by rw [← HQS.out]; exact List.mem_map.2 ⟨q, hq, rfl⟩
      refine ⟨fun hk => ?_, by have := (HFF.out.num _ hm).2; omega⟩
      have h1 := (opE_put hk).1 (HFF.out.all _ hm)
      refine (okR_of h1.2.2.1 ?_).1
      intro h0
      obtain ⟨cs, hr, hc⟩ := er_zero h1.2.2.1
      rw [h0] at hc
      have : cs = [] := List.length_eq_zero_iff.1 (by omega)
      subst this
      have := (rd_some hr).2.1
      exact h1.2.1 (by rw [size_data, this]; rfl)
    have hql : qs.length ≤ 2000 := by
      have := HFF.out.olen
      rw [← HQS.out, List.length_map] at this
      exact this
    have hit := met_iter w.heap.size (n2 + 1 + 1) (n2 + 1 + 1 + 1) (n2 + 1 + 1 + 1 + 1) a ps.length cap oa oc ps qs TI (KpG (n2 + 1)) (FrG (n2 + 1)) (kpG_ok _) (by decide) (by decide) (by decide) (by decide) (by decide) (fun hs h => frG_step hs h) (fun hk hi he hf => hk _ _ _ _ hi he hf) hql hq
    rw [← hxs] at hit
    have HVL := Lib.hid (fun k (hk : k < xs.length) W' (hb : Below w.heap.size w W') => met_vals (qs := qs) (ps := ps) (fun w' h q hq => (HQA.out q hq).below h) (fun w' h p hp => (HV.out.2 p hp).below h) (by rw [← hxs]; exact List.getElem_mem hk) W' hb)
    have HAT := Lib.hid (fun k (hk : k < ys.length) => metD_attrs HFF.out (y := ys[k]) (by rw [← hys]; exact List.getElem_mem hk))
    have HMO := Lib.hid (fun k (hk : k < ys.length) => met_ok HAF.out ys[k] (by show _ ∈ metC (ops ++ [restQ.1]) (cellsD l); rw [← hys]; exact List.getElem_mem hk))
    have HXY := Lib.hid hxy
    have HYL := Lib.hid (show ys.length ≤ 60000 by rw [hys]; exact metD_len HFF.out)
    have HYE := Lib.hid hys
    have HLN := Lib.hid hlen
    clear hq hPL hxy hys hxs hlen
    refine range_it hit rfl (enters_of Tryd.func48 (by kernel_rfl) rfl) (fun _ => rfl) (by omega) ?hS (kpG_ok _).trans (kpG_ok _).put
      (fun k W' => StI w.heap.size w ys (.slice na rs.length nc) rs (n2 + 1) bb n2 (w.heap.size + 1) k W') (fun c k W' => False)
      (fun _ _ _ h hs => h.step hs) (fun _ _ _ _ h hs => h) ?hFr HYS0.out ?rnd ?done ?stop (fun _ _ _ _ => trivial)
    case hS =>
      intro W hb
      have hk : ∀ {i : Nat} {o : Obj}, Y.heap[i]? = some o → W.heap[i]? = some o := fun hi => (hb.block _ (lt_of_heap hi)).trans hi
      have hbB := HBY.out.trans (hb.mono (show w.heap.size ≤ Y.heap.size by omega))
      exact ⟨hk HBS.out.1, hk HBS.out.2.1, hk HBS.out.2.2, fun w' hw => HV.out.below (hbB.trans hw), fun w' hw => HOPS.out.below (hbB.trans hw), fun w' hw q hq => (HQA.out q hq).below (hbB.trans hw), hOK, HU.out.to hbB⟩
    case hFr =>
      intro k A i h hi
      obtain ⟨ov, h⟩ := h.row
      exact frG_new h hi
    case stop =>
      rintro D c k W hle hk hx hD
      exact hx.elim
    case done =>
      rintro D W hle hI _ hD
      rw [← HLN.out] at hI
      have hsm := invS_sm ys ys.length (Nat.le_refl _)
      have hyl := HYL.out
      obtain ⟨hf0, hf1, hf2⟩ := hsm.fin (by omega) (by omega) (by omega)
      obtain ⟨dv, hd⟩ := hI.row
      have HLE := Lib.hid (length_any (.slice na rs.length nc) rs W hI.now.row (by rw [HRS.out]; exact rsized_app l f ops HE0.out))
      rw [HRS.out] at HLE
      have HCH := Lib.hid (fun W' (h : Below W.heap.size W W') => changeG_any w.heap.size (n2 + 1) dv (invS ys ys.length) (lenN (appL l f ops)) W' (hd.below h) (by omega) hf0 hf1 hf2)
      have HI := Lib.hid hI
      have HD := Lib.hid hD
      have HDD := Lib.hid hd
      have hsz := hI.below.size
      clear hI hd hD hsm hyl hf0 hf1 hf2
      gi_wp2
      refine ⟨trivial, rfl, (callsIn_wide.2 HLE.out).mono ?_⟩
      rintro e W1 ⟨rfl, hb1⟩
      have HCH1 := Lib.hid (HCH.out W1 hb1)
      have hD1 : W1.heap[D]? = some (.deferred (some [])) := (hb1.block _ (lt_of_heap HD.out)).trans HD.out
      have r4 : W1.heap[w.heap.size + 1]? = some (.cells #[.int .i64 0, .slice none 0 0] 25 (0, 0)) := (hb1.block _ (lt_of_heap HI.out.r4)).trans HI.out.r4
      have r5 : Boxed W1 (w.heap.size + 1 + 1) 27 (.int .i64 0) := (hb1.block _ (lt_of_heap HI.out.r5)).trans HI.out.r5
      have HB3 := Lib.hid (HI.out.below.trans (hb1.mono hsz))
      have HD1 := Lib.hid hD1
      have HR := Lib.hid (And.intro r4 r5)
      have te : (lenE (appL l f ops) != 0) = false := by rw [HAF.out.right]; rfl
      clear hb1 hD1 r4 r5 HI HD HDD HCH HLE
      gi_wp2
      refine ⟨trivial, rfl, (callsIn_wide.2 HCH1.out).mono ?_⟩
      rintro e W2 ⟨cv, rfl, hO, hK⟩
      have hD2 : W2.heap[D]? = some (.deferred (some [])) := hK.all _ _ HD1.out (out_not rfl)
      have r4 : W2.heap[w.heap.size + 1]? = some (.cells #[.int .i64 0, .slice none 0 0] 25 (0, 0)) := hK.kept _ _ _ _ HR.out.1 (by decide)
      have r5 : Boxed W2 (w.heap.size + 1 + 1) 27 (.int .i64 0) := hK.kept _ _ _ _ HR.out.2 (by decide)
      have HB4 := Lib.hid (HB3.out.trans hK.below)
      have HR2 := Lib.hid (And.intro r4 r5)
      have HD2 := Lib.hid hD2
      have hDl := lt_of_heap hD2
      have hinv : chgL (invS ys ys.length) = invL l ops := (invS_all ys).trans (by rw [HYE.out]; rfl)
      rw [hinv] at hO ⊢
      have hie : invE l f ops = if 2000 < (invL l ops).length then 2 else 0 := by unfold invE; rw [if_neg (by rw [HE0.out]; simp)]
      have hif : ∀ {α : Type} (x y : α), (if 2000 < (invL l ops).length then y else x) = if invE l f ops = 0 then x else y := fun x y => by
        rw [hie]
        by_cases h2 : 2000 < (invL l ops).length
        · rw [if_pos h2, if_pos h2, if_neg (by omega)]
        · rw [if_neg h2, if_neg h2, if_pos rfl]
      rw [← hie, hif]
      rw [hif] at hO
      obtain ⟨cps, hcp, hcO⟩ := hO
      obtain ⟨ca, cc, rfl⟩ := own_slice hcO.1
      have HO := Lib.hid (And.intro hcp hcO)
      clear hif hie hinv hK hD2 r4 r5 HR HD1 HCH1 hcp hcO
      have c4 : W2.cell? ⟨w.heap.size + 1, 0, none⟩ = some (.int .i64 0) := (cells2 HR2.out.1).1
      have c4' : W2.cell? ⟨w.heap.size + 1, 1, none⟩ = some (.slice none 0 0) := (cells2 HR2.out.1).2.1
      have f4 : W2.frozen? ⟨w.heap.size + 1, 0, none⟩ = false := (cells2 HR2.out.1).2.2.1
      have f4' : W2.frozen? ⟨w.heap.size + 1, 1, none⟩ = false := (cells2 HR2.out.1).2.2.2
      have c5 := HR2.out.2.cell
      have f5 := HR2.out.2.frozen
      generalize hiE : invE l f ops = iE
      generalize hfr : (if iE = 0 then lenN (appL l f ops) else 0) = fr
      gi_wp2
      obtain ⟨q1, q2, q3⟩ := three_set (.int .i64 fr) (.slice ca cps.length cc) (.int .i64 iE) HR2.out.1 HR2.out.2
      have qD := q3.all _ _ HD2.out (out_not rfl)
      refine ⟨by simp, .inl ⟨_, _, rfl, run_takeDeferred qD, ?_⟩⟩
      have e4 := putObj_cells (o' := .deferred none) qD rfl q1
      have e5 : Boxed _ _ _ _ := putObj_cells (o' := .deferred none) qD rfl q2
      refine ⟨_, results_chg2 rfl rfl rfl (cells2 e4).1 (cells2 e4).2.1 e5.cell, .slice ca cps.length cc, by rw [hiE, hfr], (HB4.out.trans (q3.below.mono (by omega))).trans (below_put (by omega) qD), cps, HO.out.1, ?_⟩
      exact (HO.out.2.keep q3 (by decide) (by decide)).cells (fun _ _ _ hi => putObj_cells qD rfl hi) (fun _ _ _ hi => putObj_cells qD rfl hi)
    case rnd =>
      rintro l' k hk W2 hle hI
      have hky : k < ys.length := by rw [HLN.out]; exact hk
      have hpk : ys[k] = pmet xs[k] := by
        have := HXY.out
        subst this
        exact List.getElem_map ..
      have hvl := HVL.out k hk
      have hat := HAT.out k hky
      have hmo := HMO.out k hky
      obtain ⟨s1, s2'⟩ := (hvl W2 hI.below)
      obtain ⟨va, vc, hva⟩ := s1.shape
      obtain ⟨ua, uc, hua⟩ := s2'.shape
      generalize hyv : ys[k] = yk at hpk hat hmo
      generalize xs[k] = x at hpk hvl hva hua ⊢
      obtain ⟨⟨o, ov⟩, xc, xr, xv⟩ := x
      simp only at hva hua hvl
      subst hva
      subst hua
      simp only [pmet, pcell] at hpk
      subst hpk
      simp only at hat
      have HYV := Lib.hid hyv
      have HKY := Lib.hid hky
      have HVK := Lib.hid hvl
      have HAK := Lib.hid hat
      have HMK := Lib.hid hmo
      have HI := Lib.hid hI
      have hW2 : w.heap.size + 3 ≤ W2.heap.size := by have := hI.r5.lt; omega
      clear hI s1 s2' hvl hat hyv hmo
      gi_wp2
      obtain ⟨W3, hW3⟩ : ∃ W3, W3 = (W2.alloc (.cells #[.int .i64 o.kind, .int .i64 o.n, .string o.text, .slice va o.attrs.length vc] 45)).alloc (.cells #[.string (E xc), .slice ua xr.attrs.length uc] 63) := ⟨_, rfl⟩
      rw [← hW3]
      have B3 : Below W2.heap.size W2 W3 := by rw [hW3]; exact ((Below.refl _ W2).alloc (Nat.le_refl _) _).alloc (by simp) _
      have o3 : W3.heap[W2.heap.size]? = some (.cells #[.int .i64 o.kind, .int .i64 o.n, .string o.text, .slice va o.attrs.length vc] 45 (0, 0)) := by
        rw [hW3, Below.heap_alloc _ _ _ (by simp)]; exact heap_new _ _
      have x3 : W3.heap[W2.heap.size + 1]? = some (.cells #[.string (E xc), .slice ua xr.attrs.length uc] 63 (0, 0)) := by
        rw [hW3]
        have := heap_new (W2.alloc (.cells #[.int .i64 o.kind, .int .i64 o.n, .string o.text, .slice va o.attrs.length vc] 45)) (.cells #[.string (E xc), .slice ua xr.attrs.length uc] 63)
        rwa [World.size_alloc] at this
      have HI3 := HI.out.step (step_below (N := Y.heap.size) (own := []) WT B3 (by omega))
      refine ⟨rnd_below TI B3 (by omega), (kpG_ok _).below B3, HI3, fun W4 hs hsz4 ⟨r4, hr4⟩ => ?_⟩
      have HI4 := Lib.hid (HI3.step (hs.more (own' := []) (fun _ h => by cases h) (fun _ _ h => by cases h) (Nat.le_refl _)))
      have o4 := hs.cells _ _ _ _ o3 (.inl (by simp))
      have x4 := hs.cells _ _ _ _ x3 (.inl (by simp))
      have p0 : W4.cell? ⟨W2.heap.size, 0, none⟩ = some (.int .i64 o.kind) := by simp [World.cell?, o4]
      have p3 : W4.cell? ⟨W2.heap.size, 3, none⟩ = some (.slice va o.attrs.length vc) := by simp [World.cell?, o4]
      have c0 : W4.cell? ⟨W2.heap.size + 1, 0, none⟩ = some (.string (E xc)) := by simp [World.cell?, x4]
      have c1 : W4.cell? ⟨W2.heap.size + 1, 1, none⟩ = some (.slice ua xr.attrs.length uc) := by simp [World.cell?, x4]
      have g0 := HI4.out.laid.cell
      have HX4 := Lib.hid x4
      have sx4 := lt_of_heap x4
      have HSM := Lib.hid (invS_sm ys k (by omega))
      clear hs hsz4 hr4 o4 x4 o3 x3 B3 HI3 hW3
      by_cases k1 : o.kind = 1
      · have t1 : (o.kind == 1) = true := by rw [k1]; rfl
        have HK1 := Lib.hid k1
        obtain ⟨L, C, hrem⟩ := HI4.out.rem
        have HLD := Lib.hid (laid_i w.heap.size bb L C xr.attrs o.attrs (.slice ua xr.attrs.length uc) (.slice va o.attrs.length vc) W4 hrem (by omega) (fun w' hw => (HVK.out w' (HI4.out.below.trans hw)).2) (fun w' hw => (HVK.out w' (HI4.out.below.trans hw)).1) (small_rgt HAK.out.1).sized HAK.out.2.2.sized)
        have hap : applyE xr.attrs o.attrs = 0 := by have := HMK.out.bad; unfold badA at this; rwa [if_pos k1] at this
        obtain ⟨e1, e2, e3, e4⟩ := applyE_zero hap
        obtain ⟨i1, i2⟩ := invertE_mk e1 e2
        have te : (invertE xr.attrs o.attrs != 0) = false := by rw [i1]; rfl
        have HSA := Lib.hid (show SmallA (invertR xr.attrs o.attrs) by rw [i2]; exact small_chg (chgE_zero.2 (chg_invert e1 e2)))
        clear k1 hrem hap e1 e2 e3 e4 i1 i2
        gi_wp2
        refine ⟨trivial, rfl, CallsIn.inRound _ ((callsIn_wide.2 HLD.out).mono ?_)⟩
        rintro e W5 ⟨av, rfl, hrem5, hown5, hk5⟩
        obtain ⟨aa, ac, rfl⟩ := own_slice hown5
        have HI5 := Lib.hid (HI4.out.laid' hrem5 hk5 hB1 (by omega))
        have KP5 := Lib.hid (kpG_keep (bd := n2 + 1) hk5 (by decide) (by decide) (by decide))
        have HK5 := Lib.hid hk5
        have HO5 := Lib.hid hown5
        obtain ⟨dv, hd⟩ := HI5.out.row
        have HAD := Lib.hid (addG_any w.heap.size (n2 + 1) dv (invS ys k) ⟨1, 1, ⟨#[]⟩, invertR xr.attrs o.attrs⟩ (.slice aa (invertR xr.attrs o.attrs).length ac) W5 hd (by omega)
          (HSM.out.fits (by have := HYL.out; omega) (by have := HYL.out; omega) (by have := HYL.out; omega) (by show (0 : Int) ≤ 1; omega) (by show (1 : Int) ≤ _; omega) (by show (0 : Nat) ≤ _; omega) HSA.out) (fun w' hw => row_of_own (hw.own HO5.out (by decide))))
        have HDV := Lib.hid hd
        clear hk5 hrem5 hown5 hd
        gi_wp2
        refine ⟨trivial, rfl, CallsIn.inRound _ ((callsIn_wide.2 HAD.out).mono ?_)⟩
        rintro e W6 ⟨rfl, dv', hd6, hK6⟩
        have hKB := HK5.out.mono hB1
        have HF := Lib.hid (show Rnd w.heap.size Y.heap.size TI W4 W6 ∧ KpG (n2 + 1) W4 W6 ∧ StI w.heap.size w ys (.slice na rs.length nc) rs (n2 + 1) bb n2 (w.heap.size + 1) (k + 1) W6 from
          ⟨((rnd_of_keep hKB).more (by decide) (Nat.le_refl _)).trans ((rnd_of_keep hK6.keep).more (by decide) (Nat.le_refl _)), (kpG_ok _).trans KP5.out (kpG_ops HDV.out hd6 hK6),
            HI5.out.next hky (by rw [HYV.out]; exact (back1 HK1.out).1) hd6 hK6⟩)
        clear hd6 hK6 hKB
        gi_wp2
        exact HF.out
      · have t1 : (o.kind == 1) = false := by rw [beq_eq_false_iff_ne]; exact k1
        by_cases k2 : o.kind = 2
        · have t2 : (o.kind == 2) = true := by rw [k2]; rfl
          have HK2 := Lib.hid k2
          obtain ⟨dv, hd⟩ := HI4.out.row
          have HAD := Lib.hid (addG_any w.heap.size (n2 + 1) dv (invS ys k) ⟨3, 1, ⟨#[]⟩, []⟩ (.slice none 0 0) W4 hd (by omega)
            (HSM.out.fits (by have := HYL.out; omega) (by have := HYL.out; omega) (by have := HYL.out; omega) (by show (0 : Int) ≤ 1; omega) (by show (1 : Int) ≤ _; omega) (by show (0 : Nat) ≤ _; omega) small_nil) (fun w' hw => row_nilC w'))
          have HDV := Lib.hid hd
          clear k1 k2 hd
          gi_wp2
          refine ⟨trivial, rfl, CallsIn.inRound _ ((callsIn_wide.2 HAD.out).mono ?_)⟩
          rintro e W6 ⟨rfl, dv', hd6, hK6⟩
          have HF := Lib.hid (show Rnd w.heap.size Y.heap.size TI W4 W6 ∧ KpG (n2 + 1) W4 W6 ∧ StI w.heap.size w ys (.slice na rs.length nc) rs (n2 + 1) bb n2 (w.heap.size + 1) (k + 1) W6 from
            ⟨(rnd_of_keep hK6.keep).more (by decide) (Nat.le_refl _), kpG_ops HDV.out hd6 hK6,
              HI4.out.next hky (by rw [HYV.out]; exact (back2 HK2.out).1) hd6 hK6⟩)
          clear hd6 hK6
          gi_wp2
          exact HF.out
        · have t2 : (o.kind == 2) = false := by rw [beq_eq_false_iff_ne]; exact k2
          have k3 : o.kind = 3 := by have : o.kind = 1 ∨ o.kind = 2 ∨ o.kind = 3 := HMK.out.kind; omega
          have t3 : (o.kind == 3) = true := by rw [k3]; rfl
          have HKK := Lib.hid (And.intro k1 k2)
          obtain ⟨dv, hd⟩ := HI4.out.row
          have HAD := Lib.hid (addG_any w.heap.size (n2 + 1) dv (invS ys k) ⟨2, 0, E xc, xr.attrs⟩ (.slice ua xr.attrs.length uc) W4 hd (by omega)
            (HSM.out.fits (by have := HYL.out; omega) (by have := HYL.out; omega) (by have := HYL.out; omega) (by show (0 : Int) ≤ 0; omega) (by show (0 : Int) ≤ _; omega) (by have := E_size xc; show (E xc).size ≤ _; omega) (small_rgt HAK.out.1)) (fun w' hw => (HVK.out w' (HI4.out.below.trans hw.below)).2))
          have HDV := Lib.hid hd
          clear k1 k2 k3 hd
          gi_wp2
          refine ⟨trivial, rfl, CallsIn.inRound _ ((callsIn_wide.2 HAD.out).mono ?_)⟩
          rintro e W6 ⟨rfl, dv', hd6, hK6⟩
          have HF := Lib.hid (show Rnd w.heap.size Y.heap.size TI W4 W6 ∧ KpG (n2 + 1) W4 W6 ∧ StI w.heap.size w ys (.slice na rs.length nc) rs (n2 + 1) bb n2 (w.heap.size + 1) (k + 1) W6 from
            ⟨(rnd_of_keep hK6.keep).more (by decide) (Nat.le_refl _), kpG_ops HDV.out hd6 hK6,
              HI4.out.next hky (by rw [HYV.out]; exact (back3 HKK.out.1 HKK.out.2).1) hd6 hK6⟩)
          clear hd6 hK6
          gi_wp2
          exact HF.out
  · have tE : (appE l f ops != 0) = true := by rw [bne_iff_ne]; exact hE
    have HR := Lib.hid (show invE l f ops = appE l f ops by unfold invE; rw [if_pos hE])
    have HNE := Lib.hid hE
    clear hE y0
    have c4 : w1.cell? ⟨w.heap.size + 1, 0, none⟩ = some (.int .i64 0) := (cells2 y1).1
    have c4' : w1.cell? ⟨w.heap.size + 1, 1, none⟩ = some (.slice none 0 0) := (cells2 y1).2.1
    have f4 : w1.frozen? ⟨w.heap.size + 1, 0, none⟩ = false := (cells2 y1).2.2.1
    have f4' : w1.frozen? ⟨w.heap.size + 1, 1, none⟩ = false := (cells2 y1).2.2.2
    have c5 := y2.cell
    have f5 := y2.frozen
    have HY := Lib.hid (And.intro y1 y2)
    clear y1 y2
    gi_wp2
    obtain ⟨q1, q2, q3⟩ := three_set (.int .i64 0) (.slice none 0 0) (.int .i64 (appE l f ops)) HY.out.1 HY.out.2
    exact ⟨_, results_chg2 rfl rfl rfl (cells2 q1).1 (cells2 q1).2.1 q2.cell, invOut_bad HR.out HNE.out (HB1.out.trans (q3.below.mono (by omega)))⟩
end Go.Proofs.YtlfodemmdfaeeaaDoor

/- The law's own awake of layer 6: the document's examples. -/
namespace Go.Proofs.YtlfodemmdfaeeaaDoor
open Go.RowKit Rn Ch
open At hiding put
open Cp (atms)

def e6a : List OpD := [⟨2, 0, xText, []⟩, bareO 3 1]
def e6b : List OpD := [bareO 1 1, ⟨2, 0, yText, []⟩, bareO 3 1]
def e6r : List OpD := [⟨2, 0, ⟨#[120, 121]⟩, []⟩, bareO 3 2]
theorem e6_to : toE 3 e6a = 0 ∧ toN 3 e6a = 3 ∧ toE 3 e6b = 0 ∧ toE 2 [] = 0 := by decide +kernel
theorem e6_norm : norm e6a = e6a ∧ norm e6b = e6b := by decide +kernel
theorem e6_atms : atms e6a = [.ins 120 [], .del] ∧ atms e6b = [.keep [], .ins 121 [], .del] := ⟨by rfl, by rfl⟩
theorem e6_comp : Cp.comp [.ins 120 [], .del] [.keep [], .ins 121 [], .del] = [.ins 120 [], .del, .ins 121 [], .del] := by
  rw [Cp.comp_ik, Cp.comp_del, Cp.comp_nil]; rfl
theorem e6_fit : Cp.fit [.ins 120 [], .del] [.keep [], .ins 121 [], .del] := by
  rw [Cp.fit_ik, Cp.fit_del]
  exact ⟨by decide, Cp.fit_nil _⟩
theorem e6_nrm : Cp.normA [.ins 120 [], .del, .ins 121 [], .del] = e6r := by decide +kernel
theorem e6_cmpN : Cp.cmpN (norm e6a) (norm e6b) = e6r := by
  rw [e6_norm.1, e6_norm.2]
  unfold Cp.cmpN
  rw [e6_atms.1, e6_atms.2, e6_comp, e6_nrm]
theorem e6_ok : cmpE 3 3 e6a e6b = 0 := by
  rw [cmpE_fit (nrmE_mk e6_to.1 e6_to.2.2.1 e6_to.2.1) (by rw [e6_norm.1, e6_norm.2, e6_atms.1, e6_atms.2]; exact e6_fit), e6_cmpN, if_neg (by decide)]
theorem e6_bad : cmpE 3 2 e6a [] = 31 := by
  have h : nrmE 3 2 e6a [] = 31 := by
    unfold nrmE
    rw [if_neg (by rw [e6_to.1]; simp), if_neg (by rw [e6_to.2.2.2]; simp), if_pos (by rw [e6_to.2.1]; decide)]
  unfold cmpE
  rw [h, if_pos (by decide)]
theorem e6a_sized : OSized e6a := okc_sized7 ((toE_iff _ _).1 e6_to.1)
theorem e6b_sized : OSized e6b := okc_sized7 ((toE_iff _ _).1 e6_to.2.2.1)
theorem e6aRow (w : World) : OpRow (w.alloc (.cells #[.int .i64 2, .int .i64 0, .string xText, .slice none 0 0, .int .i64 3, .int .i64 1, .string ⟨#[]⟩, .slice none 0 0] 45)) (.slice (some ⟨w.heap.size, 0, none⟩) 2 2) e6a :=
  opRow_new w [(⟨2, 0, xText, []⟩, nilV), (bareO 3 1, nilV)] (fun p hp => by
    simp only [List.mem_cons, List.not_mem_nil, or_false] at hp
    rcases hp with rfl | rfl <;> exact ⟨rfl, rfl⟩) (by decide)
theorem e6bRow (w : World) : OpRow (w.alloc (.cells #[.int .i64 1, .int .i64 1, .string ⟨#[]⟩, .slice none 0 0, .int .i64 2, .int .i64 0, .string yText, .slice none 0 0, .int .i64 3, .int .i64 1, .string ⟨#[]⟩, .slice none 0 0] 45)) (.slice (some ⟨w.heap.size, 0, none⟩) 3 3) e6b :=
  opRow_new w [(bareO 1 1, nilV), (⟨2, 0, yText, []⟩, nilV), (bareO 3 1, nilV)] (fun p hp => by
    simp only [List.mem_cons, List.not_mem_nil, or_false] at hp
    rcases hp with rfl | rfl | rfl <;> exact ⟨rfl, rfl⟩) (by decide)
set_option maxRecDepth 100000 in
set_option maxHeartbeats 4000000 in
theorem awake6_any (w : World) : Calls Tryd.prog 6 #[] w (OutB w true) := by
  go_enter Tryd.func6, Tryd.ntmps6
  have B0 := Lib.hid (Below.refl w.heap.size w)
  go_wp2_with fail
  refine (lawPut_any ⟨#[120]⟩ _).mono ?_
  rintro e w1 ⟨rfl, b⟩
  have B1 := Lib.hid (B0.out.trans (b.mono B0.out.size))
  clear b
  go_wp2_with fail
  refine (lawCut_any 1 _).mono ?_
  rintro e w2 ⟨rfl, b⟩
  have B2 := Lib.hid (B1.out.trans (b.mono B1.out.size))
  clear b
  go_wp2_with fail
  obtain ⟨W3, hW3, r3, x3, b3⟩ : ∃ W3, W3 = (w2.alloc (.cells #[.int .i64 2, .int .i64 0, .string xText, .slice none 0 0, .int .i64 3, .int .i64 1, .string ⟨#[]⟩, .slice none 0 0] 45)).alloc (.cells #[.int .i64 3, .slice (some ⟨w2.heap.size, 0, none⟩) 2 2] 25) ∧
      OpRow W3 (.slice (some ⟨w2.heap.size, 0, none⟩) 2 2) e6a ∧ W3.heap[w2.heap.size + 1]? = some (.cells #[.int .i64 3, .slice (some ⟨w2.heap.size, 0, none⟩) 2 2] 25 (0, 0)) ∧ Below w2.heap.size w2 W3 :=
    ⟨_, rfl, (e6aRow w2).below (below_box _ _), (box2 _ _ _).2.1, (box2 _ _ _).2.2⟩
  rw [← hW3]
  have B3 := Lib.hid (B2.out.trans (b3.mono B2.out.size))
  have R3 := Lib.hid r3
  have X3 := Lib.hid x3
  clear hW3 r3 x3 b3 B0 B1
  refine (lawKeep_any 1 _).mono ?_
  rintro e w4 ⟨rfl, b⟩
  have B4 := Lib.hid b
  clear b
  go_wp2_with fail
  refine (lawPut_any ⟨#[121]⟩ _).mono ?_
  rintro e w5 ⟨rfl, b⟩
  have B5 := Lib.hid (B4.out.trans (b.mono B4.out.size))
  clear b
  go_wp2_with fail
  refine (lawCut_any 1 _).mono ?_
  rintro e w6 ⟨rfl, b⟩
  have B6 := Lib.hid (B5.out.trans (b.mono B5.out.size))
  obtain ⟨W7, hW7, r7, x7, b7⟩ : ∃ W7, W7 = (w6.alloc (.cells #[.int .i64 1, .int .i64 1, .string ⟨#[]⟩, .slice none 0 0, .int .i64 2, .int .i64 0, .string yText, .slice none 0 0, .int .i64 3, .int .i64 1, .string ⟨#[]⟩, .slice none 0 0] 45)).alloc (.cells #[.int .i64 3, .slice (some ⟨w6.heap.size, 0, none⟩) 3 3] 25) ∧
      OpRow W7 (.slice (some ⟨w6.heap.size, 0, none⟩) 3 3) e6b ∧ W7.heap[w6.heap.size + 1]? = some (.cells #[.int .i64 3, .slice (some ⟨w6.heap.size, 0, none⟩) 3 3] 25 (0, 0)) ∧ Below w6.heap.size w6 W7 :=
    ⟨_, rfl, (e6bRow w6).below (below_box _ _), (box2 _ _ _).2.1, (box2 _ _ _).2.2⟩
  have B7 := Lib.hid (B6.out.trans (b7.mono B6.out.size))
  have R7 := Lib.hid (And.intro (R3.out.below B7.out) r7)
  have y3 := heap_up X3.out B6.out
  have X7 := Lib.hid (And.intro (heap_up X3.out B7.out) x7)
  have c0 := (cells2 y3).1
  have c1 := (cells2 y3).2.1
  have l3 := lt_of_heap y3
  have l4 : w2.heap.size < w6.heap.size := by omega
  have HW7 := Lib.hid hW7
  have HC := Lib.hid (cmpH_ok (f := 3) (g := 3) R7.out.1 e6a_sized R7.out.2 e6b_sized e6_ok)
  have D7 := Lib.hid (B3.out.trans (B7.out.mono B3.out.size))
  clear b b7 r7 x7 y3 hW7 B4 B5 B6
  go_wp2_with fail
  rw [← HW7.out]
  refine HC.out.mono ?_
  rintro e w8 ⟨ra, rc, rfl, r8, b8⟩
  have hR : cmpR 3 3 e6a e6b = e6r := by unfold cmpR; rw [if_pos e6_ok, e6_cmpN]
  rw [hR] at r8 ⊢
  obtain ⟨kb, off, rfl, hkb, _, _, _, g2⟩ := row_at r8 0 (by decide)
  obtain ⟨kb', off', e8, _, _, _, g5, _⟩ := row_at r8 1 (by decide)
  injection e8 with e8
  injection e8 with e8 e9
  subst e8 e9
  have y3 := heap_up X7.out.1 b8
  obtain ⟨c0', c1', l8⟩ := box_at y3
  have D8 := Lib.hid (D7.out.trans (b8.mono D7.out.size))
  have R8 := Lib.hid (R7.out.1.below b8)
  have G8 := Lib.hid (And.intro hkb (And.intro g2 g5))
  clear b8 r8 y3 hR g2 g5 c0 c1 l3 l4
  go_wp2_with fail
  have HB := Lib.hid (fun W (h : Below w8.heap.size w8 W) => cmpH_bad (f := 3) (g := 2) (R8.out.below h) e6a_sized (OpRow.nil W) nil_sized (by rw [e6_bad]; decide))
  rw [e6_bad] at HB
  obtain ⟨W9, hW9, b9⟩ : ∃ W9, W9 = w8.alloc (.cells #[.int .i64 3, .slice (some ⟨kb, off, none⟩) e6r.length rc] 25) ∧ Below w8.heap.size w8 W9 := ⟨_, rfl, below_box _ _⟩
  rw [← hW9]
  refine (HB.out W9 b9).mono ?_
  rintro e w10 ⟨qa, qc, rfl, _, b10⟩
  have x9 := heap_up (hW9 ▸ heap_new w8 _ : W9.heap[w8.heap.size]? = some (.cells #[.int .i64 3, .slice (some ⟨kb, off, none⟩) e6r.length rc] 25 (0, 0))) b10
  obtain ⟨d0, d1, l9⟩ := box_at x9
  have b810 := b9.trans (b10.mono b9.size)
  have g2 : w10.cell? ⟨kb, off + 2, none⟩ = some (.string ⟨#[120, 121]⟩) := (b810.cell (by exact G8.out.1)).trans G8.out.2.1
  have g5 : w10.cell? ⟨kb, off + 5, none⟩ = some (.int .i64 2) := (b810.cell (by exact G8.out.1)).trans G8.out.2.2
  have lk : kb < w10.heap.size := Nat.lt_of_lt_of_le G8.out.1 b810.size
  have D10 := Lib.hid (D8.out.trans (b810.mono D8.out.size))
  clear x9 b9 b10 hW9 b810 c0' c1' l8 hkb
  go_wp2_with fail
  go_ret
  refine ⟨rfl, (D10.out.alloc D10.out.size _)⟩
end Go.Proofs.YtlfodemmdfaeeaaDoor

/- The law ComposeBack, walked. -/
namespace Go.Proofs.YtlfodemmdfaeeaaDoor
open Go.RowKit Rn Ch
open At hiding put

theorem invH {v va : Value} {l : List RunD} {f : Int} {A : List OpD} {w : World} (hv : HasD w v l) (hz : RSized l) (hc : OpRow w va A) (hp : Proper va) (hy : OSized A) (hU : U8s w.heap.size w)
    {F E : Int} {R : List OpD} (hF : (if invE l f A = 0 then lenN (appL l f A) else 0) = F) (hE : invE l f A = E) (hR : (if invE l f A = 0 then invL l A else []) = R) :
    Calls Tryd.prog 7 #[v, chAgg f va] w (ChOwn w F E R) := by
  obtain ⟨ps, h1, h2⟩ := hv
  refine (inverse_any v va ps f A w h2 (by rw [h1]; exact hz) hc hp hy hU).mono fun e w' ⟨x, e1, e2, e3⟩ => ?_
  rw [h1] at e1 e3
  rw [hF, hE] at e1
  rw [hR] at e3
  have hr : OpRow w' x R := OwnOps.row e3
  obtain ⟨a, c, rfl⟩ := hr.shape
  exact ⟨a, c, e1, e3, e2⟩
theorem toH8 {f n : Int} {v : Value} {ops : List OpD} {w : World} (hv : OpRow w v ops) (hz : OSized ops) (he : toE f ops = 0) (hn : toN f ops = n) :
    Calls Tryd.prog 10 #[chAgg f v] w fun e w' => e = .returned (.tuple #[.int .i64 n, .int .i64 0]) ∧ Below w.heap.size w w' := by
  rw [← hn]
  exact toH hv hz he
/-- A changeset, its way back, and both as one. -/
structure BackC (l : List RunD) (f : Int) (R : List OpD) : Prop where
  app : appE l f R = 0
  val : appL l f R = l
  tz : toE f R = 0
  n : toN f R = f
  sized : OSized R
structure Back7 (l : List RunD) (f : Int) (A : List OpD) (F : Int) (R : List OpD) : Prop where
  sized : OSized R
  cases : cmpE f F A R = 0 ∨ cmpE f F A R = 2 ∨ cmpE f F A R = 3
  app : cmpE f F A R = 0 → BackC l f (cmpR f F A R)
theorem back7_of {l : List RunD} {f F : Int} {A R : List OpD} (hF : (if invE l f A = 0 then lenN (appL l f A) else 0) = F) (h : invE l f A = 0) (hR : (if invE l f A = 0 then invL l A else []) = R) : Back7 l f A F R := by
  rw [if_pos h] at hF hR
  subst hF hR
  have h1 : appE l f A = 0 := by
    refine Classical.byContradiction fun hn => ?_
    unfold invE at h
    rw [if_pos hn] at h
    exact hn h
  have h2 : (invL l A).length ≤ 2000 := by
    refine Classical.byContradiction fun hn => ?_
    unfold invE at h
    rw [if_neg (by rw [h1]; simp), if_pos (by omega)] at h
    omega
  have hi := invF_of h1 h2
  have ha := appF_of h1
  obtain ⟨_, t2, _⟩ := fit_iff.1 ha.fit
  refine ⟨okc_sized7 ((toE_iff _ _).1 hi.tob), cmpE_cases (nrmE_mk t2 hi.tob ha.num.symm), fun hc => ?_⟩
  have hg := cmpR_ok hc
  obtain ⟨e1, e2, e3, e4⟩ := back_app h1 h2 hg
  exact ⟨e1, e2, e3, e4, hg.sized⟩

set_option maxRecDepth 100000 in
set_option maxHeartbeats 8000000 in
theorem cback_walk (vd : Value) (l : List RunD) (f : Int) (vc : Value) (A : List OpD) (w : World) (hvd : HasD w vd l) (hzd : RSized l) (hvc : OpRow w vc A) (hpc : Proper vc) (hzc : OSized A) (hU : U8s w.heap.size w) :
    Calls Tryd.prog 3 #[vd, chAgg f vc] w (OutB w true) := by
  obtain ⟨ud, td, rfl⟩ := hvd.shape
  obtain ⟨uc, tc, rfl⟩ := hvc.shape
  obtain ⟨W, hW, kc, bW⟩ : ∃ W, W = (w.alloc (.cells #[.int .i64 f, .slice uc A.length tc] 25)) ∧ W.heap[w.heap.size]? = some (.cells #[.int .i64 f, .slice uc A.length tc] 25 (0, 0)) ∧ Below w.heap.size w W := ⟨_, rfl, heap_new _ _, below_box _ _⟩
  have Rc := Lib.hid (hvc.below bW)
  have Zc := Lib.hid hzc
  have Pc := Lib.hid hpc
  have Hc := Lib.hid kc
  have Jc := Lib.hid (Below.refl W.heap.size W)
  have Rd := Lib.hid (hvd.below bW)
  have Zd := Lib.hid hzd
  have Jd := Lib.hid (Below.refl W.heap.size W)
  have HU0 := Lib.hid (hU.up7 bW)
  have J0 := Lib.hid (Below.refl W.heap.size W)
  have BW := Lib.hid bW
  have HW := Lib.hid hW
  clear hvc hpc hzc kc hvd hzd hU bW hW
  go_enter Tryd.func3, Tryd.ntmps3
  go_wp2_with fail
  rw [← HW.out]
  refine (awake6_any _).mono ?_
  rintro e y1 ⟨rfl, d1⟩
  have Jc := Lib.hid (Jc.out.trans (d1.mono Jc.out.size))
  have Jd := Lib.hid (Jd.out.trans (d1.mono Jd.out.size))
  have J0 := Lib.hid (J0.out.trans (d1.mono J0.out.size))
  obtain ⟨c0c, c1c, clc⟩ := box_at (heap_up Hc.out Jc.out)
  clear d1
  go_wp2_with fail
  obtain ⟨F1, hF1⟩ : ∃ X : Int, (if invE l f A = 0 then lenN (appL l f A) else 0) = X := ⟨_, rfl⟩
  obtain ⟨E1, hE1⟩ : ∃ X : Int, invE l f A = X := ⟨_, rfl⟩
  obtain ⟨R1, hR1⟩ : ∃ X : List OpD, (if invE l f A = 0 then invL l A else []) = X := ⟨_, rfl⟩
  have HLI := Lib.hid (And.intro hF1 (And.intro hE1 (hR1)))
  clear hF1 hE1 hR1
  refine (invH (Rd.out.below Jd.out) Zd.out (Rc.out.below Jc.out) Pc.out Zc.out (HU0.out.up7 J0.out) HLI.out.1 HLI.out.2.1 HLI.out.2.2).mono ?_
  rintro e y2 ⟨a2, n2, rfl, r2, d2⟩
  have Jc := Lib.hid (Jc.out.trans (d2.mono Jc.out.size))
  have Jd := Lib.hid (Jd.out.trans (d2.mono Jd.out.size))
  have J0 := Lib.hid (J0.out.trans (d2.mono J0.out.size))
  clear c0c c1c clc
  obtain ⟨c0c, c1c, clc⟩ := box_at (heap_up Hc.out Jc.out)
  obtain ⟨Xb, hX, x, bX⟩ : ∃ X, X = y2.alloc (.cells #[.int .i64 (F1), .slice a2 (R1).length n2] 25) ∧ X.heap[y2.heap.size]? = some (.cells #[.int .i64 (F1), .slice a2 (R1).length n2] 25 (0, 0)) ∧ Below y2.heap.size y2 X := ⟨_, rfl, heap_new _ _, below_box _ _⟩
  have Eb := Lib.hid hX
  have Hb := Lib.hid x
  have Pb := Lib.hid (proper_ops7 r2)
  have Rb := Lib.hid (show OpRow Xb (.slice a2 (R1).length n2) (R1) from r2.row.below bX)
  have Jc := Lib.hid (Jc.out.trans (bX.mono Jc.out.size))
  have Jd := Lib.hid (Jd.out.trans (bX.mono Jd.out.size))
  have J0 := Lib.hid (J0.out.trans (bX.mono J0.out.size))
  have Jb := Lib.hid (Below.refl Xb.heap.size Xb)
  clear d2 hX x bX r2
  by_cases hE : E1 = 0
  · have HB := back7_of HLI.out.1 (HLI.out.2.1.trans hE) HLI.out.2.2
    subst hE
    have HB := Lib.hid HB
    go_wp2_with fail
    rw [← Eb.out]
    obtain ⟨F2, hF2⟩ : ∃ X : Int, (if cmpE f F1 A R1 = 0 then f else 0) = X := ⟨_, rfl⟩
    obtain ⟨E2, hE2⟩ : ∃ X : Int, cmpE f F1 A R1 = X := ⟨_, rfl⟩
    obtain ⟨R2, hR2⟩ : ∃ X : List OpD, cmpR f F1 A R1 = X := ⟨_, rfl⟩
    have HLC := Lib.hid (And.intro hF2 (And.intro hE2 (hR2)))
    clear hF2 hE2 hR2
    refine (cmpO_eq (Rc.out.below Jc.out) Zc.out (Rb.out.below Jb.out) HB.out.sized HLC.out.1 HLC.out.2.1 HLC.out.2.2).mono ?_
    rintro e y3 ⟨a3, n3, rfl, r3, d3⟩
    have Jc := Lib.hid (Jc.out.trans (d3.mono Jc.out.size))
    have Jb := Lib.hid (Jb.out.trans (d3.mono Jb.out.size))
    have Jd := Lib.hid (Jd.out.trans (d3.mono Jd.out.size))
    have J0 := Lib.hid (J0.out.trans (d3.mono J0.out.size))
    clear c0c c1c clc
    obtain ⟨c0c, c1c, clc⟩ := box_at (heap_up Hc.out Jc.out)
    obtain ⟨c0b, c1b, clb⟩ := box_at (heap_up Hb.out Jb.out)
    obtain ⟨Xp, hX, x, bX⟩ : ∃ X, X = y3.alloc (.cells #[.int .i64 (F2), .slice a3 (R2).length n3] 25) ∧ X.heap[y3.heap.size]? = some (.cells #[.int .i64 (F2), .slice a3 (R2).length n3] 25 (0, 0)) ∧ Below y3.heap.size y3 X := ⟨_, rfl, heap_new _ _, below_box _ _⟩
    have Ep := Lib.hid hX
    have Hp := Lib.hid x
    have Pp := Lib.hid (proper_ops7 r3)
    have Rp := Lib.hid (show OpRow Xp (.slice a3 (R2).length n3) (R2) from r3.row.below bX)
    have Jc := Lib.hid (Jc.out.trans (bX.mono Jc.out.size))
    have Jb := Lib.hid (Jb.out.trans (bX.mono Jb.out.size))
    have Jd := Lib.hid (Jd.out.trans (bX.mono Jd.out.size))
    have J0 := Lib.hid (J0.out.trans (bX.mono J0.out.size))
    have Jp := Lib.hid (Below.refl Xp.heap.size Xp)
    clear d3 hX x bX r3
    have HBC := HB.out.cases
    rw [HLC.out.2.1] at HBC
    by_cases hC : E2 = 0
    · have HX := HB.out.app (HLC.out.2.1.trans hC)
      rw [HLC.out.2.2] at HX
      have hF2 := HLC.out.1
      rw [if_pos (HLC.out.2.1.trans hC)] at hF2
      subst hC
      subst hF2
      have HX := Lib.hid HX
      clear HBC
      go_wp2_with fail
      rw [← Ep.out]
      refine (appH (Rd.out.below Jd.out) Zd.out (Rp.out.below Jp.out) Pp.out HX.out.sized (HU0.out.up7 J0.out) HX.out.app HX.out.val).mono ?_
      rintro e y4 ⟨a4, n4, rfl, r4, d4⟩
      have Jc := Lib.hid (Jc.out.trans (d4.mono Jc.out.size))
      have Jb := Lib.hid (Jb.out.trans (d4.mono Jb.out.size))
      have Jp := Lib.hid (Jp.out.trans (d4.mono Jp.out.size))
      have Jd := Lib.hid (Jd.out.trans (d4.mono Jd.out.size))
      have J0 := Lib.hid (J0.out.trans (d4.mono J0.out.size))
      clear c0c c1c clc c0b c1b clb
      obtain ⟨c0c, c1c, clc⟩ := box_at (heap_up Hc.out Jc.out)
      obtain ⟨c0b, c1b, clb⟩ := box_at (heap_up Hb.out Jb.out)
      obtain ⟨c0p, c1p, clp⟩ := box_at (heap_up Hp.out Jp.out)
      have Rx := Lib.hid r4
      have Jx := Lib.hid (Below.refl y4.heap.size y4)
      clear d4 r4
      go_wp2_with fail
      refine (toH8 (Rp.out.below Jp.out) HX.out.sized HX.out.tz HX.out.n).mono ?_
      rintro e y5 ⟨rfl, d5⟩
      have Jc := Lib.hid (Jc.out.trans (d5.mono Jc.out.size))
      have Jb := Lib.hid (Jb.out.trans (d5.mono Jb.out.size))
      have Jp := Lib.hid (Jp.out.trans (d5.mono Jp.out.size))
      have Jd := Lib.hid (Jd.out.trans (d5.mono Jd.out.size))
      have Jx := Lib.hid (Jx.out.trans (d5.mono Jx.out.size))
      have J0 := Lib.hid (J0.out.trans (d5.mono J0.out.size))
      clear c0c c1c clc c0b c1b clb c0p c1p clp
      obtain ⟨c0c, c1c, clc⟩ := box_at (heap_up Hc.out Jc.out)
      obtain ⟨c0b, c1b, clb⟩ := box_at (heap_up Hb.out Jb.out)
      obtain ⟨c0p, c1p, clp⟩ := box_at (heap_up Hp.out Jp.out)
      clear d5
      go_wp2_with fail
      refine (sameD (Rx.out.below Jx.out) (Rd.out.below Jd.out)).mono ?_
      rintro e y6 ⟨rfl, d6⟩
      have Jc := Lib.hid (Jc.out.trans (d6.mono Jc.out.size))
      have Jb := Lib.hid (Jb.out.trans (d6.mono Jb.out.size))
      have Jp := Lib.hid (Jp.out.trans (d6.mono Jp.out.size))
      have Jd := Lib.hid (Jd.out.trans (d6.mono Jd.out.size))
      have Jx := Lib.hid (Jx.out.trans (d6.mono Jx.out.size))
      have J0 := Lib.hid (J0.out.trans (d6.mono J0.out.size))
      clear c0c c1c clc c0b c1b clb c0p c1p clp
      obtain ⟨c0c, c1c, clc⟩ := box_at (heap_up Hc.out Jc.out)
      obtain ⟨c0b, c1b, clb⟩ := box_at (heap_up Hb.out Jb.out)
      obtain ⟨c0p, c1p, clp⟩ := box_at (heap_up Hp.out Jp.out)
      clear d6
      have BF := BW.out.trans (J0.out.mono BW.out.size)
      have BG := Lib.hid BF
      clear BF
      go_wp2_with fail
      go_ret
      exact ⟨rfl, BG.out⟩
    · have t1 : (E2 != 0) = true := by rw [bne_iff_ne]; assumption
      rcases HBC with h0 | h0 | h0
      · exact absurd h0 hC
      · subst h0
        clear hC t1
        have BF := BW.out.trans (J0.out.mono BW.out.size)
        have BG := Lib.hid BF
        clear BF
        go_wp2_with fail
        go_ret
        exact ⟨rfl, by rw [← Ep.out]; exact BG.out⟩
      · subst h0
        clear hC t1
        have BF := BW.out.trans (J0.out.mono BW.out.size)
        have BG := Lib.hid BF
        clear BF
        go_wp2_with fail
        go_ret
        exact ⟨rfl, by rw [← Ep.out]; exact BG.out⟩
  · have t1 : (E1 != 0) = true := by rw [bne_iff_ne]; assumption
    have BF := BW.out.trans (J0.out.mono BW.out.size)
    have BG := Lib.hid BF
    clear BF
    go_wp2_with fail
    go_ret
    exact ⟨rfl, by rw [← Eb.out]; exact BG.out⟩
theorem cback_walk6 (v : Value) (ps : List RP) (f : Int) (ov : Value) (ops : List OpD) (w : World) (hv : RunRow w v ps) (hz : RSized (ps.map (·.1))) (hc : OpRow w ov ops) (hpr : Proper ov) (hy : OSized ops) (hU : U8s w.heap.size w) :
    Calls Tryd.prog 3 #[v, chAgg f ov] w (OutB w true) := cback_walk v _ f ov ops w ⟨ps, rfl, hv⟩ hz hc hpr hy hU
end Go.Proofs.YtlfodemmdfaeeaaDoor
