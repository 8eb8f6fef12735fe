/- Texts of this seat, put together: Lc. -/
import Derived.Test.YtlgpihboojgpmaaGM7
/- The law ComposeLong, walked. -/
namespace Go.Proofs.Ytlgpihboojgpmaa
open Go.RowKit Rn Ch
open At hiding put
open Cp (atms)

set_option maxRecDepth 100000 in
set_option maxHeartbeats 4000000 in
theorem clong_walk (f : Int) (va : Value) (A : List OpD) (g : Int) (vb : Value) (C : List OpD) (w : World) (hv : OpRow w va A) (hz : OSized A) (hu : OpRow w vb C) (hy : OSized C) :
    Calls Try.prog 6 #[chAgg f va, chAgg g vb] w (OutB w true) := by
  obtain ⟨aa, ac, rfl⟩ := hv.shape
  obtain ⟨ca, cc, rfl⟩ := hu.shape
  obtain ⟨W, hW, k0, k1, bW⟩ : ∃ W, W = (w.alloc (.cells #[.int .i64 f, .slice aa A.length ac] 24)).alloc (.cells #[.int .i64 g, .slice ca C.length cc] 24) ∧ W.heap[w.heap.size]? = some (.cells #[.int .i64 f, .slice aa A.length ac] 24 (0, 0)) ∧
      W.heap[w.heap.size + 1]? = some (.cells #[.int .i64 g, .slice ca C.length cc] 24 (0, 0)) ∧ Below w.heap.size w W := ⟨_, rfl, (box2 _ _ _).1, (box2 _ _ _).2.1, (box2 _ _ _).2.2⟩
  have HV := Lib.hid (And.intro (hv.below bW) (hu.below bW))
  have HZ := Lib.hid (And.intro hz hy)
  have HK := Lib.hid (And.intro k0 k1)
  have BW := Lib.hid bW
  have HW := Lib.hid hW
  clear hv hu hz hy k0 k1 bW hW
  go_enter Try.func6, Try.ntmps6
  go_wp2_with fail
  rw [← HW.out]
  refine (awake6_any _).mono ?_
  rintro e w1 ⟨rfl, b⟩
  have B1 := Lib.hid b
  obtain ⟨p0, p1, pl⟩ := box_at (heap_up HK.out.1 b)
  obtain ⟨q0, q1, ql⟩ := box_at (heap_up HK.out.2 b)
  clear b
  go_wp2_with fail
  by_cases hE : cmpE f g A C = 0
  · have HG := Lib.hid (cmpR_ok hE)
    refine (cmpH_ok (HV.out.1.below B1.out) HZ.out.1 (HV.out.2.below B1.out) HZ.out.2 hE).mono ?_
    rintro e w2 ⟨ra, rc, rfl, r2, b2⟩
    have B2 := Lib.hid (B1.out.trans (b2.mono B1.out.size))
    obtain ⟨p0', p1', pl'⟩ := box_at (heap_up HK.out.1 B2.out)
    obtain ⟨q0', q1', ql'⟩ := box_at (heap_up HK.out.2 B2.out)
    obtain ⟨X, hX, x0, bX⟩ : ∃ X, X = w2.alloc (.cells #[.int .i64 f, .slice ra (cmpR f g A C).length rc] 24) ∧ X.heap[w2.heap.size]? = some (.cells #[.int .i64 f, .slice ra (cmpR f g A C).length rc] 24 (0, 0)) ∧ Below w2.heap.size w2 X := ⟨_, rfl, heap_new _ _, below_box _ _⟩
    have HX := Lib.hid hX
    have HX0 := Lib.hid x0
    have BX := Lib.hid (B2.out.trans (bX.mono B2.out.size))
    have HR := Lib.hid (r2.below bX)
    clear b2 r2 hX x0 bX p0 p1 pl q0 q1 ql hE
    go_wp2_with fail
    rw [← HX.out]
    refine (toH (HV.out.2.below BX.out) HZ.out.2 HG.out.c).mono ?_
    rintro e w3 ⟨rfl, b3⟩
    have B3 := Lib.hid (BX.out.trans (b3.mono BX.out.size))
    have HR3 := Lib.hid (HR.out.below b3)
    obtain ⟨x0, x1, xl⟩ := box_at (heap_up HX0.out b3)
    have HX3 := Lib.hid (heap_up HX0.out b3)
    clear b3 p0' p1' pl' q0' q1' ql'
    go_wp2_with fail
    refine (toH HR3.out HG.out.sized HG.out.toE).mono ?_
    rintro e w4 ⟨rfl, b4⟩
    have B4 := Lib.hid (B3.out.trans (b4.mono B3.out.size))
    have HR4 := Lib.hid (HR3.out.below b4)
    obtain ⟨x0', x1', xl'⟩ := box_at (heap_up HX3.out b4)
    obtain ⟨p0, p1, pl⟩ := box_at (heap_up HK.out.1 B4.out)
    rw [HG.out.tn]
    clear b4 x0 x1 xl
    go_wp2_with fail
    have HI := is_any f _ _ w4 HR4.out HG.out.sized
    rw [HG.out.is] at HI
    refine HI.mono ?_
    rintro e w5 ⟨rfl, b5⟩
    have B5 := Lib.hid ((BW.out.trans (B4.out.mono BW.out.size)).trans (b5.mono (Nat.le_trans BW.out.size B4.out.size)))
    clear b5
    go_wp2_with fail
    go_ret
    exact ⟨rfl, B5.out⟩
  · refine (cmpH_bad (HV.out.1.below B1.out) HZ.out.1 (HV.out.2.below B1.out) HZ.out.2 hE).mono ?_
    rintro e w2 ⟨ra, rc, rfl, _, b2⟩
    have te : (cmpE f g A C != 0) = true := by rw [bne_iff_ne]; exact hE
    have B2 := Lib.hid ((BW.out.trans (B1.out.mono BW.out.size)).trans (b2.mono (Nat.le_trans BW.out.size B1.out.size)))
    generalize cmpE f g A C = E at te
    clear b2 hE
    go_wp2_with fail
    go_ret
    exact ⟨rfl, B2.out.alloc B2.out.size _⟩
end Go.Proofs.Ytlgpihboojgpmaa
