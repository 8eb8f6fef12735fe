/- Texts of this seat, put together: Lf. -/
import Derived.Test.YtlgpihboojgpmaaGL2
/- The law ComposeThree, walked. -/
namespace Go.Proofs.Ytlgpihboojgpmaa
open Go.RowKit Rn Ch
open At hiding put
open Cp (atms)

theorem cmpH_eq {f g F E : Int} {va vb : Value} {A C R : List OpD} {w : World} (hv : OpRow w va A) (hz : OSized A) (hu : OpRow w vb C) (hy : OSized C) (hF : (if cmpE f g A C = 0 then f else 0) = F) (hE : cmpE f g A C = E) (hR : cmpR f g A C = R) :
    Calls Try.prog 14 #[chAgg f va, chAgg g vb] w (ChHas w F E R) := by
  rw [← hF, ← hE, ← hR]
  exact cmpH hv hz hu hy
theorem allH_eq {n F E : Int} {v : Value} {L : List (Int × List OpD)} {R : List OpD} {w : World} (hv : ChsRow w v L) (hz : CsSized L) (h : allF n L = (E, F, R)) :
    Calls Try.prog 19 #[.int .i64 n, v] w (ChOwn w F E R) := by
  have := all_any n v L w hv hz
  rwa [h] at this
theorem norm_to7 {f : Int} {A : List OpD} (h : toE f A = 0) : toE f (norm A) = 0 ∧ toN f (norm A) = toN f A ∧ norm (norm A) = norm A := by
  obtain ⟨h1, h2, h3⟩ := norm_ok ((toE_iff _ _).1 h)
  have h4 := (toE_iff _ _).2 h1
  exact ⟨h4, by rw [toN_ok h4, toN_ok h, h2, h3], (ok_lims h).2.2.2.2.2.2.2⟩
theorem cmp_norml {f g : Int} {A C : List OpD} (h : toE f A = 0) : cmpE f g (norm A) C = cmpE f g A C ∧ cmpR f g (norm A) C = cmpR f g A C := by
  obtain ⟨h1, h2, h3⟩ := norm_to7 h
  have hn : nrmE f g (norm A) C = nrmE f g A C := by unfold nrmE; rw [h1, h2, h]
  have he : cmpE f g (norm A) C = cmpE f g A C := by unfold cmpE; rw [hn, h3]
  exact ⟨he, by unfold cmpR; rw [he, h3]⟩
/-- Three, where the first two, and the last two, may be composed. -/
structure ThreeF (f g k : Int) (A B C : List OpD) : Prop where
  all : allF f [(f, A), (g, B), (k, C)] = (cmpE f k (cmpR f g A B) C, if cmpE f k (cmpR f g A B) C = 0 then f else 0, cmpR f k (cmpR f g A B) C)
  l : cmpE f k (cmpR f g A B) C ≠ 31
  r : cmpE f g A (cmpR g k B C) ≠ 31
  same : cmpE f k (cmpR f g A B) C = 0 → cmpE f g A (cmpR g k B C) = 0 → cmpR f k (cmpR f g A B) C = cmpR f g A (cmpR g k B C)
theorem three_f {f g k : Int} {A B C : List OpD} (h1 : cmpE f g A B = 0) (h2 : cmpE g k B C = 0) : ThreeF f g k A B C := by
  have G1 := cmpR_ok h1
  have G2 := cmpR_ok h2
  obtain ⟨c1, c2⟩ := cmp_nothl G1.a
  obtain ⟨d1, d2⟩ := cmp_norml (g := g) (C := B) G1.a
  obtain ⟨a1, a2, _⟩ := ok_lims G1.a
  refine ⟨?_, ?_, ?_, fun e1 e2 => ?_⟩
  · unfold allF
    rw [if_neg (by omega), allR_ok c1]
    show allR [(g, B), (k, C)] f (cmpR f f [] A) = _
    rw [c2, allR_ok (by show cmpE f g (norm A) B = 0; rw [d1, h1])]
    show allR [(k, C)] f (cmpR f g (norm A) B) = _
    rw [d2]
    by_cases h : cmpE f k (cmpR f g A B) C = 0
    · rw [allR_ok h, if_pos h, h]; rfl
    · rw [allR_bad h, if_neg h]
      show _ = (_, _, cmpR f k (cmpR f g A B) C)
      rw [show cmpR f k (cmpR f g A B) C = [] by unfold cmpR; rw [if_neg (by unfold cmpR at h; exact h)]]
  · have := cmpE_cases (nrmE_mk G1.toE G2.c (G1.tn.trans G2.n))
    omega
  · have := cmpE_cases (nrmE_mk G1.a G2.toE G1.n)
    omega
  · have t := Cp.cmpN_three (nrm_zero G1.a G1.c G1.n) (nrm_zero G2.a G2.c G2.n) G1.fit G2.fit
    have x1 : cmpR f k (cmpR f g A B) C = Cp.cmpN (norm (cmpR f g A B)) (norm C) := by
      rw [show cmpR f k (cmpR f g A B) C = if cmpE f k (cmpR f g A B) C = 0 then Cp.cmpN (norm (cmpR f g A B)) (norm C) else [] from rfl, if_pos e1]
    have x2 : cmpR f g A (cmpR g k B C) = Cp.cmpN (norm A) (norm (cmpR g k B C)) := by
      rw [show cmpR f g A (cmpR g k B C) = if cmpE f g A (cmpR g k B C) = 0 then Cp.cmpN (norm A) (norm (cmpR g k B C)) else [] from rfl, if_pos e2]
    rw [x1, x2, G1.once, G2.once, G1.eq, G2.eq]
    exact t
/-- A row of three changesets, made. -/
theorem chsRow_three {w : World} {f g k : Int} {u v x : Value} {A B C : List OpD} (h : OpRow w u A) (h' : OpRow w v B) (h'' : OpRow w x C) : ChsRow (w.alloc (.cells #[.int .i64 f, u, .int .i64 g, v, .int .i64 k, x] 24)) (.slice (some ⟨w.heap.size, 0, none⟩) 3 3) [(f, A), (g, B), (k, C)] := by
  have hb := below_box w (.cells #[.int .i64 f, u, .int .i64 g, v, .int .i64 k, x] 24)
  have hn : (w.alloc (.cells #[.int .i64 f, u, .int .i64 g, v, .int .i64 k, x] 24)).heap[w.heap.size]? = some (.cells #[.int .i64 f, u, .int .i64 g, v, .int .i64 k, x] 24 (0, 0)) := heap_new _ _
  refine ⟨some ⟨w.heap.size, 0, none⟩, 3, rfl, Nat.le_refl _, by decide, fun i hi => ?_⟩
  have hl := lt_of_heap hn
  have hc := fun j => Lib.cell_of_heap hn j
  match i, hi with
  | 0, _ => exact ⟨w.heap.size, 0, u, rfl, hl, hc 0, hc 1, h.below hb⟩
  | 1, _ => exact ⟨w.heap.size, 0, v, rfl, hl, hc 2, hc 3, h'.below hb⟩
  | 2, _ => exact ⟨w.heap.size, 0, x, rfl, hl, hc 4, hc 5, h''.below hb⟩
set_option maxRecDepth 100000 in
set_option maxHeartbeats 8000000 in
theorem cthree_walk (f : Int) (va : Value) (A : List OpD) (g : Int) (vb : Value) (B : List OpD) (k : Int) (vc : Value) (C : List OpD) (w : World) (hva : OpRow w va A) (hza : OSized A) (hvb : OpRow w vb B) (hzb : OSized B) (hvc : OpRow w vc C) (hzc : OSized C) :
    Calls Try.prog 5 #[chAgg f va, chAgg g vb, chAgg k vc] w (OutB w true) := by
  obtain ⟨ua, ta, rfl⟩ := hva.shape
  obtain ⟨ub, tb, rfl⟩ := hvb.shape
  obtain ⟨uc, tc, rfl⟩ := hvc.shape
  obtain ⟨W, hW, ka, kb, kc, bW⟩ : ∃ W, W = (((w.alloc (.cells #[.int .i64 f, .slice ua A.length ta] 24)).alloc (.cells #[.int .i64 g, .slice ub B.length tb] 24)).alloc (.cells #[.int .i64 k, .slice uc C.length tc] 24)) ∧ W.heap[w.heap.size]? = some (.cells #[.int .i64 f, .slice ua A.length ta] 24 (0, 0)) ∧ W.heap[w.heap.size + 1]? = some (.cells #[.int .i64 g, .slice ub B.length tb] 24 (0, 0)) ∧ W.heap[w.heap.size + 1 + 1]? = some (.cells #[.int .i64 k, .slice uc C.length tc] 24 (0, 0)) ∧ Below w.heap.size w W := ⟨_, rfl, (box3 _ _ _ _).1, (box3 _ _ _ _).2.1, (box3 _ _ _ _).2.2.1, (box3 _ _ _ _).2.2.2⟩
  have Ra := Lib.hid (hva.below bW)
  have Za := Lib.hid hza
  have Ha := Lib.hid ka
  have Ja := Lib.hid (Below.refl W.heap.size W)
  have Rb := Lib.hid (hvb.below bW)
  have Zb := Lib.hid hzb
  have Hb := Lib.hid kb
  have Jb := Lib.hid (Below.refl W.heap.size W)
  have Rc := Lib.hid (hvc.below bW)
  have Zc := Lib.hid hzc
  have Hc := Lib.hid kc
  have Jc := Lib.hid (Below.refl W.heap.size W)
  have J0 := Lib.hid (Below.refl W.heap.size W)
  have BW := Lib.hid bW
  have HW := Lib.hid hW
  clear hva hza ka hvb hzb kb hvc hzc kc bW hW
  go_enter Try.func5, Try.ntmps5
  go_wp2_with fail
  rw [← HW.out]
  refine (awake6_any _).mono ?_
  rintro e y1 ⟨rfl, d1⟩
  have Ja := Lib.hid (Ja.out.trans (d1.mono Ja.out.size))
  have Jb := Lib.hid (Jb.out.trans (d1.mono Jb.out.size))
  have Jc := Lib.hid (Jc.out.trans (d1.mono Jc.out.size))
  have J0 := Lib.hid (J0.out.trans (d1.mono J0.out.size))
  obtain ⟨c0a, c1a, cla⟩ := box_at (heap_up Ha.out Ja.out)
  obtain ⟨c0b, c1b, clb⟩ := box_at (heap_up Hb.out Jb.out)
  obtain ⟨c0c, c1c, clc⟩ := box_at (heap_up Hc.out Jc.out)
  clear d1
  go_wp2_with fail
  by_cases hE : cmpE f g A B = 0
  · by_cases hF : cmpE g k B C = 0
    · have HT := Lib.hid (three_f hE hF)
      have HE := Lib.hid hE
      have HF := Lib.hid hF
      have GE := Lib.hid (cmpR_ok hE).sized
      have GF := Lib.hid (cmpR_ok hF).sized
      have ed : cmpR f g A B = cmpR f g A B := rfl
      obtain ⟨D, hD⟩ : ∃ D, D = cmpR f g A B := ⟨_, rfl⟩
      obtain ⟨M, hM⟩ : ∃ M, M = cmpR g k B C := ⟨_, rfl⟩
      rw [← hD] at GE
      rw [← hM] at GF
      have TA := HT.out.all
      have TL := HT.out.l
      have TR := HT.out.r
      have TS := HT.out.same
      rw [← hD] at TA TL TS
      rw [← hM] at TR TS
      have HD := Lib.hid hD
      have HM := Lib.hid hM
      have HTA := Lib.hid TA
      have HTS := Lib.hid TS
      clear hE hF ed hD hM TA TS
      refine (cmpH_okR (Ra.out.below Ja.out) Za.out (Rb.out.below Jb.out) Zb.out HE.out HD.out.symm).mono ?_
      rintro e y2 ⟨a2, n2, rfl, r2, d2⟩
      have Ja := Lib.hid (Ja.out.trans (d2.mono Ja.out.size))
      have Jb := Lib.hid (Jb.out.trans (d2.mono Jb.out.size))
      have Jc := Lib.hid (Jc.out.trans (d2.mono Jc.out.size))
      have J0 := Lib.hid (J0.out.trans (d2.mono J0.out.size))
      clear c0a c1a cla c0b c1b clb c0c c1c clc
      obtain ⟨c0a, c1a, cla⟩ := box_at (heap_up Ha.out Ja.out)
      obtain ⟨c0b, c1b, clb⟩ := box_at (heap_up Hb.out Jb.out)
      obtain ⟨c0c, c1c, clc⟩ := box_at (heap_up Hc.out Jc.out)
      obtain ⟨Xd, hX, x, bX⟩ : ∃ X, X = y2.alloc (.cells #[.int .i64 f, .slice a2 (D).length n2] 24) ∧ X.heap[y2.heap.size]? = some (.cells #[.int .i64 f, .slice a2 (D).length n2] 24 (0, 0)) ∧ Below y2.heap.size y2 X := ⟨_, rfl, heap_new _ _, below_box _ _⟩
      have Ed := Lib.hid hX
      have Hd := Lib.hid x
      have Rd := Lib.hid (show OpRow Xd (.slice a2 (D).length n2) (D) from r2.below bX)
      have Ja := Lib.hid (Ja.out.trans (bX.mono Ja.out.size))
      have Jb := Lib.hid (Jb.out.trans (bX.mono Jb.out.size))
      have Jc := Lib.hid (Jc.out.trans (bX.mono Jc.out.size))
      have J0 := Lib.hid (J0.out.trans (bX.mono J0.out.size))
      have Jd := Lib.hid (Below.refl Xd.heap.size Xd)
      clear d2 hX x bX r2
      go_wp2_with fail
      rw [← Ed.out]
      refine (cmpH_okR (Rb.out.below Jb.out) Zb.out (Rc.out.below Jc.out) Zc.out HF.out HM.out.symm).mono ?_
      rintro e y3 ⟨a3, n3, rfl, r3, d3⟩
      have Ja := Lib.hid (Ja.out.trans (d3.mono Ja.out.size))
      have Jb := Lib.hid (Jb.out.trans (d3.mono Jb.out.size))
      have Jc := Lib.hid (Jc.out.trans (d3.mono Jc.out.size))
      have Jd := Lib.hid (Jd.out.trans (d3.mono Jd.out.size))
      have J0 := Lib.hid (J0.out.trans (d3.mono J0.out.size))
      clear c0a c1a cla c0b c1b clb c0c c1c clc
      obtain ⟨c0a, c1a, cla⟩ := box_at (heap_up Ha.out Ja.out)
      obtain ⟨c0b, c1b, clb⟩ := box_at (heap_up Hb.out Jb.out)
      obtain ⟨c0c, c1c, clc⟩ := box_at (heap_up Hc.out Jc.out)
      obtain ⟨c0d, c1d, cld⟩ := box_at (heap_up Hd.out Jd.out)
      obtain ⟨Xm, hX, x, bX⟩ : ∃ X, X = y3.alloc (.cells #[.int .i64 g, .slice a3 (M).length n3] 24) ∧ X.heap[y3.heap.size]? = some (.cells #[.int .i64 g, .slice a3 (M).length n3] 24 (0, 0)) ∧ Below y3.heap.size y3 X := ⟨_, rfl, heap_new _ _, below_box _ _⟩
      have Em := Lib.hid hX
      have Hm := Lib.hid x
      have Rm := Lib.hid (show OpRow Xm (.slice a3 (M).length n3) (M) from r3.below bX)
      have Ja := Lib.hid (Ja.out.trans (bX.mono Ja.out.size))
      have Jb := Lib.hid (Jb.out.trans (bX.mono Jb.out.size))
      have Jc := Lib.hid (Jc.out.trans (bX.mono Jc.out.size))
      have Jd := Lib.hid (Jd.out.trans (bX.mono Jd.out.size))
      have J0 := Lib.hid (J0.out.trans (bX.mono J0.out.size))
      have Jm := Lib.hid (Below.refl Xm.heap.size Xm)
      clear d3 hX x bX r3
      go_wp2_with fail
      rw [← Em.out]
      by_cases hG : cmpE f k D C = 0
      · by_cases hH : cmpE f g A M = 0
        · have HG := Lib.hid hG
          refine (cmpH_okR (Rd.out.below Jd.out) GE.out (Rc.out.below Jc.out) Zc.out HG.out rfl).mono ?_
          rintro e y4 ⟨a4, n4, rfl, r4, d4⟩
          have Ja := Lib.hid (Ja.out.trans (d4.mono Ja.out.size))
          have Jb := Lib.hid (Jb.out.trans (d4.mono Jb.out.size))
          have Jc := Lib.hid (Jc.out.trans (d4.mono Jc.out.size))
          have Jd := Lib.hid (Jd.out.trans (d4.mono Jd.out.size))
          have Jm := Lib.hid (Jm.out.trans (d4.mono Jm.out.size))
          have J0 := Lib.hid (J0.out.trans (d4.mono J0.out.size))
          clear c0a c1a cla c0b c1b clb c0c c1c clc c0d c1d cld
          obtain ⟨c0a, c1a, cla⟩ := box_at (heap_up Ha.out Ja.out)
          obtain ⟨c0b, c1b, clb⟩ := box_at (heap_up Hb.out Jb.out)
          obtain ⟨c0c, c1c, clc⟩ := box_at (heap_up Hc.out Jc.out)
          obtain ⟨c0d, c1d, cld⟩ := box_at (heap_up Hd.out Jd.out)
          obtain ⟨c0m, c1m, clm⟩ := box_at (heap_up Hm.out Jm.out)
          obtain ⟨Xx, hX, x, bX⟩ : ∃ X, X = y4.alloc (.cells #[.int .i64 f, .slice a4 (cmpR f k D C).length n4] 24) ∧ X.heap[y4.heap.size]? = some (.cells #[.int .i64 f, .slice a4 (cmpR f k D C).length n4] 24 (0, 0)) ∧ Below y4.heap.size y4 X := ⟨_, rfl, heap_new _ _, below_box _ _⟩
          have Ex := Lib.hid hX
          have Hx := Lib.hid x
          have Rx := Lib.hid (show OpRow Xx (.slice a4 (cmpR f k D C).length n4) (cmpR f k D C) from r4.below bX)
          have Ja := Lib.hid (Ja.out.trans (bX.mono Ja.out.size))
          have Jb := Lib.hid (Jb.out.trans (bX.mono Jb.out.size))
          have Jc := Lib.hid (Jc.out.trans (bX.mono Jc.out.size))
          have Jd := Lib.hid (Jd.out.trans (bX.mono Jd.out.size))
          have Jm := Lib.hid (Jm.out.trans (bX.mono Jm.out.size))
          have J0 := Lib.hid (J0.out.trans (bX.mono J0.out.size))
          have Jx := Lib.hid (Below.refl Xx.heap.size Xx)
          clear d4 hX x bX r4
          go_wp2_with fail
          rw [← Ex.out]
          have HH := Lib.hid hH
          refine (cmpH_okR (Ra.out.below Ja.out) Za.out (Rm.out.below Jm.out) GF.out HH.out rfl).mono ?_
          rintro e y5 ⟨a5, n5, rfl, r5, d5⟩
          have Ja := Lib.hid (Ja.out.trans (d5.mono Ja.out.size))
          have Jb := Lib.hid (Jb.out.trans (d5.mono Jb.out.size))
          have Jc := Lib.hid (Jc.out.trans (d5.mono Jc.out.size))
          have Jd := Lib.hid (Jd.out.trans (d5.mono Jd.out.size))
          have Jm := Lib.hid (Jm.out.trans (d5.mono Jm.out.size))
          have Jx := Lib.hid (Jx.out.trans (d5.mono Jx.out.size))
          have J0 := Lib.hid (J0.out.trans (d5.mono J0.out.size))
          clear c0a c1a cla c0b c1b clb c0c c1c clc c0d c1d cld c0m c1m clm
          obtain ⟨c0a, c1a, cla⟩ := box_at (heap_up Ha.out Ja.out)
          obtain ⟨c0b, c1b, clb⟩ := box_at (heap_up Hb.out Jb.out)
          obtain ⟨c0c, c1c, clc⟩ := box_at (heap_up Hc.out Jc.out)
          obtain ⟨c0d, c1d, cld⟩ := box_at (heap_up Hd.out Jd.out)
          obtain ⟨c0m, c1m, clm⟩ := box_at (heap_up Hm.out Jm.out)
          obtain ⟨c0x, c1x, clx⟩ := box_at (heap_up Hx.out Jx.out)
          obtain ⟨Xy, hX, x, bX⟩ : ∃ X, X = y5.alloc (.cells #[.int .i64 f, .slice a5 (cmpR f g A M).length n5] 24) ∧ X.heap[y5.heap.size]? = some (.cells #[.int .i64 f, .slice a5 (cmpR f g A M).length n5] 24 (0, 0)) ∧ Below y5.heap.size y5 X := ⟨_, rfl, heap_new _ _, below_box _ _⟩
          have Ey := Lib.hid hX
          have Hy := Lib.hid x
          have Ry := Lib.hid (show OpRow Xy (.slice a5 (cmpR f g A M).length n5) (cmpR f g A M) from r5.below bX)
          have Ja := Lib.hid (Ja.out.trans (bX.mono Ja.out.size))
          have Jb := Lib.hid (Jb.out.trans (bX.mono Jb.out.size))
          have Jc := Lib.hid (Jc.out.trans (bX.mono Jc.out.size))
          have Jd := Lib.hid (Jd.out.trans (bX.mono Jd.out.size))
          have Jm := Lib.hid (Jm.out.trans (bX.mono Jm.out.size))
          have Jx := Lib.hid (Jx.out.trans (bX.mono Jx.out.size))
          have J0 := Lib.hid (J0.out.trans (bX.mono J0.out.size))
          have Jy := Lib.hid (Below.refl Xy.heap.size Xy)
          clear d5 hX x bX r5
          have eY : Xy.heap.size = y5.heap.size + 1 := by rw [Ey.out]; simp
          obtain ⟨V, hV, v0, bV⟩ : ∃ V, V = Xy.alloc (.cells #[.int .i64 f, .slice ua A.length ta, .int .i64 g, .slice ub B.length tb, .int .i64 k, .slice uc C.length tc] 24) ∧ ChsRow V (.slice (some ⟨y5.heap.size + 1, 0, none⟩) 3 3) [(f, A), (g, B), (k, C)] ∧ Below Xy.heap.size Xy V := ⟨_, rfl, by rw [← eY]; exact chsRow_three (Ra.out.below Ja.out) (Rb.out.below Jb.out) (Rc.out.below Jc.out), below_box _ _⟩
          have hV2 := hV
          rw [Ey.out] at hV2
          have EV := Lib.hid hV2
          have VR := Lib.hid v0
          have Ja := Lib.hid (Ja.out.trans (bV.mono Ja.out.size))
          have Jb := Lib.hid (Jb.out.trans (bV.mono Jb.out.size))
          have Jc := Lib.hid (Jc.out.trans (bV.mono Jc.out.size))
          have Jd := Lib.hid (Jd.out.trans (bV.mono Jd.out.size))
          have Jm := Lib.hid (Jm.out.trans (bV.mono Jm.out.size))
          have Jx := Lib.hid (Jx.out.trans (bV.mono Jx.out.size))
          have Jy := Lib.hid (Jy.out.trans (bV.mono Jy.out.size))
          have J0 := Lib.hid (J0.out.trans (bV.mono J0.out.size))
          have LS := Lib.hid (show CsSized [(f, A), (g, B), (k, C)] from fun c hc => by
            simp only [List.mem_cons, List.not_mem_nil, or_false] at hc
            rcases hc with rfl | rfl | rfl
            · exact Za.out
            · exact Zb.out
            · exact Zc.out)
          clear hV hV2 v0 bV eY
          go_wp2_with fail
          rw [← EV.out]
          have AE := Lib.hid (show allF f [(f, A), (g, B), (k, C)] = (0, f, cmpR f k D C) by rw [HTA.out, if_pos HG.out, HG.out])
          refine (allH_ok VR.out LS.out AE.out).mono ?_
          rintro e y6 ⟨a6, n6, rfl, r6, d6⟩
          have Ja := Lib.hid (Ja.out.trans (d6.mono Ja.out.size))
          have Jb := Lib.hid (Jb.out.trans (d6.mono Jb.out.size))
          have Jc := Lib.hid (Jc.out.trans (d6.mono Jc.out.size))
          have Jd := Lib.hid (Jd.out.trans (d6.mono Jd.out.size))
          have Jm := Lib.hid (Jm.out.trans (d6.mono Jm.out.size))
          have Jx := Lib.hid (Jx.out.trans (d6.mono Jx.out.size))
          have Jy := Lib.hid (Jy.out.trans (d6.mono Jy.out.size))
          have J0 := Lib.hid (J0.out.trans (d6.mono J0.out.size))
          clear c0a c1a cla c0b c1b clb c0c c1c clc c0d c1d cld c0m c1m clm c0x c1x clx
          obtain ⟨c0a, c1a, cla⟩ := box_at (heap_up Ha.out Ja.out)
          obtain ⟨c0b, c1b, clb⟩ := box_at (heap_up Hb.out Jb.out)
          obtain ⟨c0c, c1c, clc⟩ := box_at (heap_up Hc.out Jc.out)
          obtain ⟨c0d, c1d, cld⟩ := box_at (heap_up Hd.out Jd.out)
          obtain ⟨c0m, c1m, clm⟩ := box_at (heap_up Hm.out Jm.out)
          obtain ⟨c0x, c1x, clx⟩ := box_at (heap_up Hx.out Jx.out)
          obtain ⟨c0y, c1y, cly⟩ := box_at (heap_up Hy.out Jy.out)
          obtain ⟨Xz, hX, x, bX⟩ : ∃ X, X = y6.alloc (.cells #[.int .i64 f, .slice a6 (cmpR f k D C).length n6] 24) ∧ X.heap[y6.heap.size]? = some (.cells #[.int .i64 f, .slice a6 (cmpR f k D C).length n6] 24 (0, 0)) ∧ Below y6.heap.size y6 X := ⟨_, rfl, heap_new _ _, below_box _ _⟩
          have Ez := Lib.hid hX
          have Hz := Lib.hid x
          have Rz := Lib.hid (show OpRow Xz (.slice a6 (cmpR f k D C).length n6) (cmpR f k D C) from r6.row.below bX)
          have Ja := Lib.hid (Ja.out.trans (bX.mono Ja.out.size))
          have Jb := Lib.hid (Jb.out.trans (bX.mono Jb.out.size))
          have Jc := Lib.hid (Jc.out.trans (bX.mono Jc.out.size))
          have Jd := Lib.hid (Jd.out.trans (bX.mono Jd.out.size))
          have Jm := Lib.hid (Jm.out.trans (bX.mono Jm.out.size))
          have Jx := Lib.hid (Jx.out.trans (bX.mono Jx.out.size))
          have Jy := Lib.hid (Jy.out.trans (bX.mono Jy.out.size))
          have J0 := Lib.hid (J0.out.trans (bX.mono J0.out.size))
          have Jz := Lib.hid (Below.refl Xz.heap.size Xz)
          clear d6 hX x bX r6
          go_wp2_with fail
          rw [← Ez.out]
          refine (sameH (Rx.out.below Jx.out) (Rz.out.below Jz.out)).mono ?_
          rintro e y7 ⟨rfl, d7⟩
          have Ja := Lib.hid (Ja.out.trans (d7.mono Ja.out.size))
          have Jb := Lib.hid (Jb.out.trans (d7.mono Jb.out.size))
          have Jc := Lib.hid (Jc.out.trans (d7.mono Jc.out.size))
          have Jd := Lib.hid (Jd.out.trans (d7.mono Jd.out.size))
          have Jm := Lib.hid (Jm.out.trans (d7.mono Jm.out.size))
          have Jx := Lib.hid (Jx.out.trans (d7.mono Jx.out.size))
          have Jy := Lib.hid (Jy.out.trans (d7.mono Jy.out.size))
          have Jz := Lib.hid (Jz.out.trans (d7.mono Jz.out.size))
          have J0 := Lib.hid (J0.out.trans (d7.mono J0.out.size))
          clear c0a c1a cla c0b c1b clb c0c c1c clc c0d c1d cld c0m c1m clm c0x c1x clx c0y c1y cly
          obtain ⟨c0a, c1a, cla⟩ := box_at (heap_up Ha.out Ja.out)
          obtain ⟨c0b, c1b, clb⟩ := box_at (heap_up Hb.out Jb.out)
          obtain ⟨c0c, c1c, clc⟩ := box_at (heap_up Hc.out Jc.out)
          obtain ⟨c0d, c1d, cld⟩ := box_at (heap_up Hd.out Jd.out)
          obtain ⟨c0m, c1m, clm⟩ := box_at (heap_up Hm.out Jm.out)
          obtain ⟨c0x, c1x, clx⟩ := box_at (heap_up Hx.out Jx.out)
          obtain ⟨c0y, c1y, cly⟩ := box_at (heap_up Hy.out Jy.out)
          obtain ⟨c0z, c1z, clz⟩ := box_at (heap_up Hz.out Jz.out)
          clear d7
          go_wp2_with fail
          have SE : cmpR f g A M = cmpR f k D C := (HTS.out HG.out HH.out).symm
          have RY := Ry.out
          rw [SE] at RY ⊢
          have RY := Lib.hid RY
          clear SE
          refine (sameH (Rx.out.below Jx.out) (RY.out.below Jy.out)).mono ?_
          rintro e y8 ⟨rfl, d8⟩
          have Ja := Lib.hid (Ja.out.trans (d8.mono Ja.out.size))
          have Jb := Lib.hid (Jb.out.trans (d8.mono Jb.out.size))
          have Jc := Lib.hid (Jc.out.trans (d8.mono Jc.out.size))
          have Jd := Lib.hid (Jd.out.trans (d8.mono Jd.out.size))
          have Jm := Lib.hid (Jm.out.trans (d8.mono Jm.out.size))
          have Jx := Lib.hid (Jx.out.trans (d8.mono Jx.out.size))
          have Jy := Lib.hid (Jy.out.trans (d8.mono Jy.out.size))
          have Jz := Lib.hid (Jz.out.trans (d8.mono Jz.out.size))
          have J0 := Lib.hid (J0.out.trans (d8.mono J0.out.size))
          clear c0a c1a cla c0b c1b clb c0c c1c clc c0d c1d cld c0m c1m clm c0x c1x clx c0y c1y cly c0z c1z clz
          obtain ⟨c0a, c1a, cla⟩ := box_at (heap_up Ha.out Ja.out)
          obtain ⟨c0b, c1b, clb⟩ := box_at (heap_up Hb.out Jb.out)
          obtain ⟨c0c, c1c, clc⟩ := box_at (heap_up Hc.out Jc.out)
          obtain ⟨c0d, c1d, cld⟩ := box_at (heap_up Hd.out Jd.out)
          obtain ⟨c0m, c1m, clm⟩ := box_at (heap_up Hm.out Jm.out)
          obtain ⟨c0x, c1x, clx⟩ := box_at (heap_up Hx.out Jx.out)
          obtain ⟨c0y, c1y, cly⟩ := box_at (heap_up Hy.out Jy.out)
          obtain ⟨c0z, c1z, clz⟩ := box_at (heap_up Hz.out Jz.out)
          clear d8
          have BF := BW.out.trans (J0.out.mono BW.out.size)
          have BG := Lib.hid BF
          clear BF
          go_wp2_with fail
          go_ret
          exact ⟨rfl, BG.out⟩
        · have HG := Lib.hid hG
          refine (cmpH_okR (Rd.out.below Jd.out) GE.out (Rc.out.below Jc.out) Zc.out HG.out rfl).mono ?_
          rintro e y4 ⟨a4, n4, rfl, r4, d4⟩
          have Ja := Lib.hid (Ja.out.trans (d4.mono Ja.out.size))
          have Jb := Lib.hid (Jb.out.trans (d4.mono Jb.out.size))
          have Jc := Lib.hid (Jc.out.trans (d4.mono Jc.out.size))
          have Jd := Lib.hid (Jd.out.trans (d4.mono Jd.out.size))
          have Jm := Lib.hid (Jm.out.trans (d4.mono Jm.out.size))
          have J0 := Lib.hid (J0.out.trans (d4.mono J0.out.size))
          clear c0a c1a cla c0b c1b clb c0c c1c clc c0d c1d cld
          obtain ⟨c0a, c1a, cla⟩ := box_at (heap_up Ha.out Ja.out)
          obtain ⟨c0b, c1b, clb⟩ := box_at (heap_up Hb.out Jb.out)
          obtain ⟨c0c, c1c, clc⟩ := box_at (heap_up Hc.out Jc.out)
          obtain ⟨c0d, c1d, cld⟩ := box_at (heap_up Hd.out Jd.out)
          obtain ⟨c0m, c1m, clm⟩ := box_at (heap_up Hm.out Jm.out)
          obtain ⟨Xx, hX, x, bX⟩ : ∃ X, X = y4.alloc (.cells #[.int .i64 f, .slice a4 (cmpR f k D C).length n4] 24) ∧ X.heap[y4.heap.size]? = some (.cells #[.int .i64 f, .slice a4 (cmpR f k D C).length n4] 24 (0, 0)) ∧ Below y4.heap.size y4 X := ⟨_, rfl, heap_new _ _, below_box _ _⟩
          have Ex := Lib.hid hX
          have Hx := Lib.hid x
          have Rx := Lib.hid (show OpRow Xx (.slice a4 (cmpR f k D C).length n4) (cmpR f k D C) from r4.below bX)
          have Ja := Lib.hid (Ja.out.trans (bX.mono Ja.out.size))
          have Jb := Lib.hid (Jb.out.trans (bX.mono Jb.out.size))
          have Jc := Lib.hid (Jc.out.trans (bX.mono Jc.out.size))
          have Jd := Lib.hid (Jd.out.trans (bX.mono Jd.out.size))
          have Jm := Lib.hid (Jm.out.trans (bX.mono Jm.out.size))
          have J0 := Lib.hid (J0.out.trans (bX.mono J0.out.size))
          have Jx := Lib.hid (Below.refl Xx.heap.size Xx)
          clear d4 hX x bX r4
          go_wp2_with fail
          rw [← Ex.out]
          have HH := Lib.hid hH
          refine (cmpH_badE (Ra.out.below Ja.out) Za.out (Rm.out.below Jm.out) GF.out HH.out rfl).mono ?_
          rintro e y5 ⟨a5, n5, rfl, r5, d5⟩
          have Ja := Lib.hid (Ja.out.trans (d5.mono Ja.out.size))
          have Jb := Lib.hid (Jb.out.trans (d5.mono Jb.out.size))
          have Jc := Lib.hid (Jc.out.trans (d5.mono Jc.out.size))
          have Jd := Lib.hid (Jd.out.trans (d5.mono Jd.out.size))
          have Jm := Lib.hid (Jm.out.trans (d5.mono Jm.out.size))
          have Jx := Lib.hid (Jx.out.trans (d5.mono Jx.out.size))
          have J0 := Lib.hid (J0.out.trans (d5.mono J0.out.size))
          clear c0a c1a cla c0b c1b clb c0c c1c clc c0d c1d cld c0m c1m clm
          obtain ⟨c0a, c1a, cla⟩ := box_at (heap_up Ha.out Ja.out)
          obtain ⟨c0b, c1b, clb⟩ := box_at (heap_up Hb.out Jb.out)
          obtain ⟨c0c, c1c, clc⟩ := box_at (heap_up Hc.out Jc.out)
          obtain ⟨c0d, c1d, cld⟩ := box_at (heap_up Hd.out Jd.out)
          obtain ⟨c0m, c1m, clm⟩ := box_at (heap_up Hm.out Jm.out)
          obtain ⟨c0x, c1x, clx⟩ := box_at (heap_up Hx.out Jx.out)
          obtain ⟨Xy, hX, x, bX⟩ : ∃ X, X = y5.alloc (.cells #[.int .i64 0, .slice a5 0 n5] 24) ∧ X.heap[y5.heap.size]? = some (.cells #[.int .i64 0, .slice a5 0 n5] 24 (0, 0)) ∧ Below y5.heap.size y5 X := ⟨_, rfl, heap_new _ _, below_box _ _⟩
          have Ey := Lib.hid hX
          have Hy := Lib.hid x
          have Ry := Lib.hid (show OpRow Xy (.slice a5 0 n5) (([] : List OpD)) from r5.below bX)
          have Ja := Lib.hid (Ja.out.trans (bX.mono Ja.out.size))
          have Jb := Lib.hid (Jb.out.trans (bX.mono Jb.out.size))
          have Jc := Lib.hid (Jc.out.trans (bX.mono Jc.out.size))
          have Jd := Lib.hid (Jd.out.trans (bX.mono Jd.out.size))
          have Jm := Lib.hid (Jm.out.trans (bX.mono Jm.out.size))
          have Jx := Lib.hid (Jx.out.trans (bX.mono Jx.out.size))
          have J0 := Lib.hid (J0.out.trans (bX.mono J0.out.size))
          have Jy := Lib.hid (Below.refl Xy.heap.size Xy)
          clear d5 hX x bX r5
          have eY : Xy.heap.size = y5.heap.size + 1 := by rw [Ey.out]; simp
          obtain ⟨V, hV, v0, bV⟩ : ∃ V, V = Xy.alloc (.cells #[.int .i64 f, .slice ua A.length ta, .int .i64 g, .slice ub B.length tb, .int .i64 k, .slice uc C.length tc] 24) ∧ ChsRow V (.slice (some ⟨y5.heap.size + 1, 0, none⟩) 3 3) [(f, A), (g, B), (k, C)] ∧ Below Xy.heap.size Xy V := ⟨_, rfl, by rw [← eY]; exact chsRow_three (Ra.out.below Ja.out) (Rb.out.below Jb.out) (Rc.out.below Jc.out), below_box _ _⟩
          have hV2 := hV
          rw [Ey.out] at hV2
          have EV := Lib.hid hV2
          have VR := Lib.hid v0
          have Ja := Lib.hid (Ja.out.trans (bV.mono Ja.out.size))
          have Jb := Lib.hid (Jb.out.trans (bV.mono Jb.out.size))
          have Jc := Lib.hid (Jc.out.trans (bV.mono Jc.out.size))
          have Jd := Lib.hid (Jd.out.trans (bV.mono Jd.out.size))
          have Jm := Lib.hid (Jm.out.trans (bV.mono Jm.out.size))
          have Jx := Lib.hid (Jx.out.trans (bV.mono Jx.out.size))
          have Jy := Lib.hid (Jy.out.trans (bV.mono Jy.out.size))
          have J0 := Lib.hid (J0.out.trans (bV.mono J0.out.size))
          have LS := Lib.hid (show CsSized [(f, A), (g, B), (k, C)] from fun c hc => by
            simp only [List.mem_cons, List.not_mem_nil, or_false] at hc
            rcases hc with rfl | rfl | rfl
            · exact Za.out
            · exact Zb.out
            · exact Zc.out)
          clear hV hV2 v0 bV eY
          go_wp2_with fail
          rw [← EV.out]
          have AE := Lib.hid (show allF f [(f, A), (g, B), (k, C)] = (0, f, cmpR f k D C) by rw [HTA.out, if_pos HG.out, HG.out])
          refine (allH_ok VR.out LS.out AE.out).mono ?_
          rintro e y6 ⟨a6, n6, rfl, r6, d6⟩
          have Ja := Lib.hid (Ja.out.trans (d6.mono Ja.out.size))
          have Jb := Lib.hid (Jb.out.trans (d6.mono Jb.out.size))
          have Jc := Lib.hid (Jc.out.trans (d6.mono Jc.out.size))
          have Jd := Lib.hid (Jd.out.trans (d6.mono Jd.out.size))
          have Jm := Lib.hid (Jm.out.trans (d6.mono Jm.out.size))
          have Jx := Lib.hid (Jx.out.trans (d6.mono Jx.out.size))
          have Jy := Lib.hid (Jy.out.trans (d6.mono Jy.out.size))
          have J0 := Lib.hid (J0.out.trans (d6.mono J0.out.size))
          clear c0a c1a cla c0b c1b clb c0c c1c clc c0d c1d cld c0m c1m clm c0x c1x clx
          obtain ⟨c0a, c1a, cla⟩ := box_at (heap_up Ha.out Ja.out)
          obtain ⟨c0b, c1b, clb⟩ := box_at (heap_up Hb.out Jb.out)
          obtain ⟨c0c, c1c, clc⟩ := box_at (heap_up Hc.out Jc.out)
          obtain ⟨c0d, c1d, cld⟩ := box_at (heap_up Hd.out Jd.out)
          obtain ⟨c0m, c1m, clm⟩ := box_at (heap_up Hm.out Jm.out)
          obtain ⟨c0x, c1x, clx⟩ := box_at (heap_up Hx.out Jx.out)
          obtain ⟨c0y, c1y, cly⟩ := box_at (heap_up Hy.out Jy.out)
          obtain ⟨Xz, hX, x, bX⟩ : ∃ X, X = y6.alloc (.cells #[.int .i64 f, .slice a6 (cmpR f k D C).length n6] 24) ∧ X.heap[y6.heap.size]? = some (.cells #[.int .i64 f, .slice a6 (cmpR f k D C).length n6] 24 (0, 0)) ∧ Below y6.heap.size y6 X := ⟨_, rfl, heap_new _ _, below_box _ _⟩
          have Ez := Lib.hid hX
          have Hz := Lib.hid x
          have Rz := Lib.hid (show OpRow Xz (.slice a6 (cmpR f k D C).length n6) (cmpR f k D C) from r6.row.below bX)
          have Ja := Lib.hid (Ja.out.trans (bX.mono Ja.out.size))
          have Jb := Lib.hid (Jb.out.trans (bX.mono Jb.out.size))
          have Jc := Lib.hid (Jc.out.trans (bX.mono Jc.out.size))
          have Jd := Lib.hid (Jd.out.trans (bX.mono Jd.out.size))
          have Jm := Lib.hid (Jm.out.trans (bX.mono Jm.out.size))
          have Jx := Lib.hid (Jx.out.trans (bX.mono Jx.out.size))
          have Jy := Lib.hid (Jy.out.trans (bX.mono Jy.out.size))
          have J0 := Lib.hid (J0.out.trans (bX.mono J0.out.size))
          have Jz := Lib.hid (Below.refl Xz.heap.size Xz)
          clear d6 hX x bX r6
          go_wp2_with fail
          rw [← Ez.out]
          refine (sameH (Rx.out.below Jx.out) (Rz.out.below Jz.out)).mono ?_
          rintro e y7 ⟨rfl, d7⟩
          have Ja := Lib.hid (Ja.out.trans (d7.mono Ja.out.size))
          have Jb := Lib.hid (Jb.out.trans (d7.mono Jb.out.size))
          have Jc := Lib.hid (Jc.out.trans (d7.mono Jc.out.size))
          have Jd := Lib.hid (Jd.out.trans (d7.mono Jd.out.size))
          have Jm := Lib.hid (Jm.out.trans (d7.mono Jm.out.size))
          have Jx := Lib.hid (Jx.out.trans (d7.mono Jx.out.size))
          have Jy := Lib.hid (Jy.out.trans (d7.mono Jy.out.size))
          have Jz := Lib.hid (Jz.out.trans (d7.mono Jz.out.size))
          have J0 := Lib.hid (J0.out.trans (d7.mono J0.out.size))
          clear c0a c1a cla c0b c1b clb c0c c1c clc c0d c1d cld c0m c1m clm c0x c1x clx c0y c1y cly
          obtain ⟨c0a, c1a, cla⟩ := box_at (heap_up Ha.out Ja.out)
          obtain ⟨c0b, c1b, clb⟩ := box_at (heap_up Hb.out Jb.out)
          obtain ⟨c0c, c1c, clc⟩ := box_at (heap_up Hc.out Jc.out)
          obtain ⟨c0d, c1d, cld⟩ := box_at (heap_up Hd.out Jd.out)
          obtain ⟨c0m, c1m, clm⟩ := box_at (heap_up Hm.out Jm.out)
          obtain ⟨c0x, c1x, clx⟩ := box_at (heap_up Hx.out Jx.out)
          obtain ⟨c0y, c1y, cly⟩ := box_at (heap_up Hy.out Jy.out)
          obtain ⟨c0z, c1z, clz⟩ := box_at (heap_up Hz.out Jz.out)
          clear d7
          have t1 : (cmpE f g A M != 0) = true := by rw [bne_iff_ne]; exact HH.out
          have t2 : (cmpE f g A M != 31) = true := by rw [bne_iff_ne]; exact TR
          generalize cmpE f g A M = H at *
          have BF := BW.out.trans (J0.out.mono BW.out.size)
          have BG := Lib.hid BF
          clear BF
          go_wp2_with fail
          go_ret
          exact ⟨rfl, BG.out⟩
      · have HG := Lib.hid hG
        refine (cmpH_badE (Rd.out.below Jd.out) GE.out (Rc.out.below Jc.out) Zc.out HG.out rfl).mono ?_
        rintro e y4 ⟨a4, n4, rfl, r4, d4⟩
        have Ja := Lib.hid (Ja.out.trans (d4.mono Ja.out.size))
        have Jb := Lib.hid (Jb.out.trans (d4.mono Jb.out.size))
        have Jc := Lib.hid (Jc.out.trans (d4.mono Jc.out.size))
        have Jd := Lib.hid (Jd.out.trans (d4.mono Jd.out.size))
        have Jm := Lib.hid (Jm.out.trans (d4.mono Jm.out.size))
        have J0 := Lib.hid (J0.out.trans (d4.mono J0.out.size))
        clear c0a c1a cla c0b c1b clb c0c c1c clc c0d c1d cld
        obtain ⟨c0a, c1a, cla⟩ := box_at (heap_up Ha.out Ja.out)
        obtain ⟨c0b, c1b, clb⟩ := box_at (heap_up Hb.out Jb.out)
        obtain ⟨c0c, c1c, clc⟩ := box_at (heap_up Hc.out Jc.out)
        obtain ⟨c0d, c1d, cld⟩ := box_at (heap_up Hd.out Jd.out)
        obtain ⟨c0m, c1m, clm⟩ := box_at (heap_up Hm.out Jm.out)
        obtain ⟨Xx, hX, x, bX⟩ : ∃ X, X = y4.alloc (.cells #[.int .i64 0, .slice a4 0 n4] 24) ∧ X.heap[y4.heap.size]? = some (.cells #[.int .i64 0, .slice a4 0 n4] 24 (0, 0)) ∧ Below y4.heap.size y4 X := ⟨_, rfl, heap_new _ _, below_box _ _⟩
        have Ex := Lib.hid hX
        have Hx := Lib.hid x
        have Rx := Lib.hid (show OpRow Xx (.slice a4 0 n4) (([] : List OpD)) from r4.below bX)
        have Ja := Lib.hid (Ja.out.trans (bX.mono Ja.out.size))
        have Jb := Lib.hid (Jb.out.trans (bX.mono Jb.out.size))
        have Jc := Lib.hid (Jc.out.trans (bX.mono Jc.out.size))
        have Jd := Lib.hid (Jd.out.trans (bX.mono Jd.out.size))
        have Jm := Lib.hid (Jm.out.trans (bX.mono Jm.out.size))
        have J0 := Lib.hid (J0.out.trans (bX.mono J0.out.size))
        have Jx := Lib.hid (Below.refl Xx.heap.size Xx)
        clear d4 hX x bX r4
        go_wp2_with fail
        rw [← Ex.out]
        obtain ⟨FH, hFH⟩ : ∃ F, (if cmpE f g A M = 0 then f else 0) = F := ⟨_, rfl⟩
        obtain ⟨RH, hRH⟩ : ∃ R, cmpR f g A M = R := ⟨_, rfl⟩
        refine (cmpH_eq (Ra.out.below Ja.out) Za.out (Rm.out.below Jm.out) GF.out hFH rfl hRH).mono ?_
        rintro e y5 ⟨a5, n5, rfl, r5, d5⟩
        have Ja := Lib.hid (Ja.out.trans (d5.mono Ja.out.size))
        have Jb := Lib.hid (Jb.out.trans (d5.mono Jb.out.size))
        have Jc := Lib.hid (Jc.out.trans (d5.mono Jc.out.size))
        have Jd := Lib.hid (Jd.out.trans (d5.mono Jd.out.size))
        have Jm := Lib.hid (Jm.out.trans (d5.mono Jm.out.size))
        have Jx := Lib.hid (Jx.out.trans (d5.mono Jx.out.size))
        have J0 := Lib.hid (J0.out.trans (d5.mono J0.out.size))
        clear c0a c1a cla c0b c1b clb c0c c1c clc c0d c1d cld c0m c1m clm
        obtain ⟨c0a, c1a, cla⟩ := box_at (heap_up Ha.out Ja.out)
        obtain ⟨c0b, c1b, clb⟩ := box_at (heap_up Hb.out Jb.out)
        obtain ⟨c0c, c1c, clc⟩ := box_at (heap_up Hc.out Jc.out)
        obtain ⟨c0d, c1d, cld⟩ := box_at (heap_up Hd.out Jd.out)
        obtain ⟨c0m, c1m, clm⟩ := box_at (heap_up Hm.out Jm.out)
        obtain ⟨c0x, c1x, clx⟩ := box_at (heap_up Hx.out Jx.out)
        obtain ⟨Xy, hX, x, bX⟩ : ∃ X, X = y5.alloc (.cells #[.int .i64 FH, .slice a5 (RH).length n5] 24) ∧ X.heap[y5.heap.size]? = some (.cells #[.int .i64 FH, .slice a5 (RH).length n5] 24 (0, 0)) ∧ Below y5.heap.size y5 X := ⟨_, rfl, heap_new _ _, below_box _ _⟩
        have Ey := Lib.hid hX
        have Hy := Lib.hid x
        have Ry := Lib.hid (show OpRow Xy (.slice a5 (RH).length n5) (RH) from r5.below bX)
        have Ja := Lib.hid (Ja.out.trans (bX.mono Ja.out.size))
        have Jb := Lib.hid (Jb.out.trans (bX.mono Jb.out.size))
        have Jc := Lib.hid (Jc.out.trans (bX.mono Jc.out.size))
        have Jd := Lib.hid (Jd.out.trans (bX.mono Jd.out.size))
        have Jm := Lib.hid (Jm.out.trans (bX.mono Jm.out.size))
        have Jx := Lib.hid (Jx.out.trans (bX.mono Jx.out.size))
        have J0 := Lib.hid (J0.out.trans (bX.mono J0.out.size))
        have Jy := Lib.hid (Below.refl Xy.heap.size Xy)
        clear d5 hX x bX r5
        have eY : Xy.heap.size = y5.heap.size + 1 := by rw [Ey.out]; simp
        obtain ⟨V, hV, v0, bV⟩ : ∃ V, V = Xy.alloc (.cells #[.int .i64 f, .slice ua A.length ta, .int .i64 g, .slice ub B.length tb, .int .i64 k, .slice uc C.length tc] 24) ∧ ChsRow V (.slice (some ⟨y5.heap.size + 1, 0, none⟩) 3 3) [(f, A), (g, B), (k, C)] ∧ Below Xy.heap.size Xy V := ⟨_, rfl, by rw [← eY]; exact chsRow_three (Ra.out.below Ja.out) (Rb.out.below Jb.out) (Rc.out.below Jc.out), below_box _ _⟩
        have hV2 := hV
        rw [Ey.out] at hV2
        have EV := Lib.hid hV2
        have VR := Lib.hid v0
        have Ja := Lib.hid (Ja.out.trans (bV.mono Ja.out.size))
        have Jb := Lib.hid (Jb.out.trans (bV.mono Jb.out.size))
        have Jc := Lib.hid (Jc.out.trans (bV.mono Jc.out.size))
        have Jd := Lib.hid (Jd.out.trans (bV.mono Jd.out.size))
        have Jm := Lib.hid (Jm.out.trans (bV.mono Jm.out.size))
        have Jx := Lib.hid (Jx.out.trans (bV.mono Jx.out.size))
        have Jy := Lib.hid (Jy.out.trans (bV.mono Jy.out.size))
        have J0 := Lib.hid (J0.out.trans (bV.mono J0.out.size))
        have LS := Lib.hid (show CsSized [(f, A), (g, B), (k, C)] from fun c hc => by
          simp only [List.mem_cons, List.not_mem_nil, or_false] at hc
          rcases hc with rfl | rfl | rfl
          · exact Za.out
          · exact Zb.out
          · exact Zc.out)
        clear hV hV2 v0 bV eY
        go_wp2_with fail
        rw [← EV.out]
        have AE := Lib.hid (show allF f [(f, A), (g, B), (k, C)] = (cmpE f k D C, 0, []) by rw [HTA.out, if_neg HG.out, show cmpR f k D C = [] by unfold cmpR; rw [if_neg HG.out]])
        refine (allH_eq VR.out LS.out AE.out).mono ?_
        rintro e y6 ⟨a6, n6, rfl, r6, d6⟩
        have Ja := Lib.hid (Ja.out.trans (d6.mono Ja.out.size))
        have Jb := Lib.hid (Jb.out.trans (d6.mono Jb.out.size))
        have Jc := Lib.hid (Jc.out.trans (d6.mono Jc.out.size))
        have Jd := Lib.hid (Jd.out.trans (d6.mono Jd.out.size))
        have Jm := Lib.hid (Jm.out.trans (d6.mono Jm.out.size))
        have Jx := Lib.hid (Jx.out.trans (d6.mono Jx.out.size))
        have Jy := Lib.hid (Jy.out.trans (d6.mono Jy.out.size))
        have J0 := Lib.hid (J0.out.trans (d6.mono J0.out.size))
        clear c0a c1a cla c0b c1b clb c0c c1c clc c0d c1d cld c0m c1m clm c0x c1x clx
        obtain ⟨c0a, c1a, cla⟩ := box_at (heap_up Ha.out Ja.out)
        obtain ⟨c0b, c1b, clb⟩ := box_at (heap_up Hb.out Jb.out)
        obtain ⟨c0c, c1c, clc⟩ := box_at (heap_up Hc.out Jc.out)
        obtain ⟨c0d, c1d, cld⟩ := box_at (heap_up Hd.out Jd.out)
        obtain ⟨c0m, c1m, clm⟩ := box_at (heap_up Hm.out Jm.out)
        obtain ⟨c0x, c1x, clx⟩ := box_at (heap_up Hx.out Jx.out)
        obtain ⟨c0y, c1y, cly⟩ := box_at (heap_up Hy.out Jy.out)
        obtain ⟨Xz, hX, x, bX⟩ : ∃ X, X = y6.alloc (.cells #[.int .i64 0, .slice a6 0 n6] 24) ∧ X.heap[y6.heap.size]? = some (.cells #[.int .i64 0, .slice a6 0 n6] 24 (0, 0)) ∧ Below y6.heap.size y6 X := ⟨_, rfl, heap_new _ _, below_box _ _⟩
        have Ez := Lib.hid hX
        have Hz := Lib.hid x
        have Rz := Lib.hid (show OpRow Xz (.slice a6 0 n6) (([] : List OpD)) from r6.row.below bX)
        have Ja := Lib.hid (Ja.out.trans (bX.mono Ja.out.size))
        have Jb := Lib.hid (Jb.out.trans (bX.mono Jb.out.size))
        have Jc := Lib.hid (Jc.out.trans (bX.mono Jc.out.size))
        have Jd := Lib.hid (Jd.out.trans (bX.mono Jd.out.size))
        have Jm := Lib.hid (Jm.out.trans (bX.mono Jm.out.size))
        have Jx := Lib.hid (Jx.out.trans (bX.mono Jx.out.size))
        have Jy := Lib.hid (Jy.out.trans (bX.mono Jy.out.size))
        have J0 := Lib.hid (J0.out.trans (bX.mono J0.out.size))
        have Jz := Lib.hid (Below.refl Xz.heap.size Xz)
        clear d6 hX x bX r6
        have t0 : (cmpE f k D C != cmpE f k D C) = false := by simp
        have t1 : (cmpE f k D C != 0) = true := by rw [bne_iff_ne]; exact HG.out
        have t3 : (cmpE f k D C == 0) = false := by rw [beq_eq_false_iff_ne]; exact HG.out
        have t4 : (cmpE f k D C != 31) = true := by rw [bne_iff_ne]; exact TL
        have t2 : (cmpE f g A M != 31) = true := by rw [bne_iff_ne]; exact TR
        generalize cmpE f k D C = G at *
        generalize cmpE f g A M = H at *
        have BF := BW.out.trans (J0.out.mono BW.out.size)
        have BG := Lib.hid BF
        clear BF
        go_wp2_with fail
        go_ret
        exact ⟨rfl, by rw [← Ez.out]; exact BG.out⟩
    · have HE := Lib.hid hE
      have HF := Lib.hid hF
      have te : (cmpE g k B C != 0) = true := by rw [bne_iff_ne]; exact hF
      clear hE hF
      refine (cmpH_ok (Ra.out.below Ja.out) Za.out (Rb.out.below Jb.out) Zb.out HE.out).mono ?_
      rintro e y2 ⟨a2, n2, rfl, r2, d2⟩
      have Ja := Lib.hid (Ja.out.trans (d2.mono Ja.out.size))
      have Jb := Lib.hid (Jb.out.trans (d2.mono Jb.out.size))
      have Jc := Lib.hid (Jc.out.trans (d2.mono Jc.out.size))
      have J0 := Lib.hid (J0.out.trans (d2.mono J0.out.size))
      clear c0a c1a cla c0b c1b clb c0c c1c clc
      obtain ⟨c0a, c1a, cla⟩ := box_at (heap_up Ha.out Ja.out)
      obtain ⟨c0b, c1b, clb⟩ := box_at (heap_up Hb.out Jb.out)
      obtain ⟨c0c, c1c, clc⟩ := box_at (heap_up Hc.out Jc.out)
      obtain ⟨Xd, hX, x, bX⟩ : ∃ X, X = y2.alloc (.cells #[.int .i64 f, .slice a2 (cmpR f g A B).length n2] 24) ∧ X.heap[y2.heap.size]? = some (.cells #[.int .i64 f, .slice a2 (cmpR f g A B).length n2] 24 (0, 0)) ∧ Below y2.heap.size y2 X := ⟨_, rfl, heap_new _ _, below_box _ _⟩
      have Ed := Lib.hid hX
      have Hd := Lib.hid x
      have Rd := Lib.hid (show OpRow Xd (.slice a2 (cmpR f g A B).length n2) (cmpR f g A B) from r2.below bX)
      have Ja := Lib.hid (Ja.out.trans (bX.mono Ja.out.size))
      have Jb := Lib.hid (Jb.out.trans (bX.mono Jb.out.size))
      have Jc := Lib.hid (Jc.out.trans (bX.mono Jc.out.size))
      have J0 := Lib.hid (J0.out.trans (bX.mono J0.out.size))
      have Jd := Lib.hid (Below.refl Xd.heap.size Xd)
      clear d2 hX x bX r2
      go_wp2_with fail
      rw [← Ed.out]
      refine (cmpH_bad (Rb.out.below Jb.out) Zb.out (Rc.out.below Jc.out) Zc.out HF.out).mono ?_
      rintro e y3 ⟨a3, n3, rfl, r3, d3⟩
      have Ja := Lib.hid (Ja.out.trans (d3.mono Ja.out.size))
      have Jb := Lib.hid (Jb.out.trans (d3.mono Jb.out.size))
      have Jc := Lib.hid (Jc.out.trans (d3.mono Jc.out.size))
      have Jd := Lib.hid (Jd.out.trans (d3.mono Jd.out.size))
      have J0 := Lib.hid (J0.out.trans (d3.mono J0.out.size))
      clear c0a c1a cla c0b c1b clb c0c c1c clc
      obtain ⟨c0a, c1a, cla⟩ := box_at (heap_up Ha.out Ja.out)
      obtain ⟨c0b, c1b, clb⟩ := box_at (heap_up Hb.out Jb.out)
      obtain ⟨c0c, c1c, clc⟩ := box_at (heap_up Hc.out Jc.out)
      obtain ⟨c0d, c1d, cld⟩ := box_at (heap_up Hd.out Jd.out)
      clear d3 r3
      generalize cmpE g k B C = E at *
      have BF := BW.out.trans (J0.out.mono BW.out.size)
      have BG := Lib.hid BF
      clear BF
      go_wp2_with fail
      go_ret
      exact ⟨rfl, BG.out.alloc BG.out.size _⟩
  · have HE := Lib.hid hE
    have te : (cmpE f g A B != 0) = true := by rw [bne_iff_ne]; exact hE
    obtain ⟨FH, hFH⟩ : ∃ F, (if cmpE g k B C = 0 then g else 0) = F := ⟨_, rfl⟩
    obtain ⟨RH, hRH⟩ : ∃ R, cmpR g k B C = R := ⟨_, rfl⟩
    obtain ⟨EH, hEH⟩ : ∃ E, cmpE g k B C = E := ⟨_, rfl⟩
    have HHH := Lib.hid (And.intro hFH (And.intro hEH hRH))
    clear hE hFH hEH hRH
    refine (cmpH_bad (Ra.out.below Ja.out) Za.out (Rb.out.below Jb.out) Zb.out HE.out).mono ?_
    rintro e y2 ⟨a2, n2, rfl, r2, d2⟩
    have Ja := Lib.hid (Ja.out.trans (d2.mono Ja.out.size))
    have Jb := Lib.hid (Jb.out.trans (d2.mono Jb.out.size))
    have Jc := Lib.hid (Jc.out.trans (d2.mono Jc.out.size))
    have J0 := Lib.hid (J0.out.trans (d2.mono J0.out.size))
    clear c0a c1a cla c0b c1b clb c0c c1c clc
    obtain ⟨c0a, c1a, cla⟩ := box_at (heap_up Ha.out Ja.out)
    obtain ⟨c0b, c1b, clb⟩ := box_at (heap_up Hb.out Jb.out)
    obtain ⟨c0c, c1c, clc⟩ := box_at (heap_up Hc.out Jc.out)
    obtain ⟨Xd, hX, x, bX⟩ : ∃ X, X = y2.alloc (.cells #[.int .i64 0, .slice a2 0 n2] 24) ∧ X.heap[y2.heap.size]? = some (.cells #[.int .i64 0, .slice a2 0 n2] 24 (0, 0)) ∧ Below y2.heap.size y2 X := ⟨_, rfl, heap_new _ _, below_box _ _⟩
    have Ed := Lib.hid hX
    have Hd := Lib.hid x
    have Rd := Lib.hid (show OpRow Xd (.slice a2 0 n2) (([] : List OpD)) from r2.below bX)
    have Ja := Lib.hid (Ja.out.trans (bX.mono Ja.out.size))
    have Jb := Lib.hid (Jb.out.trans (bX.mono Jb.out.size))
    have Jc := Lib.hid (Jc.out.trans (bX.mono Jc.out.size))
    have J0 := Lib.hid (J0.out.trans (bX.mono J0.out.size))
    have Jd := Lib.hid (Below.refl Xd.heap.size Xd)
    clear d2 hX x bX r2
    generalize cmpE f g A B = E at *
    go_wp2_with fail
    rw [← Ed.out]
    refine (cmpH_eq (Rb.out.below Jb.out) Zb.out (Rc.out.below Jc.out) Zc.out HHH.out.1 HHH.out.2.1 HHH.out.2.2).mono ?_
    rintro e y3 ⟨a3, n3, rfl, r3, d3⟩
    have Ja := Lib.hid (Ja.out.trans (d3.mono Ja.out.size))
    have Jb := Lib.hid (Jb.out.trans (d3.mono Jb.out.size))
    have Jc := Lib.hid (Jc.out.trans (d3.mono Jc.out.size))
    have Jd := Lib.hid (Jd.out.trans (d3.mono Jd.out.size))
    have J0 := Lib.hid (J0.out.trans (d3.mono J0.out.size))
    clear c0a c1a cla c0b c1b clb c0c c1c clc
    obtain ⟨c0a, c1a, cla⟩ := box_at (heap_up Ha.out Ja.out)
    obtain ⟨c0b, c1b, clb⟩ := box_at (heap_up Hb.out Jb.out)
    obtain ⟨c0c, c1c, clc⟩ := box_at (heap_up Hc.out Jc.out)
    obtain ⟨c0d, c1d, cld⟩ := box_at (heap_up Hd.out Jd.out)
    clear d3 r3
    have BF := BW.out.trans (J0.out.mono BW.out.size)
    have BG := Lib.hid BF
    clear BF
    go_wp2_with fail
    go_ret
    exact ⟨rfl, BG.out.alloc BG.out.size _⟩
end Go.Proofs.Ytlgpihboojgpmaa
