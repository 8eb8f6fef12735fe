/- Texts of this seat, put together: Hi. -/
import Derived.Test.YtlfodemmdfaeeaaGreatDoorGH1
import Derived.Test.YtlfodemmdfaeeaaGreatDoorGM7
import Derived.Test.YtlfodemmdfaeeaaGreatDoorGR4
/- The law ComposeDoes, walked. -/
namespace Go.Proofs.YtlfodemmdfaeeaaGreatDoor
open Go.RowKit Rn Ch
open At hiding put

theorem refIsH {f : Int} {v : Value} {ops : List OpD} {w : World} (hv : OpRow w v ops) (hz : OSized ops) (ht : TSmall ops) (h : isB f ops = true) : Calls Tryz.prog 7 #[chAgg f v] w (OutB w true) := by
 have := refIs_any f v ops w hv hz ht
 rwa [h] at this
/-- One for two, carried out. -/
structure DoesC (l : List RunD) (f : Int) (R : List OpD) (L : List RunD) : Prop where
 app : appE l f R = 0
 val : appL l f R = L
 sized : OSized R
 is : isB f R = true
 ts : TSmall R
structure Does7 (l L1 : List RunD) (f g : Int) (A C : List OpD) : Prop where
 zs : RSized L1
 cases : appE L1 g C = 0 → cmpE f g A C = 0 ∨ cmpE f g A C = 2 ∨ cmpE f g A C = 3
 app : appE L1 g C = 0 → cmpE f g A C = 0 → DoesC l f (cmpR f g A C) (appL L1 g C)
theorem does7_of {l L1 : List RunD} {f g : Int} {A C : List OpD} (h1 : appE l f A = 0) (k1 : appL l f A = L1) : Does7 l L1 f g A C := by
 subst k1
 have ha := appF_of h1
 refine ⟨rsized7 h1, fun h2 => ?_, fun h2 hc => ?_⟩
 ·obtain ⟨_, t2, _⟩ := fit_iff.1 ha.fit
  obtain ⟨_, s2, s3⟩ := fit_iff.1 (appF_of h2).fit
  exact cmpE_cases (nrmE_mk t2 s2 (by rw [s3]; exact ha.num.symm))
 ·have hg := cmpR_ok hc
  obtain ⟨e1, e2⟩ := comp_app h1 h2 hg
  exact ⟨e1, e2, hg.sized, hg.is, fun o ho => by have := (vop_of hg.ok ho).text; omega⟩

set_option maxRecDepth 100000 in
set_option maxHeartbeats 8000000 in
theorem cdoes_walk (vd : Value) (l : List RunD) (f : Int) (va : Value) (A : List OpD) (g : Int) (vb : Value) (C : List OpD) (w : World) (hvd : HasD w vd l) (hzd : RSized l) (hva : OpRow w va A) (hpa : Proper va) (hza : OSized A) (hvb : OpRow w vb C) (hpb : Proper vb) (hzb : OSized C) (hU : U8s w.heap.size w) :
 Calls Tryz.prog 3 #[vd, chAgg f va, chAgg g vb] w (OutB w true) := by
 obtain ⟨ud, td, rfl⟩ := hvd.shape
 obtain ⟨ua, ta, rfl⟩ := hva.shape
 obtain ⟨ub, tb, rfl⟩ := hvb.shape
 obtain ⟨W, hW, ka, kb, bW⟩ : ∃ W, W = ((w.alloc (.cells #[.int .i64 f, .slice ua A.length ta] 25)).alloc (.cells #[.int .i64 g, .slice ub C.length tb] 25)) ∧ W.heap[w.heap.size]? = some (.cells #[.int .i64 f, .slice ua A.length ta] 25 (0, 0)) ∧ W.heap[w.heap.size + 1]? = some (.cells #[.int .i64 g, .slice ub C.length tb] 25 (0, 0)) ∧ Below w.heap.size w W := ⟨_, rfl, (box2 _ _ _).1, (box2 _ _ _).2.1, (box2 _ _ _).2.2⟩
 have Ra := Lib.hid (hva.below bW)
 have Za := Lib.hid hza
 have Pa := Lib.hid hpa
 have Ha := Lib.hid ka
 have Ja := Lib.hid (Below.refl W.heap.size W)
 have Rb := Lib.hid (hvb.below bW)
 have Zb := Lib.hid hzb
 have Pb := Lib.hid hpb
 have Hb := Lib.hid kb
 have Jb := Lib.hid (Below.refl W.heap.size W)
 have Rd := Lib.hid (hvd.below bW)
 have Zd := Lib.hid hzd
 have Jd := Lib.hid (Below.refl W.heap.size W)
 have HU0 := Lib.hid (hU.up7 bW)
 have J0 := Lib.hid (Below.refl W.heap.size W)
 have BW := Lib.hid bW
 have HW := Lib.hid hW
 clear hva hpa hza ka hvb hpb hzb kb hvd hzd hU bW hW
 go_enter Tryz.func3, Tryz.ntmps3
 go_wp2_with fail
 rw [← HW.out]
 refine (awake6_any _).mono ?_
 rintro e y1 ⟨rfl, d1⟩
 have Ja := Lib.hid (Ja.out.trans (d1.mono Ja.out.size))
 have Jb := Lib.hid (Jb.out.trans (d1.mono Jb.out.size))
 have Jd := Lib.hid (Jd.out.trans (d1.mono Jd.out.size))
 have J0 := Lib.hid (J0.out.trans (d1.mono J0.out.size))
 obtain ⟨c0a, c1a, cla⟩ := box_at (heap_up Ha.out Ja.out)
 obtain ⟨c0b, c1b, clb⟩ := box_at (heap_up Hb.out Jb.out)
 clear d1
 go_wp2_with fail
 obtain ⟨E1, hE1⟩ : ∃ X : Int, appE l f A = X := ⟨_, rfl⟩
 obtain ⟨L1, hL1⟩ : ∃ X : List RunD, appL l f A = X := ⟨_, rfl⟩
 have HLU := Lib.hid (And.intro hE1 (hL1))
 clear hE1 hL1
 refine (appH (Rd.out.below Jd.out) Zd.out (Ra.out.below Ja.out) Pa.out Za.out (HU0.out.up7 J0.out) HLU.out.1 HLU.out.2).mono ?_
 rintro e y2 ⟨a2, n2, rfl, r2, d2⟩
 have Ja := Lib.hid (Ja.out.trans (d2.mono Ja.out.size))
 have Jb := Lib.hid (Jb.out.trans (d2.mono Jb.out.size))
 have Jd := Lib.hid (Jd.out.trans (d2.mono Jd.out.size))
 have J0 := Lib.hid (J0.out.trans (d2.mono J0.out.size))
 clear c0a c1a cla c0b c1b clb
 obtain ⟨c0a, c1a, cla⟩ := box_at (heap_up Ha.out Ja.out)
 obtain ⟨c0b, c1b, clb⟩ := box_at (heap_up Hb.out Jb.out)
 have Rx := Lib.hid r2
 have Jx := Lib.hid (Below.refl y2.heap.size y2)
 clear d2 r2
 by_cases e1 : E1 = 0
 ·have HD := Lib.hid (does7_of (g := g) (C := C) (HLU.out.1.trans e1) HLU.out.2)
  subst e1
  go_wp2_with fail
  obtain ⟨E2, hE2⟩ : ∃ X : Int, appE L1 g C = X := ⟨_, rfl⟩
  obtain ⟨L2, hL2⟩ : ∃ X : List RunD, appL L1 g C = X := ⟨_, rfl⟩
  have HLV := Lib.hid (And.intro hE2 (hL2))
  clear hE2 hL2
  obtain ⟨F3, hF3⟩ : ∃ X : Int, (if cmpE f g A C = 0 then f else 0) = X := ⟨_, rfl⟩
  obtain ⟨E3, hE3⟩ : ∃ X : Int, cmpE f g A C = X := ⟨_, rfl⟩
  obtain ⟨R3, hR3⟩ : ∃ X : List OpD, cmpR f g A C = X := ⟨_, rfl⟩
  have HLC := Lib.hid (And.intro hF3 (And.intro hE3 (hR3)))
  clear hF3 hE3 hR3
  refine (appH (Rx.out.below Jx.out) HD.out.zs (Rb.out.below Jb.out) Pb.out Zb.out (HU0.out.up7 J0.out) HLV.out.1 HLV.out.2).mono ?_
  rintro e y3 ⟨a3, n3, rfl, r3, d3⟩
  have Ja := Lib.hid (Ja.out.trans (d3.mono Ja.out.size))
  have Jb := Lib.hid (Jb.out.trans (d3.mono Jb.out.size))
  have Jd := Lib.hid (Jd.out.trans (d3.mono Jd.out.size))
  have Jx := Lib.hid (Jx.out.trans (d3.mono Jx.out.size))
  have J0 := Lib.hid (J0.out.trans (d3.mono J0.out.size))
  clear c0a c1a cla c0b c1b clb
  obtain ⟨c0a, c1a, cla⟩ := box_at (heap_up Ha.out Ja.out)
  obtain ⟨c0b, c1b, clb⟩ := box_at (heap_up Hb.out Jb.out)
  have Ry := Lib.hid r3
  have Jy := Lib.hid (Below.refl y3.heap.size y3)
  clear d3 r3
  go_wp2_with fail
  refine (cmpO_eq (Ra.out.below Ja.out) Za.out (Rb.out.below Jb.out) Zb.out HLC.out.1 HLC.out.2.1 HLC.out.2.2).mono ?_
  rintro e y4 ⟨a4, n4, rfl, r4, d4⟩
  have Ja := Lib.hid (Ja.out.trans (d4.mono Ja.out.size))
  have Jb := Lib.hid (Jb.out.trans (d4.mono Jb.out.size))
  have Jd := Lib.hid (Jd.out.trans (d4.mono Jd.out.size))
  have Jx := Lib.hid (Jx.out.trans (d4.mono Jx.out.size))
  have Jy := Lib.hid (Jy.out.trans (d4.mono Jy.out.size))
  have J0 := Lib.hid (J0.out.trans (d4.mono J0.out.size))
  clear c0a c1a cla c0b c1b clb
  obtain ⟨c0a, c1a, cla⟩ := box_at (heap_up Ha.out Ja.out)
  obtain ⟨c0b, c1b, clb⟩ := box_at (heap_up Hb.out Jb.out)
  obtain ⟨Xc, hX, x, bX⟩ : ∃ X, X = y4.alloc (.cells #[.int .i64 (F3), .slice a4 (R3).length n4] 25) ∧ X.heap[y4.heap.size]? = some (.cells #[.int .i64 (F3), .slice a4 (R3).length n4] 25 (0, 0)) ∧ Below y4.heap.size y4 X := ⟨_, rfl, heap_new _ _, below_box _ _⟩
  have Ec := Lib.hid hX
  have Hc := Lib.hid x
  have Pc := Lib.hid (proper_ops7 r4)
  have Rc := Lib.hid (show OpRow Xc (.slice a4 (R3).length n4) (R3) from r4.row.below bX)
  have Ja := Lib.hid (Ja.out.trans (bX.mono Ja.out.size))
  have Jb := Lib.hid (Jb.out.trans (bX.mono Jb.out.size))
  have Jd := Lib.hid (Jd.out.trans (bX.mono Jd.out.size))
  have Jx := Lib.hid (Jx.out.trans (bX.mono Jx.out.size))
  have Jy := Lib.hid (Jy.out.trans (bX.mono Jy.out.size))
  have J0 := Lib.hid (J0.out.trans (bX.mono J0.out.size))
  have Jc := Lib.hid (Below.refl Xc.heap.size Xc)
  clear d4 hX x bX r4
  by_cases e2 : E2 = 0
  ·have HC1 := HD.out.cases (HLV.out.1.trans e2)
   rw [HLC.out.2.1] at HC1
   by_cases e3 : E3 = 0
   ·have HX := HD.out.app (HLV.out.1.trans e2) (HLC.out.2.1.trans e3)
    rw [HLC.out.2.2, HLV.out.2] at HX
    have hF := HLC.out.1
    rw [if_pos (HLC.out.2.1.trans e3)] at hF
    subst e2
    subst e3
    subst hF
    have HX := Lib.hid HX
    clear HC1
    go_wp2_with fail
    rw [← Ec.out]
    refine (appH (Rd.out.below Jd.out) Zd.out (Rc.out.below Jc.out) Pc.out HX.out.sized (HU0.out.up7 J0.out) HX.out.app HX.out.val).mono ?_
    rintro e y5 ⟨a5, n5, rfl, r5, d5⟩
    have Ja := Lib.hid (Ja.out.trans (d5.mono Ja.out.size))
    have Jb := Lib.hid (Jb.out.trans (d5.mono Jb.out.size))
    have Jc := Lib.hid (Jc.out.trans (d5.mono Jc.out.size))
    have Jd := Lib.hid (Jd.out.trans (d5.mono Jd.out.size))
    have Jx := Lib.hid (Jx.out.trans (d5.mono Jx.out.size))
    have Jy := Lib.hid (Jy.out.trans (d5.mono Jy.out.size))
    have J0 := Lib.hid (J0.out.trans (d5.mono J0.out.size))
    clear c0a c1a cla c0b c1b clb
    obtain ⟨c0a, c1a, cla⟩ := box_at (heap_up Ha.out Ja.out)
    obtain ⟨c0b, c1b, clb⟩ := box_at (heap_up Hb.out Jb.out)
    obtain ⟨c0c, c1c, clc⟩ := box_at (heap_up Hc.out Jc.out)
    have Rz := Lib.hid r5
    have Jz := Lib.hid (Below.refl y5.heap.size y5)
    clear d5 r5
    go_wp2_with fail
    refine (refIsH (Rc.out.below Jc.out) HX.out.sized HX.out.ts HX.out.is).mono ?_
    rintro e y6 ⟨rfl, d6⟩
    have Ja := Lib.hid (Ja.out.trans (d6.mono Ja.out.size))
    have Jb := Lib.hid (Jb.out.trans (d6.mono Jb.out.size))
    have Jc := Lib.hid (Jc.out.trans (d6.mono Jc.out.size))
    have Jd := Lib.hid (Jd.out.trans (d6.mono Jd.out.size))
    have Jx := Lib.hid (Jx.out.trans (d6.mono Jx.out.size))
    have Jy := Lib.hid (Jy.out.trans (d6.mono Jy.out.size))
    have Jz := Lib.hid (Jz.out.trans (d6.mono Jz.out.size))
    have J0 := Lib.hid (J0.out.trans (d6.mono J0.out.size))
    clear c0a c1a cla c0b c1b clb c0c c1c clc
    obtain ⟨c0a, c1a, cla⟩ := box_at (heap_up Ha.out Ja.out)
    obtain ⟨c0b, c1b, clb⟩ := box_at (heap_up Hb.out Jb.out)
    obtain ⟨c0c, c1c, clc⟩ := box_at (heap_up Hc.out Jc.out)
    clear d6
    go_wp2_with fail
    refine (sameD (Ry.out.below Jy.out) (Rz.out.below Jz.out)).mono ?_
    rintro e y7 ⟨rfl, d7⟩
    have Ja := Lib.hid (Ja.out.trans (d7.mono Ja.out.size))
    have Jb := Lib.hid (Jb.out.trans (d7.mono Jb.out.size))
    have Jc := Lib.hid (Jc.out.trans (d7.mono Jc.out.size))
    have Jd := Lib.hid (Jd.out.trans (d7.mono Jd.out.size))
    have Jx := Lib.hid (Jx.out.trans (d7.mono Jx.out.size))
    have Jy := Lib.hid (Jy.out.trans (d7.mono Jy.out.size))
    have Jz := Lib.hid (Jz.out.trans (d7.mono Jz.out.size))
    have J0 := Lib.hid (J0.out.trans (d7.mono J0.out.size))
    clear c0a c1a cla c0b c1b clb c0c c1c clc
    obtain ⟨c0a, c1a, cla⟩ := box_at (heap_up Ha.out Ja.out)
    obtain ⟨c0b, c1b, clb⟩ := box_at (heap_up Hb.out Jb.out)
    obtain ⟨c0c, c1c, clc⟩ := box_at (heap_up Hc.out Jc.out)
    clear d7
    have BF := BW.out.trans (J0.out.mono BW.out.size)
    have BG := Lib.hid BF
    clear BF
    go_wp2_with fail
    go_ret
    exact ⟨rfl, BG.out⟩
   ·subst e2
    have t1 : (E3 != 0) = true := by rw [bne_iff_ne]; assumption
    rcases HC1 with h0 | h0 | h0
    ·exact absurd h0 e3
    ·subst h0
     clear e3 t1
     have BF := BW.out.trans (J0.out.mono BW.out.size)
     have BG := Lib.hid BF
     clear BF
     go_wp2_with fail
     go_ret
     exact ⟨rfl, by rw [← Ec.out]; exact BG.out⟩
    ·subst h0
     clear e3 t1
     have BF := BW.out.trans (J0.out.mono BW.out.size)
     have BG := Lib.hid BF
     clear BF
     go_wp2_with fail
     go_ret
     exact ⟨rfl, by rw [← Ec.out]; exact BG.out⟩
  ·have t1 : (E2 != 0) = true := by rw [bne_iff_ne]; assumption
   by_cases e3 : E3 = 0
   ·subst e3
    have BF := BW.out.trans (J0.out.mono BW.out.size)
    have BG := Lib.hid BF
    clear BF
    go_wp2_with fail
    go_ret
    exact ⟨rfl, by rw [← Ec.out]; exact BG.out⟩
   ·have t2 : (E3 != 0) = true := by rw [bne_iff_ne]; assumption
    have t3 : (E3 == 0) = false := by rw [beq_eq_false_iff_ne]; exact e3
    have BF := BW.out.trans (J0.out.mono BW.out.size)
    have BG := Lib.hid BF
    clear BF
    go_wp2_with fail
    go_ret
    exact ⟨rfl, by rw [← Ec.out]; exact BG.out⟩
 ·have t1 : (E1 != 0) = true := by rw [bne_iff_ne]; assumption
  have BF := BW.out.trans (J0.out.mono BW.out.size)
  have BG := Lib.hid BF
  clear BF
  go_wp2_with fail
  go_ret
  exact ⟨rfl, BG.out⟩
theorem cdoes_walk6 (v : Value) (ps : List RP) (f : Int) (ov : Value) (ops : List OpD) (g : Int) (pv : Value) (qs : List OpD) (w : World) (hv : RunRow w v ps) (hz : RSized (ps.map (·.1))) (hc : OpRow w ov ops) (hpr : Proper ov) (hy : OSized ops) (hc2 : OpRow w pv qs) (hpr2 : Proper pv) (hy2 : OSized qs) (hU : U8s w.heap.size w) :
 Calls Tryz.prog 3 #[v, chAgg f ov, chAgg g pv] w (OutB w true) := cdoes_walk v _ f ov ops g pv qs w ⟨ps, rfl, hv⟩ hz hc hpr hy hc2 hpr2 hy2 hU
end Go.Proofs.YtlfodemmdfaeeaaGreatDoor
