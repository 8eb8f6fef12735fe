/- Texts of this seat, put together: Dbk. -/
import Derived.Test.YtgalhfnejhboaaaDoorGF4
import Derived.Test.YtgalhfnejhboaaaDoorGR3
/- The law ApplyBack, walked. -/
namespace Go.Proofs.YtgalhfnejhboaaaDoor
open Go.RowKit Rn Ch At

theorem tsmall_of {f : Int} {ops : List OpD} (h : OkC f ops) : TSmall ops := fun o ho => by
  have := (vop_of h ho).text
  omega
structure BackF (l X : List RunD) (f : Int) (ops N : List OpD) (n : Int) : Prop where
  okc : OkC f ops
  tsm : TSmall ops
  te : toE f ops = 0
  right : lenE X = 0
  num : lenN X = toN f ops
  nsz : OSized N
  napp : appE l f N = 0
  nval : appL l f N = X
theorem backF_of {l : List RunD} {f : Int} {ops : List OpD} (h : appE l f ops = 0) : BackF l (appL l f ops) f ops (norm ops) (lenN (appL l f ops)) := by
  have ha := appF_of h
  have hg := fitG_of ha.fit
  obtain ⟨n1, n2⟩ := app_norm h
  exact ⟨hg.okc, tsmall_of hg.okc, (fit_iff.1 ha.fit).2.1, ha.right, ha.num, osized_of n1, n1, n2⟩
theorem inv_is {l : List RunD} {f : Int} {ops : List OpD} (h : invE l f ops = 0) : isB (lenN (appL l f ops)) (invL l ops) = true ∧ TSmall (invL l ops) := by
  obtain ⟨h1, h2⟩ := invE_len h
  have hI := invF_of h1 h2
  exact ⟨decide_eq_true ⟨hI.tob, hI.once.symm⟩, tsmall_of ((toE_iff _ _).1 hI.tob)⟩

set_option maxRecDepth 100000 in
set_option maxHeartbeats 1000000 in
theorem back_walk5 (v : Value) (ps : List RP) (f : Int) (ov : Value) (ops : List OpD) (w : World) (hv : RunRow w v ps) (hz : RSized (ps.map (·.1))) (hc : OpRow w ov ops) (hpr : Proper ov) (hy : OSized ops) (hU : U8s w.heap.size w) :
    Calls Tryd.prog 3 #[v, chAgg f ov] w (OutB w true) := by
  have bx0 := below_box w (.cells #[.int .i64 f, ov] 25)
  have HAW := Lib.hid (awake5_any (w.alloc (.cells #[.int .i64 f, ov] 25)) (hU.up bx0))
  have HBX0 := Lib.hid bx0
  have HAP := Lib.hid (fun W (h : Below w.heap.size w W) => apply_any v ov ps f ops W (hv.below h) hz (hc.below h) hpr hy (hU.up h))
  have HIN := Lib.hid (fun W (h : Below w.heap.size w W) => inverse_any v ov ps f ops W (hv.below h) hz (hc.below h) hpr hy (hU.up h))
  have HTO := Lib.hid (fun W (h : Below w.heap.size w W) ht => refTo_any f ov ops W (hc.below h) hy ht)
  have HNO := Lib.hid (fun W (h : Below w.heap.size w W) ht => refNormal_any f ov ops W (hc.below h) hy ht)
  obtain ⟨l, hl⟩ : ∃ l, l = ps.map (·.1) := ⟨_, rfl⟩
  have HLL := Lib.hid hl
  simp only [← hl] at HAP HIN
  have HV := Lib.hid hv
  have HU := Lib.hid hU
  have HZ := Lib.hid hz
  obtain ⟨va, vc, rfl⟩ := hv.shape
  obtain ⟨oa, oc, rfl⟩ := hc.shape
  have HC0 := Lib.hid (show (w.alloc (.cells #[.int .i64 f, .slice oa ops.length oc] 25)).heap[w.heap.size]? = some (.cells #[.int .i64 f, .slice oa ops.length oc] 25 (0, 0)) from heap_new _ _)
  clear hv hz hU hl hc hpr hy bx0
  go_enter Tryd.func3, Tryd.ntmps3
  go_wp2_with fail
  refine HAW.out.mono ?_
  rintro e w1 ⟨rfl, b⟩
  have B1 := Lib.hid (HBX0.out.trans (b.mono HBX0.out.size))
  have HC1 := Lib.hid ((b.block _ (lt_of_heap HC0.out)).trans HC0.out)
  have HA1 := Lib.hid (HAP.out w1 B1.out)
  have c0 := (cells2 HC1.out).1
  have c1 := (cells2 HC1.out).2.1
  clear b HAW HAP HC0 HBX0
  go_wp2_with fail
  refine HA1.out.mono ?_
  rintro e w2 ⟨xv, rfl, b, xs, hxs, hxo⟩
  have B2 := Lib.hid (B1.out.trans (b.mono B1.out.size))
  have HX := Lib.hid hxo.row
  have HXS := Lib.hid hxs
  have HC2 := Lib.hid ((b.block _ (lt_of_heap HC1.out)).trans HC1.out)
  obtain ⟨xa, xc, rfl⟩ := own_slice hxo.1
  clear b hxs hxo HA1 c0 c1 HC1
  by_cases hE : appE l f ops = 0
  · have te : (appE l f ops != 0) = false := by rw [hE]; rfl
    have HF := Lib.hid (backF_of hE)
    have HLE := length_any (.slice xa xs.length xc) xs w2 HX.out (by rw [HXS.out]; exact rsized_doc HF.out.right)
    have hle : LenOut w2 (xs.map (·.1)) = fun e w' => e = .returned (.tuple #[.int .i64 (toN f ops), .int .i64 0]) ∧ Below w2.heap.size w2 w' := by
      unfold LenOut
      rw [HXS.out, HF.out.right, HF.out.num]
    rw [hle] at HLE
    have HLE := Lib.hid HLE
    have HEE := Lib.hid hE
    clear hE hle
    generalize hz1 : appE l f ops = z1 at te ⊢
    clear hz1
    go_wp2_with fail
    refine HLE.out.mono ?_
    rintro e w3 ⟨rfl, b⟩
    have B3 := Lib.hid (B2.out.trans (b.mono B2.out.size))
    have D3 := Lib.hid b
    have HC3 := Lib.hid ((b.block _ (lt_of_heap HC2.out)).trans HC2.out)
    have HT3 := HTO.out w3 B3.out HF.out.tsm
    rw [show ToOut w3 f ops = fun e w' => e = .returned (.tuple #[.int .i64 (toN f ops), .int .i64 0]) ∧ Below w3.heap.size w3 w' by unfold ToOut; rw [HF.out.te]] at HT3
    have HT3 := Lib.hid HT3
    have c0 := (cells2 HC3.out).1
    have c1 := (cells2 HC3.out).2.1
    clear b HLE HTO HC2
    go_wp2_with fail
    refine HT3.out.mono ?_
    rintro e w4 ⟨rfl, b⟩
    have B4 := Lib.hid (B3.out.trans (b.mono B3.out.size))
    have D4 := Lib.hid (D3.out.trans (b.mono D3.out.size))
    have HC4 := Lib.hid ((b.block _ (lt_of_heap HC3.out)).trans HC3.out)
    have HN4 := Lib.hid (HNO.out w4 B4.out HF.out.tsm)
    clear b c0 c1 HT3 HNO HC3 D3
    have c0 := (cells2 HC4.out).1
    have c1 := (cells2 HC4.out).2.1
    go_wp2_with fail
    refine HN4.out.mono ?_
    rintro e w5 (⟨hbad, _⟩ | ⟨_, nv, rfl, hno, b⟩)
    · exact absurd HF.out.te hbad
    obtain ⟨na, nc, hnv, hnr, hnp⟩ := ownOps_open hno
    subst hnv
    have B5 := Lib.hid (B4.out.trans (b.mono B4.out.size))
    have D5 := Lib.hid (D4.out.trans (b.mono D4.out.size))
    have HC5 := Lib.hid ((b.block _ (lt_of_heap HC4.out)).trans HC4.out)
    have HI5 := Lib.hid (fun W h => HIN.out W h)
    have HWB := Lib.hid (fun h => wayF_of (l := l) (f := f) (ops := ops) h)
    have HIS := Lib.hid (fun h => inv_is (l := l) (f := f) (ops := ops) h)
    have HI2 := Lib.hid (invE_two HEE.out)
    have HNR := Lib.hid (And.intro hnr hnp)
    clear b c0 c1 hno hnr hnp HN4 HC4 HIN HEE
    generalize hXX : appL l f ops = X at HXS HF HWB HIS
    have HXX := Lib.hid hXX
    generalize norm ops = N at HF HNR ⊢
    clear hXX
    have b5 := below_box w5 (.cells #[.int .i64 f, .slice na N.length nc] 25)
    have HP0 := Lib.hid (show (w5.alloc (.cells #[.int .i64 f, .slice na N.length nc] 25)).heap[w5.heap.size]? = some (.cells #[.int .i64 f, .slice na N.length nc] 25 (0, 0)) from heap_new _ _)
    have B6 := Lib.hid (B5.out.trans (b5.mono B5.out.size))
    have D6 := Lib.hid (D5.out.trans (b5.mono D5.out.size))
    have HC6 := Lib.hid ((b5.block _ (lt_of_heap HC5.out)).trans HC5.out)
    have HAP6 := apply_any (.slice va ps.length vc) (.slice na N.length nc) ps f N _ (HV.out.below B6.out) HZ.out (HNR.out.1.below b5) HNR.out.2 HF.out.nsz (HU.out.up B6.out)
    rw [← HLL.out] at HAP6
    have HAP6 := Lib.hid HAP6
    have hl5 := lt_of_heap HP0.out
    have hl6 := lt_of_heap HC6.out
    clear b5 HC5
    go_wp2_with fail
    refine HAP6.out.mono ?_
    rintro e w7 ⟨yv, rfl, b, ys, hys, hyo⟩
    rw [HF.out.nval] at hys
    rw [HF.out.napp]
    have B7 := Lib.hid (B6.out.trans (b.mono B6.out.size))
    have D7 := Lib.hid (D6.out.trans (b.mono D6.out.size))
    have HC7 := Lib.hid ((b.block _ (lt_of_heap HC6.out)).trans HC6.out)
    have HSM := sameDoc_any (.slice xa xs.length xc) yv xs ys w7 (HX.out.below D7.out) hyo.row
    rw [hys, HXS.out, show sameRuns X X = true from decide_eq_true rfl] at HSM
    have HSM := Lib.hid HSM
    obtain ⟨ya, yc, rfl⟩ := own_slice hyo.1
    clear b hys hyo HAP6 HC6 HP0
    go_wp2_with fail
    refine HSM.out.mono ?_
    rintro e w8 ⟨rfl, b⟩
    have B8 := Lib.hid (B7.out.trans (b.mono B7.out.size))
    have D8 := Lib.hid (D7.out.trans (b.mono D7.out.size))
    have HC8 := Lib.hid ((b.block _ (lt_of_heap HC7.out)).trans HC7.out)
    have HI8 := Lib.hid (HI5.out w8 B8.out)
    have c0 := (cells2 HC8.out).1
    have c1 := (cells2 HC8.out).2.1
    clear b HSM HC7 HI5
    go_wp2_with fail
    refine HI8.out.mono ?_
    rintro e w9 ⟨bv, rfl, b, hbo⟩
    rw [HXX.out]
    obtain ⟨ba, bc, hbv, hbr, hbp⟩ := ownOps_open hbo
    have B9 := Lib.hid (B8.out.trans (b.mono B8.out.size))
    have D9 := Lib.hid (D8.out.trans (b.mono D8.out.size))
    clear b hbo HI8 HC8 c0 c1
    by_cases hF : invE l f ops = 0
    · have tf : (invE l f ops != 0) = false := by rw [hF]; rfl
      have hW := HWB.out hF
      have hIS := HIS.out hF
      rw [if_pos hF] at hbv hbr ⊢
      subst hbv
      have HW := Lib.hid hW
      have HIS := Lib.hid hIS
      have HB := Lib.hid (And.intro hbr hbp)
      clear hF hW hIS hbr hbp HI2 HWB
      generalize invL l ops = V at HW HB HIS ⊢
      generalize invE l f ops = z3 at tf ⊢
      generalize lenN X = n at HW HF HIS ⊢
      have b9 := below_box w9 (.cells #[.int .i64 n, .slice ba V.length bc] 25)
      have HQ0 := Lib.hid (show (w9.alloc (.cells #[.int .i64 n, .slice ba V.length bc] 25)).heap[w9.heap.size]? = some (.cells #[.int .i64 n, .slice ba V.length bc] 25 (0, 0)) from heap_new _ _)
      have B10 := Lib.hid (B9.out.trans (b9.mono B9.out.size))
      have D10 := Lib.hid (D9.out.trans (b9.mono D9.out.size))
      have HAP := apply_any (.slice xa xs.length xc) (.slice ba V.length bc) xs n V _ (HX.out.below D10.out) (by rw [HXS.out]; exact rsized_doc HW.out.right) (HB.out.1.below b9) HB.out.2 HW.out.sized (HU.out.up B10.out)
      rw [HXS.out] at HAP
      have HAP := Lib.hid HAP
      have HI10 := fun W h => refIs_any n (.slice ba V.length bc) V W ((HB.out.1.below b9).below h) HW.out.sized HIS.out.2
      simp only [HIS.out.1] at HI10
      have HI10 := Lib.hid HI10
      have hl9 := lt_of_heap HQ0.out
      clear b9
      go_wp2_with fail
      refine HAP.out.mono ?_
      rintro e w11 ⟨zv, rfl, b, zs, hzs, hzo⟩
      rw [HW.out.val] at hzs
      rw [HW.out.app]
      have B11 := Lib.hid (B10.out.trans (b.mono B10.out.size))
      have HQ1 := Lib.hid ((b.block _ (lt_of_heap HQ0.out)).trans HQ0.out)
      have HJ := Lib.hid (HI10.out w11 b)
      have HZR := Lib.hid hzo.row
      have HZS := Lib.hid hzs
      have q0 := (cells2 HQ1.out).1
      have q1 := (cells2 HQ1.out).2.1
      obtain ⟨za, zc, rfl⟩ := own_slice hzo.1
      clear b hzs hzo HAP HI10 HQ0
      go_wp2_with fail
      refine HJ.out.mono ?_
      rintro e w12 ⟨rfl, b⟩
      have B12 := Lib.hid (B11.out.trans (b.mono B11.out.size))
      have HSM := sameDoc_any (.slice za zs.length zc) (.slice va ps.length vc) zs ps w12 (HZR.out.below b) (HV.out.below B12.out)
      rw [HZS.out, ← HLL.out, show sameRuns l l = true from decide_eq_true rfl] at HSM
      have HSM := Lib.hid HSM
      clear b HJ q0 q1 HQ1
      go_wp2_with fail
      refine HSM.out.mono ?_
      rintro e w13 ⟨rfl, b⟩
      have B13 := Lib.hid (B12.out.trans (b.mono B12.out.size))
      clear b HSM
      go_wp2_with fail
      go_ret
      exact outB_mk rfl B13.out
    · have hG2 : invE l f ops = 2 := by have := HI2.out; omega
      rw [if_neg hF] at hbv ⊢
      subst hbv
      rw [hG2]
      clear hF hG2
      go_wp2_with fail
      go_ret
      exact outB_mk rfl (B9.out.alloc B9.out.size _)
  · have te : (appE l f ops != 0) = true := by rw [bne_iff_ne]; exact hE
    have hx0 : xs.length = 0 := by
      have h1 := HXS.out
      rw [appL_bad hE] at h1
      have := congrArg List.length h1
      simpa using this
    have tz : ((xs.length : Int) == 0) = true := by rw [hx0]; rfl
    clear hE hx0
    go_wp2_with fail
    go_ret
    exact outB_mk rfl B2.out
end Go.Proofs.YtgalhfnejhboaaaDoor
