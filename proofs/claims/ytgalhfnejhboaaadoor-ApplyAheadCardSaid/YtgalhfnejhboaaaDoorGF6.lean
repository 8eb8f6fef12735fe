/- Texts of this seat, put together: Dah. -/
import Derived.Test.YtgalhfnejhboaaaDoorGF3
import Derived.Test.YtgalhfnejhboaaaDoorGF4
import Derived.Test.YtgalhfnejhboaaaDoorGC1
/- The law ApplyAhead, walked. -/
namespace Go.Proofs.YtgalhfnejhboaaaDoor
open Go.RowKit Rn Ch At

theorem opE_n' {o : OpD} (h : opE o = 0) : 0 ≤ o.n := by
  by_cases hk : o.kind = 2
  · rw [((opE_put hk).1 h).1]; exact Int.le_refl _
  · have := opE_n h hk; omega
theorem nSum_take {ops : List OpD} (h : allE ops) (k : Nat) : 0 ≤ nSum (ops.take k) ∧ nSum (ops.take k) ≤ nSum ops := by
  have h1 : ∀ l : List OpD, (∀ x ∈ l, x ∈ ops) → 0 ≤ nSum l := fun l hl => by
    rw [nSum_kd fun x hx => h x (hl x hx)]
    exact kd_nonneg fun x hx => h x (hl x hx)
  have e : nSum ops = nSum (ops.take k) + nSum (ops.drop k) := by rw [← nSum_append, List.take_append_drop]
  have h2 := h1 (ops.drop k) fun x hx => List.mem_of_mem_drop hx
  have h3 := h1 (ops.take k) fun x hx => List.mem_of_mem_take hx
  omega
theorem nSum_succ {ops : List OpD} {k : Nat} (h : k < ops.length) : nSum (ops.take (k + 1)) = nSum (ops.take k) + ops[k].n := by
  rw [List.take_succ_eq_append_getElem h, nSum_append]
  simp [nSum]
def firstAt (f : Int) (N : List OpD) (k : Nat) : Int := if k = 0 then f else firstN f N
theorem firstN_yes {f : Int} {N : List OpD} (h : 0 < N.length) (h1 : N[0].kind = 1) (h2 : N[0].attrs.length = 0) : firstN f N = N[0].n := by
  cases N with
  | nil => simp at h
  | cons o r => rw [firstN, if_pos ⟨h1, h2⟩]; rfl
theorem firstN_no {f : Int} {N : List OpD} (h : 0 < N.length) (h1 : ¬ (N[0].kind = 1 ∧ N[0].attrs.length = 0)) : firstN f N = 0 := by
  cases N with
  | nil => simp at h
  | cons o r => rw [firstN]; exact if_neg h1
/-- A document's slice, told of a row of it. -/
theorem slice_row (v : Value) (ps : List RP) (l : List RunD) (a b : Nat) (w : World) (hv : RunRow w v ps) (hl : ps.map (·.1) = l) (h0 : lenE l = 0) (hab : a ≤ b) (hb : b ≤ (cellsD l).length) (hU : U8s w.heap.size w) :
    Calls Tryd.prog 16 #[v, .int .i64 (a : Int), .int .i64 (b : Int)] w (SliceOut w l a b) := by
  subst hl
  exact slice_any v ps a b w hv (rsized_doc h0) h0 hab hb hU

set_option maxRecDepth 100000 in
set_option maxHeartbeats 1000000 in
theorem ahead_walk5 (v : Value) (ps : List RP) (f : Int) (ov : Value) (ops : List OpD) (w : World) (hv : RunRow w v ps) (hz : RSized (ps.map (·.1))) (hc : OpRow w ov ops) (hpr : Proper ov) (hy : OSized ops) (hU : U8s w.heap.size w) :
    Calls Tryd.prog 6 #[v, chAgg f ov] w (OutB w true) := by
  have bx0 := below_box w (.cells #[.int .i64 f, ov] 25)
  have HAW := Lib.hid (awake5_any (w.alloc (.cells #[.int .i64 f, ov] 25)) (hU.up bx0))
  have HBX0 := Lib.hid bx0
  have HAP := Lib.hid (fun W (h : Below w.heap.size w W) => apply_any v ov ps f ops W (hv.below h) hz (hc.below h) hpr hy (hU.up h))
  have HNO := Lib.hid (fun W (h : Below w.heap.size w W) he => normalG_ok f ov ops W (hc.below h) he)
  have HTO := Lib.hid (fun W (h : Below w.heap.size w W) => to_any f ov ops W (hc.below h) hy)
  obtain ⟨l, hl⟩ : ∃ l, l = ps.map (·.1) := ⟨_, rfl⟩
  have HLL := Lib.hid hl
  simp only [← hl] at HAP
  have HV := Lib.hid hv
  have HU := Lib.hid hU
  have HZ := Lib.hid hz
  obtain ⟨va, vc, rfl⟩ := hv.shape
  obtain ⟨oa, oc, rfl⟩ := hc.shape
  have HC0 := Lib.hid (show (w.alloc (.cells #[.int .i64 f, .slice oa ops.length oc] 25)).heap[w.heap.size]? = some (.cells #[.int .i64 f, .slice oa ops.length oc] 25 (0, 0)) from heap_new _ _)
  clear hv hz hU hl hc hpr hy bx0
  go_enter Tryd.func6, Tryd.ntmps6
  go_wp2_with fail
  refine HAW.out.mono ?_
  rintro e w1 ⟨rfl, b⟩
  have B1 := Lib.hid (HBX0.out.trans (b.mono HBX0.out.size))
  have HC1 := Lib.hid ((b.block _ (lt_of_heap HC0.out)).trans HC0.out)
  have HA1 := Lib.hid (HAP.out w1 B1.out)
  have c0 := (cells2 HC1.out).1
  have c1 := (cells2 HC1.out).2.1
  clear b HAW HAP HC0 HBX0
  go_wp2_with fail
  refine HA1.out.mono ?_
  rintro e w2 ⟨xv, rfl, b, xs, hxs, hxo⟩
  have B2 := Lib.hid (B1.out.trans (b.mono B1.out.size))
  have HX := Lib.hid hxo.row
  have HXS := Lib.hid hxs
  have HC2 := Lib.hid ((b.block _ (lt_of_heap HC1.out)).trans HC1.out)
  obtain ⟨xa, xc, rfl⟩ := own_slice hxo.1
  clear b hxs hxo HA1 c0 c1 HC1
  by_cases hE : appE l f ops = 0
  · have te : (appE l f ops != 0) = false := by rw [hE]; rfl
    have hA := appF_of hE
    have hF := (fit_iff.1 hA.fit)
    have hW := aheadF_of hE
    have HNO2 := Lib.hid (HNO.out w2 B2.out hF.2.1)
    have HTO := Lib.hid (fun W h => (HTO.out W h))
    have HD := Lib.hid (And.intro hF.1 hA.right)
    have HW := Lib.hid hW
    have HTE := Lib.hid hF.2.1
    have c0 := (cells2 HC2.out).1
    have c1 := (cells2 HC2.out).2.1
    clear hE hA hF hW HNO
    generalize appL l f ops = X at HXS HD HW
    generalize appE l f ops = z1 at te ⊢
    go_wp2_with fail
    refine HNO2.out.mono ?_
    rintro e w3 ⟨nv, rfl, hno, b⟩
    obtain ⟨na, nc, hnv, hnr, hnp⟩ := ownOps_open hno
    subst hnv
    have B3 := Lib.hid (B2.out.trans (b.mono B2.out.size))
    have HX3 := Lib.hid (HX.out.below b)
    have HC3 := Lib.hid ((b.block _ (lt_of_heap HC2.out)).trans HC2.out)
    have HNR := Lib.hid hnr
    clear b hno hnr hnp HNO2 HX HC2 c0 c1
    have hl3 := lt_of_heap HC3.out
    have c0 := (cells2 HC3.out).1
    have c1 := (cells2 HC3.out).2.1
    have hNok := (norm_ok ((toE_iff _ _).1 HTE.out)).1
    have HOKN := Lib.hid hNok
    have hNS := nSum_kd hNok.2.2.2.1
    have hNS2 : nSum (norm ops) ≤ 20000 := by have := hNok.2.2.2.2.1; have := hNok.2.1; omega
    clear hNok hNS
    obtain ⟨N, hN⟩ : ∃ N, N = norm ops := ⟨_, rfl⟩
    rw [← hN] at HNR HOKN HW hNS2 ⊢
    have HNE := Lib.hid hN
    clear hN
    obtain ⟨Wn, hWn⟩ : ∃ W, W = w3.alloc (.cells #[.int .i64 f, .slice na N.length nc] 25) := ⟨_, rfl⟩
    have b3 : Below w3.heap.size w3 Wn := by rw [hWn]; exact below_box _ _
    have hcn : Wn.heap[w3.heap.size]? = some (.cells #[.int .i64 f, .slice na N.length nc] 25 (0, 0)) := by rw [hWn]; exact heap_new _ _
    have HBN := Lib.hid (B3.out.trans (b3.mono B3.out.size))
    have HXN := Lib.hid (HX3.out.below b3)
    have HCN := Lib.hid ((b3.block _ hl3).trans HC3.out)
    have HNN := Lib.hid (HNR.out.below b3)
    have n0 := (cells2 hcn).1
    have n1 := (cells2 hcn).2.1
    have hln := lt_of_heap hcn
    have HWN := Lib.hid hWn
    have HCNN := Lib.hid hcn
    have hNl : N.length ≤ 2000 := HOKN.out.2.2.1
    clear b3 hcn hWn HX3 HNR
    go_wp2_with fail
    rw [← HWN.out]
    clear c0 c1 HC3
    have c0 := (cells2 HCN.out).1
    have c1 := (cells2 HCN.out).2.1
    have hlc := lt_of_heap HCN.out
    go_loopw [10, 11, 12] (fun fi us i wr => ∃ k : Nat, i = .int .i64 (k : Int) ∧ k ≤ N.length ∧ fi = .int .i64 (firstAt f N k) ∧ us = .int .i64 (nSum (N.take k)) ∧ wr = Wn) (fun _ _ i _ => N.length - (intOf i).toNat)
    case atStart => exact ⟨0, rfl, Nat.zero_le _, rfl, rfl, rfl⟩
    case round =>
      obtain ⟨k, rfl, hk, rfl, rfl, rfl⟩ := hrel
      by_cases hlt : k < N.length
      · have hlt' : (k : Int) < (N.length : Int) := by omega
        obtain ⟨aa, cap, hsl, _, _, h3⟩ := HNN.out
        obtain ⟨bb, off, hav, hbl, xv, hra, _, x0, x1, x2, x3⟩ := h3 k hlt
        obtain ⟨bb', off', hav', _, yv, yra, _, y0, y1, _, y3⟩ := h3 0 (by omega)
        obtain ⟨rfl, rfl⟩ : bb' = bb ∧ off' = off := by
          rw [hav] at hav'
          simp only [Option.some.injEq, Addr.mk.injEq, and_true] at hav'
          exact ⟨hav'.1.symm, hav'.2.symm⟩
        rw [Nat.zero_mul, Nat.add_zero] at y0 y1 y3
        obtain rfl : aa = na := by
          simp only [Value.slice.injEq] at hsl
          exact hsl.1.symm
        subst hav
        have hnk := opE_n' (HOKN.out.2.2.2.1 N[k] (List.getElem_mem hlt))
        have hsk := nSum_succ hlt
        have hs1 := nSum_take HOKN.out.2.2.2.1 k
        have hs2 := nSum_take HOKN.out.2.2.2.1 (k + 1)
        have hwr : wrap64 (nSum (N.take k) + N[k].n) = nSum (N.take (k + 1)) := by rw [IntWalk.wrap64_in _ (by omega)]; omega
        have HWR := Lib.hid hsk
        have hmeas : N.length - (k + 1) < N.length - k := by omega
        clear hsl h3 hsk hs1 hs2 hav' hra x0 x2 x3
        have HF0 : k = 0 → ∀ x : Int, firstN f N = x → firstAt f N (k + 1) = x := fun _ x h => by unfold firstAt; rw [if_neg (by omega)]; exact h
        by_cases hk0 : k = 0
        · have hk1 : ((k : Int) == 0) = true := by rw [hk0]; rfl
          have h0l : 0 < N.length := by omega
          have h0l' : (0 : Int) < (N.length : Int) := by omega
          have HF1 := HF0 hk0
          clear HF0
          by_cases k1 : N[0].kind = 1
          · have t1 : (N[0].kind == 1) = true := by rw [k1]; rfl
            obtain ⟨ra, rc, hyv⟩ := yra.shape
            subst hyv
            by_cases k2 : N[0].attrs.length = 0
            · have t2 : ((N[0].attrs.length : Int) == 0) = true := by rw [k2]; rfl
              have HF := Lib.hid (HF1 _ (firstN_yes h0l k1 k2))
              clear HF1 k1 k2 hk0
              go_wp2_with fail
              go_roundw
              case rel => exact ⟨k + 1, by go_num, by omega, by rw [HF.out], by rw [hwr], by trivial⟩
              case measure => simp [intOf]; omega
            · have t2 : ((N[0].attrs.length : Int) == 0) = false := by rw [beq_eq_false_iff_ne]; omega
              have HF := Lib.hid (HF1 _ (firstN_no h0l fun h => k2 h.2))
              clear HF1 k1 k2 hk0
              go_wp2_with fail
              go_roundw
              case rel => exact ⟨k + 1, by go_num, by omega, by rw [HF.out], by rw [hwr], by trivial⟩
              case measure => simp [intOf]; omega
          · have t1 : (N[0].kind == 1) = false := by rw [beq_eq_false_iff_ne]; exact k1
            have HF := Lib.hid (HF1 _ (firstN_no h0l fun h => k1 h.1))
            clear HF1 k1 hk0
            go_wp2_with fail
            go_roundw
            case rel => exact ⟨k + 1, by go_num, by omega, by rw [HF.out], by rw [hwr], by trivial⟩
            case measure => simp [intOf]; omega
        · have hk1 : ((k : Int) == 0) = false := by rw [beq_eq_false_iff_ne]; omega
          have HF := Lib.hid (show firstAt f N (k + 1) = firstAt f N k by unfold firstAt; rw [if_neg (by omega), if_neg hk0])
          clear HF0 hk0
          go_wp2_with fail
          go_roundw
          case rel => exact ⟨k + 1, by go_num, by omega, by rw [HF.out], by rw [hwr], by trivial⟩
          case measure => simp [intOf]; omega
      · have hkn : k = N.length := by omega
        have hlt' : ¬ (k : Int) < (N.length : Int) := by omega
        have hfa : firstAt f N k = firstN f N := by
          unfold firstAt
          by_cases h0 : k = 0
          · rw [if_pos h0]
            have : N = [] := List.length_eq_zero_iff.1 (by omega)
            rw [this]; rfl
          · rw [if_neg h0]
        have hus : nSum (N.take k) = nSum N := by rw [hkn, List.take_length]
        obtain ⟨a, u, left, e1, e2, e3, e4, e5, m1, m2, m3, m4, s1, s2⟩ := HW.out.ex
        rw [hfa, e1, hus]
        have HS1 := Lib.hid (fun W h => slice_row (.slice va ps.length vc) ps l 0 a W (HV.out.below h) HLL.out.symm HD.out.1 (Nat.zero_le _) m1 (HU.out.up h))
        have HS2 := Lib.hid (fun W h => slice_row (.slice xa xs.length xc) xs X 0 a W (HXN.out.below h) HXS.out HD.out.2 (Nat.zero_le _) m2 (HU.out.up (HBN.out.trans (h.mono HBN.out.size))))
        have HS3 := fun W h => slice_row (.slice va ps.length vc) ps l u (cellsD l).length W (HV.out.below h) HLL.out.symm HD.out.1 m3 (Nat.le_refl _) (HU.out.up h)
        have HS4 := fun W h => slice_row (.slice xa xs.length xc) xs X ((cellsD X).length - left) (cellsD X).length W (HXN.out.below h) HXS.out HD.out.2 (by omega) (Nat.le_refl _) (HU.out.up (HBN.out.trans (h.mono HBN.out.size)))
        simp only [← e4] at HS3
        simp only [← e5] at HS4
        have HS3 := Lib.hid HS3
        have HS4 := Lib.hid HS4
        have HEQ := Lib.hid (And.intro s1 s2)
        have hn1 := (docF_of HD.out.1).n1
        have hn2 := (docF_of HD.out.2).n1
        have hw1 : wrap64 (f - (u : Int)) = (left : Int) := by rw [IntWalk.wrap64_in _ (by omega)]; exact e3
        have hw2 : wrap64 (toN f ops - (left : Int)) = (((cellsD X).length - left : Nat) : Int) := by rw [IntWalk.wrap64_in _ (by omega)]; omega
        have HT := Lib.hid (fun W h => (HTO.out W h).mono fun e w' (h : ToOut W f ops e w') => (show e = .returned (.tuple #[.int .i64 (toN f ops), .int .i64 0]) ∧ Below W.heap.size W w' by
          unfold ToOut at h; rw [HTE.out] at h; exact h))
        have HE2 := Lib.hid e2
        have HE5 := Lib.hid (And.intro e4 (And.intro e5 e3))
        clear hfa hus e1 e3 e4 e5 s1 s2 m1 m2 m3 m4 hkn e2 HTO
        by_cases hN0 : N = []
        case' pos =>
          have hz1 : ((N.length : Int) == 0) = true := by rw [hN0]; rfl
          have hfu : f = (u : Int) := by have := HE2.out; unfold usedN at this; rw [if_pos hN0] at this; exact this
          have hl0 : left = 0 := by have := HE5.out.2.2; omega
          subst hl0
          rw [Nat.sub_zero, ← HE5.out.2.1] at HS4
          have hw3 : wrap64 (toN f ops) = toN f ops := by have := HE5.out.2.1; rw [IntWalk.wrap64_in _ (by omega)]
          rw [← hfu] at HS3
          rw [Nat.sub_zero] at HEQ
          clear hN0 hfu hw1 hw2
        case' neg =>
          have hz1 : ((N.length : Int) == 0) = false := by
            rw [beq_eq_false_iff_ne]
            intro h
            exact hN0 (List.length_eq_zero_iff.1 (by omega))
          have hfu : nSum N = (u : Int) := by have := HE2.out; unfold usedN at this; rw [if_neg hN0] at this; exact this
          rw [hfu]
          clear hN0 hfu
        all_goals
          go_wp2_with fail
          refine (HS1.out wr HBN.out).mono ?_
          rintro e w4 ⟨av, rfl, b, ra, has, hao⟩
          obtain ⟨aa', ac', rfl⟩ := own_slice hao.1
          have D4 := Lib.hid b
          have HA4 := Lib.hid hao.row
          have HAS := Lib.hid has
          have HC4 := Lib.hid ((b.block _ (lt_of_heap HCN.out)).trans HCN.out)
          clear b has hao HS1 c0 c1
          go_wp2_with fail
          refine (HS2.out w4 D4.out).mono ?_
          rintro e w5 ⟨bv, rfl, b, rb, hbs, hbo⟩
          obtain ⟨ba', bc', rfl⟩ := own_slice hbo.1
          have D5 := Lib.hid (D4.out.trans (b.mono D4.out.size))
          have HA5 := Lib.hid (HA4.out.below b)
          have HB5 := Lib.hid hbo.row
          have HBS := Lib.hid hbs
          have HC5 := Lib.hid ((b.block _ (lt_of_heap HC4.out)).trans HC4.out)
          have c0 := (cells2 HC5.out).1
          have c1 := (cells2 HC5.out).2.1
          clear b hbs hbo HS2 HA4 HC4
          go_wp2_with fail
          refine (HT.out w5 (HBN.out.trans (D5.out.mono HBN.out.size))).mono ?_
          rintro e w6 ⟨rfl, b⟩
          have D6 := Lib.hid (D5.out.trans (b.mono D5.out.size))
          have HA6 := Lib.hid (HA5.out.below b)
          have HB6 := Lib.hid (HB5.out.below b)
          have HC6 := Lib.hid ((b.block _ (lt_of_heap HC5.out)).trans HC5.out)
          clear b HT HA5 HB5 HC5 c0 c1
          have c0 := (cells2 HC6.out).1
          go_wp2_with fail
          refine (HS3.out w6 (HBN.out.trans (D6.out.mono HBN.out.size))).mono ?_
          rintro e w7 ⟨yv, rfl, b, ry, hys, hyo⟩
          obtain ⟨ya', yc', rfl⟩ := own_slice hyo.1
          have D7 := Lib.hid (D6.out.trans (b.mono D6.out.size))
          have HA7 := Lib.hid (HA6.out.below b)
          have HB7 := Lib.hid (HB6.out.below b)
          have HY7 := Lib.hid hyo.row
          have HYS := Lib.hid hys
          clear b HS3 HA6 HB6 HC6 c0 hys hyo
          go_wp2_with fail
          refine (HS4.out w7 D7.out).mono ?_
          rintro e w8 ⟨zv, rfl, b, rz, hzs, hzo⟩
          obtain ⟨za', zc', rfl⟩ := own_slice hzo.1
          have D8 := Lib.hid (D7.out.trans (b.mono D7.out.size))
          have HM1 := sameDoc_any (.slice aa' ra.length ac') (.slice ba' rb.length bc') ra rb w8 (HA7.out.below b) (HB7.out.below b)
          rw [HAS.out, HBS.out, HEQ.out.1, show sameRuns (sliceL X 0 a) (sliceL X 0 a) = true from decide_eq_true rfl] at HM1
          have HM1 := Lib.hid HM1
          have HM2 := fun W (h : Below w8.heap.size w8 W) => sameDoc_any (.slice ya' ry.length yc') (.slice za' rz.length zc') ry rz W ((HY7.out.below b).below h) (hzo.row.below h)
          rw [HYS.out, hzs] at HM2
          try rw [Nat.sub_zero] at HM2
          rw [HEQ.out.2] at HM2
          have HM2 := Lib.hid HM2
          clear b HS4 HA7 HB7 HY7 hzs hzo
          go_wp2_with fail
          refine HM1.out.mono ?_
          rintro e w9 ⟨rfl, b⟩
          have D9 := Lib.hid (D8.out.trans (b.mono D8.out.size))
          have HM3 := Lib.hid (HM2.out w9 b)
          clear b HM1 HM2
          go_wp2_with fail
          refine HM3.out.mono ?_
          rintro e w10 ⟨rfl, b⟩
          have D10 := Lib.hid (HBN.out.trans ((D9.out.trans (b.mono D9.out.size)).mono HBN.out.size))
          clear b HM3
          go_wp2_with fail
          go_ret
          exact outB_mk (by unfold sameRuns; exact (decide_eq_true rfl).symm) D10.out
  · have te : (appE l f ops != 0) = true := by rw [bne_iff_ne]; exact hE
    clear hE
    go_wp2_with fail
    go_ret
    exact outB_mk rfl B2.out
end Go.Proofs.YtgalhfnejhboaaaDoor
