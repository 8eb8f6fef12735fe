/- Texts of this seat, put together: AnH. -/
import Derived.Test.YtggjeiemofkfbaaGN2
import Derived.Test.YtggjeiemofkfbaaGN8
/- The law AnchorHolds, walked: THE STAGE'S THEOREM. -/
namespace Go.Proofs.Ytggjeiemofkfbaa
open Go.RowKit Rn Ch
open An (away aheadR fullA placeA nA isAhead)
open Cp (Atm atms opA kA)

/-- What Move answers, on all the atoms. -/
structure HoldF (f : Int) (F : List Atm) (r : RgD) (n A B : Int) : Prop where
  a0 : 0 ≤ A
  ab : A ≤ B
  bn : B ≤ n
  n1 : n ≤ 20000
  f1 : f ≤ 20000
  kf : (kA F : Int) = f
  nf : nA F = n
  lost : r.lost = true → A = B
  pa : A = placeA true r.f F 0
  pb : r.lost = false → B = placeA false r.t F 0
theorem hold_of {f : Int} {ops : List OpD} {r : RgD} (h : mvE f ops r = 0) : ∃ A B : Int, mvR f ops r = ⟨A, B, decide (A = B)⟩ ∧ HoldF f (fullA f (norm ops)) r (toN f ops) A B := by
  obtain ⟨h1, h2⟩ := mvE_zero h
  obtain ⟨g0, g1, g2, g3, g4⟩ := rgE_ok h2
  have hok := (toE_iff _ _).1 h1
  obtain ⟨hn, d1, d2⟩ := norm_ok hok
  obtain ⟨s1, s2⟩ := An.full_sums hn
  have ea : mvA ops r = placeA true r.f (fullA f (norm ops)) 0 := An.aheadR_eq hn g0 (by omega)
  have et : toN f ops = nA (fullA f (norm ops)) := by rw [s2, d1, d2, toN_ok h1]
  have hlim : toN f ops ≤ 20000 := by rw [toN_ok h1]; exact hok.2.2.2.2.2
  refine ⟨mvA ops r, mvB ops r, by unfold mvR; rw [if_pos h], ?_⟩
  cases hl : r.lost with
  | true =>
    have eb : mvB ops r = mvA ops r := by unfold mvB; rw [if_pos hl]
    refine ⟨by rw [ea]; exact An.placeA_nonneg _ _ _ _, by rw [eb]; exact Int.le_refl _, by rw [eb, ea, et]; exact An.placeA_le _ _ _ _, hlim, hok.2.1, s1, et.symm, fun _ => eb.symm, ea, fun h => ?_⟩
    rw [hl] at h; cases h
  | false =>
    have eb : mvB ops r = placeA false r.t (fullA f (norm ops)) 0 := by
      unfold mvB
      rw [if_neg (by rw [hl]; simp)]
      exact An.aheadR_eq hn (by omega) (by omega)
    refine ⟨by rw [ea]; exact An.placeA_nonneg _ _ _ _, by rw [ea, eb]; exact An.up_down (g4 hl) _ _, by rw [eb, et]; exact An.placeA_le _ _ _ _, hlim, hok.2.1, s1, et.symm, fun h => ?_, ea, fun _ => eb⟩
    rw [hl] at h; cases h
theorem kA_nA_take {F : List Atm} {i : Nat} (h : i < F.length) :
    ((kA (F.take (i + 1)) : Int) = kA (F.take i) + (match F[i] with | .ins _ _ => 0 | _ => 1)) ∧ nA (F.take (i + 1)) = nA (F.take i) + (match F[i] with | .del => 0 | _ => 1) := by
  rw [List.take_succ_eq_append_getElem h, An.nA_append]
  obtain ⟨s1, s2, s3⟩ := Cp.sums_append (F.take i) [F[i]]
  rw [s1]
  cases F[i] <;> simp only [nA, kA, Cp.dA, Cp.iA] <;> omega
theorem kA_nA_lim (F : List Atm) (i : Nat) : kA (F.take i) ≤ kA F ∧ 0 ≤ nA (F.take i) ∧ nA (F.take i) ≤ nA F := by
  have h := List.take_append_drop i F
  have h1 := (Cp.sums_append (F.take i) (F.drop i)).1
  have h2 := An.nA_append (F.take i) (F.drop i)
  rw [h] at h1 h2
  have h3 := Int.le_trans (An.placeA_nonneg true 0 (F.drop i) 0) (An.placeA_le true 0 (F.drop i) 0)
  have h4 := Int.le_trans (An.placeA_nonneg true 0 (F.take i) 0) (An.placeA_le true 0 (F.take i) 0)
  exact ⟨by omega, by omega, by omega⟩
theorem hold_at {f : Int} {F : List Atm} {r : RgD} {n A B : Int} (H : HoldF f F r n A B) {i : Nat} (h : i < F.length) (hd : F[i] ≠ .del) :
    (nA (F.take i) < A ↔ isAhead true r.f (kA (F.take i)) F[i] = true) ∧ (r.lost = false → (nA (F.take i) < B ↔ isAhead false r.t (kA (F.take i)) F[i] = true)) := by
  have e : F = F.take i ++ F[i] :: F.drop (i + 1) := by rw [← List.drop_eq_getElem_cons h, List.take_append_drop]
  refine ⟨?_, fun hl => ?_⟩
  · have := An.ahead_iff (up := true) (a := r.f) (F.take i) (F.drop (i + 1)) F[i] hd
    rw [← e] at this
    rw [H.pa]; exact this
  · have := An.ahead_iff (up := false) (a := r.t) (F.take i) (F.drop (i + 1)) F[i] hd
    rw [← e] at this
    rw [H.pb hl]; exact this
/-- A round's numbers. -/
theorem hold_ins {f : Int} {F : List Atm} {r : RgD} {n A B : Int} (H : HoldF f F r n A B) {i : Nat} (h : i < F.length) {c : Nat} {x : Cp.AL} (hd : F[i] = .ins c x) :
    (nA (F.take i) < A ↔ (kA (F.take i) : Int) ≤ r.f) ∧ (r.lost = false → (nA (F.take i) < B ↔ (kA (F.take i) : Int) < r.t)) := by
  have := hold_at H h (by rw [hd]; simp)
  rw [hd] at this
  simp only [isAhead, away, if_true, Bool.false_eq_true, if_false, Bool.not_eq_true', decide_eq_false_iff_not] at this
  refine ⟨by rw [this.1]; omega, fun hl => by rw [this.2 hl]; omega⟩
theorem hold_keep {f : Int} {F : List Atm} {r : RgD} {n A B : Int} (H : HoldF f F r n A B) {i : Nat} (h : i < F.length) {x : Cp.AL} (hd : F[i] = .keep x) :
    (nA (F.take i) < A ↔ (kA (F.take i) : Int) < r.f) ∧ (r.lost = false → (nA (F.take i) < B ↔ (kA (F.take i) : Int) < r.t)) := by
  have := hold_at H h (by rw [hd]; simp)
  rw [hd] at this
  simp only [isAhead, decide_eq_true_eq] at this
  exact this
set_option maxRecDepth 100000 in
set_option maxHeartbeats 8000000 in
theorem aholds_walk (f : Int) (v : Value) (ops : List OpD) (rf rt : Int) (rl : Bool) (w : World) (hv : OpRow w v ops) (hz : OSized ops) (_ : -9223372036854775808 ≤ rf) (_ : rf ≤ 9223372036854775807) (_ : -9223372036854775808 ≤ rt) (_ : rt ≤ 9223372036854775807) :
    Calls Try.prog 10 #[chAgg f v, .agg #[.int .i64 rf, .int .i64 rt, .bool rl]] w (OutB w true) := by
  obtain ⟨aa, acap, rfl⟩ := hv.shape
  obtain ⟨W, hW, x, y, bW⟩ : ∃ W, W = (w.alloc (.cells #[.int .i64 f, .slice aa ops.length acap] 24)).alloc (.cells #[.int .i64 rf, .int .i64 rt, .bool rl] 46) ∧ W.heap[w.heap.size]? = some (.cells #[.int .i64 f, .slice aa ops.length acap] 24 (0, 0)) ∧ W.heap[w.heap.size + 1]? = some (.cells #[.int .i64 rf, .int .i64 rt, .bool rl] 46 (0, 0)) ∧ Below w.heap.size w W :=
    ⟨_, rfl, (box2V _ _ _).1, (box2V _ _ _).2.1, (box2V _ _ _).2.2⟩
  have HW := Lib.hid hW
  have HX := Lib.hid x
  have HY := Lib.hid y
  have BW := Lib.hid bW
  have RW := Lib.hid (hv.below bW)
  have Z := Lib.hid hz
  clear hz hv hW x y bW
  go_enter Try.func10, Try.ntmps10
  go_wp2_with fail
  rw [← HW.out]
  refine (awake8_any _).mono ?_
  rintro e w1 ⟨rfl, b1⟩
  have B1 := Lib.hid (BW.out.trans (b1.mono BW.out.size))
  have R1 := Lib.hid (RW.out.below b1)
  have X1 := Lib.hid (heap_up8 HX.out b1)
  have Y1 := Lib.hid (heap_up8 HY.out b1)
  obtain ⟨p0, p1, _, _⟩ := cells2 X1.out
  obtain ⟨q0, q1, q2, _⟩ := cells3 Y1.out
  clear b1
  go_wp2_with fail
  by_cases h1 : mvE f ops ⟨rf, rt, rl⟩ = 0
  · obtain ⟨A, B, hm, hF⟩ := hold_of h1
    have hE := (mvE_zero h1).1
    refine (anMove_l (r := ⟨rf, rt, rl⟩) h1 hm R1.out Z.out).mono ?_
    rintro e w2 ⟨rfl, b1⟩
    have B2 := Lib.hid (B1.out.trans (b1.mono B1.out.size))
    have R2 := Lib.hid (R1.out.below b1)
    have X2 := Lib.hid (heap_up8 X1.out b1)
    have Y2 := Lib.hid (heap_up8 Y1.out b1)
    clear b1 p0 p1 q0 q1 q2
    obtain ⟨V, hV, xV, bV⟩ : ∃ V, V = w2.alloc (.cells #[.int .i64 A, .int .i64 B, .bool (decide (A = B))] 46) ∧ V.heap[w2.heap.size]? = some (.cells #[.int .i64 A, .int .i64 B, .bool (decide (A = B))] 46 (0, 0)) ∧ Below w2.heap.size w2 V := ⟨_, rfl, heap_new _ _, below_box _ _⟩
    obtain ⟨sl, hsl⟩ : ∃ sl, sl = decide (A = B) := ⟨_, rfl⟩
    rw [← hsl] at hV xV ⊢
    have HSL := Lib.hid hsl
    have HV := Lib.hid hV
    have S3 := Lib.hid xV
    have B3 := Lib.hid (B2.out.trans (bV.mono B2.out.size))
    have R3 := Lib.hid (R2.out.below bV)
    have X3 := Lib.hid (heap_up8 X2.out bV)
    have Y3 := Lib.hid (heap_up8 Y2.out bV)
    obtain ⟨p0, p1, _, _⟩ := cells2 X2.out
    have hl2 := lt_of_heap X2.out
    have hl3 := lt_of_heap Y2.out
    obtain ⟨n, hn⟩ : ∃ n, toN f ops = n := ⟨_, rfl⟩
    rw [hn] at hF
    have HN := Lib.hid hn
    have HF := Lib.hid hF
    have HE := Lib.hid hE
    have HOK := Lib.hid ((toE_iff _ _).1 hE)
    clear hV xV bV hn hF hm hsl h1 hE
    go_wp2_with fail
    rw [← HV.out]
    have HT := to_any f (.slice aa ops.length acap) ops V R3.out Z.out
    rw [show ToOut V f ops = fun e w' => e = .returned (.tuple #[.int .i64 n, .int .i64 0]) ∧ Below V.heap.size V w' by funext e w'; unfold ToOut; rw [HN.out, HE.out]] at HT
    refine HT.mono ?_
    clear HT
    rintro e w4 ⟨rfl, b1⟩
    have B4 := Lib.hid (B3.out.trans (b1.mono B3.out.size))
    have R4 := Lib.hid (R3.out.below b1)
    have X4 := Lib.hid (heap_up8 X3.out b1)
    have Y4 := Lib.hid (heap_up8 Y3.out b1)
    have S4 := Lib.hid (heap_up8 S3.out b1)
    clear b1 p0 p1 hl2 hl3
    obtain ⟨s0, s1, s2, _⟩ := cells3 S4.out
    go_wp2_with fail
    have HR := anRight_any ⟨A, B, sl⟩ n w4
    have hr0 : rgE ⟨A, B, sl⟩ n = 0 := by
      have := HF.out
      unfold rgE
      rw [if_pos]
      unfold rgFit
      simp only [HSL.out, Bool.and_eq_true, decide_eq_true_eq]
      refine ⟨⟨?_, this.a0⟩, this.bn⟩
      split
      · rw [decide_eq_true_eq]; assumption
      · have := this.ab; rw [decide_eq_true_eq]; omega
    rw [hr0] at HR
    refine HR.mono ?_
    clear HR hr0
    rintro e w5 ⟨rfl, b1⟩
    have B5 := Lib.hid (B4.out.trans (b1.mono B4.out.size))
    have R5 := Lib.hid (R4.out.below b1)
    have X5 := Lib.hid (heap_up8 X4.out b1)
    have Y5 := Lib.hid (heap_up8 Y4.out b1)
    have S5 := Lib.hid (heap_up8 S4.out b1)
    clear b1 s0 s1 s2
    obtain ⟨s0, s1, s2, _⟩ := cells3 S5.out
    obtain ⟨p0, p1, _, _⟩ := cells2 X5.out
    obtain ⟨q0, q1, q2, _⟩ := cells3 Y5.out
    cases rl with
    | true =>
      have hsl : sl = true := by rw [HSL.out]; exact decide_eq_true (HF.out.lost rfl)
      subst hsl
      have hab := HF.out.lost rfl
      subst hab
      go_wp2_with fail
      refine (refAtoms_any f _ ops w5 R5.out HOK.out).mono ?_
      rintro e w6 ⟨u, rfl, o6, b1⟩
      obtain ⟨la, lc, hu⟩ := o6.row.shape
      have RO := o6.row
      rw [hu] at RO
      rw [List.length_map] at hu RO
      subst hu
      obtain ⟨F, hFF⟩ : ∃ F, F = fullA f (norm ops) := ⟨_, rfl⟩
      rw [← hFF] at HF RO ⊢
      obtain ⟨la', lc', hsh, v1, v2, v3⟩ := RO
      injection hsh with i1 i2 i3
      subst i1
      have V3 := Lib.hid v3
      have hn9 : F.length ≤ 9223372036854775807 := by have := Nat.le_trans v1 v2; rw [List.length_map] at this; exact this
      have B6 := Lib.hid (B5.out.trans (b1.mono B5.out.size))
      have Y6 := Lib.hid (heap_up8 Y5.out b1)
      have S6 := Lib.hid (heap_up8 S5.out b1)
      clear b1 o6 hFF v1 v2 v3 i2 i3 p0 p1 q0 q1 q2 s0 s1 s2
      obtain ⟨s0, s1, s2, _⟩ := cells3 S6.out
      obtain ⟨q0, q1, q2, _⟩ := cells3 Y6.out
      go_wp2_with fail
      go_loopw [12, 13, 14, 15] (fun o m wi i wr => ∃ k : Nat, o = .int .i64 (kA (F.take k) : Int) ∧ m = .int .i64 (nA (F.take k)) ∧ wi = .int .i64 (max 0 (min (nA (F.take k)) A - A)) ∧ i = .int .i64 (k : Int) ∧ k ≤ F.length ∧ w6 = wr) (fun _ _ _ i _ => F.length - (intOf i).toNat)
      case atStart => exact ⟨0, rfl, rfl, by have := HF.out.a0; have e : nA (F.take 0) = 0 := rfl; rw [e]; congr 1; omega, rfl, Nat.zero_le _, rfl⟩
      case round =>
        obtain ⟨k, rfl, rfl, rfl, rfl, hk, rfl⟩ := hrel
        obtain ⟨l1, l2, l3⟩ := kA_nA_lim F k
        have l4 := HF.out.kf
        have l5 := HF.out.f1
        have l6 := HF.out.nf
        have l7 := HF.out.n1
        have l8 := HF.out.a0
        have l9 := HF.out.ab
        have l10 := HF.out.bn
        by_cases hlt : k < F.length
        · have hlt' : (k : Int) < (F.length : Int) := by omega
          obtain ⟨t1, t2⟩ := kA_nA_take hlt
          have hlm : k < (F.map opA).length := by rw [List.length_map]; exact hlt
          obtain ⟨b, off, rfl, hbl, av, _, _, z0, _, _, _⟩ := V3.out k hlm
          rw [List.getElem_map] at z0
          obtain ⟨o, ho⟩ : ∃ o : Int, (kA (F.take k) : Int) = o := ⟨_, rfl⟩
          obtain ⟨m, hm⟩ : ∃ m, nA (F.take k) = m := ⟨_, rfl⟩
          have g0 : 0 ≤ o := by omega
          have g1 : o ≤ 20000 := by omega
          have g2 : 0 ≤ m := by omega
          have g3 : m ≤ 20000 := by omega
          have g4 : A ≤ 20000 := by omega
          rw [ho] at t1 ⊢
          rw [hm] at t2 ⊢
          have hw1 : IntKind.i64.wrap (o + 1) = o + 1 := IntWalk.i64_in _ (by omega)
          have hw2 : IntKind.i64.wrap (m + 1) = m + 1 := IntWalk.i64_in _ (by omega)
          have hw3 : IntKind.i64.wrap (max 0 (min m A - A) + 1) = max 0 (min m A - A) + 1 := IntWalk.i64_in _ (by omega)
          clear l1 l2 l3 l4 l5 l6 l7 l10
          by_cases hd : F[k] = .del
          · have hk : (opA F[k]).kind = 3 := by rw [hd]; rfl
            rw [hd] at t1 t2
            simp only at t1 t2
            rw [hk] at z0
            clear hd hk
            have T := Lib.hid (And.intro t1 t2)
            clear t1 t2
            go_wp2_with fail
            all_goals exact ⟨⟨k + 1, by rw [T.out.1], by rw [T.out.2]; simp, by rw [T.out.2]; simp, by go_num, by omega, by trivial⟩, by simp [intOf]; omega⟩
          · cases hx : F[k] with
            | del => exact absurd hx hd
            | ins c x =>
              have hk : (opA F[k]).kind = 2 := by rw [hx]; rfl
              obtain ⟨e1, e2⟩ := hold_ins HF.out hlt hx
              rw [hm, ho] at e1 e2
              rw [hx] at t1 t2
              simp only at t1 t2
              rw [hk] at z0
              have T := Lib.hid (And.intro t1 t2)
              clear hd hk t1 t2 hx
              clear e2
              by_cases c0 : m < A
              · clear e1
                have hwi : max 0 (min (m + 1) A - A) = max 0 (min m A - A) := by omega
                have HWI := Lib.hid hwi
                clear hwi
                go_wp2_with fail
                go_roundw
                case rel => exact ⟨k + 1, by rw [T.out.1]; simp, by rw [T.out.2], by rw [T.out.2, HWI.out], by go_num, by omega, by trivial⟩
                case measure => simp [intOf]; omega
              · clear e1
                have hwi : max 0 (min (m + 1) A - A) = max 0 (min m A - A) := by omega
                have HWI := Lib.hid hwi
                clear hwi
                go_wp2_with fail
                go_roundw
                case rel => exact ⟨k + 1, by rw [T.out.1]; simp, by rw [T.out.2], by rw [T.out.2, HWI.out], by go_num, by omega, by trivial⟩
                case measure => simp [intOf]; omega
            | keep x =>
              have hk : (opA F[k]).kind = 1 := by rw [hx]; rfl
              obtain ⟨e1, e2⟩ := hold_keep HF.out hlt hx
              rw [hm, ho] at e1 e2
              rw [hx] at t1 t2
              simp only at t1 t2
              rw [hk] at z0
              have T := Lib.hid (And.intro t1 t2)
              clear hd hk t1 t2 hx
              clear e2
              by_cases c0 : m < A
              · clear e1
                have hwi : max 0 (min (m + 1) A - A) = max 0 (min m A - A) := by omega
                have HWI := Lib.hid hwi
                clear hwi
                go_wp2_with fail
                go_roundw
                case rel => exact ⟨k + 1, by rw [T.out.1], by rw [T.out.2], by rw [T.out.2, HWI.out], by go_num, by omega, by trivial⟩
                case measure => simp [intOf]; omega
              · clear e1
                have hwi : max 0 (min (m + 1) A - A) = max 0 (min m A - A) := by omega
                have HWI := Lib.hid hwi
                clear hwi
                go_wp2_with fail
                go_roundw
                case rel => exact ⟨k + 1, by rw [T.out.1], by rw [T.out.2], by rw [T.out.2, HWI.out], by go_num, by omega, by trivial⟩
                case measure => simp [intOf]; omega
        · have hkn : k = F.length := by omega
          subst hkn
          rw [List.take_length, l6]
          have hwi : max 0 (min n A - A) = A - A := by omega
          rw [hwi]
          have hz0 : (A - A == 0) = true := by rw [beq_iff_eq]; have := HF.out.lost rfl; omega
          have hw1 : IntKind.i64.wrap (A - A) = A - A := IntWalk.i64_in _ (by omega)
          have hz1 : (A - A == A - A) = true := beq_self_eq_true _
          have hz2 : (true == true) = true := rfl
          clear hwi
          go_wp2_with fail
          go_ret
          exact ⟨rfl, B6.out⟩
    | false =>
      go_wp2_with fail
      refine (refAtoms_any f _ ops w5 R5.out HOK.out).mono ?_
      rintro e w6 ⟨u, rfl, o6, b1⟩
      obtain ⟨la, lc, hu⟩ := o6.row.shape
      have RO := o6.row
      rw [hu] at RO
      rw [List.length_map] at hu RO
      subst hu
      obtain ⟨F, hFF⟩ : ∃ F, F = fullA f (norm ops) := ⟨_, rfl⟩
      rw [← hFF] at HF RO ⊢
      obtain ⟨la', lc', hsh, v1, v2, v3⟩ := RO
      injection hsh with i1 i2 i3
      subst i1
      have V3 := Lib.hid v3
      have hn9 : F.length ≤ 9223372036854775807 := by have := Nat.le_trans v1 v2; rw [List.length_map] at this; exact this
      have B6 := Lib.hid (B5.out.trans (b1.mono B5.out.size))
      have Y6 := Lib.hid (heap_up8 Y5.out b1)
      have S6 := Lib.hid (heap_up8 S5.out b1)
      clear b1 o6 hFF v1 v2 v3 i2 i3 p0 p1 q0 q1 q2 s0 s1 s2
      obtain ⟨s0, s1, s2, _⟩ := cells3 S6.out
      obtain ⟨q0, q1, q2, _⟩ := cells3 Y6.out
      go_wp2_with fail
      go_loopw [12, 13, 14, 15] (fun o m wi i wr => ∃ k : Nat, o = .int .i64 (kA (F.take k) : Int) ∧ m = .int .i64 (nA (F.take k)) ∧ wi = .int .i64 (max 0 (min (nA (F.take k)) B - A)) ∧ i = .int .i64 (k : Int) ∧ k ≤ F.length ∧ w6 = wr) (fun _ _ _ i _ => F.length - (intOf i).toNat)
      case atStart => exact ⟨0, rfl, rfl, by have := HF.out.a0; have e : nA (F.take 0) = 0 := rfl; rw [e]; congr 1; omega, rfl, Nat.zero_le _, rfl⟩
      case round =>
        obtain ⟨k, rfl, rfl, rfl, rfl, hk, rfl⟩ := hrel
        obtain ⟨l1, l2, l3⟩ := kA_nA_lim F k
        have l4 := HF.out.kf
        have l5 := HF.out.f1
        have l6 := HF.out.nf
        have l7 := HF.out.n1
        have l8 := HF.out.a0
        have l9 := HF.out.ab
        have l10 := HF.out.bn
        by_cases hlt : k < F.length
        · have hlt' : (k : Int) < (F.length : Int) := by omega
          obtain ⟨t1, t2⟩ := kA_nA_take hlt
          have hlm : k < (F.map opA).length := by rw [List.length_map]; exact hlt
          obtain ⟨b, off, rfl, hbl, av, _, _, z0, _, _, _⟩ := V3.out k hlm
          rw [List.getElem_map] at z0
          obtain ⟨o, ho⟩ : ∃ o : Int, (kA (F.take k) : Int) = o := ⟨_, rfl⟩
          obtain ⟨m, hm⟩ : ∃ m, nA (F.take k) = m := ⟨_, rfl⟩
          have g0 : 0 ≤ o := by omega
          have g1 : o ≤ 20000 := by omega
          have g2 : 0 ≤ m := by omega
          have g3 : m ≤ 20000 := by omega
          have g4 : B ≤ 20000 := by omega
          rw [ho] at t1 ⊢
          rw [hm] at t2 ⊢
          have hw1 : IntKind.i64.wrap (o + 1) = o + 1 := IntWalk.i64_in _ (by omega)
          have hw2 : IntKind.i64.wrap (m + 1) = m + 1 := IntWalk.i64_in _ (by omega)
          have hw3 : IntKind.i64.wrap (max 0 (min m B - A) + 1) = max 0 (min m B - A) + 1 := IntWalk.i64_in _ (by omega)
          clear l1 l2 l3 l4 l5 l6 l7 l10
          by_cases hd : F[k] = .del
          · have hk : (opA F[k]).kind = 3 := by rw [hd]; rfl
            rw [hd] at t1 t2
            simp only at t1 t2
            rw [hk] at z0
            clear hd hk
            have T := Lib.hid (And.intro t1 t2)
            clear t1 t2
            go_wp2_with fail
            all_goals exact ⟨⟨k + 1, by rw [T.out.1], by rw [T.out.2]; simp, by rw [T.out.2]; simp, by go_num, by omega, by trivial⟩, by simp [intOf]; omega⟩
          · cases hx : F[k] with
            | del => exact absurd hx hd
            | ins c x =>
              have hk : (opA F[k]).kind = 2 := by rw [hx]; rfl
              obtain ⟨e1, e2⟩ := hold_ins HF.out hlt hx
              rw [hm, ho] at e1 e2
              rw [hx] at t1 t2
              simp only at t1 t2
              rw [hk] at z0
              have T := Lib.hid (And.intro t1 t2)
              clear hd hk t1 t2 hx
              have e2 := e2 rfl
              by_cases c0 : o ≤ rf
              · have c1 := e1.2 c0
                clear e1 e2
                have hwi : max 0 (min (m + 1) B - A) = max 0 (min m B - A) := by omega
                have HWI := Lib.hid hwi
                clear hwi
                go_wp2_with fail
                go_roundw
                case rel => exact ⟨k + 1, by rw [T.out.1]; simp, by rw [T.out.2], by rw [T.out.2, HWI.out], by go_num, by omega, by trivial⟩
                case measure => simp [intOf]; omega
              · have c1 : ¬ m < A := fun h => c0 (e1.1 h)
                by_cases c2 : o < rt
                · have c3 := e2.2 c2
                  clear e1 e2
                  have hwi : max 0 (min (m + 1) B - A) = max 0 (min m B - A) + 1 := by omega
                  have HWI := Lib.hid hwi
                  clear hwi
                  go_wp2_with fail
                  go_roundw
                  case rel => exact ⟨k + 1, by rw [T.out.1]; simp, by rw [T.out.2], by rw [T.out.2, HWI.out], by go_num, by omega, by trivial⟩
                  case measure => simp [intOf]; omega
                · have c3 : ¬ m < B := fun h => c2 (e2.1 h)
                  clear e1 e2
                  have hwi : max 0 (min (m + 1) B - A) = max 0 (min m B - A) := by omega
                  have HWI := Lib.hid hwi
                  clear hwi
                  go_wp2_with fail
                  go_roundw
                  case rel => exact ⟨k + 1, by rw [T.out.1]; simp, by rw [T.out.2], by rw [T.out.2, HWI.out], by go_num, by omega, by trivial⟩
                  case measure => simp [intOf]; omega
            | keep x =>
              have hk : (opA F[k]).kind = 1 := by rw [hx]; rfl
              obtain ⟨e1, e2⟩ := hold_keep HF.out hlt hx
              rw [hm, ho] at e1 e2
              rw [hx] at t1 t2
              simp only at t1 t2
              rw [hk] at z0
              have T := Lib.hid (And.intro t1 t2)
              clear hd hk t1 t2 hx
              have e2 := e2 rfl
              by_cases c0 : o < rf
              · have c1 := e1.2 c0
                clear e1 e2
                have hwi : max 0 (min (m + 1) B - A) = max 0 (min m B - A) := by omega
                have HWI := Lib.hid hwi
                clear hwi
                go_wp2_with fail
                go_roundw
                case rel => exact ⟨k + 1, by rw [T.out.1], by rw [T.out.2], by rw [T.out.2, HWI.out], by go_num, by omega, by trivial⟩
                case measure => simp [intOf]; omega
              · have c1 : ¬ m < A := fun h => c0 (e1.1 h)
                by_cases c2 : o < rt
                · have c3 := e2.2 c2
                  clear e1 e2
                  have hwi : max 0 (min (m + 1) B - A) = max 0 (min m B - A) + 1 := by omega
                  have HWI := Lib.hid hwi
                  clear hwi
                  go_wp2_with fail
                  go_roundw
                  case rel => exact ⟨k + 1, by rw [T.out.1], by rw [T.out.2], by rw [T.out.2, HWI.out], by go_num, by omega, by trivial⟩
                  case measure => simp [intOf]; omega
                · have c3 : ¬ m < B := fun h => c2 (e2.1 h)
                  clear e1 e2
                  have hwi : max 0 (min (m + 1) B - A) = max 0 (min m B - A) := by omega
                  have HWI := Lib.hid hwi
                  clear hwi
                  go_wp2_with fail
                  go_roundw
                  case rel => exact ⟨k + 1, by rw [T.out.1], by rw [T.out.2], by rw [T.out.2, HWI.out], by go_num, by omega, by trivial⟩
                  case measure => simp [intOf]; omega
        · have hkn : k = F.length := by omega
          subst hkn
          rw [List.take_length, l6]
          have hwi : max 0 (min n B - A) = B - A := by omega
          rw [hwi]
          have hz0 : (B - A == 0) = sl := by rw [HSL.out]; rw [Bool.eq_iff_iff, beq_iff_eq, decide_eq_true_eq]; omega
          have hw1 : IntKind.i64.wrap (B - A) = B - A := IntWalk.i64_in _ (by omega)
          have hz1 : (B - A == B - A) = true := beq_self_eq_true _
          have hz2 : (sl == sl) = true := beq_self_eq_true _
          clear hwi
          go_wp2_with fail
          go_ret
          exact ⟨rfl, B6.out⟩
  · have h1n : (mvE f ops ⟨rf, rt, rl⟩ != 0) = true := by rw [bne_iff_ne]; exact h1
    obtain ⟨e1, he1⟩ : ∃ e1, mvE f ops ⟨rf, rt, rl⟩ = e1 := ⟨_, rfl⟩
    rw [he1] at h1n
    refine (anMove_l (r := ⟨rf, rt, rl⟩) he1 (mvR_bad h1) R1.out Z.out).mono ?_
    rintro e w2 ⟨rfl, b1⟩
    have B2 := Lib.hid (B1.out.trans (b1.mono B1.out.size))
    clear b1 p0 p1 q0 q1 q2 h1 he1
    go_wp2_with fail
    go_ret
    exact ⟨rfl, B2.out.alloc B2.out.size _⟩
end Go.Proofs.Ytggjeiemofkfbaa
