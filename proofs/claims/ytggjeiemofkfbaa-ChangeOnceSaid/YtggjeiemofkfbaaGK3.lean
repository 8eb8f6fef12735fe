/- Texts of this seat, put together: ChOnceWalk. -/
import Derived.Test.YtggjeiemofkfbaaGK2
/- The law ChangeOnce, walked. -/
namespace Go.Proofs.Ytggjeiemofkfbaa
open Go.RowKit Ch

theorem osized_ok {f : Int} {ops : List OpD} (h : OkC f ops) : OSized ops := fun o ho => by
  have hv := vop_of h ho
  have ht := hv.text
  exact ⟨by unfold maxLen; omega, hv.attrs.sized⟩
/-- What the normal form of a right changeset is. -/
structure Nrm (f N : Int) (l : List OpD) : Prop where
  ok : toE f l = 0
  len : toN f l = N
  once : norm l = l
  sized : OSized l
  is : isB f l = true
  next : ∀ i (hi : i + 1 < l.length), l[i].kind = 3 → l[i + 1].kind = 1
  last : ∀ k (hk : k < l.length), k + 1 = l.length → ¬ (l[k].kind = 1 ∧ l[k].attrs.length = 0)
  small : l.length ≤ 2000
theorem nrm_of {f : Int} {ops : List OpD} (h : toE f ops = 0) : Nrm f (toN f ops) (norm ops) := by
  have hc := (toE_iff f ops).1 h
  obtain ⟨h1, h2⟩ := norm_to h
  have hn := (norm_ok hc).1
  exact ⟨h1, h2, norm_norm hc, osized_ok hn, decide_eq_true ⟨h1, (norm_norm hc).symm⟩, fun i hi => norm_at hc.2.2.2.1 i hi, fun k hk hl => norm_last hc.2.2.2.1 k hk hl, hn.2.2.1⟩

set_option maxRecDepth 100000 in
set_option maxHeartbeats 4000000 in
theorem once_bad (f : Int) (v : Value) (ops : List OpD) (w : World) (hv : OpRow w v ops) (hz : OSized ops) (he : toE f ops ≠ 0) :
    Calls Try.prog 5 #[chAgg f v] w (OutB w true) := by
  have Hv := Lib.hid hv
  obtain ⟨a, c, rfl⟩ := hv.shape
  have HN := Lib.hid (fun W hW => normal_bad f (.slice a ops.length c) ops W (Hv.out.below hW) hz he)
  have HT := Lib.hid (fun W hW => to_any f (.slice a ops.length c) ops W (Hv.out.below hW) hz)
  unfold ToOut at HT
  have t1 : (toE f ops != 0) = true := by rw [bne_iff_ne]; exact he
  generalize toE f ops = E at *
  generalize toN f ops = N at *
  obtain ⟨W, hW⟩ : ∃ W, W = w.alloc (.cells #[.int .i64 f, .slice a ops.length c] 24) := ⟨_, rfl⟩
  have BW := Lib.hid (show Below w.heap.size w W by rw [hW]; exact below_box _ _)
  have b0 : W.heap[w.heap.size]? = some (.cells #[.int .i64 f, .slice a ops.length c] 24 (0, 0)) := by rw [hW]; exact heap_new _ _
  have HW := Lib.hid hW
  have HB0 := Lib.hid b0
  clear hv hz he hW b0
  go_enter Try.func5, Try.ntmps5
  go_wp2_with fail
  rw [← HW.out]
  refine (awake_any _).mono ?_
  rintro e w1 ⟨rfl, b⟩
  have x1 := heap_of HB0.out b
  have c0 : w1.cell? ⟨w.heap.size, 0, none⟩ = some (.int .i64 f) := (Lib.cell_of_heap x1 0).trans rfl
  have c1 : w1.cell? ⟨w.heap.size, 1, none⟩ = some (.slice a ops.length c) := (Lib.cell_of_heap x1 1).trans rfl
  have B1 := Lib.hid (BW.out.trans (b.mono BW.out.size))
  have HX1 := Lib.hid x1
  clear b x1
  go_wp2_with fail
  refine (HN.out _ B1.out).mono ?_
  rintro e w2 ⟨rfl, b⟩
  have x2 := heap_of HX1.out b
  have d0 : w2.cell? ⟨w.heap.size, 0, none⟩ = some (.int .i64 f) := (Lib.cell_of_heap x2 0).trans rfl
  have d1 : w2.cell? ⟨w.heap.size, 1, none⟩ = some (.slice a ops.length c) := (Lib.cell_of_heap x2 1).trans rfl
  have lt2 : w.heap.size < w2.heap.size := lt_of_heap x2
  have B2 := Lib.hid (B1.out.trans (b.mono B1.out.size))
  obtain ⟨Y, hY⟩ : ∃ Y, Y = w2.alloc (.cells #[.int .i64 0, .slice none 0 0] 24) := ⟨_, rfl⟩
  have BY := Lib.hid (show Below w2.heap.size w2 Y by rw [hY]; exact below_box _ _)
  have yA : Y.heap[w2.heap.size]? = some (.cells #[.int .i64 0, .slice none 0 0] 24 (0, 0)) := by rw [hY]; exact heap_new _ _
  have HYA := Lib.hid yA
  have HY := Lib.hid hY
  have B2Y := Lib.hid (B2.out.trans (BY.out.mono B2.out.size))
  clear b x2 hY yA c0 c1
  go_wp2_with fail
  rw [← HY.out]
  go_wp2_with fail
  refine (HT.out _ B2Y.out).mono ?_
  rintro e w3 ⟨rfl, b⟩
  have x3 := heap_of HYA.out b
  have e0 : w3.cell? ⟨w2.heap.size, 0, none⟩ = some (.int .i64 0) := (Lib.cell_of_heap x3 0).trans rfl
  have e1 : w3.cell? ⟨w2.heap.size, 1, none⟩ = some (.slice none 0 0) := (Lib.cell_of_heap x3 1).trans rfl
  have B3 := Lib.hid (B2Y.out.trans (b.mono B2Y.out.size))
  clear b x3 d0 d1
  go_wp2_with fail
  go_ret
  exact ⟨rfl, B3.out⟩

set_option maxRecDepth 100000 in
set_option maxHeartbeats 8000000 in
theorem once_ok (f : Int) (v : Value) (ops : List OpD) (w : World) (hv : OpRow w v ops) (hz : OSized ops) (he : toE f ops = 0) :
    Calls Try.prog 5 #[chAgg f v] w (OutB w true) := by
  have Hv := Lib.hid hv
  obtain ⟨a, c, rfl⟩ := hv.shape
  have HN := Lib.hid (fun W hW => normal_ok f (.slice a ops.length c) ops W (Hv.out.below hW) hz he)
  have HT := Lib.hid (fun W hW => to_ok f (toN f ops) (.slice a ops.length c) ops W (Hv.out.below hW) hz he rfl)
  have HR := Lib.hid (nrm_of he)
  generalize toN f ops = N at *
  generalize norm ops = l at *
  have hls : l.length ≤ 2000 := HR.out.small
  obtain ⟨W, hW⟩ : ∃ W, W = w.alloc (.cells #[.int .i64 f, .slice a ops.length c] 24) := ⟨_, rfl⟩
  have BW := Lib.hid (show Below w.heap.size w W by rw [hW]; exact below_box _ _)
  have b0 : W.heap[w.heap.size]? = some (.cells #[.int .i64 f, .slice a ops.length c] 24 (0, 0)) := by rw [hW]; exact heap_new _ _
  have HW := Lib.hid hW
  have HB0 := Lib.hid b0
  clear hv hz he hW b0
  go_enter Try.func5, Try.ntmps5
  go_wp2_with fail
  rw [← HW.out]
  refine (awake_any _).mono ?_
  rintro e w1 ⟨rfl, b⟩
  have x1 := heap_of HB0.out b
  have c0 : w1.cell? ⟨w.heap.size, 0, none⟩ = some (.int .i64 f) := (Lib.cell_of_heap x1 0).trans rfl
  have c1 : w1.cell? ⟨w.heap.size, 1, none⟩ = some (.slice a ops.length c) := (Lib.cell_of_heap x1 1).trans rfl
  have B1 := Lib.hid (BW.out.trans (b.mono BW.out.size))
  have HX1 := Lib.hid x1
  clear b x1
  go_wp2_with fail
  refine (HN.out _ B1.out).mono ?_
  rintro e w2 ⟨v2, rfl, O2, b⟩
  obtain ⟨a2, k2, rfl⟩ := O2.row.shape
  have x2 := heap_of HX1.out b
  have d0 : w2.cell? ⟨w.heap.size, 0, none⟩ = some (.int .i64 f) := (Lib.cell_of_heap x2 0).trans rfl
  have d1 : w2.cell? ⟨w.heap.size, 1, none⟩ = some (.slice a ops.length c) := (Lib.cell_of_heap x2 1).trans rfl
  have lt2 : w.heap.size < w2.heap.size := lt_of_heap x2
  have B2 := Lib.hid (B1.out.trans (b.mono B1.out.size))
  obtain ⟨Y, hY⟩ : ∃ Y, Y = w2.alloc (.cells #[.int .i64 f, .slice a2 l.length k2] 24) := ⟨_, rfl⟩
  have BY := Lib.hid (show Below w2.heap.size w2 Y by rw [hY]; exact below_box _ _)
  have yA : Y.heap[w2.heap.size]? = some (.cells #[.int .i64 f, .slice a2 l.length k2] 24 (0, 0)) := by rw [hY]; exact heap_new _ _
  have HYA := Lib.hid yA
  have HY := Lib.hid hY
  have B2Y := Lib.hid (B2.out.trans (BY.out.mono B2.out.size))
  have OY := Lib.hid (O2.row.below BY.out)
  clear b x2 hY yA c0 c1 O2
  go_wp2_with fail
  rw [← HY.out]
  go_wp2_with fail
  refine (HT.out _ B2Y.out).mono ?_
  rintro e w3 ⟨rfl, b⟩
  have x3 := heap_of HYA.out b
  have e0 : w3.cell? ⟨w2.heap.size, 0, none⟩ = some (.int .i64 f) := (Lib.cell_of_heap x3 0).trans rfl
  have e1 : w3.cell? ⟨w2.heap.size, 1, none⟩ = some (.slice a2 l.length k2) := (Lib.cell_of_heap x3 1).trans rfl
  have B3 := Lib.hid (B2Y.out.trans (b.mono B2Y.out.size))
  have O3 := Lib.hid (OY.out.below b)
  have HX3 := Lib.hid x3
  have HN3 := normal_ok f _ l w3 O3.out HR.out.sized HR.out.ok
  rw [HR.out.once] at HN3
  have HN3 := Lib.hid HN3
  clear b x3 d0 d1
  go_wp2_with fail
  refine HN3.out.mono ?_
  rintro e w4 ⟨v4, rfl, O4, b⟩
  obtain ⟨a4, k4, rfl⟩ := O4.row.shape
  have x4 := heap_of HX3.out b
  have f0 : w4.cell? ⟨w2.heap.size, 0, none⟩ = some (.int .i64 f) := (Lib.cell_of_heap x4 0).trans rfl
  have f1 : w4.cell? ⟨w2.heap.size, 1, none⟩ = some (.slice a2 l.length k2) := (Lib.cell_of_heap x4 1).trans rfl
  have lt4 : w2.heap.size < w4.heap.size := lt_of_heap x4
  have B4 := Lib.hid (B3.out.trans (b.mono B3.out.size))
  obtain ⟨Z, hZ⟩ : ∃ Z, Z = w4.alloc (.cells #[.int .i64 f, .slice a4 l.length k4] 24) := ⟨_, rfl⟩
  have BZ := Lib.hid (show Below w4.heap.size w4 Z by rw [hZ]; exact below_box _ _)
  have zA : Z.heap[w4.heap.size]? = some (.cells #[.int .i64 f, .slice a4 l.length k4] 24 (0, 0)) := by rw [hZ]; exact heap_new _ _
  have HZA := Lib.hid zA
  have HZY := Lib.hid (heap_of x4 BZ.out)
  have HZ := Lib.hid hZ
  have B4Z := Lib.hid (B4.out.trans (BZ.out.mono B4.out.size))
  have OZ4 := Lib.hid (O4.row.below BZ.out)
  have OZ2 := Lib.hid ((O3.out.below b).below BZ.out)
  clear b x4 hZ zA e0 e1 O4
  go_wp2_with fail
  rw [← HZ.out]
  go_wp2_with fail
  refine (to_ok f N _ l Z OZ2.out HR.out.sized HR.out.ok HR.out.len).mono ?_
  rintro e w5 ⟨rfl, b⟩
  have x5 := heap_of HZA.out b
  have x5y := heap_of HZY.out b
  have g0 : w5.cell? ⟨w4.heap.size, 0, none⟩ = some (.int .i64 f) := (Lib.cell_of_heap x5 0).trans rfl
  have g1 : w5.cell? ⟨w4.heap.size, 1, none⟩ = some (.slice a4 l.length k4) := (Lib.cell_of_heap x5 1).trans rfl
  have g2 : w5.cell? ⟨w2.heap.size, 0, none⟩ = some (.int .i64 f) := (Lib.cell_of_heap x5y 0).trans rfl
  have g3 : w5.cell? ⟨w2.heap.size, 1, none⟩ = some (.slice a2 l.length k2) := (Lib.cell_of_heap x5y 1).trans rfl
  have B5 := Lib.hid (B4Z.out.trans (b.mono B4Z.out.size))
  have O5 := Lib.hid (OZ2.out.below b)
  have HSM := Lib.hid (same_ok f _ _ l w5 O5.out (OZ4.out.below b))
  have HX5 := Lib.hid x5y
  clear b x5 x5y f0 f1
  go_wp2_with fail
  refine HSM.out.mono ?_
  rintro e w6 ⟨rfl, b⟩
  have x6 := heap_of HX5.out b
  have h0 : w6.cell? ⟨w2.heap.size, 0, none⟩ = some (.int .i64 f) := (Lib.cell_of_heap x6 0).trans rfl
  have h1 : w6.cell? ⟨w2.heap.size, 1, none⟩ = some (.slice a2 l.length k2) := (Lib.cell_of_heap x6 1).trans rfl
  have B6 := Lib.hid (B5.out.trans (b.mono B5.out.size))
  have O6 := Lib.hid (O5.out.below b)
  have HX6 := Lib.hid x6
  have HIS := is_any f _ l w6 O6.out HR.out.sized
  rw [HR.out.is] at HIS
  have HIS := Lib.hid HIS
  clear b x6 g0 g1 g2 g3
  go_wp2_with fail
  refine HIS.out.mono ?_
  rintro e w7 ⟨rfl, b⟩
  have x7 := heap_of HX6.out b
  have i1 : w7.cell? ⟨w2.heap.size, 1, none⟩ = some (.slice a2 l.length k2) := (Lib.cell_of_heap x7 1).trans rfl
  have B7 := Lib.hid (B6.out.trans (b.mono B6.out.size))
  have O7 := O6.out.below b
  clear b x7 h0 h1
  obtain ⟨a', cap', he, v1, v2, v3⟩ := O7
  simp only [Value.slice.injEq, true_and] at he
  obtain ⟨rfl, rfl⟩ := he
  have V3 := Lib.hid v3
  clear v1 v2 v3
  go_wp2_with fail
  go_loopw [14] (fun i wr => ∃ n : Nat, i = .int .i64 (n : Int) ∧ 1 ≤ n ∧ n ≤ 2001 ∧ wr = w7) (fun i _ => 2001 - (intOf i).toNat)
  case atStart => exact ⟨1, rfl, Nat.le_refl _, by omega, rfl⟩
  case round =>
    obtain ⟨n, rfl, hn0, hn1, rfl⟩ := hrel
    by_cases hlt : n < l.length
    · have hlt' : (n : Int) < (l.length : Int) := by omega
      have j1 : 0 ≤ (n : Int) - 1 := by omega
      have j2 : (n : Int) - 1 < (l.length : Int) := by omega
      obtain ⟨b, off, rfl, _, av, _, _, x0, _⟩ := V3.out n hlt
      obtain ⟨b', off', hbo, _, av', _, _, y0, _⟩ := V3.out (n - 1) (by omega)
      simp only [Option.some.injEq, Addr.mk.injEq, and_true] at hbo
      obtain ⟨rfl, rfl⟩ := hbo
      have hnx := HR.out.next (n - 1) (by omega)
      have en : n - 1 + 1 = n := by omega
      simp only [en] at hnx
      obtain ⟨p, hp⟩ : ∃ p, p = l[n - 1].kind := ⟨_, rfl⟩
      obtain ⟨q, hq⟩ : ∃ q, q = l[n].kind := ⟨_, rfl⟩
      rw [← hp] at y0 hnx
      rw [← hq] at x0 hnx
      clear hp hq en
      by_cases hp3 : p = 3
      · have hq1 := hnx hp3
        have t1 : (p == 3) = true := by rw [hp3]; rfl
        have t2 : (q != 1) = false := by rw [hq1]; rfl
        clear hnx hp3 hq1
        go_wp2_with fail
        go_roundw
        case rel => exact ⟨n + 1, by go_num, by omega, by omega, by trivial⟩
        case measure => simp [intOf]; omega
      · have t1 : (p == 3) = false := by rw [beq_eq_false_iff_ne]; exact hp3
        clear hnx hp3
        go_wp2_with fail
        go_roundw
        case rel => exact ⟨n + 1, by go_num, by omega, by omega, by trivial⟩
        case measure => simp [intOf]; omega
    · have t1 : decide ((n : Int) < (l.length : Int)) = false := decide_eq_false (by omega)
      have t2 : decide (n < l.length) = false := decide_eq_false (by omega)
      by_cases hl0 : l.length = 0
      · have hl1 : l = [] := List.length_eq_zero_iff.1 hl0
        subst hl1
        clear hlt hl0
        go_wp2_with fail
        go_ret
        exact ⟨rfl, B7.out⟩
      · obtain ⟨b, off, rfl, y1, av, r0, y2, x0, y3, y4, x3⟩ := V3.out (l.length - 1) (by omega)
        obtain ⟨xa, xc, rfl⟩ := r0.shape
        obtain ⟨p, hp⟩ : ∃ p, p = l[l.length - 1]'(by omega) := ⟨_, rfl⟩
        have hla : ¬ (p.kind = 1 ∧ p.attrs.length = 0) := by rw [hp]; exact HR.out.last (l.length - 1) (by omega) (by omega)
        rw [← hp] at x0 x3
        have i2 : (l.length : Int) - 1 < (l.length : Int) := by omega
        have i3 : decide ((l.length : Int) - 1 < 0) = false := decide_eq_false (by omega)
        have i4 : (0 : Int) ≤ (l.length : Int) - 1 := by omega
        have i5 : 1 ≤ l.length := by omega
        have i6 : ((l.length : Int) - 1).toNat = l.length - 1 := by omega
        clear y2 y3 y4 hp r0
        clear hlt hl0
        by_cases hk : p.kind = 1
        · have ha : p.attrs.length ≠ 0 := fun h => hla ⟨hk, h⟩
          have s1 : (p.kind != 1) = false := by rw [hk]; rfl
          have s2 : decide ((0 : Int) < (p.attrs.length : Int)) = true := decide_eq_true (by omega)
          have s3 : decide (0 < p.attrs.length) = true := decide_eq_true (by omega)
          have s4 : 0 < p.attrs.length := by omega
          clear hla hk ha
          go_wp2_with fail
          go_ret
          exact ⟨rfl, B7.out⟩
        · have s1 : (p.kind != 1) = true := by rw [bne_iff_ne]; exact hk
          clear hla hk
          go_wp2_with fail
          go_ret
          exact ⟨rfl, B7.out⟩

theorem once_walk (f : Int) (v : Value) (ops : List OpD) (w : World) (hv : OpRow w v ops) (hz : OSized ops) :
    Calls Try.prog 5 #[chAgg f v] w (OutB w true) := by
  by_cases he : toE f ops = 0
  · exact once_ok f v ops w hv hz he
  · exact once_bad f v ops w hv hz he
end Go.Proofs.Ytggjeiemofkfbaa
