/- Texts of this seat, put together: ChLongWalk. -/
import Derived.Test.YtggjeiemofkfbaaGK2
import Derived.Test.YtggjeiemofkfbaaGK1
/- The law ChangeLonger, walked. -/
namespace Go.Proofs.Ytggjeiemofkfbaa
open Go.RowKit Ch

theorem OwnOps.keep {w w' : World} {B C : Nat} {ts : List TypeId} {v : Value} {l : List OpD} (h : OwnOps w B v l) (hk : Keep C ts w w') (h1 : 40 ∉ ts) (h2 : 88 ∉ ts) : OwnOps w' B v l := by
  obtain ⟨ps, e, h⟩ := h
  exact ⟨ps, e, h.keep hk h1 h2⟩
theorem longer_ok {f by' N : Int} {ops : List OpD} (he : toE f ops = 0) (hn : toN f ops = N) (h0 : 0 ≤ by') (h1 : f + by' ≤ 20000) (h2 : N + by' ≤ 20000) : toE (f + by') ops = 0 ∧ toN (f + by') ops = N + by' := by
  have hc := (toE_iff f ops).1 he
  have hn2 := toN_ok he
  have he2 : toE (f + by') ops = 0 := (toE_iff _ _).2 ⟨by have := hc.1; omega, h1, hc.2.2.1, hc.2.2.2.1, by have := hc.2.2.2.2.1; omega, by omega⟩
  exact ⟨he2, by rw [toN_ok he2]; omega⟩
theorem toN_nonneg {f : Int} {ops : List OpD} (h : toE f ops = 0) : 0 ≤ toN f ops ∧ toN f ops ≤ 20000 := by
  have hc := (toE_iff f ops).1 h
  rw [toN_ok h]
  have h1 := dl_le_kd hc.2.2.2.1
  have h2 := ins_nonneg ops
  have h3 := hc.2.2.2.2.1
  have h4 := hc.2.2.2.2.2
  omega

set_option maxRecDepth 100000 in
set_option maxHeartbeats 4000000 in
theorem longer_walk (f : Int) (v : Value) (ops : List OpD) (k : Int) (w : World) (hv : OpRow w v ops) (hz : OSized ops) (_hk0 : -9223372036854775808 ≤ k) (_hk1 : k ≤ 9223372036854775807) :
    Calls Try.prog 8 #[chAgg f v, .int .i64 k] w (OutB w true) := by
  have Hv := Lib.hid hv
  obtain ⟨a, c, rfl⟩ := hv.shape
  obtain ⟨W, hW⟩ : ∃ W, W = w.alloc (.cells #[.int .i64 f, .slice a ops.length c] 24) := ⟨_, rfl⟩
  have BW := Lib.hid (show Below w.heap.size w W by rw [hW]; exact below_box _ _)
  have b0 : W.heap[w.heap.size]? = some (.cells #[.int .i64 f, .slice a ops.length c] 24 (0, 0)) := by rw [hW]; exact heap_new _ _
  have HW := Lib.hid hW
  have HB0 := Lib.hid b0
  have HZ := Lib.hid hz
  have HT := Lib.hid (fun W hW => to_any f (.slice a ops.length c) ops W (Hv.out.below hW) hz)
  unfold ToOut at HT
  clear hv hW b0 hz _hk0 _hk1
  by_cases he : toE f ops = 0
  · have HC := Lib.hid (fun W hW => changeClone_any f (.slice a ops.length c) ops W (Hv.out.below hW) (smallO_ok ((toE_iff f ops).1 he)))
    have HN := Lib.hid (fun W hW => normal_ok f (.slice a ops.length c) ops W (Hv.out.below hW) HZ.out he)
    have HE := Lib.hid he
    have hf0 := ((toE_iff f ops).1 he).1
    have hf1 := ((toE_iff f ops).1 he).2.1
    obtain ⟨n0, n1⟩ := toN_nonneg he
    rw [he] at HT
    obtain ⟨N, hN⟩ : ∃ N, N = toN f ops := ⟨_, rfl⟩
    rw [← hN] at HT n0 n1
    have HNN := Lib.hid hN
    clear he hN
    by_cases hb : k < 0
    · go_enter Try.func8, Try.ntmps8
      go_wp2_with fail
      rw [← HW.out]
      refine (awake_any _).mono ?_
      rintro e w1 ⟨rfl, b⟩
      have x1 := heap_of HB0.out b
      have c0 : w1.cell? ⟨w.heap.size, 0, none⟩ = some (.int .i64 f) := (Lib.cell_of_heap x1 0).trans rfl
      have c1 : w1.cell? ⟨w.heap.size, 1, none⟩ = some (.slice a ops.length c) := (Lib.cell_of_heap x1 1).trans rfl
      have B1 := Lib.hid (BW.out.trans (b.mono BW.out.size))
      clear b x1
      go_wp2_with fail
      refine (HT.out _ B1.out).mono ?_
      rintro e w2 ⟨rfl, b⟩
      have B2 := Lib.hid (B1.out.trans (b.mono B1.out.size))
      clear b c0 c1
      go_wp2_with fail
      go_ret
      exact ⟨rfl, B2.out⟩
    · have hk0 : 0 ≤ k := by omega
      go_enter Try.func8, Try.ntmps8
      go_wp2_with fail
      rw [← HW.out]
      refine (awake_any _).mono ?_
      rintro e w1 ⟨rfl, b⟩
      have x1 := heap_of HB0.out b
      have c0 : w1.cell? ⟨w.heap.size, 0, none⟩ = some (.int .i64 f) := (Lib.cell_of_heap x1 0).trans rfl
      have c1 : w1.cell? ⟨w.heap.size, 1, none⟩ = some (.slice a ops.length c) := (Lib.cell_of_heap x1 1).trans rfl
      have B1 := Lib.hid (BW.out.trans (b.mono BW.out.size))
      have HX1 := Lib.hid x1
      clear b x1
      go_wp2_with fail
      refine (HT.out _ B1.out).mono ?_
      rintro e w2 ⟨rfl, b⟩
      have x2 := heap_of HX1.out b
      have d0 : w2.cell? ⟨w.heap.size, 0, none⟩ = some (.int .i64 f) := (Lib.cell_of_heap x2 0).trans rfl
      have d1 : w2.cell? ⟨w.heap.size, 1, none⟩ = some (.slice a ops.length c) := (Lib.cell_of_heap x2 1).trans rfl
      have B2 := Lib.hid (B1.out.trans (b.mono B1.out.size))
      have HX2 := Lib.hid x2
      clear b x2 c0 c1 hb
      go_wp2_with fail
      · go_ret
        exact ⟨rfl, B2.out⟩
      · skip
        have hk1 : N + k ≤ 20000 := by omega
        have hk2 : f + k ≤ 20000 := by omega
        obtain ⟨L1, L2⟩ := longer_ok HE.out HNN.out.symm hk0 hk2 hk1
        have L1 := Lib.hid L1
        have L2 := Lib.hid L2

        refine (HC.out _ B2.out).mono ?_
        rintro e w3 ⟨v3, rfl, O3, b⟩
        obtain ⟨a3, k3, rfl⟩ := O3.row.shape
        have x3 := heap_of HX2.out b
        have lt3 : w.heap.size < w3.heap.size := lt_of_heap x3
        obtain ⟨S, hS⟩ : ∃ S, S = w3.alloc (.cells #[.int .i64 (f + k), .slice a3 ops.length k3] 24) := ⟨_, rfl⟩
        have KS : Below w3.heap.size w3 S := by rw [hS]; exact below_box _ _
        have sA : S.heap[w3.heap.size]? = some (.cells #[.int .i64 (f + k), .slice a3 ops.length k3] 24 (0, 0)) := by rw [hS]; exact heap_new _ _
        have sC := heap_of x3 KS
        have RS := O3.row.below KS
        have B3 := B2.out.trans (b.mono B2.out.size)
        have BS := Lib.hid (B3.trans (KS.mono B3.size))
        have HT2 := Lib.hid (to_ok (f + k) (N + k) _ ops S RS HZ.out L1.out L2.out)
        have RS := Lib.hid RS
        have HSA := Lib.hid sA
        have HSC := Lib.hid sC
        have d3 : w3.cell? ⟨w.heap.size, 0, none⟩ = some (.int .i64 f) := (Lib.cell_of_heap x3 0).trans rfl
        have HS := Lib.hid hS
        clear O3 b x3 hS KS sA sC B3 d0 d1
        go_wp2_with fail
        rw [← HS.out]
        refine HT2.out.mono ?_
        rintro e w5 ⟨rfl, b⟩
        have x5 := heap_of HSC.out b
        have x5d := heap_of HSA.out b
        have lt5 : w.heap.size < w5.heap.size := lt_of_heap x5
        have f0 : w5.cell? ⟨w.heap.size, 0, none⟩ = some (.int .i64 f) := (Lib.cell_of_heap x5 0).trans rfl
        have f1 : w5.cell? ⟨w.heap.size, 1, none⟩ = some (.slice a ops.length c) := (Lib.cell_of_heap x5 1).trans rfl
        have B5 := Lib.hid (BS.out.trans (b.mono BS.out.size))
        have R5 := Lib.hid (RS.out.below b)
        have HX5 := Lib.hid x5d
        obtain ⟨l, hl⟩ : ∃ l, l = norm ops := ⟨_, rfl⟩
        rw [← hl] at HN
        have HL := Lib.hid hl
        clear b x5 x5d d3 hl
        go_wp2_with fail
        refine (HN.out _ B5.out).mono ?_
        rintro e w6 ⟨v6, rfl, O6, b⟩
        obtain ⟨a6, k6, rfl⟩ := O6.row.shape
        have x6 := heap_of HX5.out b
        have lt6 : w.heap.size < w6.heap.size := by have := b.size; omega
        have lt63 : w3.heap.size < w6.heap.size := lt_of_heap x6
        have B6 := Lib.hid (B5.out.trans (b.mono B5.out.size))
        obtain ⟨X, hX⟩ : ∃ X, X = w6.alloc (.cells #[.int .i64 f, .slice a6 l.length k6] 24) := ⟨_, rfl⟩
        have BX := Lib.hid (show Below w6.heap.size w6 X by rw [hX]; exact below_box _ _)
        have xA : X.heap[w6.heap.size]? = some (.cells #[.int .i64 f, .slice a6 l.length k6] 24 (0, 0)) := by rw [hX]; exact heap_new _ _
        have xD := heap_of x6 BX.out
        have g0 : w6.cell? ⟨w3.heap.size, 0, none⟩ = some (.int .i64 (f + k)) := (Lib.cell_of_heap x6 0).trans rfl
        have g1 : w6.cell? ⟨w3.heap.size, 1, none⟩ = some (.slice a3 ops.length k3) := (Lib.cell_of_heap x6 1).trans rfl
        have HXA := Lib.hid xA
        have HXD := Lib.hid xD
        have HX := Lib.hid hX
        have BWX := Lib.hid (B6.out.trans (BX.out.mono B6.out.size))
        have O6 := Lib.hid O6
        have HN2 := normal_ok (f + k) _ ops X ((R5.out.below b).below BX.out) HZ.out L1.out
        rw [← HL.out] at HN2
        have HN2 := Lib.hid HN2
        have ltX : w6.heap.size < X.heap.size := lt_of_heap xA
        clear b x6 hX xA xD f0 f1
        go_wp2_with fail
        rw [← HX.out]
        refine HN2.out.mono ?_
        rintro e w7 ⟨v7, rfl, O7, b⟩
        obtain ⟨a7, k7, rfl⟩ := O7.row.shape
        have x7 := heap_of HXA.out b
        have x7d := heap_of HXD.out b
        have lt7 : w6.heap.size < w7.heap.size := lt_of_heap x7
        obtain ⟨T, hT⟩ : ∃ T, T = (w7.setCell ⟨w6.heap.size, 0, none⟩ (.int .i64 (f + k))).alloc (.cells #[.int .i64 (f + k), .slice a7 l.length k7] 24) := ⟨_, rfl⟩
        have KU : Keep w.heap.size [24] w7 (w7.setCell ⟨w6.heap.size, 0, none⟩ (.int .i64 (f + k))) := keep_set x7 (by simp) (by omega) _ rfl _
        have K67 : Keep w.heap.size [24] w6 w7 := (keep_below BX.out (by omega)).trans (keep_below b (by omega))
        have K7T : Keep w.heap.size [24] w7 T := by
          rw [hT]
          exact KU.trans (keep_below (below_box _ _) (by simp [World.setCell]; omega))
        have R6 := (O6.out.keep (K67.trans K7T) (by decide) (by decide)).row
        have R7 := (O7.keep K7T (by decide) (by decide)).row
        have HSM := Lib.hid (same_ok (f + k) _ _ l T R6 R7)
        have BT := Lib.hid (B6.out.trans (K67.trans K7T).below)
        have h0 : w7.cell? ⟨w3.heap.size, 0, none⟩ = some (.int .i64 (f + k)) := (Lib.cell_of_heap x7d 0).trans rfl
        have h1 : w7.cell? ⟨w6.heap.size, 0, none⟩ = some (.int .i64 f) := (Lib.cell_of_heap x7 0).trans rfl
        have h3 : w7.cell? ⟨w6.heap.size, 1, none⟩ = some (.slice a6 l.length k6) := (Lib.cell_of_heap x7 1).trans rfl
        have h2 : w7.frozen? ⟨w6.heap.size, 0, none⟩ = false := Lib.frozen_of_heap x7 0
        have lt73 : w3.heap.size < w7.heap.size := by omega
        have ne76 : w7.heap.size ≠ w6.heap.size := by omega
        have ne67 : w6.heap.size ≠ w7.heap.size := by omega
        have HTT := Lib.hid hT
        clear b x7 x7d hT KU K67 K7T R6 R7 O7 g0 g1
        go_wp2_with fail
        rw [← HTT.out]
        refine HSM.out.mono ?_
        rintro e w8 ⟨rfl, b⟩
        have B8 := Lib.hid (BT.out.trans (b.mono BT.out.size))
        clear b
        go_wp2_with fail
        go_ret
        exact ⟨rfl, B8.out⟩
  · have t1 : (toE f ops != 0) = true := by rw [bne_iff_ne]; exact he
    clear he
    generalize toE f ops = E at *
    generalize toN f ops = N at *
    go_enter Try.func8, Try.ntmps8
    go_wp2_with fail
    rw [← HW.out]
    refine (awake_any _).mono ?_
    rintro e w1 ⟨rfl, b⟩
    have x1 := heap_of HB0.out b
    have c0 : w1.cell? ⟨w.heap.size, 0, none⟩ = some (.int .i64 f) := (Lib.cell_of_heap x1 0).trans rfl
    have c1 : w1.cell? ⟨w.heap.size, 1, none⟩ = some (.slice a ops.length c) := (Lib.cell_of_heap x1 1).trans rfl
    have B1 := Lib.hid (BW.out.trans (b.mono BW.out.size))
    clear b x1
    go_wp2_with fail
    refine (HT.out _ B1.out).mono ?_
    rintro e w2 ⟨rfl, b⟩
    have B2 := Lib.hid (B1.out.trans (b.mono B1.out.size))
    clear b c0 c1
    go_wp2_with fail
    go_ret
    exact ⟨rfl, B2.out⟩
end Go.Proofs.Ytggjeiemofkfbaa
