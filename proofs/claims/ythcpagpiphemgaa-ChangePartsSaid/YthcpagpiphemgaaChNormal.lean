/- The program's Normal. -/
import Derived.Test.YthcpagpiphemgaaChEnd
import Derived.Test.YthcpagpiphemgaaChLim
import Derived.Test.YthcpagpiphemgaaChTo
namespace Go.Proofs.Ythcpagpiphemgaa
open Go.RowKit Ch

def NormOut (w : World) (f : Int) (ops : List OpD) (e : Ending) (w' : World) : Prop :=
  (toE f ops ≠ 0 ∧ e = .returned (.tuple #[chAgg 0 (.slice none 0 0), .int .i64 (toE f ops)]) ∧ Below w.heap.size w w') ∨
  (toE f ops = 0 ∧ ∃ v, e = .returned (.tuple #[chAgg f v, .int .i64 0]) ∧ OwnOps w' w.heap.size v (norm ops) ∧ Below w.heap.size w w')

set_option maxRecDepth 100000 in
set_option maxHeartbeats 4000000 in
theorem normal_any (f : Int) (v : Value) (ops : List OpD) (w : World) (hv : OpRow w v ops) (hz : OSized ops) :
    Calls Try.prog 20 #[chAgg f v] w (NormOut w f ops) := by
  have Hv := Lib.hid hv
  have Hz := Lib.hid hz
  obtain ⟨aa, acap, rfl, v1, v2, v3⟩ := hv
  have V3 := Lib.hid v3
  have hn : ops.length ≤ 9223372036854775807 := Nat.le_trans v1 v2
  obtain ⟨W, hW⟩ : ∃ W, W = (w.alloc (.cells #[.int .i64 f, .slice aa ops.length acap] 24)).alloc (.cells #[.int .i64 0, .slice none 0 0] 24) := ⟨_, rfl⟩
  have BW := Lib.hid (show Below w.heap.size w W by rw [hW]; exact ((Below.refl _ _).alloc (Nat.le_refl _) _).alloc (by simp) _)
  have c0 : W.cell? ⟨w.heap.size, 0, none⟩ = some (.int .i64 f) := by rw [hW]; go_simp
  have c1 : W.cell? ⟨w.heap.size, 1, none⟩ = some (.slice aa ops.length acap) := by rw [hW]; go_simp
  have r0 : W.heap[w.heap.size + 1]? = some (.cells #[.int .i64 0, .slice none 0 0] 24 (0, 0)) := by
    rw [hW]
    have := heap_new (w.alloc (.cells #[.int .i64 f, .slice aa ops.length acap] 24)) (.cells #[.int .i64 0, .slice none 0 0] 24)
    simpa using this
  have b0 : W.heap[w.heap.size]? = some (.cells #[.int .i64 f, .slice aa ops.length acap] 24 (0, 0)) := by
    rw [hW, Below.heap_alloc _ _ _ (by simp)]
    exact heap_new _ _
  have HW := Lib.hid hW
  have hlW : w.heap.size + 2 = W.heap.size := by rw [hW]; simp
  have HR := Lib.hid (changeRight_any f _ ops W (Hv.out.below BW.out) hz)
  have HR0 := Lib.hid r0
  have HB0 := Lib.hid b0
  clear hz hW v1 v2 v3 r0 b0
  by_cases he : toE f ops = 0
  · have hok := (toE_iff f ops).1 he
    have HOK := Lib.hid hok
    have HE := Lib.hid he
    have hl2 : ops.length ≤ 2000 := hok.2.2.1
    rw [he] at HR
    clear he hok
    go_enter Try.func20, Try.ntmps20
    go_wp2_with fail
    rw [← HW.out]
    go_wp2_with fail
    refine HR.out.mono ?_
    rintro e w1 ⟨rfl, b1⟩
    have hlt0 : w.heap.size < W.heap.size := by omega
    have c1' : w1.cell? ⟨w.heap.size, 1, none⟩ = some (.slice aa ops.length acap) := (b1.cell (by exact hlt0)).trans c1
    have HB1 := Lib.hid b1
    have hs1 := b1.size
    have hlt1 : w.heap.size < w1.heap.size := by omega
    clear b1 c0 c1
    go_wp2_with fail
    go_loopw [17] (fun i wr => ∃ (k : Nat) (ov : Value), i = .int .i64 (k : Int) ∧ k ≤ ops.length ∧ NSt wr w.heap.size w1.heap.size ov (fold (ops.take k)).1 (fold (ops.take k)).2 ∧ Keep w.heap.size TS W wr) (fun i _ => ops.length - (intOf i).toNat)
    case atStart =>
      refine ⟨0, .slice none 0 0, rfl, Nat.zero_le _, ⟨[], .pointer none, .slice none 0 0, [], ?_, .inl rfl, ⟨World.ownsRow_nil _ _ _ _, fun p hp => by cases hp⟩, holds8_nil _ _, .inl ⟨rfl, rfl, rfl⟩⟩, ?_⟩
      · exact heap_new _ _
      · exact (keep_below HB1.out BW.out.size).trans (keep_below (below_box _ _) (by omega))
    case round =>
      obtain ⟨k, ov, rfl, hk, hN, hK⟩ := hrel
      have HN := Lib.hid hN
      have HK := Lib.hid hK
      by_cases hlt : k < ops.length
      · have hlt' : (k : Int) < (ops.length : Int) := by omega
        obtain ⟨b, off, rfl, hbl, av, q0, _, x0, x1, x2, x3⟩ := V3.out k hlt
        have hvo := vop_of HOK.out (List.getElem_mem hlt)
        have hfs : fold (ops.take (k + 1)) = add (fold (ops.take k)) ops[k] := by rw [List.take_succ_eq_append_getElem hlt, fold_snoc]
        obtain ⟨L1, L2⟩ := lim_fold HOK.out k (by omega)
        have hfit := fitsS_of L1 L2 hvo (by omega)
        obtain ⟨o, ho⟩ : ∃ o, o = ops[k] := ⟨_, rfl⟩
        rw [← ho] at q0 x0 x1 x2 hfs hfit
        obtain ⟨ar, cr, rfl⟩ := q0.shape
        have BK : Below w.heap.size w wr := BW.out.trans hK.below
        have y0 : wr.cell? ⟨b, off + k * 4, none⟩ = some (.int .i64 o.kind) := (BK.cell (by exact hbl)).trans x0
        have y1 : wr.cell? ⟨b, off + k * 4 + 1, none⟩ = some (.int .i64 o.n) := (BK.cell (by exact hbl)).trans x1
        have y2 : wr.cell? ⟨b, off + k * 4 + 2, none⟩ = some (.string o.text) := (BK.cell (by exact hbl)).trans x2
        have y3 : wr.cell? ⟨b, off + k * 4 + 3, none⟩ = some (.slice ar o.attrs.length cr) := (BK.cell (by exact hbl)).trans x3
        obtain ⟨X, hX⟩ : ∃ X, X = wr.alloc (.cells #[.int .i64 o.kind, .int .i64 o.n, .string o.text, .slice ar o.attrs.length cr] 40) := ⟨_, rfl⟩
        have BX : Below wr.heap.size wr X := by rw [hX]; exact below_box _ _
        have d0 : X.cell? ⟨wr.heap.size, 0, none⟩ = some (.int .i64 o.kind) := by rw [hX]; go_simp
        have d1 : X.cell? ⟨wr.heap.size, 1, none⟩ = some (.int .i64 o.n) := by rw [hX]; go_simp
        have d2 : X.cell? ⟨wr.heap.size, 2, none⟩ = some (.string o.text) := by rw [hX]; go_simp
        have d3 : X.cell? ⟨wr.heap.size, 3, none⟩ = some (.slice ar o.attrs.length cr) := by rw [hX]; go_simp
        have HX := Lib.hid hX
        have HC := Lib.hid (add_any w.heap.size w1.heap.size ov (fold (ops.take k)) o (.slice ar o.attrs.length cr) X (hN.below BX) (by omega) hfit (fun w' hb => q0.below (BK.trans ((BX.mono BK.size).trans hb))))
        have HKX := Lib.hid (hK.trans (keep_below (B := w.heap.size) (ts := TS) BX BK.size))
        have HFS := Lib.hid hfs
        clear hN hK q0 x0 x1 x2 x3 hvo hfs L1 L2 hfit ho BK BX hX
        go_wp2_with fail
        rw [← HX.out]
        go_wp2_with fail
        refine HC.out.mono ?_
        rintro e w2 ⟨rfl, ov2, N2, K2⟩
        rw [← HFS.out] at N2
        have HN2 := Lib.hid N2
        have HK2 := Lib.hid (HKX.out.trans K2.keep)
        clear N2 K2
        go_wp2_with fail
        go_roundw
        case rel => exact ⟨k + 1, ov2, by go_num, by omega, HN2.out, HK2.out⟩
        case measure => simp [intOf]; omega
      · have hkn : k = ops.length := by omega
        subst hkn
        rw [List.take_length] at HN
        obtain ⟨L1, L2⟩ := lim_fold HOK.out ops.length (Nat.le_refl _)
        rw [List.take_length] at L1 L2
        have hfl := flush_len (fold ops)
        have hsz := siz_fold ops
        have HC := Lib.hid (fun X (hX : NSt X w.heap.size w1.heap.size ov (fold ops).1 (fold ops).2) => end_any w.heap.size w1.heap.size ov (fold ops) X hX (by omega) L1.g0 (fits_del L1 hl2) (by omega))
        have bF : wr.heap[w.heap.size]? = _ := HK.out.kept _ _ _ _ (HB0.out) (by decide)
        have rF : wr.heap[w.heap.size + 1]? = _ := HK.out.kept _ _ _ _ (HR0.out) (by decide)
        have HbF := Lib.hid bF
        have HrF := Lib.hid rF
        have g0 : wr.cell? ⟨w.heap.size, 0, none⟩ = some (.int .i64 f) := by rw [Lib.cell_of_heap bF]; rfl
        clear L1 L2 hfl hsz hN hK bF rF c1'
        go_wp2_with fail
        go_region_held3 (fun w' => w'.cell? ⟨w.heap.size, 0, none⟩ = some (.int .i64 f))
          (first
            | exact g0
            | exact g0A
            | exact set_other (by show w.heap.size + 1 ≠ w.heap.size; omega) g0A
            | exact set_other (by show w.heap.size + 1 ≠ w.heap.size; omega) (set_other (by show w.heap.size + 1 ≠ w.heap.size; omega) g0A))
          (first
            | (go_at_call 36; refine (HC.out _ (by exact HN.out)).mono ?_; rintro e wA ⟨vA, rfl, OA, KA⟩; obtain ⟨va, vc, rfl⟩ := (OwnOps.row OA).shape; have rA := KA.kept (w := wr.drew) _ _ _ _ HrF.out (by decide); have e0 : wA.cell? ⟨w.heap.size + 1, 0, none⟩ = some (.int .i64 0) := (Lib.cell_of_heap rA 0).trans rfl; have e1 : wA.cell? ⟨w.heap.size + 1, 1, none⟩ = some (.slice none 0 0) := (Lib.cell_of_heap rA 1).trans rfl; have e2 : wA.frozen? ⟨w.heap.size + 1, 0, none⟩ = false := Lib.frozen_of_heap rA 0; have e3 : wA.frozen? ⟨w.heap.size + 1, 1, none⟩ = false := Lib.frozen_of_heap rA 1; have g0A : wA.cell? ⟨w.heap.size, 0, none⟩ = some (.int .i64 f) := by rw [Lib.cell_of_heap (KA.kept (w := wr.drew) _ _ _ _ HbF.out (by decide))]; rfl))
        have hB1 : w.heap.size ≤ w.heap.size + 1 := Nat.le_succ _
        have S1 : Keep w.heap.size [24] wA (wA.setCell ⟨w.heap.size + 1, 0, none⟩ (.int .i64 f)) := keep_set rA (by simp) hB1 _ rfl _
        have rB := nblk_set (j := 0) (u := .int .i64 f) rA
        have S2 : Keep w.heap.size [24] (wA.setCell ⟨w.heap.size + 1, 0, none⟩ (.int .i64 f)) ((wA.setCell ⟨w.heap.size + 1, 0, none⟩ (.int .i64 f)).setCell ⟨w.heap.size + 1, 1, none⟩ (.slice va (trim (flush (fold ops))).length vc)) := keep_set rB (by simp) hB1 _ rfl _
        have rC := nblk_set (j := 1) (u := .slice va (trim (flush (fold ops))).length vc) rB
        obtain ⟨ps, hps, hP⟩ := OA
        have PZ := hP.keep (S1.trans S2) (by decide) (by decide)
        rw [List.length_reverse] at PZ
        have KZ : Below w.heap.size w ((wA.setCell ⟨w.heap.size + 1, 0, none⟩ (.int .i64 f)).setCell ⟨w.heap.size + 1, 1, none⟩ (.slice va (trim (flush (fold ops))).length vc)) := ((BW.out.trans HK.out.below).trans (of_drewK KA).below).trans (S1.trans S2).below
        obtain ⟨wZ, hwZ⟩ : ∃ wZ, wZ = (wA.setCell ⟨w.heap.size + 1, 0, none⟩ (.int .i64 f)).setCell ⟨w.heap.size + 1, 1, none⟩ (.slice va (trim (flush (fold ops))).length vc) := ⟨_, rfl⟩
        rw [← hwZ] at PZ KZ rC ⊢
        have z0 : wZ.cell? ⟨w.heap.size + 1, 0, none⟩ = some (.int .i64 f) := (Lib.cell_of_heap rC 0).trans rfl
        have z1 : wZ.cell? ⟨w.heap.size + 1, 1, none⟩ = some (.slice va (trim (flush (fold ops))).length vc) := (Lib.cell_of_heap rC 1).trans rfl
        have FIN : NormOut w f ops (.returned (.tuple #[chAgg f (.slice va (trim (flush (fold ops))).length vc), .int .i64 0])) wZ := .inr ⟨HE.out, _, rfl, ⟨ps, hps, PZ⟩, KZ⟩
        have HFIN := Lib.hid FIN
        clear FIN PZ KZ rC hwZ S1 S2 rB rA e0 e1 e2 e3 hP hps g0 g0A KA
        go_wp2_with fail
        exact bodyPost_ret (v := .tuple #[chAgg f (.slice va (trim (flush (fold ops))).length vc), .int .i64 0]) (by simp [results, Try.results20, go_sem, z0, z1]) rfl HFIN.out
  · have HE := Lib.hid he
    have t1 : (toE f ops != 0) = true := by rw [bne_iff_ne]; exact he
    clear he
    go_enter Try.func20, Try.ntmps20
    go_wp2_with fail
    rw [← HW.out]
    go_wp2_with fail
    refine HR.out.mono ?_
    rintro e w1 ⟨rfl, b1⟩
    have r1 := (b1.block _ (lt_of_heap HR0.out)).trans HR0.out
    have e0 : w1.cell? ⟨w.heap.size + 1, 0, none⟩ = some (.int .i64 0) := (Lib.cell_of_heap r1 0).trans rfl
    have e1 : w1.cell? ⟨w.heap.size + 1, 1, none⟩ = some (.slice none 0 0) := (Lib.cell_of_heap r1 1).trans rfl
    have e2 : w1.frozen? ⟨w.heap.size + 1, 0, none⟩ = false := Lib.frozen_of_heap r1 0
    have e3 : w1.frozen? ⟨w.heap.size + 1, 1, none⟩ = false := Lib.frozen_of_heap r1 1
    have B1 : Below w.heap.size w ((w1.setCell ⟨w.heap.size + 1, 0, none⟩ (.int .i64 0)).setCell ⟨w.heap.size + 1, 1, none⟩ (.slice none 0 0)) := ((BW.out.trans (b1.mono BW.out.size)).setCell (Nat.le_succ _) _).setCell (Nat.le_succ _) _
    have rC := nblk_set (j := 1) (u := .slice none 0 0) (nblk_set (j := 0) (u := .int .i64 0) r1)
    have HRC := Lib.hid rC
    have HB1 := Lib.hid B1
    clear b1 B1 r1 rC c0 c1
    go_wp2_with fail
    have z0 := (Lib.cell_of_heap HRC.out 0)
    have z1 := (Lib.cell_of_heap HRC.out 1)
    have FIN : NormOut w f ops (.returned (.tuple #[chAgg 0 (.slice none 0 0), .int .i64 (toE f ops)])) ((w1.setCell ⟨w.heap.size + 1, 0, none⟩ (.int .i64 0)).setCell ⟨w.heap.size + 1, 1, none⟩ (.slice none 0 0)) := .inl ⟨HE.out, rfl, HB1.out⟩
    exact bodyPost_ret (v := .tuple #[chAgg 0 (.slice none 0 0), .int .i64 (toE f ops)]) (by simp [results, Try.results20, go_sem, z0, z1]) rfl FIN
end Go.Proofs.Ythcpagpiphemgaa
