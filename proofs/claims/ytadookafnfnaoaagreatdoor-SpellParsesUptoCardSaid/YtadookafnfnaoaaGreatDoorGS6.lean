import Derived.Test.YtadookafnfnaoaaGreatDoorGS5
import Derived.BigRegion
/- put behind another operation -/
namespace Go.Proofs.YtadookafnfnaoaaGreatDoor
open Go.RowKit Ch

set_option maxHeartbeats 4000000 in
set_option maxRecDepth 100000 in
theorem put_other (B b : Nat) (ov : Value) (l : List OpD) (g : Int) (o : OpD) (av : Value) (w : World) (h : NSt w B b ov l g) (hB : B ≤ b) (hf : Fits l o) (hv : ∀ w', Keep B TS w w' → AtRow w' av o.attrs) (x : OpD) (r : List OpD) (hl : l = x :: r) (hal : ¬ (x.kind = o.kind ∧ x.attrs = o.attrs)) :
    Calls Tryz.prog 86 #[.pointer (some ⟨b, 0, none⟩), opAgg o av] w (PutOut w B b ov l o g) := by
  have hBw : B ≤ w.heap.size := Nat.le_trans hB (Nat.le_of_lt h.lt)
  obtain ⟨ar, cr, rfl⟩ := (hv w (Keep.refl _ _ _)).shape
  obtain ⟨W, hW⟩ : ∃ W, W = w.alloc (.cells #[.int .i64 o.kind, .int .i64 o.n, .string o.text, .slice ar o.attrs.length cr] 48) := ⟨_, rfl⟩
  have BW : Below w.heap.size w W := by rw [hW]; exact below_box _ _
  have HBW := Lib.hid BW
  have hbox : W.heap[w.heap.size]? = some (.cells #[.int .i64 o.kind, .int .i64 o.n, .string o.text, .slice ar o.attrs.length cr] 48 (0, 0)) := by rw [hW]; exact heap_new _ _
  have HBX := Lib.hid hbox
  have HNE := Lib.hid (show ov.ownBlock ≠ some w.heap.size from fun e => by have := h.ov_lt _ e; omega)
  have HS := Lib.hid (h.below BW)
  have HV := Lib.hid hv
  have HF := Lib.hid hf
  have HW := Lib.hid hW
  have HBw := Lib.hid hBw
  obtain ⟨ps0, ad0, bv0, bt0, hN0, hA0, hP0, hH0, hcase⟩ := h
  have hblw := lt_of_heap hN0
  obtain ⟨fr, xv, rfl, hfr, rfl⟩ : ∃ fr xv, ps0 = fr ++ [(noText x, xv)] ∧ fr.map (·.1) = r.reverse ∧ bt0 = x.text.data.toList := by
    rcases hcase with ⟨h, _⟩ | ⟨x', r', fr, xv, h, h2, h3, h4⟩
    · rw [hl] at h; cases h
    · rw [hl] at h
      simp only [List.cons.injEq] at h
      obtain ⟨rfl, rfl⟩ := h
      exact ⟨fr, xv, h2, h3, h4⟩
  subst hl
  obtain ⟨gg, cap, hov⟩ := ownsRow_open hP0.len (Nat.succ_pos _)
  subst hov
  obtain ⟨xa, xc, hxv⟩ : ∃ a c, xv = .slice a (noText x).attrs.length c := own_slice (hP0.2 (noText x, xv) (by simp))
  subst hxv
  have p0 : w.cell? ⟨b, 0, none⟩ = some (.slice (some ⟨gg, 0, none⟩) (fr.length + 1) cap) := hN0.cells.1
  have hm : fr.length ≤ 1000000 := by
    have h1 := congrArg List.length hfr
    rw [List.length_map, List.length_reverse] at h1
    have := hf.len
    rw [List.length_cons] at this
    omega
  have NW : NBlk W b _ ad0 bv0 g := hN0.keep (keep_below (ts := []) BW (Nat.le_refl _)) (by simp)
  have PW := hP0.keep (keep_below (ts := []) BW (Nat.le_refl _)) (by simp) (by simp)
  have k0 : W.cell? ⟨b, 0, none⟩ = some (.slice (some ⟨gg, 0, none⟩) (fr.length + 1) cap) := NW.cells.1
  obtain ⟨q0, q1, q2, q3⟩ := last_cells PW.len
  have c0 : W.cell? ⟨w.heap.size, 0, none⟩ = some (.int .i64 o.kind) := by rw [Lib.cell_of_heap hbox]; rfl
  have c1 : W.cell? ⟨w.heap.size, 1, none⟩ = some (.int .i64 o.n) := by rw [Lib.cell_of_heap hbox]; rfl
  have c2 : W.cell? ⟨w.heap.size, 2, none⟩ = some (.string o.text) := by rw [Lib.cell_of_heap hbox]; rfl
  have c3 : W.cell? ⟨w.heap.size, 3, none⟩ = some (.slice ar o.attrs.length cr) := by rw [Lib.cell_of_heap hbox]; rfl
  have hbW : b < W.heap.size := lt_of_heap NW
  have hgW : gg < W.heap.size := by obtain ⟨_, cs, hcs⟩ := own_heap PW.len; exact lt_of_heap hcs
  have hxW : w.heap.size < W.heap.size := lt_of_heap hbox
  have i1 : (0 : Int) ≤ (fr.length : Int) := by omega
  have i2 : (fr.length : Int) < (fr.length : Int) + 1 := by omega
  have i3 : decide ((0 : Int) ≤ (fr.length : Int)) = true := decide_eq_true (by omega)
  have HPW := Lib.hid PW
  have HNW := Lib.hid NW
  have HFR := Lib.hid hfr
  have HM := Lib.hid hm
  have HA0 := Lib.hid hA0
  have HH0 := Lib.hid (show Holds8 W B bv0 x.text.data.toList from ⟨(keep_below (B := B) (ts := []) BW hBw).own hH0.1 (by simp), hH0.2⟩)
  have HAL := Lib.hid (fun W' (hb : Below W.heap.size W W') => alike_any (noText x) o (.slice xa (noText x).attrs.length xc) (.slice ar o.attrs.length cr) W' (row_of_own ((keep_below (B := B) (ts := []) hb (Nat.le_trans hBw BW.size)).own (PW.2 (noText x, .slice xa (noText x).attrs.length xc) (by simp)) (by simp))) (hv W' ((keep_below BW hBw).trans (keep_below hb (Nat.le_trans hBw BW.size)))))
  rw [show alikeB (noText x) o = false from decide_eq_false hal] at HAL
  have HNA := Lib.hid hal
  clear hf hv hW BW hbox hBw hN0 hA0 hP0 hH0 hcase NW PW hfr hal
  go_enter Tryz.func86, Tryz.ntmps86
  go_wp2_with fail
  rw [← HW.out]
  go_wp2_with fail
  go_region_held3 (fun w' => w'.cell? ⟨b, 0, none⟩ = some (.slice (some ⟨gg, 0, none⟩) (fr.length + 1) cap) ∧ w'.cell? ⟨gg, fr.length * 4, none⟩ = some (.int .i64 (noText x).kind) ∧ w'.cell? ⟨gg, fr.length * 4 + 1, none⟩ = some (.int .i64 (noText x).n) ∧ w'.cell? ⟨gg, fr.length * 4 + 2, none⟩ = some (.string (noText x).text) ∧ w'.cell? ⟨gg, fr.length * 4 + 3, none⟩ = some (.slice xa (noText x).attrs.length xc) ∧ w'.cell? ⟨w.heap.size, 0, none⟩ = some (.int .i64 o.kind) ∧ w'.cell? ⟨w.heap.size, 1, none⟩ = some (.int .i64 o.n) ∧ w'.cell? ⟨w.heap.size, 2, none⟩ = some (.string o.text) ∧ w'.cell? ⟨w.heap.size, 3, none⟩ = some (.slice ar o.attrs.length cr))
    (first
      | exact ⟨k0, q0, q1, q2, q3, c0, c1, c2, c3⟩
      | exact ⟨(BB.cell (by exact hbW)).trans k0, (BB.cell (by exact hgW)).trans q0, (BB.cell (by exact hgW)).trans q1, (BB.cell (by exact hgW)).trans q2, (BB.cell (by exact hgW)).trans q3, (BB.cell (by exact hxW)).trans c0, (BB.cell (by exact hxW)).trans c1, (BB.cell (by exact hxW)).trans c2, (BB.cell (by exact hxW)).trans c3⟩)
    (first
      | (go_at_call 103; refine (HAL.out _ (Below.refl _ _).drew).mono ?_; rintro e wB ⟨rfl, hbB⟩; have BB : Below W.heap.size W wB := of_drew hbB))
  have HBB := Lib.hid BB
  have HBX2 := Lib.hid ((BB.block _ hxW).trans HBX.out)
  clear BB hbB k0 q0 q1 q2 q3 c0 c1 c2 c3 p0
  go_wp2_with fail
  refine (finish_any B b _ _ g _ (HS.out.below HBB.out) hB (by have := HF.out.len; omega)).mono ?_
  rintro e w1 ⟨rfl, F1, KF⟩
  have hb1 : w1.heap[w.heap.size]? = some (.cells #[.int .i64 o.kind, .int .i64 o.n, .string o.text, .slice ar o.attrs.length cr] 48 (0, 0)) := (KF.ops _ _ _ HBX2.out HNE.out).1
  have K1 : KeepO B w w1 (.slice (some ⟨gg, 0, none⟩) (fr.length + 1) cap) (.slice (some ⟨gg, 0, none⟩) (fr.length + 1) cap) := (keepO_below (HBW.out.trans (HBB.out.mono HBW.out.size)) HBw.out _).trans KF
  have HK1 := Lib.hid K1
  have HB1 := Lib.hid hb1
  have hs1 : w.heap.size < w1.heap.size := lt_of_heap hb1
  obtain ⟨ps, ad, bv, hN, hA, hP, hH, hps⟩ := F1
  have hpl : ps.length ≤ 1000000 := by have h1 := congrArg List.length hps; rw [List.length_map, List.length_reverse] at h1; have := HF.out.len; omega
  have hPL : ps.length = (fr.length + 1) := by
    obtain ⟨a', c', e⟩ := own_slice hP.1
    simp only [Value.slice.injEq] at e
    exact e.2.1.symm
  have HPLN := Lib.hid hPL
  obtain ⟨k0, k1, k2, k3, k4⟩ := hN.cells
  have hbl : b < w1.heap.size := lt_of_heap hN
  have c0 : w1.cell? ⟨w.heap.size, 0, none⟩ = some (.int .i64 o.kind) := by rw [Lib.cell_of_heap hb1]; rfl
  have c1 : w1.cell? ⟨w.heap.size, 1, none⟩ = some (.int .i64 o.n) := by rw [Lib.cell_of_heap hb1]; rfl
  have c3 : w1.cell? ⟨w.heap.size, 3, none⟩ = some (.slice ar o.attrs.length cr) := by rw [Lib.cell_of_heap hb1]; rfl
  obtain ⟨i0, hi, hz0, hz1, hz2⟩ := info_parts infoOp
  have Hi := Lib.hid (And.intro hi (And.intro hz0 (And.intro hz1 hz2)))
  have HN := Lib.hid hN
  have HP := Lib.hid hP
  have HH := Lib.hid hH
  have HA := Lib.hid hA
  have HPS := Lib.hid hps
  have HCL := Lib.hid (fun W' (hb : Below w1.heap.size w1 W') => cloneAttrs_any (.slice ar o.attrs.length cr) o.attrs W' (HV.out W' (K1.keep.trans (keep_below hb (Nat.le_trans HBw.out K1.keep.below.size)))) HF.out.attrs)
  have HPL := Lib.hid hpl
  have hnb : w.heap.size ≠ b := by
    have := HS.out.lt
    have := HBW.out.size
    exact block_ne hb1 hN (by decide)
  have HNB := Lib.hid hnb
  clear hN hP hH hA hps hPL KF K1 hi hz0 hz1 hz2 k1 k2 k3 k4 hb1 hpl hnb
  go_wp2_with fail
  have S1 : w1.drew.cell? ⟨b, 0, none⟩ = some (.slice (some ⟨gg, 0, none⟩) (fr.length + 1) cap) ∧ w1.drew.cell? ⟨w.heap.size, 0, none⟩ = some (.int .i64 o.kind) ∧ w1.drew.cell? ⟨w.heap.size, 1, none⟩ = some (.int .i64 o.n) ∧ w1.drew.cell? ⟨w.heap.size, 3, none⟩ = some (.slice ar o.attrs.length cr) := ⟨k0, c0, c1, c3⟩
  refine wp_region_B (fun w' => w'.cell? ⟨b, 0, none⟩ = some (.slice (some ⟨gg, 0, none⟩) (fr.length + 1) cap) ∧ w'.cell? ⟨w.heap.size, 0, none⟩ = some (.int .i64 o.kind) ∧ w'.cell? ⟨w.heap.size, 1, none⟩ = some (.int .i64 o.n) ∧ w'.cell? ⟨w.heap.size, 3, none⟩ = some (.slice ar o.attrs.length cr)) [17] (by kernel_rfl) (?_ : wpAnyB _ _ _ _ _ _ 18 (Array.replicate 18 false) _ _)
  refine wpAnyB_free (fuel := 17) (i := 0) (v := ?_) rfl (by kernel_rfl) (by kernel_rfl) (by kernel_rfl) (by kernel_rfl) (fun _ _ _ h => h) (.inr S1) ?_ (by rfl) ?_
  rotate_left
  · intro w'; go_simp; (try with_reducible rfl)
  simp only [Act.put, List.setIfInBounds_toArray]
  refine wpAnyB_free (fuel := 16) (i := 1) (v := ?_) rfl (by kernel_rfl) (by kernel_rfl) (by kernel_rfl) (by kernel_rfl) (fun _ _ _ h => h) (.inr S1) ?_ (by rfl) ?_
  rotate_left
  · intro w'; go_simp; (try with_reducible rfl)
  simp only [Act.put]
  refine wpAnyB_free (fuel := 15) (i := 2) (v := ?_) rfl (by kernel_rfl) (by kernel_rfl) (by kernel_rfl) (by kernel_rfl) (fun _ _ _ h => h) (.inr S1) ?_ (by rfl) ?_
  rotate_left
  · intro w'; go_simp; (try with_reducible rfl)
  simp only [Act.put]
  refine wpAnyB_free (fuel := 14) (i := 3) (v := ?_) rfl (by kernel_rfl) (by kernel_rfl) (by kernel_rfl) (by kernel_rfl) (fun _ _ _ h => h) (.inr S1) ?_ (by rfl) ?_
  rotate_left
  · intro w'; go_simp; (try with_reducible rfl)
  simp only [Act.put]
  refine wpAnyB_load [4,14,17] (fuel := 13) (i := 4) (v := ?_) rfl (by kernel_rfl) (by kernel_rfl) (by kernel_rfl) (by kernel_rfl) (by kernel_rfl) (fun _ _ _ h => h) (.inr S1) ?_ (by rfl) ?_
  rotate_left
  · intro w' hw'; go_simp; (try with_reducible rfl)
  simp only [Act.put]
  refine wpAnyB_free (fuel := 12) (i := 5) (v := ?_) rfl (by kernel_rfl) (by kernel_rfl) (by kernel_rfl) (by kernel_rfl) (fun _ _ _ h => h) (.inr S1) ?_ (by rfl) ?_
  rotate_left
  · intro w'; go_simp; (try with_reducible rfl)
  simp only [Act.put]
  refine wpAnyB_load [6,12,13,14,17] (fuel := 11) (i := 6) (v := ?_) rfl (by kernel_rfl) (by kernel_rfl) (by kernel_rfl) (by kernel_rfl) (by kernel_rfl) (fun _ _ _ h => h) (.inr S1) ?_ (by rfl) ?_
  rotate_left
  · intro w' hw'; go_simp; (try with_reducible rfl)
  simp only [Act.put]
  refine wpAnyB_free (fuel := 10) (i := 7) (v := ?_) rfl (by kernel_rfl) (by kernel_rfl) (by kernel_rfl) (by kernel_rfl) (fun _ _ _ h => h) (.inr S1) ?_ (by rfl) ?_
  rotate_left
  · intro w'; go_simp; (try with_reducible rfl)
  simp only [Act.put]
  refine wpAnyB_load [8,12,13,14,17] (fuel := 9) (i := 8) (v := ?_) rfl (by kernel_rfl) (by kernel_rfl) (by kernel_rfl) (by kernel_rfl) (by kernel_rfl) (fun _ _ _ h => h) (.inr S1) ?_ (by rfl) ?_
  rotate_left
  · intro w' hw'; go_simp; (try with_reducible rfl)
  simp only [Act.put]
  refine wpAnyB_free (fuel := 8) (i := 9) (v := ?_) rfl (by kernel_rfl) (by kernel_rfl) (by kernel_rfl) (by kernel_rfl) (fun _ _ _ h => h) (.inr S1) ?_ (by rfl) ?_
  rotate_left
  · intro w'; go_simp; (try with_reducible rfl)
  simp only [Act.put]
  refine wpAnyB_load [10,11,12,13,14,17] (fuel := 7) (i := 10) (v := ?_) rfl (by kernel_rfl) (by kernel_rfl) (by kernel_rfl) (by kernel_rfl) (by kernel_rfl) (fun _ _ _ h => h) (.inr S1) ?_ (by rfl) ?_
  rotate_left
  · intro w' hw'; go_simp; (try with_reducible rfl)
  simp only [Act.put]
  refine wpAnyB_one (fuel := 6) (i := 11) rfl (by kernel_rfl) ?_
  intro KB hKB
  go_simp
  refine (HCL.out _ (Below.refl _ _).drew).mono ?_
  rintro e wA ⟨vA, rfl, oA, bA⟩
  obtain ⟨aa, ca, rfl⟩ := own_slice oA
  have BA : Below w1.heap.size w1 wA := of_drew bA
  have OA := Lib.hid (own_base oA (show B ≤ w1.drew.heap.size from by have := hbl; show B ≤ w1.heap.size; omega))
  have PA := Lib.hid (HP.out.keep (keep_below (ts := []) BA (Nat.le_refl _)) (by simp) (by simp))
  have NA := Lib.hid (HN.out.keep (keep_below (ts := []) BA (Nat.le_refl _)) (by simp))
  have HA1 := Lib.hid (show Holds8 wA B bv [] from ⟨(keep_below (B := B) (ts := []) BA (by omega)).own HH.out.1 (by simp), HH.out.2⟩)
  have PO := Lib.hid (show wA.ownsRow B 48 4 (.slice (some ⟨gg, 0, none⟩) (fr.length + 1) cap) (fr.length + 1) (flatO ps) from by have := PA.out.1; rwa [HPLN.out] at this)
  have bxA := Lib.hid ((BA.block _ hs1).trans HB1.out)
  have hBA := Lib.hid (show B ≤ wA.heap.size from by have := BA.size; omega)
  have KA := Lib.hid (HK1.out.trans (keepO_below BA (by omega) _))
  have SA : wA.cell? ⟨b, 0, none⟩ = some (.slice (some ⟨gg, 0, none⟩) (fr.length + 1) cap) ∧ wA.cell? ⟨w.heap.size, 0, none⟩ = some (.int .i64 o.kind) ∧ wA.cell? ⟨w.heap.size, 1, none⟩ = some (.int .i64 o.n) ∧ wA.cell? ⟨w.heap.size, 3, none⟩ = some (.slice ar o.attrs.length cr) := ⟨(BA.cell (by exact hbl)).trans k0, (BA.cell (by exact hs1)).trans c0, (BA.cell (by exact hs1)).trans c1, (BA.cell (by exact hs1)).trans c3⟩
  have AC := Below.alloc (Below.refl wA.heap.size wA) (Nat.le_refl _) (Obj.cells #[.int .i64 o.kind, .int .i64 o.n, .string ⟨#[]⟩, .slice aa o.attrs.length ca] 48)
  have HAC := Lib.hid AC
  have lA := Nat.lt_of_lt_of_le hbl BA.size
  have lA2 := Nat.lt_of_lt_of_le hs1 BA.size
  have SB : (wA.alloc (Obj.cells #[.int .i64 o.kind, .int .i64 o.n, .string ⟨#[]⟩, .slice aa o.attrs.length ca] 48)).cell? ⟨b, 0, none⟩ = some (.slice (some ⟨gg, 0, none⟩) (fr.length + 1) cap) ∧ (wA.alloc (Obj.cells #[.int .i64 o.kind, .int .i64 o.n, .string ⟨#[]⟩, .slice aa o.attrs.length ca] 48)).cell? ⟨w.heap.size, 0, none⟩ = some (.int .i64 o.kind) ∧ (wA.alloc (Obj.cells #[.int .i64 o.kind, .int .i64 o.n, .string ⟨#[]⟩, .slice aa o.attrs.length ca] 48)).cell? ⟨w.heap.size, 1, none⟩ = some (.int .i64 o.n) ∧ (wA.alloc (Obj.cells #[.int .i64 o.kind, .int .i64 o.n, .string ⟨#[]⟩, .slice aa o.attrs.length ca] 48)).cell? ⟨w.heap.size, 3, none⟩ = some (.slice ar o.attrs.length cr) := ⟨(AC.cell (by exact lA)).trans SA.1, (AC.cell (by exact lA2)).trans SA.2.1, (AC.cell (by exact lA2)).trans SA.2.2.1, (AC.cell (by exact lA2)).trans SA.2.2.2⟩
  have HSA := Lib.hid SA
  have HSB := Lib.hid SB
  clear oA bA BA SA SB AC
  refine hKB _ _ (.inr HSA.out) ?_
  try simp only [Act.put, List.setIfInBounds_toArray, List.set_cons_zero, List.set_cons_succ]
  refine wpAnyB_free (fuel := 5) (i := 12) (v := ?_) rfl (by kernel_rfl) (by kernel_rfl) (by kernel_rfl) (by kernel_rfl) (fun _ _ _ h => h) (.inr HSA.out) ?_ (by rfl) ?_
  rotate_left
  · intro w'; go_simp; (try with_reducible rfl)
  simp only [Act.put, List.setIfInBounds_toArray]
  refine wpAnyB_one (fuel := 4) (i := 13) rfl (by kernel_rfl) ?_
  intro KB hKB
  go_simp
  refine hKB _ _ (.inr HSB.out) ?_
  try simp only [Act.put, List.setIfInBounds_toArray, List.set_cons_zero, List.set_cons_succ]
  refine wpAnyB_one (fuel := 3) (i := 14) rfl (by kernel_rfl) ?_
  intro KB hKB
  refine step_append_new rfl (.tmp 43) (.tmp 52) 22 rfl 48 i0 (.agg #[.int .i64 0, .int .i64 0, .string ⟨#[]⟩, .slice none 0 0]) 4 56 Tryz.underlying22 Hi.out.1 Hi.out.2.1 Hi.out.2.2.1 Hi.out.2.2.2 rfl (by decide) B (.slice (some ⟨gg, 0, none⟩) (fr.length + 1) cap) (fr.length + 1) (flatO ps) rfl (PO.out.alloc _) ⟨wA.heap.size, 0, none⟩ 1 1 [.int .i64 o.kind, .int .i64 o.n, .string ⟨#[]⟩, .slice aa o.attrs.length ca] rfl rfl (new_at4 _ _ _ _ _ _) (fun u hu => by simp at hu; rcases hu with rfl | rfl | rfl | rfl <;> rfl) (by unfold maxLen; have := HPL.out; have := HPLN.out; omega) (by have := HPL.out; have := HPLN.out; omega) (by have := hBA.out; simp; omega) ?_
  intro v' wC oC gC nC
  obtain ⟨oa', oc', rfl⟩ := own_slice oC
  have KC1 := keepO_below (B := B) HAC.out hBA.out (.slice (some ⟨gg, 0, none⟩) (fr.length + 1) cap)
  have KC2 := keepO_grown (PO.out.alloc _) gC (by have := hBA.out; simp; omega) nC
  have NC : NBlk wC b _ _ _ g := (NA.out.keep (keep_below (ts := []) HAC.out (Nat.le_refl _)) (by simp)).keep (ts := [48]) (keep_row (PO.out.alloc _) gC (by simp) (by have := hBA.out; simp; omega)) (by decide)
  have bC := (KC2.ops w.heap.size _ _ ((HAC.out.block _ (lt_of_heap bxA.out)).trans bxA.out) HNE.out).1
  obtain ⟨kC, _, _, _, fC⟩ := NC.cells
  have fC0 := fC 0
  have SC : wC.cell? ⟨b, 0, none⟩ = some (.slice (some ⟨gg, 0, none⟩) (fr.length + 1) cap) ∧ wC.cell? ⟨w.heap.size, 0, none⟩ = some (.int .i64 o.kind) ∧ wC.cell? ⟨w.heap.size, 1, none⟩ = some (.int .i64 o.n) ∧ wC.cell? ⟨w.heap.size, 3, none⟩ = some (.slice ar o.attrs.length cr) := ⟨kC, by rw [Lib.cell_of_heap bC]; rfl, by rw [Lib.cell_of_heap bC]; rfl, by rw [Lib.cell_of_heap bC]; rfl⟩
  have HSC := Lib.hid SC
  have HNC := Lib.hid NC
  have HOC := Lib.hid oC
  have HBC := Lib.hid bC
  have HKC := Lib.hid (KA.out.trans (KC1.trans KC2))
  have HKC2 := Lib.hid (KC1.trans KC2)
  clear oC gC nC KC1 KC2 NC fC SC bC
  refine hKB _ _ (.inr HSC.out) ?_
  try simp only [Act.put, List.setIfInBounds_toArray]
  refine wpAnyB_free (fuel := 2) (i := 15) (v := ?_) rfl (by kernel_rfl) (by kernel_rfl) (by kernel_rfl) (by kernel_rfl) (fun _ _ _ h => h) (.inr HSC.out) ?_ (by rfl) ?_
  rotate_left
  · intro w'; go_simp; (try with_reducible rfl)
  simp only [Act.put]
  refine wpAnyB_free (fuel := 1) (i := 16) (v := ?_) rfl (by kernel_rfl) (by kernel_rfl) (by kernel_rfl) (by kernel_rfl) (fun _ _ _ h => h) (.inr HSC.out) ?_ (by rfl) ?_
  rotate_left
  · intro w'; go_simp; (try with_reducible rfl)
  simp only [Act.put]
  refine wpAnyB_one (fuel := 0) (i := 17) rfl (by kernel_rfl) ?_
  intro KB hKB
  go_simp
  refine hKB _ _ (.inl (by kernel_rfl)) ?_
  try simp only [Act.put, List.setIfInBounds_toArray, List.set_cons_zero, List.set_cons_succ]
  refine wpAnyB_done (by kernel_rfl) ?_
  have KD1 : Keep B [90] wC (wC.setCell ⟨b, 0, none⟩ (.slice oa' ((fr.length + 1) + 1) oc')) := keep_set HNC.out (by simp) hB _ rfl _
  have KAD : Keep B TS wA (wC.setCell ⟨b, 0, none⟩ (.slice oa' ((fr.length + 1) + 1) oc')) := HKC2.out.keep.trans (KD1.more (by simp))
  have OD : OwnP (wC.setCell ⟨b, 0, none⟩ (.slice oa' ((fr.length + 1) + 1) oc')) B (.slice oa' ((fr.length + 1) + 1) oc') (ps ++ [(noText o, .slice aa o.attrs.length ca)]) := ownP_mk (by have h1 := KD1.own HOC.out (by decide); rw [HPLN.out, flatO_snoc]; exact h1) (fun q hq => KAD.own (PA.out.2 q hq) (by decide)) (KAD.own OA.out (by decide))
  have ND : NBlk (wC.setCell ⟨b, 0, none⟩ (.slice oa' ((fr.length + 1) + 1) oc')) b (.slice oa' ((fr.length + 1) + 1) oc') ad bv g := HNC.out.set0
  have KD : KeepO B w (wC.setCell ⟨b, 0, none⟩ (.slice oa' ((fr.length + 1) + 1) oc')) (.slice (some ⟨gg, 0, none⟩) (fr.length + 1) cap) (.slice oa' ((fr.length + 1) + 1) oc') := HKC.out.trans (keepO_of KD1 (by simp) (by decide) _)
  have bD : (wC.setCell ⟨b, 0, none⟩ (.slice oa' ((fr.length + 1) + 1) oc')).heap[w.heap.size]? = _ := KD1.kept _ _ _ _ HBC.out (by decide)
  have HD : Holds8 (wC.setCell ⟨b, 0, none⟩ (.slice oa' ((fr.length + 1) + 1) oc')) B bv [] := by rw [HH.out.2 rfl]; exact holds8_nil _ _
  obtain ⟨wD, hwD⟩ : ∃ wD, wD = wC.setCell ⟨b, 0, none⟩ (.slice oa' ((fr.length + 1) + 1) oc') := ⟨_, rfl⟩
  change (Exit.then _ _) _ _ (wC.setCell ⟨b, 0, none⟩ (.slice oa' ((fr.length + 1) + 1) oc'))
  rw [← hwD] at OD ND KD bD HD ⊢
  have HOD := Lib.hid OD
  have HND := Lib.hid ND
  have HKD := Lib.hid KD
  have HHD := Lib.hid HD
  have HbD := Lib.hid bD
  have c2 : wD.cell? ⟨w.heap.size, 2, none⟩ = some (.string o.text) := by rw [Lib.cell_of_heap bD]; rfl
  clear OD ND KD bD HD KD1 KAD hwD S1
  go_wp2_with fail
  go_region_held3 (fun w' => w'.cell? ⟨w.heap.size, 2, none⟩ = some (.string o.text))
    (first
      | exact c2
      | exact cE)
    (first
      | (go_at_call 31; refine (writeString_any B b _ ad bv g [] o.text _ (by exact HND.out) HA.out hB (by exact HHD.out) (by have := HF.out.text; simp; omega)).mono ?_; rintro e wE ⟨⟨nE, rfl⟩, ⟨bE, NE, HE⟩, KE⟩; have kbE := KE.kept (w := wD.drew) _ _ _ _ HbD.out (by decide); have cE : wE.cell? ⟨w.heap.size, 2, none⟩ = some (.string o.text) := by rw [Lib.cell_of_heap kbE]; rfl))
  have KE2 : Keep B [90, 5] wD wE := of_drewK KE
  have OE := HOD.out.keep KE2 (by decide) (by decide)
  have FIN : ∃ ov', NSt wE B b ov' (put (x :: r) o) g ∧ KeepO B w wE (.slice (some ⟨gg, 0, none⟩) (fr.length + 1) cap) ov' := by
    rw [show put (x :: r) o = o :: (x :: r) from put_fresh fun y s e => by simp only [List.cons.injEq] at e; obtain ⟨rfl, rfl⟩ := e; exact HNA.out]
    exact ⟨_, ⟨_, _, _, _, NE, .inr rfl, OE, HE, .inr ⟨o, (x :: r), ps, _, rfl, rfl, HPS.out, rfl⟩⟩, HKD.out.trans (keepO_of KE2 (by simp) (by decide) _)⟩
  have HFIN := Lib.hid FIN
  clear FIN OE KE2 KE kbE cE NE HE
  go_wp2_with fail
  go_end0
  exact ⟨rfl, HFIN.out⟩
end Go.Proofs.YtadookafnfnaoaaGreatDoor
/- put as one with the last -/
namespace Go.Proofs.YtadookafnfnaoaaGreatDoor
open Go.RowKit Ch

set_option maxHeartbeats 4000000 in
set_option maxRecDepth 100000 in
theorem put_alike (B b : Nat) (ov : Value) (l : List OpD) (g : Int) (o : OpD) (av : Value) (w : World) (h : NSt w B b ov l g) (hB : B ≤ b) (hf : Fits l o) (hv : ∀ w', Keep B TS w w' → AtRow w' av o.attrs) (x : OpD) (r : List OpD) (hl : l = x :: r) (hal : x.kind = o.kind ∧ x.attrs = o.attrs) :
    Calls Tryz.prog 86 #[.pointer (some ⟨b, 0, none⟩), opAgg o av] w (PutOut w B b ov l o g) := by
  have hBw : B ≤ w.heap.size := Nat.le_trans hB (Nat.le_of_lt h.lt)
  obtain ⟨ar, cr, rfl⟩ := (hv w (Keep.refl _ _ _)).shape
  obtain ⟨W, hW⟩ : ∃ W, W = w.alloc (.cells #[.int .i64 o.kind, .int .i64 o.n, .string o.text, .slice ar o.attrs.length cr] 48) := ⟨_, rfl⟩
  have BW : Below w.heap.size w W := by rw [hW]; exact below_box _ _
  have HBW := Lib.hid BW
  have hbox : W.heap[w.heap.size]? = some (.cells #[.int .i64 o.kind, .int .i64 o.n, .string o.text, .slice ar o.attrs.length cr] 48 (0, 0)) := by rw [hW]; exact heap_new _ _
  have HBX := Lib.hid hbox
  have HNE := Lib.hid (show ov.ownBlock ≠ some w.heap.size from fun e => by have := h.ov_lt _ e; omega)
  have HS := Lib.hid (h.below BW)
  have HV := Lib.hid hv
  have HF := Lib.hid hf
  have HW := Lib.hid hW
  have HBw := Lib.hid hBw
  obtain ⟨ps0, ad0, bv0, bt0, hN0, hA0, hP0, hH0, hcase⟩ := h
  have hblw := lt_of_heap hN0
  obtain ⟨fr, xv, rfl, hfr, rfl⟩ : ∃ fr xv, ps0 = fr ++ [(noText x, xv)] ∧ fr.map (·.1) = r.reverse ∧ bt0 = x.text.data.toList := by
    rcases hcase with ⟨h, _⟩ | ⟨x', r', fr, xv, h, h2, h3, h4⟩
    · rw [hl] at h; cases h
    · rw [hl] at h
      simp only [List.cons.injEq] at h
      obtain ⟨rfl, rfl⟩ := h
      exact ⟨fr, xv, h2, h3, h4⟩
  subst hl
  obtain ⟨gg, cap, hov⟩ := ownsRow_open hP0.len (Nat.succ_pos _)
  subst hov
  obtain ⟨xa, xc, hxv⟩ : ∃ a c, xv = .slice a (noText x).attrs.length c := own_slice (hP0.2 (noText x, xv) (by simp))
  subst hxv
  have p0 : w.cell? ⟨b, 0, none⟩ = some (.slice (some ⟨gg, 0, none⟩) (fr.length + 1) cap) := hN0.cells.1
  have hm : fr.length ≤ 1000000 := by
    have h1 := congrArg List.length hfr
    rw [List.length_map, List.length_reverse] at h1
    have := hf.len
    rw [List.length_cons] at this
    omega
  have NW : NBlk W b _ ad0 bv0 g := hN0.keep (keep_below (ts := []) BW (Nat.le_refl _)) (by simp)
  have PW := hP0.keep (keep_below (ts := []) BW (Nat.le_refl _)) (by simp) (by simp)
  have k0 : W.cell? ⟨b, 0, none⟩ = some (.slice (some ⟨gg, 0, none⟩) (fr.length + 1) cap) := NW.cells.1
  obtain ⟨q0, q1, q2, q3⟩ := last_cells PW.len
  have c0 : W.cell? ⟨w.heap.size, 0, none⟩ = some (.int .i64 o.kind) := by rw [Lib.cell_of_heap hbox]; rfl
  have c1 : W.cell? ⟨w.heap.size, 1, none⟩ = some (.int .i64 o.n) := by rw [Lib.cell_of_heap hbox]; rfl
  have c2 : W.cell? ⟨w.heap.size, 2, none⟩ = some (.string o.text) := by rw [Lib.cell_of_heap hbox]; rfl
  have c3 : W.cell? ⟨w.heap.size, 3, none⟩ = some (.slice ar o.attrs.length cr) := by rw [Lib.cell_of_heap hbox]; rfl
  have hbW : b < W.heap.size := lt_of_heap NW
  have hgW : gg < W.heap.size := by obtain ⟨_, cs, hcs⟩ := own_heap PW.len; exact lt_of_heap hcs
  have hxW : w.heap.size < W.heap.size := lt_of_heap hbox
  have i1 : (0 : Int) ≤ (fr.length : Int) := by omega
  have i2 : (fr.length : Int) < (fr.length : Int) + 1 := by omega
  have i3 : decide ((0 : Int) ≤ (fr.length : Int)) = true := decide_eq_true (by omega)
  have HPW := Lib.hid PW
  have HNW := Lib.hid NW
  have HFR := Lib.hid hfr
  have HM := Lib.hid hm
  have HA0 := Lib.hid hA0
  have HH0 := Lib.hid (show Holds8 W B bv0 x.text.data.toList from ⟨(keep_below (B := B) (ts := []) BW hBw).own hH0.1 (by simp), hH0.2⟩)
  have HAL := Lib.hid (fun W' (hb : Below W.heap.size W W') => alike_any (noText x) o (.slice xa (noText x).attrs.length xc) (.slice ar o.attrs.length cr) W' (row_of_own ((keep_below (B := B) (ts := []) hb (Nat.le_trans hBw BW.size)).own (PW.2 (noText x, .slice xa (noText x).attrs.length xc) (by simp)) (by simp))) (hv W' ((keep_below BW hBw).trans (keep_below hb (Nat.le_trans hBw BW.size)))))
  rw [show alikeB (noText x) o = true from decide_eq_true hal] at HAL
  have HNA := Lib.hid hal
  clear hf hv hW BW hbox hBw hN0 hA0 hP0 hH0 hcase NW PW hfr hal
  go_enter Tryz.func86, Tryz.ntmps86
  go_wp2_with fail
  rw [← HW.out]
  go_wp2_with fail
  go_region_held3 (fun w' => w'.cell? ⟨b, 0, none⟩ = some (.slice (some ⟨gg, 0, none⟩) (fr.length + 1) cap) ∧ w'.cell? ⟨gg, fr.length * 4, none⟩ = some (.int .i64 (noText x).kind) ∧ w'.cell? ⟨gg, fr.length * 4 + 1, none⟩ = some (.int .i64 (noText x).n) ∧ w'.cell? ⟨gg, fr.length * 4 + 2, none⟩ = some (.string (noText x).text) ∧ w'.cell? ⟨gg, fr.length * 4 + 3, none⟩ = some (.slice xa (noText x).attrs.length xc) ∧ w'.cell? ⟨w.heap.size, 0, none⟩ = some (.int .i64 o.kind) ∧ w'.cell? ⟨w.heap.size, 1, none⟩ = some (.int .i64 o.n) ∧ w'.cell? ⟨w.heap.size, 2, none⟩ = some (.string o.text) ∧ w'.cell? ⟨w.heap.size, 3, none⟩ = some (.slice ar o.attrs.length cr))
    (first
      | exact ⟨k0, q0, q1, q2, q3, c0, c1, c2, c3⟩
      | exact ⟨(BB.cell (by exact hbW)).trans k0, (BB.cell (by exact hgW)).trans q0, (BB.cell (by exact hgW)).trans q1, (BB.cell (by exact hgW)).trans q2, (BB.cell (by exact hgW)).trans q3, (BB.cell (by exact hxW)).trans c0, (BB.cell (by exact hxW)).trans c1, (BB.cell (by exact hxW)).trans c2, (BB.cell (by exact hxW)).trans c3⟩)
    (first
      | (go_at_call 103; refine (HAL.out _ (Below.refl _ _).drew).mono ?_; rintro e wB ⟨rfl, hbB⟩; have BB : Below W.heap.size W wB := of_drew hbB))
  have HBB := Lib.hid BB
  have HBX2 := Lib.hid ((BB.block _ hxW).trans HBX.out)
  have kB : wB.cell? ⟨b, 0, none⟩ = some (.slice (some ⟨gg, 0, none⟩) (fr.length + 1) cap) := (BB.cell (by exact hbW)).trans k0
  have qB : wB.cell? ⟨gg, fr.length * 4 + 1, none⟩ = some (.int .i64 (noText x).n) := (BB.cell (by exact hgW)).trans q1
  have cB : wB.cell? ⟨w.heap.size, 1, none⟩ = some (.int .i64 o.n) := (BB.cell (by exact hxW)).trans c1
  have PB := HPW.out.keep (keep_below (ts := []) BB (Nat.le_refl _)) (by simp) (by simp)
  have NB := HNW.out.keep (keep_below (ts := []) BB (Nat.le_refl _)) (by simp)
  have HB8 := Lib.hid (show Holds8 wB B bv0 x.text.data.toList from ⟨(keep_below (B := B) (ts := []) BB (Nat.le_trans HBw.out HBW.out.size)).own HH0.out.1 (by simp), HH0.out.2⟩)
  have fB : wB.frozen? ⟨gg, fr.length * 4 + 1, none⟩ = false := PB.len.frozenAt _
  have hwr : IntKind.i64.wrap ((noText x).n + o.n) = (noText x).n + o.n := by
    have h1 := HF.out.last x r rfl
    have h2 := HF.out.n0
    have h3 := HF.out.n1
    have h4 : (noText x).n = x.n := rfl
    exact IntWalk.i64_in _ (by omega)
  have HPB := Lib.hid PB
  have HNB := Lib.hid NB
  clear BB hbB k0 q0 q1 q2 q3 c0 c1 c2 c3 p0 PB NB
  go_wp2_with fail
  go_region
  obtain ⟨P1, K1⟩ := OwnP.setLast (y := noText { x with n := x.n + o.n, text := cat x.text o.text }) HPB.out 1 (.int .i64 ((noText x).n + o.n)) rfl rfl
  have KS : Keep B [48] wB (wB.setCell ⟨gg, fr.length * 4 + 1, none⟩ (.int .i64 ((noText x).n + o.n))) := keep_set (own_heap HPB.out.len).2.choose_spec (by simp) (own_heap HPB.out.len).1 ⟨gg, fr.length * 4 + 1, none⟩ rfl _
  have N1 := HNB.out.keep KS (by decide)
  have hgx : gg ≠ w.heap.size := fun e => HNE.out (by rw [e]; rfl)
  have b1 : (wB.setCell ⟨gg, fr.length * 4 + 1, none⟩ (.int .i64 ((noText x).n + o.n))).heap[w.heap.size]? = _ := (Below.heap_setCell _ _ _ _ (fun e => hgx e.symm)).trans HBX2.out
  have H1 : Holds8 (wB.setCell ⟨gg, fr.length * 4 + 1, none⟩ (.int .i64 ((noText x).n + o.n))) B bv0 x.text.data.toList := ⟨KS.own HB8.out.1 (by decide), HB8.out.2⟩
  have K2 : KeepO B w (wB.setCell ⟨gg, fr.length * 4 + 1, none⟩ (.int .i64 ((noText x).n + o.n))) (.slice (some ⟨gg, 0, none⟩) (fr.length + 1) cap) (.slice (some ⟨gg, 0, none⟩) (fr.length + 1) cap) := (keepO_below (HBW.out.trans (HBB.out.mono HBW.out.size)) HBw.out _).trans K1
  obtain ⟨wS, hwS⟩ : ∃ wS, wS = wB.setCell ⟨gg, fr.length * 4 + 1, none⟩ (.int .i64 ((noText x).n + o.n)) := ⟨_, rfl⟩
  rw [← hwS] at P1 N1 b1 H1 K2 ⊢
  have HP1 := Lib.hid P1
  have HN1 := Lib.hid N1
  have HH1 := Lib.hid H1
  have HK2 := Lib.hid K2
  have HB1 := Lib.hid b1
  have c2 : wS.cell? ⟨w.heap.size, 2, none⟩ = some (.string o.text) := by rw [Lib.cell_of_heap b1]; rfl
  clear P1 N1 H1 K2 KS K1 b1 hwS hgx kB qB cB fB hwr
  go_wp2_with fail
  go_region_held3 (fun w' => w'.cell? ⟨w.heap.size, 2, none⟩ = some (.string o.text))
    (first
      | exact c2
      | exact cE)
    (first
      | (go_at_call 31; refine (writeString_any B b _ ad0 bv0 g x.text.data.toList o.text _ (by exact HN1.out) HA0.out hB (by exact HH1.out) (by have h1 := HF.out.text; have h2 := (HF.out.last x r rfl).2.2; have h3 : x.text.data.toList.length = x.text.size := rfl; omega)).mono ?_; rintro e wE ⟨⟨nE, rfl⟩, ⟨bE, NE, HE⟩, KE⟩; have kbE := KE.kept (w := wS.drew.drew) _ _ _ _ HB1.out (by decide); have cE : wE.cell? ⟨w.heap.size, 2, none⟩ = some (.string o.text) := by rw [Lib.cell_of_heap kbE]; rfl))
  have KE2 : Keep B [90, 5] wS wE := of_drewK (of_drewK KE)
  have OE := HP1.out.keep KE2 (by decide) (by decide)
  have FIN : ∃ ov', NSt wE B b ov' (put (x :: r) o) g ∧ KeepO B w wE (.slice (some ⟨gg, 0, none⟩) (fr.length + 1) cap) ov' := by
    rw [show put (x :: r) o = { x with n := x.n + o.n, text := cat x.text o.text } :: r by rw [put, if_pos HNA.out]]
    exact ⟨_, ⟨_, _, _, _, NE, .inr rfl, OE, HE, .inr ⟨{ x with n := x.n + o.n, text := cat x.text o.text }, r, fr, _, rfl, rfl, HFR.out, rfl⟩⟩, HK2.out.trans (keepO_of KE2 (by simp) (by decide) _)⟩
  have HFIN := Lib.hid FIN
  clear FIN OE KE2 KE kbE cE NE HE c2
  go_wp2_with fail
  go_end0
  exact ⟨rfl, HFIN.out⟩
end Go.Proofs.YtadookafnfnaoaaGreatDoor
