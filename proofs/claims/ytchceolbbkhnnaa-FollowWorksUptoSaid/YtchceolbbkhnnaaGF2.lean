import Derived.Test.YtchceolbbkhnnaaGF1
import Derived.Test.YtchceolbbkhnnaaGC2
import Derived.BigRegion
namespace Go.Proofs.Ytchceolbbkhnnaa
section
open Lib (hid)
namespace Fm
open Go.RowKit Go.Shelf Ch
open Lib (hid)
variable {mx : Bool × Int}
set_option maxHeartbeats 4000000 in
set_option maxRecDepth 100000 in
theorem put_other (B b : Nat) (ov : Value) (l : List OpD) (g : Int) (o : OpD) (av : Value) (w : World) (h : NSt mx w B b ov l g) (hB : B ≤ b) (hf : Fits l o) (hv : ∀ w', Keep B TS w w' → AtRow w' av o.attrs) (x : OpD) (r : List OpD) (hl : l = x :: r) (hal : ¬ (x.kind = o.kind ∧ x.attrs = o.attrs)) :
 Calls Try.prog 53 #[.pointer (some ⟨b, 0, none⟩), opAgg o av] w (PutOut mx w B b ov l o g) := by
 have hBw : B ≤ w.heap.size := Nat.le_trans hB (Nat.le_of_lt h.lt); obtain ⟨ar, cr, rfl⟩ := (hv w (Keep.refl _ _ _)).shape; obtain ⟨W, hW⟩ : ∃ W, W = w.alloc (.cells #[.int .i64 o.kind, .int .i64 o.n, .string o.text, .slice ar o.attrs.length cr] 40) := ⟨_, rfl⟩; have BW : Below w.heap.size w W := by rw [hW]; exact below_box _ _
 have HBW := hid BW; have hbox : W.heap[w.heap.size]? = some (.cells #[.int .i64 o.kind, .int .i64 o.n, .string o.text, .slice ar o.attrs.length cr] 40 (0, 0)) := by rw [hW]; exact heap_new _ _
 have HBX := hid hbox; have HNE := hid (show ov.ownBlock ≠ some w.heap.size from fun e => by have := h.ov_lt _ e; omega); have HS := hid (h.below BW); have HV := hid hv; have HF := hid hf; have HW := hid hW; have HBw := hid hBw; obtain ⟨ps0, ad0, bv0, bt0, hN0, hA0, hP0, hH0, hcase⟩ := h; have hblw := lt_of_heap hN0; obtain ⟨fr, xv, rfl, hfr, rfl⟩ : ∃ fr xv, ps0 = fr ++ [(noText x, xv)] ∧ fr.map (·.1) = r.reverse ∧ bt0 = x.text.data.toList := by
  rcases hcase with ⟨h, _⟩ | ⟨x', r', fr, xv, h, h2, h3, h4⟩
  ·rw [hl] at h; cases h
  ·rw [hl] at h
   simp only [List.cons.injEq] at h; obtain ⟨rfl, rfl⟩ := h; exact ⟨fr, xv, h2, h3, h4⟩
 subst hl; obtain ⟨gg, cap, hov⟩ := ownsRow_open hP0.len (Nat.succ_pos _); subst hov; obtain ⟨xa, xc, hxv⟩ : ∃ a c, xv = .slice a (noText x).attrs.length c := own_slice (hP0.2 (noText x, xv) (by simp)); subst hxv; have p0 : w.cell? ⟨b, 0, none⟩ = some (.slice (some ⟨gg, 0, none⟩) (fr.length + 1) cap) := hN0.cells.1; have hm : fr.length ≤ 1000000 := by
  have h1 := congrArg List.length hfr; rw [List.length_map, List.length_reverse] at h1; have := hf.len; rw [List.length_cons] at this; omega
 have NW : NBlk mx W b _ ad0 bv0 g := hN0.keep (keep_below (ts := []) BW (Nat.le_refl _)) (by simp); have PW := hP0.keep (keep_below (ts := []) BW (Nat.le_refl _)) (by simp) (by simp); have k0 : W.cell? ⟨b, 0, none⟩ = some (.slice (some ⟨gg, 0, none⟩) (fr.length + 1) cap) := NW.cells.1; obtain ⟨q0, q1, q2, q3⟩ := last_cells PW.len; have c0 : W.cell? ⟨w.heap.size, 0, none⟩ = some (.int .i64 o.kind) := by rw [Lib.cell_of_heap hbox]; rfl
 have c1 : W.cell? ⟨w.heap.size, 1, none⟩ = some (.int .i64 o.n) := by rw [Lib.cell_of_heap hbox]; rfl
 have c2 : W.cell? ⟨w.heap.size, 2, none⟩ = some (.string o.text) := by rw [Lib.cell_of_heap hbox]; rfl
 have c3 : W.cell? ⟨w.heap.size, 3, none⟩ = some (.slice ar o.attrs.length cr) := by rw [Lib.cell_of_heap hbox]; rfl
 have hbW : b < W.heap.size := lt_of_heap NW; have hgW : gg < W.heap.size := by obtain ⟨_, cs, hcs⟩ := own_heap PW.len; exact lt_of_heap hcs
 have hxW : w.heap.size < W.heap.size := lt_of_heap hbox; have i1 : (0 : Int) ≤ (fr.length : Int) := by omega
 have i2 : (fr.length : Int) < (fr.length : Int) + 1 := by omega
 have i3 : decide ((0 : Int) ≤ (fr.length : Int)) = true := decide_eq_true (by omega); have HPW := hid PW; have HNW := hid NW; have HFR := hid hfr; have HM := hid hm; have HA0 := hid hA0; have HH0 := hid (show Holds8 W B bv0 x.text.data.toList from ⟨(keep_below (B := B) (ts := []) BW hBw).own hH0.1 (by simp), hH0.2⟩); have HAL := hid (fun W' (hb : Below W.heap.size W W') => alike_any (noText x) o (.slice xa (noText x).attrs.length xc) (.slice ar o.attrs.length cr) W' (row_of_own ((keep_below (B := B) (ts := []) hb (Nat.le_trans hBw BW.size)).own (PW.2 (noText x, .slice xa (noText x).attrs.length xc) (by simp)) (by simp))) (hv W' ((keep_below BW hBw).trans (keep_below hb (Nat.le_trans hBw BW.size))))); rw [show alikeB (noText x) o = false from decide_eq_false hal] at HAL; have HNA := hid hal; clear hf hv hW BW hbox hBw hN0 hA0 hP0 hH0 hcase NW PW hfr hal; go_enter Try.func53, Try.ntmps53
 go_wp2_with fail
 rw [← HW.out]; go_wp2_with fail
 go_region_held3 (fun w' => w'.cell? ⟨b, 0, none⟩ = some (.slice (some ⟨gg, 0, none⟩) (fr.length + 1) cap) ∧ w'.cell? ⟨gg, fr.length * 4, none⟩ = some (.int .i64 (noText x).kind) ∧ w'.cell? ⟨gg, fr.length * 4 + 1, none⟩ = some (.int .i64 (noText x).n) ∧ w'.cell? ⟨gg, fr.length * 4 + 2, none⟩ = some (.string (noText x).text) ∧ w'.cell? ⟨gg, fr.length * 4 + 3, none⟩ = some (.slice xa (noText x).attrs.length xc) ∧ w'.cell? ⟨w.heap.size, 0, none⟩ = some (.int .i64 o.kind) ∧ w'.cell? ⟨w.heap.size, 1, none⟩ = some (.int .i64 o.n) ∧ w'.cell? ⟨w.heap.size, 2, none⟩ = some (.string o.text) ∧ w'.cell? ⟨w.heap.size, 3, none⟩ = some (.slice ar o.attrs.length cr))
  (first
   | exact ⟨k0, q0, q1, q2, q3, c0, c1, c2, c3⟩
   | exact ⟨(BB.cell (by exact hbW)).trans k0, (BB.cell (by exact hgW)).trans q0, (BB.cell (by exact hgW)).trans q1, (BB.cell (by exact hgW)).trans q2, (BB.cell (by exact hgW)).trans q3, (BB.cell (by exact hxW)).trans c0, (BB.cell (by exact hxW)).trans c1, (BB.cell (by exact hxW)).trans c2, (BB.cell (by exact hxW)).trans c3⟩)
  (first
   | (go_at_call 79; refine (HAL.out _ (Below.refl _ _).drew).mono ?_; rintro e wB ⟨rfl, hbB⟩; have BB : Below W.heap.size W wB := of_drew hbB))
 have HBB := hid BB; have HBX2 := hid ((BB.block _ hxW).trans HBX.out); clear BB hbB k0 q0 q1 q2 q3 c0 c1 c2 c3 p0; go_wp2_with fail
 refine (finish_any B b _ _ g _ (HS.out.below HBB.out) hB (by have := HF.out.len; omega)).mono ?_; rintro e w1 ⟨rfl, F1, KF⟩; have hb1 : w1.heap[w.heap.size]? = some (.cells #[.int .i64 o.kind, .int .i64 o.n, .string o.text, .slice ar o.attrs.length cr] 40 (0, 0)) := (KF.ops _ _ _ HBX2.out HNE.out).1; have K1 : KeepO B w w1 (.slice (some ⟨gg, 0, none⟩) (fr.length + 1) cap) (.slice (some ⟨gg, 0, none⟩) (fr.length + 1) cap) := (keepO_below (HBW.out.trans (HBB.out.mono HBW.out.size)) HBw.out _).trans KF; have HK1 := hid K1; have HB1 := hid hb1; have hs1 : w.heap.size < w1.heap.size := lt_of_heap hb1; obtain ⟨ps, ad, bv, hN, hA, hP, hH, hps⟩ := F1; have hpl : ps.length ≤ 1000000 := by have h1 := congrArg List.length hps; rw [List.length_map, List.length_reverse] at h1; have := HF.out.len; omega
 have hPL : ps.length = (fr.length + 1) := by
  obtain ⟨a', c', e⟩ := own_slice hP.1; simp only [Value.slice.injEq] at e; exact e.2.1.symm
 have HPLN := hid hPL; obtain ⟨k0, k1, k2, k3, k4⟩ := hN.cells; have hbl : b < w1.heap.size := lt_of_heap hN; have c0 : w1.cell? ⟨w.heap.size, 0, none⟩ = some (.int .i64 o.kind) := by rw [Lib.cell_of_heap hb1]; rfl
 have c1 : w1.cell? ⟨w.heap.size, 1, none⟩ = some (.int .i64 o.n) := by rw [Lib.cell_of_heap hb1]; rfl
 have c3 : w1.cell? ⟨w.heap.size, 3, none⟩ = some (.slice ar o.attrs.length cr) := by rw [Lib.cell_of_heap hb1]; rfl
 obtain ⟨i0, hi, hz0, hz1, hz2⟩ := info_parts infoOp; have Hi := hid (And.intro hi (And.intro hz0 (And.intro hz1 hz2))); have HN := hid hN; have HP := hid hP; have HH := hid hH; have HA := hid hA; have HPS := hid hps; have HCL := hid (fun W' (hb : Below w1.heap.size w1 W') => cloneAttrs_any (.slice ar o.attrs.length cr) o.attrs W' (HV.out W' (K1.keep.trans (keep_below hb (Nat.le_trans HBw.out K1.keep.below.size)))) HF.out.attrs); have HPL := hid hpl; have hnb : w.heap.size ≠ b := by
  have := HS.out.lt; have := HBW.out.size; exact block_ne hb1 hN (by decide)
 have HNB := hid hnb; clear hN hP hH hA hps hPL KF K1 hi hz0 hz1 hz2 k1 k2 k3 k4 hb1 hpl hnb; go_wp2_with fail
 have S1 : w1.drew.cell? ⟨b, 0, none⟩ = some (.slice (some ⟨gg, 0, none⟩) (fr.length + 1) cap) ∧ w1.drew.cell? ⟨w.heap.size, 0, none⟩ = some (.int .i64 o.kind) ∧ w1.drew.cell? ⟨w.heap.size, 1, none⟩ = some (.int .i64 o.n) ∧ w1.drew.cell? ⟨w.heap.size, 3, none⟩ = some (.slice ar o.attrs.length cr) := ⟨k0, c0, c1, c3⟩; refine wp_region_B (fun w' => w'.cell? ⟨b, 0, none⟩ = some (.slice (some ⟨gg, 0, none⟩) (fr.length + 1) cap) ∧ w'.cell? ⟨w.heap.size, 0, none⟩ = some (.int .i64 o.kind) ∧ w'.cell? ⟨w.heap.size, 1, none⟩ = some (.int .i64 o.n) ∧ w'.cell? ⟨w.heap.size, 3, none⟩ = some (.slice ar o.attrs.length cr)) [17] (by kernel_rfl) (?_ : wpAnyB _ _ _ _ _ _ 18 (Array.replicate 18 false) _ _); refine wbF 17 0 ?_ rfl (by kernel_rfl) (fun _ _ _ h => h) (.inr S1) ?_ (by rfl) ?_
 rotate_left
 ·intro w'; go_simp; (try with_reducible rfl)
 simp only [Act.put, List.setIfInBounds_toArray]; refine wbF 16 1 ?_ rfl (by kernel_rfl) (fun _ _ _ h => h) (.inr S1) ?_ (by rfl) ?_
 rotate_left
 ·intro w'; go_simp; (try with_reducible rfl)
 simp only [Act.put]; refine wbF 15 2 ?_ rfl (by kernel_rfl) (fun _ _ _ h => h) (.inr S1) ?_ (by rfl) ?_
 rotate_left
 ·intro w'; go_simp; (try with_reducible rfl)
 simp only [Act.put]; refine wbF 14 3 ?_ rfl (by kernel_rfl) (fun _ _ _ h => h) (.inr S1) ?_ (by rfl) ?_
 rotate_left
 ·intro w'; go_simp; (try with_reducible rfl)
 simp only [Act.put]; refine wbL [4,14,17] 13 4 ?_ rfl (by kernel_rfl) (fun _ _ _ h => h) (.inr S1) ?_ (by rfl) ?_
 rotate_left
 ·intro w' hw'; go_simp; (try with_reducible rfl)
 simp only [Act.put]; refine wbF 12 5 ?_ rfl (by kernel_rfl) (fun _ _ _ h => h) (.inr S1) ?_ (by rfl) ?_
 rotate_left
 ·intro w'; go_simp; (try with_reducible rfl)
 simp only [Act.put]; refine wbL [6,12,13,14,17] 11 6 ?_ rfl (by kernel_rfl) (fun _ _ _ h => h) (.inr S1) ?_ (by rfl) ?_
 rotate_left
 ·intro w' hw'; go_simp; (try with_reducible rfl)
 simp only [Act.put]; refine wbF 10 7 ?_ rfl (by kernel_rfl) (fun _ _ _ h => h) (.inr S1) ?_ (by rfl) ?_
 rotate_left
 ·intro w'; go_simp; (try with_reducible rfl)
 simp only [Act.put]; refine wbL [8,12,13,14,17] 9 8 ?_ rfl (by kernel_rfl) (fun _ _ _ h => h) (.inr S1) ?_ (by rfl) ?_
 rotate_left
 ·intro w' hw'; go_simp; (try with_reducible rfl)
 simp only [Act.put]; refine wbF 8 9 ?_ rfl (by kernel_rfl) (fun _ _ _ h => h) (.inr S1) ?_ (by rfl) ?_
 rotate_left
 ·intro w'; go_simp; (try with_reducible rfl)
 simp only [Act.put]; refine wbL [10,11,12,13,14,17] 7 10 ?_ rfl (by kernel_rfl) (fun _ _ _ h => h) (.inr S1) ?_ (by rfl) ?_
 rotate_left
 ·intro w' hw'; go_simp; (try with_reducible rfl)
 simp only [Act.put]; refine wpAnyB_one (fuel := 6) (i := 11) rfl (by kernel_rfl) ?_; intro KB hKB; go_simp
 refine (HCL.out _ (Below.refl _ _).drew).mono ?_; rintro e wA ⟨vA, rfl, oA, bA⟩; obtain ⟨aa, ca, rfl⟩ := own_slice oA; have BA : Below w1.heap.size w1 wA := of_drew bA; have OA := hid (own_base oA (show B ≤ w1.drew.heap.size from by have := hbl; show B ≤ w1.heap.size; omega)); have PA := hid (HP.out.keep (keep_below (ts := []) BA (Nat.le_refl _)) (by simp) (by simp)); have NA := hid (HN.out.keep (keep_below (ts := []) BA (Nat.le_refl _)) (by simp)); have HA1 := hid (show Holds8 wA B bv [] from ⟨(keep_below (B := B) (ts := []) BA (by omega)).own HH.out.1 (by simp), HH.out.2⟩); have PO := hid (show wA.ownsRow B 40 4 (.slice (some ⟨gg, 0, none⟩) (fr.length + 1) cap) (fr.length + 1) (flatO ps) from by have := PA.out.1; rwa [HPLN.out] at this); have bxA := hid ((BA.block _ hs1).trans HB1.out); have hBA := hid (show B ≤ wA.heap.size from by have := BA.size; omega); have KA := hid (HK1.out.trans (keepO_below BA (by omega) _))
 have SA : wA.cell? ⟨b, 0, none⟩ = some (.slice (some ⟨gg, 0, none⟩) (fr.length + 1) cap) ∧ wA.cell? ⟨w.heap.size, 0, none⟩ = some (.int .i64 o.kind) ∧ wA.cell? ⟨w.heap.size, 1, none⟩ = some (.int .i64 o.n) ∧ wA.cell? ⟨w.heap.size, 3, none⟩ = some (.slice ar o.attrs.length cr) := ⟨(BA.cell (by exact hbl)).trans k0, (BA.cell (by exact hs1)).trans c0, (BA.cell (by exact hs1)).trans c1, (BA.cell (by exact hs1)).trans c3⟩; have AC := Below.alloc (Below.refl wA.heap.size wA) (Nat.le_refl _) (Obj.cells #[.int .i64 o.kind, .int .i64 o.n, .string ⟨#[]⟩, .slice aa o.attrs.length ca] 40); have HAC := hid AC; have lA := Nat.lt_of_lt_of_le hbl BA.size; have lA2 := Nat.lt_of_lt_of_le hs1 BA.size; have SB : (wA.alloc (Obj.cells #[.int .i64 o.kind, .int .i64 o.n, .string ⟨#[]⟩, .slice aa o.attrs.length ca] 40)).cell? ⟨b, 0, none⟩ = some (.slice (some ⟨gg, 0, none⟩) (fr.length + 1) cap) ∧ (wA.alloc (Obj.cells #[.int .i64 o.kind, .int .i64 o.n, .string ⟨#[]⟩, .slice aa o.attrs.length ca] 40)).cell? ⟨w.heap.size, 0, none⟩ = some (.int .i64 o.kind) ∧ (wA.alloc (Obj.cells #[.int .i64 o.kind, .int .i64 o.n, .string ⟨#[]⟩, .slice aa o.attrs.length ca] 40)).cell? ⟨w.heap.size, 1, none⟩ = some (.int .i64 o.n) ∧ (wA.alloc (Obj.cells #[.int .i64 o.kind, .int .i64 o.n, .string ⟨#[]⟩, .slice aa o.attrs.length ca] 40)).cell? ⟨w.heap.size, 3, none⟩ = some (.slice ar o.attrs.length cr) := ⟨(AC.cell (by exact lA)).trans SA.1, (AC.cell (by exact lA2)).trans SA.2.1, (AC.cell (by exact lA2)).trans SA.2.2.1, (AC.cell (by exact lA2)).trans SA.2.2.2⟩
 have HSA := hid SA; have HSB := hid SB; clear oA bA BA SA SB AC; refine hKB _ _ (.inr HSA.out) ?_
 try simp only [Act.put, List.setIfInBounds_toArray, List.set_cons_zero, List.set_cons_succ]
 refine wbF 5 12 ?_ rfl (by kernel_rfl) (fun _ _ _ h => h) (.inr HSA.out) ?_ (by rfl) ?_
 rotate_left
 ·intro w'; go_simp; (try with_reducible rfl)
 simp only [Act.put, List.setIfInBounds_toArray]; refine wpAnyB_one (fuel := 4) (i := 13) rfl (by kernel_rfl) ?_; intro KB hKB; go_simp
 refine hKB _ _ (.inr HSB.out) ?_
 try simp only [Act.put, List.setIfInBounds_toArray, List.set_cons_zero, List.set_cons_succ]
 refine wpAnyB_one (fuel := 3) (i := 14) rfl (by kernel_rfl) ?_; intro KB hKB; refine step_append_new rfl (.tmp 43) (.tmp 52) 22 rfl 40 i0 (.agg #[.int .i64 0, .int .i64 0, .string ⟨#[]⟩, .slice none 0 0]) 4 56 Try.underlying22 Hi.out.1 Hi.out.2.1 Hi.out.2.2.1 Hi.out.2.2.2 rfl (by decide) B (.slice (some ⟨gg, 0, none⟩) (fr.length + 1) cap) (fr.length + 1) (flatO ps) rfl (PO.out.alloc _) ⟨wA.heap.size, 0, none⟩ 1 1 [.int .i64 o.kind, .int .i64 o.n, .string ⟨#[]⟩, .slice aa o.attrs.length ca] rfl rfl (new_at4 _ _ _ _ _ _) (fun u hu => by simp at hu; rcases hu with rfl | rfl | rfl | rfl <;> rfl) (by unfold maxLen; have := HPL.out; have := HPLN.out; omega) (by have := HPL.out; have := HPLN.out; omega) (by have := hBA.out; simp; omega) ?_; intro v' wC oC gC nC; obtain ⟨oa', oc', rfl⟩ := own_slice oC; have KC1 := keepO_below (B := B) HAC.out hBA.out (.slice (some ⟨gg, 0, none⟩) (fr.length + 1) cap)
 have KC2 := keepO_grown (PO.out.alloc _) gC (by have := hBA.out; simp; omega) nC; have NC : NBlk mx wC b _ _ _ g := (NA.out.keep (keep_below (ts := []) HAC.out (Nat.le_refl _)) (by simp)).keep (ts := [40]) (keep_row (PO.out.alloc _) gC (by simp) (by have := hBA.out; simp; omega)) (by decide); have bC := (KC2.ops w.heap.size _ _ ((HAC.out.block _ (lt_of_heap bxA.out)).trans bxA.out) HNE.out).1; obtain ⟨kC, _, _, _, fC⟩ := NC.cells; have fC0 := fC 0; have SC : wC.cell? ⟨b, 0, none⟩ = some (.slice (some ⟨gg, 0, none⟩) (fr.length + 1) cap) ∧ wC.cell? ⟨w.heap.size, 0, none⟩ = some (.int .i64 o.kind) ∧ wC.cell? ⟨w.heap.size, 1, none⟩ = some (.int .i64 o.n) ∧ wC.cell? ⟨w.heap.size, 3, none⟩ = some (.slice ar o.attrs.length cr) := ⟨kC, by rw [Lib.cell_of_heap bC]; rfl, by rw [Lib.cell_of_heap bC]; rfl, by rw [Lib.cell_of_heap bC]; rfl⟩; have HSC := hid SC; have HNC := hid NC; have HOC := hid oC; have HBC := hid bC
 have HKC := hid (KA.out.trans (KC1.trans KC2)); have HKC2 := hid (KC1.trans KC2); clear oC gC nC KC1 KC2 NC fC SC bC; refine hKB _ _ (.inr HSC.out) ?_
 try simp only [Act.put, List.setIfInBounds_toArray]
 refine wbF 2 15 ?_ rfl (by kernel_rfl) (fun _ _ _ h => h) (.inr HSC.out) ?_ (by rfl) ?_
 rotate_left
 ·intro w'; go_simp; (try with_reducible rfl)
 simp only [Act.put]; refine wbF 1 16 ?_ rfl (by kernel_rfl) (fun _ _ _ h => h) (.inr HSC.out) ?_ (by rfl) ?_
 rotate_left
 ·intro w'; go_simp; (try with_reducible rfl)
 simp only [Act.put]; refine wpAnyB_one (fuel := 0) (i := 17) rfl (by kernel_rfl) ?_; intro KB hKB; go_simp
 refine hKB _ _ (.inl (by kernel_rfl)) ?_
 try simp only [Act.put, List.setIfInBounds_toArray, List.set_cons_zero, List.set_cons_succ]
 refine wpAnyB_done (by kernel_rfl) ?_; have KD1 : Keep B [74] wC (wC.setCell ⟨b, 0, none⟩ (.slice oa' ((fr.length + 1) + 1) oc')) := keep_set HNC.out (by simp) hB _ rfl _; have KAD : Keep B TS wA (wC.setCell ⟨b, 0, none⟩ (.slice oa' ((fr.length + 1) + 1) oc')) := HKC2.out.keep.trans (KD1.more (by simp)); have OD : OwnP (wC.setCell ⟨b, 0, none⟩ (.slice oa' ((fr.length + 1) + 1) oc')) B (.slice oa' ((fr.length + 1) + 1) oc') (ps ++ [(noText o, .slice aa o.attrs.length ca)]) := ownP_mk (by have h1 := KD1.own HOC.out (by decide); rw [HPLN.out, flatO_snoc]; exact h1) (fun q hq => KAD.own (PA.out.2 q hq) (by decide)) (KAD.own OA.out (by decide)); have ND : NBlk mx (wC.setCell ⟨b, 0, none⟩ (.slice oa' ((fr.length + 1) + 1) oc')) b (.slice oa' ((fr.length + 1) + 1) oc') ad bv g := HNC.out.set0; have KD : KeepO B w (wC.setCell ⟨b, 0, none⟩ (.slice oa' ((fr.length + 1) + 1) oc')) (.slice (some ⟨gg, 0, none⟩) (fr.length + 1) cap) (.slice oa' ((fr.length + 1) + 1) oc') := HKC.out.trans (keepO_of KD1 (by simp) (by decide) _)
 have bD : (wC.setCell ⟨b, 0, none⟩ (.slice oa' ((fr.length + 1) + 1) oc')).heap[w.heap.size]? = _ := KD1.kept _ _ _ _ HBC.out (by decide); have HD : Holds8 (wC.setCell ⟨b, 0, none⟩ (.slice oa' ((fr.length + 1) + 1) oc')) B bv [] := by rw [HH.out.2 rfl]; exact holds8_nil _ _
 obtain ⟨wD, hwD⟩ : ∃ wD, wD = wC.setCell ⟨b, 0, none⟩ (.slice oa' ((fr.length + 1) + 1) oc') := ⟨_, rfl⟩; change (Exit.then _ _) _ _ (wC.setCell ⟨b, 0, none⟩ (.slice oa' ((fr.length + 1) + 1) oc')); rw [← hwD] at OD ND KD bD HD ⊢; have HOD := hid OD; have HND := hid ND; have HKD := hid KD; have HHD := hid HD; have HbD := hid bD; have c2 : wD.cell? ⟨w.heap.size, 2, none⟩ = some (.string o.text) := by rw [Lib.cell_of_heap bD]; rfl
 clear OD ND KD bD HD KD1 KAD hwD S1; go_wp2_with fail
 go_region_held3 (fun w' => w'.cell? ⟨w.heap.size, 2, none⟩ = some (.string o.text))
  (first
   | exact c2
   | exact cE)
  (first
   | (go_at_call 82; refine (writeString_any B b _ ad bv g [] o.text _ (by exact HND.out) HA.out hB (by exact HHD.out) (by have := HF.out.text; simp; omega)).mono ?_; rintro e wE ⟨⟨nE, rfl⟩, ⟨bE, NE, HE⟩, KE⟩; have kbE := KE.kept (w := wD.drew) _ _ _ _ HbD.out (by decide); have cE : wE.cell? ⟨w.heap.size, 2, none⟩ = some (.string o.text) := by rw [Lib.cell_of_heap kbE]; rfl))
 have KE2 : Keep B [74, 5] wD wE := of_drewK KE; have OE := HOD.out.keep KE2 (by decide) (by decide); have FIN : ∃ ov', NSt mx wE B b ov' (put (x :: r) o) g ∧ KeepO B w wE (.slice (some ⟨gg, 0, none⟩) (fr.length + 1) cap) ov' := by
  rw [show put (x :: r) o = o :: (x :: r) from put_fresh fun y s e => by simp only [List.cons.injEq] at e; obtain ⟨rfl, rfl⟩ := e; exact HNA.out]; exact ⟨_, ⟨_, _, _, _, NE, .inr rfl, OE, HE, .inr ⟨o, (x :: r), ps, _, rfl, rfl, HPS.out, rfl⟩⟩, HKD.out.trans (keepO_of KE2 (by simp) (by decide) _)⟩
 have HFIN := hid FIN; clear FIN OE KE2 KE kbE cE NE HE; go_wp2_with fail
 go_end0
 exact ⟨rfl, HFIN.out⟩
end Fm
end
section
open Lib (hid)
namespace Fm
open Go.RowKit Go.Shelf Ch
open Lib (hid)
variable {mx : Bool × Int}
set_option maxHeartbeats 4000000 in
set_option maxRecDepth 100000 in
theorem put_alike (B b : Nat) (ov : Value) (l : List OpD) (g : Int) (o : OpD) (av : Value) (w : World) (h : NSt mx w B b ov l g) (hB : B ≤ b) (hf : Fits l o) (hv : ∀ w', Keep B TS w w' → AtRow w' av o.attrs) (x : OpD) (r : List OpD) (hl : l = x :: r) (hal : x.kind = o.kind ∧ x.attrs = o.attrs) :
 Calls Try.prog 53 #[.pointer (some ⟨b, 0, none⟩), opAgg o av] w (PutOut mx w B b ov l o g) := by
 have hBw : B ≤ w.heap.size := Nat.le_trans hB (Nat.le_of_lt h.lt); obtain ⟨ar, cr, rfl⟩ := (hv w (Keep.refl _ _ _)).shape; obtain ⟨W, hW⟩ : ∃ W, W = w.alloc (.cells #[.int .i64 o.kind, .int .i64 o.n, .string o.text, .slice ar o.attrs.length cr] 40) := ⟨_, rfl⟩; have BW : Below w.heap.size w W := by rw [hW]; exact below_box _ _
 have HBW := hid BW; have hbox : W.heap[w.heap.size]? = some (.cells #[.int .i64 o.kind, .int .i64 o.n, .string o.text, .slice ar o.attrs.length cr] 40 (0, 0)) := by rw [hW]; exact heap_new _ _
 have HBX := hid hbox; have HNE := hid (show ov.ownBlock ≠ some w.heap.size from fun e => by have := h.ov_lt _ e; omega); have HS := hid (h.below BW); have HV := hid hv; have HF := hid hf; have HW := hid hW; have HBw := hid hBw; obtain ⟨ps0, ad0, bv0, bt0, hN0, hA0, hP0, hH0, hcase⟩ := h; have hblw := lt_of_heap hN0; obtain ⟨fr, xv, rfl, hfr, rfl⟩ : ∃ fr xv, ps0 = fr ++ [(noText x, xv)] ∧ fr.map (·.1) = r.reverse ∧ bt0 = x.text.data.toList := by
  rcases hcase with ⟨h, _⟩ | ⟨x', r', fr, xv, h, h2, h3, h4⟩
  ·rw [hl] at h; cases h
  ·rw [hl] at h
   simp only [List.cons.injEq] at h; obtain ⟨rfl, rfl⟩ := h; exact ⟨fr, xv, h2, h3, h4⟩
 subst hl; obtain ⟨gg, cap, hov⟩ := ownsRow_open hP0.len (Nat.succ_pos _); subst hov; obtain ⟨xa, xc, hxv⟩ : ∃ a c, xv = .slice a (noText x).attrs.length c := own_slice (hP0.2 (noText x, xv) (by simp)); subst hxv; have p0 : w.cell? ⟨b, 0, none⟩ = some (.slice (some ⟨gg, 0, none⟩) (fr.length + 1) cap) := hN0.cells.1; have hm : fr.length ≤ 1000000 := by
  have h1 := congrArg List.length hfr; rw [List.length_map, List.length_reverse] at h1; have := hf.len; rw [List.length_cons] at this; omega
 have NW : NBlk mx W b _ ad0 bv0 g := hN0.keep (keep_below (ts := []) BW (Nat.le_refl _)) (by simp); have PW := hP0.keep (keep_below (ts := []) BW (Nat.le_refl _)) (by simp) (by simp); have k0 : W.cell? ⟨b, 0, none⟩ = some (.slice (some ⟨gg, 0, none⟩) (fr.length + 1) cap) := NW.cells.1; obtain ⟨q0, q1, q2, q3⟩ := last_cells PW.len; have c0 : W.cell? ⟨w.heap.size, 0, none⟩ = some (.int .i64 o.kind) := by rw [Lib.cell_of_heap hbox]; rfl
 have c1 : W.cell? ⟨w.heap.size, 1, none⟩ = some (.int .i64 o.n) := by rw [Lib.cell_of_heap hbox]; rfl
 have c2 : W.cell? ⟨w.heap.size, 2, none⟩ = some (.string o.text) := by rw [Lib.cell_of_heap hbox]; rfl
 have c3 : W.cell? ⟨w.heap.size, 3, none⟩ = some (.slice ar o.attrs.length cr) := by rw [Lib.cell_of_heap hbox]; rfl
 have hbW : b < W.heap.size := lt_of_heap NW; have hgW : gg < W.heap.size := by obtain ⟨_, cs, hcs⟩ := own_heap PW.len; exact lt_of_heap hcs
 have hxW : w.heap.size < W.heap.size := lt_of_heap hbox; have i1 : (0 : Int) ≤ (fr.length : Int) := by omega
 have i2 : (fr.length : Int) < (fr.length : Int) + 1 := by omega
 have i3 : decide ((0 : Int) ≤ (fr.length : Int)) = true := decide_eq_true (by omega); have HPW := hid PW; have HNW := hid NW; have HFR := hid hfr; have HM := hid hm; have HA0 := hid hA0; have HH0 := hid (show Holds8 W B bv0 x.text.data.toList from ⟨(keep_below (B := B) (ts := []) BW hBw).own hH0.1 (by simp), hH0.2⟩); have HAL := hid (fun W' (hb : Below W.heap.size W W') => alike_any (noText x) o (.slice xa (noText x).attrs.length xc) (.slice ar o.attrs.length cr) W' (row_of_own ((keep_below (B := B) (ts := []) hb (Nat.le_trans hBw BW.size)).own (PW.2 (noText x, .slice xa (noText x).attrs.length xc) (by simp)) (by simp))) (hv W' ((keep_below BW hBw).trans (keep_below hb (Nat.le_trans hBw BW.size))))); rw [show alikeB (noText x) o = true from decide_eq_true hal] at HAL; have HNA := hid hal; clear hf hv hW BW hbox hBw hN0 hA0 hP0 hH0 hcase NW PW hfr hal; go_enter Try.func53, Try.ntmps53
 go_wp2_with fail
 rw [← HW.out]; go_wp2_with fail
 go_region_held3 (fun w' => w'.cell? ⟨b, 0, none⟩ = some (.slice (some ⟨gg, 0, none⟩) (fr.length + 1) cap) ∧ w'.cell? ⟨gg, fr.length * 4, none⟩ = some (.int .i64 (noText x).kind) ∧ w'.cell? ⟨gg, fr.length * 4 + 1, none⟩ = some (.int .i64 (noText x).n) ∧ w'.cell? ⟨gg, fr.length * 4 + 2, none⟩ = some (.string (noText x).text) ∧ w'.cell? ⟨gg, fr.length * 4 + 3, none⟩ = some (.slice xa (noText x).attrs.length xc) ∧ w'.cell? ⟨w.heap.size, 0, none⟩ = some (.int .i64 o.kind) ∧ w'.cell? ⟨w.heap.size, 1, none⟩ = some (.int .i64 o.n) ∧ w'.cell? ⟨w.heap.size, 2, none⟩ = some (.string o.text) ∧ w'.cell? ⟨w.heap.size, 3, none⟩ = some (.slice ar o.attrs.length cr))
  (first
   | exact ⟨k0, q0, q1, q2, q3, c0, c1, c2, c3⟩
   | exact ⟨(BB.cell (by exact hbW)).trans k0, (BB.cell (by exact hgW)).trans q0, (BB.cell (by exact hgW)).trans q1, (BB.cell (by exact hgW)).trans q2, (BB.cell (by exact hgW)).trans q3, (BB.cell (by exact hxW)).trans c0, (BB.cell (by exact hxW)).trans c1, (BB.cell (by exact hxW)).trans c2, (BB.cell (by exact hxW)).trans c3⟩)
  (first
   | (go_at_call 79; refine (HAL.out _ (Below.refl _ _).drew).mono ?_; rintro e wB ⟨rfl, hbB⟩; have BB : Below W.heap.size W wB := of_drew hbB))
 have HBB := hid BB; have HBX2 := hid ((BB.block _ hxW).trans HBX.out); have kB : wB.cell? ⟨b, 0, none⟩ = some (.slice (some ⟨gg, 0, none⟩) (fr.length + 1) cap) := (BB.cell (by exact hbW)).trans k0; have qB : wB.cell? ⟨gg, fr.length * 4 + 1, none⟩ = some (.int .i64 (noText x).n) := (BB.cell (by exact hgW)).trans q1; have cB : wB.cell? ⟨w.heap.size, 1, none⟩ = some (.int .i64 o.n) := (BB.cell (by exact hxW)).trans c1; have PB := HPW.out.keep (keep_below (ts := []) BB (Nat.le_refl _)) (by simp) (by simp); have NB := HNW.out.keep (keep_below (ts := []) BB (Nat.le_refl _)) (by simp); have HB8 := hid (show Holds8 wB B bv0 x.text.data.toList from ⟨(keep_below (B := B) (ts := []) BB (Nat.le_trans HBw.out HBW.out.size)).own HH0.out.1 (by simp), HH0.out.2⟩); have fB : wB.frozen? ⟨gg, fr.length * 4 + 1, none⟩ = false := PB.len.frozenAt _; have hwr : IntKind.i64.wrap ((noText x).n + o.n) = (noText x).n + o.n := by
  have h1 := HF.out.last x r rfl; have h2 := HF.out.n0; have h3 := HF.out.n1; have h4 : (noText x).n = x.n := rfl; exact IntWalk.i64_in _ (by omega)
 have HPB := hid PB; have HNB := hid NB; clear BB hbB k0 q0 q1 q2 q3 c0 c1 c2 c3 p0 PB NB; go_wp2_with fail
 go_region
 obtain ⟨P1, K1⟩ := OwnP.setLast (y := noText { x with n := x.n + o.n, text := cat x.text o.text }) HPB.out 1 (.int .i64 ((noText x).n + o.n)) rfl rfl; have KS : Keep B [40] wB (wB.setCell ⟨gg, fr.length * 4 + 1, none⟩ (.int .i64 ((noText x).n + o.n))) := keep_set (own_heap HPB.out.len).2.choose_spec (by simp) (own_heap HPB.out.len).1 ⟨gg, fr.length * 4 + 1, none⟩ rfl _; have N1 := HNB.out.keep KS (by decide); have hgx : gg ≠ w.heap.size := fun e => HNE.out (by rw [e]; rfl); have b1 : (wB.setCell ⟨gg, fr.length * 4 + 1, none⟩ (.int .i64 ((noText x).n + o.n))).heap[w.heap.size]? = _ := (Below.heap_setCell _ _ _ _ (fun e => hgx e.symm)).trans HBX2.out; have H1 : Holds8 (wB.setCell ⟨gg, fr.length * 4 + 1, none⟩ (.int .i64 ((noText x).n + o.n))) B bv0 x.text.data.toList := ⟨KS.own HB8.out.1 (by decide), HB8.out.2⟩; have K2 : KeepO B w (wB.setCell ⟨gg, fr.length * 4 + 1, none⟩ (.int .i64 ((noText x).n + o.n))) (.slice (some ⟨gg, 0, none⟩) (fr.length + 1) cap) (.slice (some ⟨gg, 0, none⟩) (fr.length + 1) cap) := (keepO_below (HBW.out.trans (HBB.out.mono HBW.out.size)) HBw.out _).trans K1
 obtain ⟨wS, hwS⟩ : ∃ wS, wS = wB.setCell ⟨gg, fr.length * 4 + 1, none⟩ (.int .i64 ((noText x).n + o.n)) := ⟨_, rfl⟩; rw [← hwS] at P1 N1 b1 H1 K2 ⊢; have HP1 := hid P1; have HN1 := hid N1; have HH1 := hid H1; have HK2 := hid K2; have HB1 := hid b1; have c2 : wS.cell? ⟨w.heap.size, 2, none⟩ = some (.string o.text) := by rw [Lib.cell_of_heap b1]; rfl
 clear P1 N1 H1 K2 KS K1 b1 hwS hgx kB qB cB fB hwr; go_wp2_with fail
 go_region_held3 (fun w' => w'.cell? ⟨w.heap.size, 2, none⟩ = some (.string o.text))
  (first
   | exact c2
   | exact cE)
  (first
   | (go_at_call 82; refine (writeString_any B b _ ad0 bv0 g x.text.data.toList o.text _ (by exact HN1.out) HA0.out hB (by exact HH1.out) (by have h1 := HF.out.text; have h2 := (HF.out.last x r rfl).2.2; have h3 : x.text.data.toList.length = x.text.size := rfl; omega)).mono ?_; rintro e wE ⟨⟨nE, rfl⟩, ⟨bE, NE, HE⟩, KE⟩; have kbE := KE.kept (w := wS.drew.drew) _ _ _ _ HB1.out (by decide); have cE : wE.cell? ⟨w.heap.size, 2, none⟩ = some (.string o.text) := by rw [Lib.cell_of_heap kbE]; rfl))
 have KE2 : Keep B [74, 5] wS wE := of_drewK (of_drewK KE); have OE := HP1.out.keep KE2 (by decide) (by decide); have FIN : ∃ ov', NSt mx wE B b ov' (put (x :: r) o) g ∧ KeepO B w wE (.slice (some ⟨gg, 0, none⟩) (fr.length + 1) cap) ov' := by
  rw [show put (x :: r) o = { x with n := x.n + o.n, text := cat x.text o.text } :: r by rw [put, if_pos HNA.out]]; exact ⟨_, ⟨_, _, _, _, NE, .inr rfl, OE, HE, .inr ⟨{ x with n := x.n + o.n, text := cat x.text o.text }, r, fr, _, rfl, rfl, HFR.out, rfl⟩⟩, HK2.out.trans (keepO_of KE2 (by simp) (by decide) _)⟩
 have HFIN := hid FIN; clear FIN OE KE2 KE kbE cE NE HE c2; go_wp2_with fail
 go_end0
 exact ⟨rfl, HFIN.out⟩
end Fm
end
section
open Lib (hid)
namespace Fm
open Go.RowKit Go.Shelf Ch
open Lib (hid)
variable {mx : Bool × Int}
theorem put_any (B b : Nat) (ov : Value) (l : List OpD) (g : Int) (o : OpD) (av : Value) (w : World) (h : NSt mx w B b ov l g) (hB : B ≤ b) (hf : Fits l o) (hv : ∀ w', Keep B TS w w' → AtRow w' av o.attrs) :
 Calls Try.prog 53 #[.pointer (some ⟨b, 0, none⟩), opAgg o av] w (PutOut mx w B b ov l o g) := by
 cases l with
 | nil => exact put_empty B b ov [] g o av w h hB hf hv rfl
 | cons x r =>
   by_cases hal : x.kind = o.kind ∧ x.attrs = o.attrs
   ·exact put_alike B b ov (x :: r) g o av w h hB hf hv x r rfl hal
   ·exact put_other B b ov (x :: r) g o av w h hB hf hv x r rfl hal
theorem NSt.cell3 {w : World} {B b : Nat} {ov : Value} {l : List OpD} {g : Int} (h : NSt mx w B b ov l g) : w.cell? ⟨b, 3, none⟩ = some (.int .i64 g) ∧ w.frozen? ⟨b, 3, none⟩ = false := by
 obtain ⟨_, _, _, _, hN, _⟩ := h; exact ⟨hN.cells.2.2.2.1, hN.cells.2.2.2.2 3⟩
theorem NSt.setG {w : World} {B b : Nat} {ov : Value} {l : List OpD} {g : Int} (h : NSt mx w B b ov l g) (hB : B ≤ b) (k : Int) : NSt mx (w.setCell ⟨b, 3, none⟩ (.int .i64 k)) B b ov l k ∧ KeepO B w (w.setCell ⟨b, 3, none⟩ (.int .i64 k)) ov ov := by
 obtain ⟨ps, ad, bv, bt, h1, h2, h3, h4, h5⟩ := h; have hk : Keep B [74] w (w.setCell ⟨b, 3, none⟩ (.int .i64 k)) := keep_set h1 (by simp) hB _ rfl _; exact ⟨⟨ps, ad, bv, bt, h1.set3, h2, h3.keep hk (by decide) (by decide), ⟨hk.own h4.1 (by decide), h4.2⟩, h5⟩, keepO_of hk (by simp) (by decide) _⟩
theorem NSt.drew {w : World} {B b : Nat} {ov : Value} {l : List OpD} {g : Int} (h : NSt mx w B b ov l g) : NSt mx w.drew B b ov l g := h
theorem KeepO.of_drew {B : Nat} {a w : World} {u v : Value} (h : KeepO B a.drew w u v) : KeepO B a w u v := ⟨of_drewK h.keep, h.ops⟩
def DelOut (mx : Bool × Int) (w : World) (B b : Nat) (ov : Value) (l : List OpD) (g : Int) (e : Ending) (w' : World) : Prop := e = .returned (.tuple #[]) ∧ ∃ ov', NSt mx w' B b ov' (flush (l, g)) 0 ∧ KeepO B w w' ov ov'
set_option maxHeartbeats 2000000 in
set_option maxRecDepth 100000 in
theorem deleted_any (B b : Nat) (ov : Value) (l : List OpD) (g : Int) (w : World) (h : NSt mx w B b ov l g) (hB : B ≤ b) (hg : 0 ≤ g) (hf : Fits l (delO g)) :
 Calls Try.prog 52 #[.pointer (some ⟨b, 0, none⟩)] w (DelOut mx w B b ov l g) := by
 have c3 := h.cell3.1; have HS := hid h; have HF := hid hf; have hBw := hid (show B ≤ w.heap.size from Nat.le_trans hB (Nat.le_of_lt h.lt))
 by_cases hp : 0 < g
 ·have hfl : flush (l, g) = put l (delO g) := by unfold flush; rw [if_pos (by exact hp)]
  have HP := hid (fun W (hW : NSt mx W B b ov l g) => put_any B b ov l g (delO g) (.slice none 0 0) W hW hB hf (fun w' _ => ⟨none, 0, rfl, Nat.le_refl _, Nat.zero_le _, fun i hi => absurd hi (Nat.not_lt_zero _)⟩)); have HFL := hid hfl; clear h hf hfl; go_enter Try.func52, Try.ntmps52
  go_wp2_with fail
  go_region_held3 (fun w' => w'.cell? ⟨b, 3, none⟩ = some (.int .i64 g))
   (first
    | exact c3
    | exact c3A)
   (first
    | (go_at_call 53; refine (HP.out _ (by exact HS.out)).mono ?_; rintro e wA ⟨rfl, ovA, NA, KA⟩; have c3A := NA.cell3.1))
  obtain ⟨N2, K2⟩ := NA.setG hB 0; have f3 := NA.cell3.2; have FIN : ∃ ov', NSt mx (wA.setCell ⟨b, 3, none⟩ (.int .i64 0)) B b ov' (flush (l, g)) 0 ∧ KeepO B w (wA.setCell ⟨b, 3, none⟩ (.int .i64 0)) ov ov' := ⟨ovA, by rw [HFL.out]; exact N2, (KeepO.of_drew KA).trans K2⟩; have HFIN := hid FIN; clear N2 K2 FIN KA NA; go_wp2_with fail
  go_end0
  exact ⟨rfl, HFIN.out⟩
 ·have hg0 : g = 0 := by omega
  subst hg0; have hfl : flush (l, 0) = l := by unfold flush; rw [if_neg (by show ¬ (0 : Int) < 0; omega)]
  have FIN : ∃ ov', NSt mx w B b ov' (flush (l, 0)) 0 ∧ KeepO B w w ov ov' := ⟨ov, by rw [hfl]; exact h, keepO_below (Below.refl _ _) hBw.out _⟩; have HFIN := hid FIN; clear h hf hfl FIN hp hg; go_enter Try.func52, Try.ntmps52
  go_wp2_with fail
  go_end0
  exact ⟨rfl, HFIN.out⟩
def AddOut (mx : Bool × Int) (w : World) (B b : Nat) (ov : Value) (s : List OpD × Int) (o : OpD) (e : Ending) (w' : World) : Prop := e = .returned (.tuple #[]) ∧ ∃ ov', NSt mx w' B b ov' (Ch.add s o).1 (Ch.add s o).2 ∧ KeepO B w w' ov ov'
set_option maxHeartbeats 4000000 in
set_option maxRecDepth 100000 in
theorem add_n (B b : Nat) (ov : Value) (s : List OpD × Int) (o : OpD) (av : Value) (w : World) (h : NSt mx w B b ov s.1 s.2) (hB : B ≤ b) (hf : FitsS s o) (hv : ∀ w', Keep B TS w w' → AtRow w' av o.attrs) (tn : (o.n == 0) = false) :
 Calls Try.prog 27 #[.pointer (some ⟨b, 0, none⟩), opAgg o av] w (AddOut mx w B b ov s o) := by
 obtain ⟨l, g⟩ := s; have hBw : B ≤ w.heap.size := Nat.le_trans hB (Nat.le_of_lt h.lt); obtain ⟨ar, cr, rfl⟩ := (hv w (Keep.refl _ _ _)).shape; obtain ⟨W, hW⟩ : ∃ W, W = w.alloc (.cells #[.int .i64 o.kind, .int .i64 o.n, .string o.text, .slice ar o.attrs.length cr] 40) := ⟨_, rfl⟩; have BW : Below w.heap.size w W := by rw [hW]; exact below_box _ _
 have hbox : W.heap[w.heap.size]? = some (.cells #[.int .i64 o.kind, .int .i64 o.n, .string o.text, .slice ar o.attrs.length cr] 40 (0, 0)) := by rw [hW]; exact heap_new _ _
 have HNE := hid (show ov.ownBlock ≠ some w.heap.size from fun e => by have := h.ov_lt _ e; omega); have HBX := hid hbox; have HBW := hid BW; have HS := hid (h.below BW); have HV := hid hv; have HF := hid hf; have HW := hid hW; have HBw := hid hBw; have hblw := h.lt; have p3 := h.cell3.1; have k3 := HS.out.cell3.1; have f3 := HS.out.cell3.2; have c0 : W.cell? ⟨w.heap.size, 0, none⟩ = some (.int .i64 o.kind) := by rw [Lib.cell_of_heap hbox]; rfl
 have c1 : W.cell? ⟨w.heap.size, 1, none⟩ = some (.int .i64 o.n) := by rw [Lib.cell_of_heap hbox]; rfl
 have c2 : W.cell? ⟨w.heap.size, 2, none⟩ = some (.string o.text) := by rw [Lib.cell_of_heap hbox]; rfl
 have c3 : W.cell? ⟨w.heap.size, 3, none⟩ = some (.slice ar o.attrs.length cr) := by rw [Lib.cell_of_heap hbox]; rfl
 by_cases hk3 : o.kind = 3
 ·have t3 : (o.kind == 3) = true := by rw [hk3]; rfl
  have hR : add (l, g) o = (l, g + o.n) := by unfold add; rw [if_pos hk3]
  have hwr : IntKind.i64.wrap (g + o.n) = g + o.n := by
   have h1 := hf.g0; have h2 := hf.g1; have h3 := hf.o1; have h4 := hf.ins.n0; exact IntWalk.i64_in _ (by simp only at h1 h2; omega)
  obtain ⟨N2, K2⟩ := HS.out.setG hB (g + o.n); have FIN : ∃ ov', NSt mx (W.setCell ⟨b, 3, none⟩ (.int .i64 (g + o.n))) B b ov' (add (l, g) o).1 (add (l, g) o).2 ∧ KeepO B w (W.setCell ⟨b, 3, none⟩ (.int .i64 (g + o.n))) ov ov' := ⟨ov, by rw [hR]; exact N2, (keepO_below BW hBw _).trans K2⟩; have HFIN := hid FIN; clear h hf hv hW BW hbox hBw hk3 hR N2 K2 FIN; go_enter Try.func27, Try.ntmps27
  go_wp2_with fail
  rw [← HW.out]; go_wp2_with fail
  go_region
  go_wp2_with fail
  go_end0
  obtain ⟨ov', a1, a2⟩ := HFIN.out; exact ⟨rfl, ov', a1, ⟨a2.keep.drew, a2.ops⟩⟩
 ·have t3 : (o.kind == 3) = false := by rw [beq_eq_false_iff_ne]; exact hk3
  by_cases hk1 : o.kind = 1
  ·have t1 : (o.kind == 1) = true := by rw [hk1]; rfl
   have HR := hid (show add (l, g) o = (put (flush (l, g)) o, 0) by unfold add; rw [if_neg hk3, if_pos hk1]); clear h hf hv hW BW hbox hBw hk3 hk1 p3 k3 f3; go_enter Try.func27, Try.ntmps27
   go_wp2_with fail
   rw [← HW.out]; go_wp2_with fail
   refine (deleted_any B b ov l g _ HS.out hB HF.out.g0 HF.out.del).mono ?_; rintro e wA ⟨rfl, ovA, NA, KA⟩; have bA := (KA.ops w.heap.size _ _ HBX.out HNE.out); have a0 : wA.cell? ⟨w.heap.size, 0, none⟩ = some (.int .i64 o.kind) := by rw [Lib.cell_of_heap bA.1]; rfl
   have a1 : wA.cell? ⟨w.heap.size, 1, none⟩ = some (.int .i64 o.n) := by rw [Lib.cell_of_heap bA.1]; rfl
   have a2 : wA.cell? ⟨w.heap.size, 2, none⟩ = some (.string o.text) := by rw [Lib.cell_of_heap bA.1]; rfl
   have a3 : wA.cell? ⟨w.heap.size, 3, none⟩ = some (.slice ar o.attrs.length cr) := by rw [Lib.cell_of_heap bA.1]; rfl
   have KWA := hid ((keepO_below HBW.out HBw.out ov).trans KA); have HNA := hid NA; have HbA := hid bA; clear NA KA bA c0 c1 c2 c3; go_wp2_with fail
   go_region_held3 (fun w' => w'.cell? ⟨w.heap.size, 0, none⟩ = some (.int .i64 o.kind) ∧ w'.cell? ⟨w.heap.size, 1, none⟩ = some (.int .i64 o.n) ∧ w'.cell? ⟨w.heap.size, 2, none⟩ = some (.string o.text) ∧ w'.cell? ⟨w.heap.size, 3, none⟩ = some (.slice ar o.attrs.length cr))
    (first
     | exact ⟨a0, a1, a2, a3⟩
     | exact cC)
    (first
     | (go_at_call 53; refine (put_any B b _ _ 0 o _ wA.drew (by exact HNA.out) hB HF.out.keep (fun w' hb => HV.out w' (KWA.out.keep.trans (of_drewK hb)))).mono ?_; rintro e wC ⟨rfl, ovC, NC, KC⟩; have bC := (KC.ops w.heap.size _ _ HbA.out.1 HbA.out.2).1; have cC : wC.cell? ⟨w.heap.size, 0, none⟩ = some (.int .i64 o.kind) ∧ wC.cell? ⟨w.heap.size, 1, none⟩ = some (.int .i64 o.n) ∧ wC.cell? ⟨w.heap.size, 2, none⟩ = some (.string o.text) ∧ wC.cell? ⟨w.heap.size, 3, none⟩ = some (.slice ar o.attrs.length cr) := ⟨by rw [Lib.cell_of_heap bC]; rfl, by rw [Lib.cell_of_heap bC]; rfl, by rw [Lib.cell_of_heap bC]; rfl, by rw [Lib.cell_of_heap bC]; rfl⟩))
   have FIN : ∃ ov', NSt mx wC B b ov' (add (l, g) o).1 (add (l, g) o).2 ∧ KeepO B w wC ov ov' := ⟨ovC, by rw [HR.out]; exact NC, KWA.out.trans (KeepO.of_drew KC)⟩; have HFIN := hid FIN; clear FIN NC KC bC cC; go_wp2_with fail
   go_end0
   exact ⟨rfl, HFIN.out⟩
  ·have t1 : (o.kind == 1) = false := by rw [beq_eq_false_iff_ne]; exact hk1
   have HR := hid (show add (l, g) o = (put l o, g) by unfold add; rw [if_neg hk3, if_neg hk1]); clear h hf hv hW BW hbox hBw hk3 hk1 p3 k3 f3; go_enter Try.func27, Try.ntmps27
   go_wp2_with fail
   rw [← HW.out]; go_wp2_with fail
   go_region_held3 (fun w' => w'.cell? ⟨w.heap.size, 0, none⟩ = some (.int .i64 o.kind) ∧ w'.cell? ⟨w.heap.size, 1, none⟩ = some (.int .i64 o.n) ∧ w'.cell? ⟨w.heap.size, 2, none⟩ = some (.string o.text) ∧ w'.cell? ⟨w.heap.size, 3, none⟩ = some (.slice ar o.attrs.length cr))
    (first
     | exact ⟨c0, c1, c2, c3⟩
     | exact cC)
    (first
     | (go_at_call 53; refine (put_any B b _ l g o _ W.drew (by exact HS.out) hB HF.out.ins (fun w' hb => HV.out w' ((keep_below HBW.out HBw.out).trans (of_drewK hb)))).mono ?_; rintro e wC ⟨rfl, ovC, NC, KC⟩; have bC := (KC.ops w.heap.size _ _ (by exact HBX.out) HNE.out).1; have cC : wC.cell? ⟨w.heap.size, 0, none⟩ = some (.int .i64 o.kind) ∧ wC.cell? ⟨w.heap.size, 1, none⟩ = some (.int .i64 o.n) ∧ wC.cell? ⟨w.heap.size, 2, none⟩ = some (.string o.text) ∧ wC.cell? ⟨w.heap.size, 3, none⟩ = some (.slice ar o.attrs.length cr) := ⟨by rw [Lib.cell_of_heap bC]; rfl, by rw [Lib.cell_of_heap bC]; rfl, by rw [Lib.cell_of_heap bC]; rfl, by rw [Lib.cell_of_heap bC]; rfl⟩))
   have FIN : ∃ ov', NSt mx wC B b ov' (add (l, g) o).1 (add (l, g) o).2 ∧ KeepO B w wC ov ov' := ⟨ovC, by rw [HR.out]; exact NC, (keepO_below HBW.out HBw.out ov).trans (KeepO.of_drew KC)⟩; have HFIN := hid FIN; clear FIN NC KC bC cC; go_wp2_with fail
   go_end0
   exact ⟨rfl, HFIN.out⟩
set_option maxHeartbeats 4000000 in
set_option maxRecDepth 100000 in
theorem add_t (B b : Nat) (ov : Value) (s : List OpD × Int) (o : OpD) (av : Value) (w : World) (h : NSt mx w B b ov s.1 s.2) (hB : B ≤ b) (hf : FitsS s o) (hv : ∀ w', Keep B TS w w' → AtRow w' av o.attrs) (tn : (o.n == 0) = true) (_tt : o.text.toList.isEmpty = false) (tt2 : (o.text.toList == []) = false) :
 Calls Try.prog 27 #[.pointer (some ⟨b, 0, none⟩), opAgg o av] w (AddOut mx w B b ov s o) := by
 obtain ⟨l, g⟩ := s; have hBw : B ≤ w.heap.size := Nat.le_trans hB (Nat.le_of_lt h.lt); obtain ⟨ar, cr, rfl⟩ := (hv w (Keep.refl _ _ _)).shape; obtain ⟨W, hW⟩ : ∃ W, W = w.alloc (.cells #[.int .i64 o.kind, .int .i64 o.n, .string o.text, .slice ar o.attrs.length cr] 40) := ⟨_, rfl⟩; have BW : Below w.heap.size w W := by rw [hW]; exact below_box _ _
 have hbox : W.heap[w.heap.size]? = some (.cells #[.int .i64 o.kind, .int .i64 o.n, .string o.text, .slice ar o.attrs.length cr] 40 (0, 0)) := by rw [hW]; exact heap_new _ _
 have HNE := hid (show ov.ownBlock ≠ some w.heap.size from fun e => by have := h.ov_lt _ e; omega); have HBX := hid hbox; have HBW := hid BW; have HS := hid (h.below BW); have HV := hid hv; have HF := hid hf; have HW := hid hW; have HBw := hid hBw; have hblw := h.lt; have p3 := h.cell3.1; have k3 := HS.out.cell3.1; have f3 := HS.out.cell3.2; have c0 : W.cell? ⟨w.heap.size, 0, none⟩ = some (.int .i64 o.kind) := by rw [Lib.cell_of_heap hbox]; rfl
 have c1 : W.cell? ⟨w.heap.size, 1, none⟩ = some (.int .i64 o.n) := by rw [Lib.cell_of_heap hbox]; rfl
 have c2 : W.cell? ⟨w.heap.size, 2, none⟩ = some (.string o.text) := by rw [Lib.cell_of_heap hbox]; rfl
 have c3 : W.cell? ⟨w.heap.size, 3, none⟩ = some (.slice ar o.attrs.length cr) := by rw [Lib.cell_of_heap hbox]; rfl
 by_cases hk3 : o.kind = 3
 ·have t3 : (o.kind == 3) = true := by rw [hk3]; rfl
  have hR : add (l, g) o = (l, g + o.n) := by unfold add; rw [if_pos hk3]
  have hwr : IntKind.i64.wrap (g + o.n) = g + o.n := by
   have h1 := hf.g0; have h2 := hf.g1; have h3 := hf.o1; have h4 := hf.ins.n0; exact IntWalk.i64_in _ (by simp only at h1 h2; omega)
  obtain ⟨N2, K2⟩ := HS.out.setG hB (g + o.n); have FIN : ∃ ov', NSt mx (W.setCell ⟨b, 3, none⟩ (.int .i64 (g + o.n))) B b ov' (add (l, g) o).1 (add (l, g) o).2 ∧ KeepO B w (W.setCell ⟨b, 3, none⟩ (.int .i64 (g + o.n))) ov ov' := ⟨ov, by rw [hR]; exact N2, (keepO_below BW hBw _).trans K2⟩; have HFIN := hid FIN; clear h hf hv hW BW hbox hBw hk3 hR N2 K2 FIN; go_enter Try.func27, Try.ntmps27
  go_wp2_with fail
  rw [← HW.out]; go_wp2_with fail
  go_region
  go_wp2_with fail
  go_end0
  obtain ⟨ov', a1, a2⟩ := HFIN.out; exact ⟨rfl, ov', a1, ⟨a2.keep.drew, a2.ops⟩⟩
 ·have t3 : (o.kind == 3) = false := by rw [beq_eq_false_iff_ne]; exact hk3
  by_cases hk1 : o.kind = 1
  ·have t1 : (o.kind == 1) = true := by rw [hk1]; rfl
   have HR := hid (show add (l, g) o = (put (flush (l, g)) o, 0) by unfold add; rw [if_neg hk3, if_pos hk1]); clear h hf hv hW BW hbox hBw hk3 hk1 p3 k3 f3; go_enter Try.func27, Try.ntmps27
   go_wp2_with fail
   rw [← HW.out]; go_wp2_with fail
   refine (deleted_any B b ov l g _ HS.out hB HF.out.g0 HF.out.del).mono ?_; rintro e wA ⟨rfl, ovA, NA, KA⟩; have bA := (KA.ops w.heap.size _ _ HBX.out HNE.out); have a0 : wA.cell? ⟨w.heap.size, 0, none⟩ = some (.int .i64 o.kind) := by rw [Lib.cell_of_heap bA.1]; rfl
   have a1 : wA.cell? ⟨w.heap.size, 1, none⟩ = some (.int .i64 o.n) := by rw [Lib.cell_of_heap bA.1]; rfl
   have a2 : wA.cell? ⟨w.heap.size, 2, none⟩ = some (.string o.text) := by rw [Lib.cell_of_heap bA.1]; rfl
   have a3 : wA.cell? ⟨w.heap.size, 3, none⟩ = some (.slice ar o.attrs.length cr) := by rw [Lib.cell_of_heap bA.1]; rfl
   have KWA := hid ((keepO_below HBW.out HBw.out ov).trans KA); have HNA := hid NA; have HbA := hid bA; clear NA KA bA c0 c1 c2 c3; go_wp2_with fail
   go_region_held3 (fun w' => w'.cell? ⟨w.heap.size, 0, none⟩ = some (.int .i64 o.kind) ∧ w'.cell? ⟨w.heap.size, 1, none⟩ = some (.int .i64 o.n) ∧ w'.cell? ⟨w.heap.size, 2, none⟩ = some (.string o.text) ∧ w'.cell? ⟨w.heap.size, 3, none⟩ = some (.slice ar o.attrs.length cr))
    (first
     | exact ⟨a0, a1, a2, a3⟩
     | exact cC)
    (first
     | (go_at_call 53; refine (put_any B b _ _ 0 o _ wA.drew (by exact HNA.out) hB HF.out.keep (fun w' hb => HV.out w' (KWA.out.keep.trans (of_drewK hb)))).mono ?_; rintro e wC ⟨rfl, ovC, NC, KC⟩; have bC := (KC.ops w.heap.size _ _ HbA.out.1 HbA.out.2).1; have cC : wC.cell? ⟨w.heap.size, 0, none⟩ = some (.int .i64 o.kind) ∧ wC.cell? ⟨w.heap.size, 1, none⟩ = some (.int .i64 o.n) ∧ wC.cell? ⟨w.heap.size, 2, none⟩ = some (.string o.text) ∧ wC.cell? ⟨w.heap.size, 3, none⟩ = some (.slice ar o.attrs.length cr) := ⟨by rw [Lib.cell_of_heap bC]; rfl, by rw [Lib.cell_of_heap bC]; rfl, by rw [Lib.cell_of_heap bC]; rfl, by rw [Lib.cell_of_heap bC]; rfl⟩))
   have FIN : ∃ ov', NSt mx wC B b ov' (add (l, g) o).1 (add (l, g) o).2 ∧ KeepO B w wC ov ov' := ⟨ovC, by rw [HR.out]; exact NC, KWA.out.trans (KeepO.of_drew KC)⟩; have HFIN := hid FIN; clear FIN NC KC bC cC; go_wp2_with fail
   go_end0
   exact ⟨rfl, HFIN.out⟩
  ·have t1 : (o.kind == 1) = false := by rw [beq_eq_false_iff_ne]; exact hk1
   have HR := hid (show add (l, g) o = (put l o, g) by unfold add; rw [if_neg hk3, if_neg hk1]); clear h hf hv hW BW hbox hBw hk3 hk1 p3 k3 f3; go_enter Try.func27, Try.ntmps27
   go_wp2_with fail
   rw [← HW.out]; go_wp2_with fail
   go_region_held3 (fun w' => w'.cell? ⟨w.heap.size, 0, none⟩ = some (.int .i64 o.kind) ∧ w'.cell? ⟨w.heap.size, 1, none⟩ = some (.int .i64 o.n) ∧ w'.cell? ⟨w.heap.size, 2, none⟩ = some (.string o.text) ∧ w'.cell? ⟨w.heap.size, 3, none⟩ = some (.slice ar o.attrs.length cr))
    (first
     | exact ⟨c0, c1, c2, c3⟩
     | exact cC)
    (first
     | (go_at_call 53; refine (put_any B b _ l g o _ W.drew (by exact HS.out) hB HF.out.ins (fun w' hb => HV.out w' ((keep_below HBW.out HBw.out).trans (of_drewK hb)))).mono ?_; rintro e wC ⟨rfl, ovC, NC, KC⟩; have bC := (KC.ops w.heap.size _ _ (by exact HBX.out) HNE.out).1; have cC : wC.cell? ⟨w.heap.size, 0, none⟩ = some (.int .i64 o.kind) ∧ wC.cell? ⟨w.heap.size, 1, none⟩ = some (.int .i64 o.n) ∧ wC.cell? ⟨w.heap.size, 2, none⟩ = some (.string o.text) ∧ wC.cell? ⟨w.heap.size, 3, none⟩ = some (.slice ar o.attrs.length cr) := ⟨by rw [Lib.cell_of_heap bC]; rfl, by rw [Lib.cell_of_heap bC]; rfl, by rw [Lib.cell_of_heap bC]; rfl, by rw [Lib.cell_of_heap bC]; rfl⟩))
   have FIN : ∃ ov', NSt mx wC B b ov' (add (l, g) o).1 (add (l, g) o).2 ∧ KeepO B w wC ov ov' := ⟨ovC, by rw [HR.out]; exact NC, (keepO_below HBW.out HBw.out ov).trans (KeepO.of_drew KC)⟩; have HFIN := hid FIN; clear FIN NC KC bC cC; go_wp2_with fail
   go_end0
   exact ⟨rfl, HFIN.out⟩
set_option maxHeartbeats 4000000 in
set_option maxRecDepth 100000 in
theorem add_none (B b : Nat) (ov : Value) (s : List OpD × Int) (o : OpD) (av : Value) (w : World) (h : NSt mx w B b ov s.1 s.2) (hB : B ≤ b) (hv : ∃ a c, av = .slice a o.attrs.length c) (tn : (o.n == 0) = true) (_tt : o.text.toList.isEmpty = true) (tt2 : (o.text.toList == []) = true) :
 Calls Try.prog 27 #[.pointer (some ⟨b, 0, none⟩), opAgg o av] w fun e w' => e = .returned (.tuple #[]) ∧ NSt mx w' B b ov s.1 s.2 ∧ KeepO B w w' ov ov := by
 have hBw : B ≤ w.heap.size := Nat.le_trans hB (Nat.le_of_lt h.lt); obtain ⟨ar, cr, rfl⟩ := hv; have HB := hid (below_box w (.cells #[.int .i64 o.kind, .int .i64 o.n, .string o.text, .slice ar o.attrs.length cr] 40)); have HS := hid h; clear h; go_enter Try.func27, Try.ntmps27
 go_wp2_with fail
 refine bodyPost_ret (results_none rfl _ _ _) rfl ?_; exact ⟨rfl, HS.out.below HB.out, keepO_below HB.out hBw _⟩
def AddGOut (mx : Bool × Int) (w : World) (B b : Nat) (ov : Value) (s : List OpD × Int) (o : OpD) (e : Ending) (w' : World) : Prop := e = .returned (.tuple #[]) ∧ ∃ ov', NSt mx w' B b ov' (addG s o).1 (addG s o).2 ∧ KeepO B w w' ov ov'
theorem addG_any (B b : Nat) (ov : Value) (s : List OpD × Int) (o : OpD) (av : Value) (w : World) (h : NSt mx w B b ov s.1 s.2) (hB : B ≤ b) (hf : FitsS s o) (hv : ∀ w', Keep B TS w w' → AtRow w' av o.attrs) :
 Calls Try.prog 27 #[.pointer (some ⟨b, 0, none⟩), opAgg o av] w (AddGOut mx w B b ov s o) := by
 unfold AddGOut addG
 by_cases hn : o.n = 0
 ·have tn : (o.n == 0) = true := by rw [hn]; rfl
  by_cases ht : o.text.size = 0
  ·rw [if_pos ⟨hn, ht⟩]
   have := text_empty ht; exact (add_none B b ov s o av w h hB (hv w (Keep.refl _ _ _)).shape tn this.1 (by rw [this.2]; rfl)).mono fun e w' ⟨h1, h2, h3⟩ => ⟨h1, ov, h2, h3⟩
  ·rw [if_neg fun h => ht h.2]
   have := text_full ht; exact add_t B b ov s o av w h hB hf hv tn this (by cases hx : o.text.toList with | nil => rw [hx] at this; cases this | cons _ _ => rfl)
 ·rw [if_neg fun h => hn h.1]
  exact add_n B b ov s o av w h hB hf hv (by rw [beq_eq_false_iff_ne]; exact hn)
end Fm
end
end Go.Proofs.Ytchceolbbkhnnaa
