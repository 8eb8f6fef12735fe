import Derived.Test.YtchceolbbkhnnaaGJ4
import Derived.Test.YtchceolbbkhnnaaGJ6
import Derived.Test.YtchceolbbkhnnaaGB4
namespace Go.Proofs.Ytchceolbbkhnnaa
open Go.RowKit Rn Ch
open Cp (Atm opA Bal OkX sizF folN)
open An (fullA)
open Lib (hid)
theorem two_boxes (w : World) (o1 o2 : Obj) : Below w.heap.size w ((w.alloc o1).alloc o2) := ((Below.refl _ _).alloc (Nat.le_refl _) _).alloc (by simp) _
theorem new_at4s (w : World) (o : Obj) (u0 u1 u2 u3 : Value) (e : TypeId) : ∀ j x, [u0, u1, u2, u3][j]? = some x → ((w.alloc o).alloc (.cells #[u0, u1, u2, u3] e)).cell? ((⟨w.heap.size + 1, 0, none⟩ : Addr).add j) = some x := by
 have h := new_at4 (w.alloc o) u0 u1 u2 u3 e
 rwa [World.size_alloc] at h
theorem follow8 {fi : Bool} {a b : List (ByteArray × ByteArray)} (ha : chgB a = true) (hb : chgB b = true) : followR fi a b = Cp.flw fi a b ∧ followE a b = 0 := by
 unfold followR followE; rw [ha, hb]; exact ⟨if_pos (show (true && true) = true from rfl), if_pos (show (true && true) = true from rfl)⟩
theorem flw_both {fi : Bool} {w wr : World} {X Y R : List Atm} {m n : Nat} {ox oy : OpD} {xar yar : Option Addr} {xcr ycr : Nat} (hW : Cp.WayG fi X Y R m n) (hi : m < X.length) (hk : n < Y.length) (okx : OkX X) (oky : OkX Y) (hox : ox = opA X[m]) (hoy : oy = opA Y[n]) (hx : ∃ a, X[m] = .keep a) (hy : ¬ Y[n] = .del) (hz : ¬ ∃ c b, Y[n] = .ins c b)
 (rx : wr.ownsRow w.heap.size 81 2 (.slice xar ox.attrs.length xcr) ox.attrs.length (flat ox.attrs)) (ry : wr.ownsRow w.heap.size 81 2 (.slice yar oy.attrs.length ycr) oy.attrs.length (flat oy.attrs)) :
 ∃ R8 : Cp.AL, Cp.WayG fi X Y (R ++ [.keep R8]) (m + 1) (n + 1) ∧ ({ oy with attrs := R8 } : OpD) = opA (.keep R8) ∧ ∀ Z, Below wr.heap.size wr Z → Calls Try.prog 42 #[.slice xar ox.attrs.length xcr, .slice yar oy.attrs.length ycr, .bool fi] Z (RowOut Z R8 0) := by
 obtain ⟨a, hx⟩ := hx; have ex := okx _ (List.getElem_mem hi); have ey := oky _ (List.getElem_mem hk); cases hyn : Y[n] with
 | ins d b => exact absurd ⟨d, b, hyn⟩ hz
 | del => exact absurd hyn hy
 | keep b =>
   rw [hx] at ex hox; rw [hyn] at ey hoy; subst hox; subst hoy; refine ⟨Cp.flw fi a b, (hW.met hi hk).1 a b hx hyn, rfl, fun Z hZ => ?_⟩; obtain ⟨g1, g2⟩ := follow8 (fi := fi) ex ey; have h := refFollow_any fi _ _ _ _ Z (row_of_own (row_below rx hZ)) (row_of_own (row_below ry hZ)) (small_chg (chg08 ex)).sized (small_chg (chg08 ey)).sized; rw [show (opA (.keep a)).attrs = a from rfl, show (opA (.keep b)).attrs = b from rfl, g1, g2] at h; exact h
set_option maxRecDepth 100000 in
set_option maxHeartbeats 16000000 in
theorem refFollow7_any (fi : Bool) (f : Int) (va : Value) (A : List OpD) (g : Int) (vb : Value) (C : List OpD) (w : World) (hva : OpRow w va A) (hza : OSized A) (hvb : OpRow w vb C) (hzb : OSized C) (tA : TSmall A) (tC : TSmall C) :
 Calls Try.prog 16 #[chAgg f va, chAgg g vb, .bool fi] w (ChOwn w (if folE fi f g A C = 0 then toN f A else 0) (folE fi f g A C) (folR fi f g A C)) := by
 obtain ⟨F, hF⟩ : ∃ F, F = if folE fi f g A C = 0 then toN f A else 0 := ⟨_, rfl⟩; rw [← hF]; have HFF := hid hF; clear hF; obtain ⟨aa, ac, rfl⟩ := hva.shape; obtain ⟨ba, bc, rfl⟩ := hvb.shape; obtain ⟨W, hW⟩ : ∃ W, W = ((w.alloc (.cells #[.int .i64 f, .slice aa A.length ac] 24)).alloc (.cells #[.int .i64 g, .slice ba C.length bc] 24)).alloc (.cells #[.int .i64 0, .slice none 0 0] 24) := ⟨_, rfl⟩; obtain ⟨h0, h1, h2, bW⟩ := box3J w (.cells #[.int .i64 f, .slice aa A.length ac] 24) (.cells #[.int .i64 g, .slice ba C.length bc] 24) (.cells #[.int .i64 0, .slice none 0 0] 24); rw [← hW] at h0 h1 h2 bW; have HW := hid hW; have HVA := hid (hva.below bW); have HVB := hid (hvb.below bW); have HT := hid (refTo_any f _ A W HVA.out hza tA); have HR := hid (fun X hX => refRight_any g (.slice ba C.length bc) C X (HVB.out.below hX) hzb tC); clear hW hva hvb hza hzb tA tC; have H0 := hid h0; have H1 := hid h1
 have H2 := hid h2; have BW := hid bW
 have FBAD := hid (fun (Y : World) (E : Int) (hb : Below w.heap.size w Y) (hr : Y.heap[w.heap.size + 1 + 1]? = some (.cells #[.int .i64 0, .slice none 0 0] 24 (0, 0))) (hE : folE fi f g A C = E) (hn : E ≠ 0) =>
  show ChOwn w F (folE fi f g A C) (folR fi f g A C) (.returned (.tuple #[chAgg 0 (.slice none 0 0), .int .i64 E])) ((Y.setCell ⟨w.heap.size + 1 + 1, 0, none⟩ (.int .i64 0)).setCell ⟨w.heap.size + 1 + 1, 1, none⟩ (.slice none 0 0)) ∧ ((Y.setCell ⟨w.heap.size + 1 + 1, 0, none⟩ (.int .i64 0)).setCell ⟨w.heap.size + 1 + 1, 1, none⟩ (.slice none 0 0)).cell? ⟨w.heap.size + 1 + 1, 0, none⟩ = some (.int .i64 0) ∧ ((Y.setCell ⟨w.heap.size + 1 + 1, 0, none⟩ (.int .i64 0)).setCell ⟨w.heap.size + 1 + 1, 1, none⟩ (.slice none 0 0)).cell? ⟨w.heap.size + 1 + 1, 1, none⟩ = some (.slice none 0 0) from by
   have rB := nblk_set (j := 0) (u := .int .i64 0) hr; have rC := nblk_set (j := 1) (u := .slice none 0 0) rB; have hR : folR fi f g A C = [] := by unfold folR; rw [if_neg (by rw [hE]; exact hn)]
   refine ⟨⟨none, 0, by rw [HFF.out, hE, if_neg hn, hR]; rfl, by rw [hR]; exact ownOps_nil _ _, (hb.setCell (p := ⟨w.heap.size + 1 + 1, 0, none⟩) (by show w.heap.size ≤ w.heap.size + 1 + 1; omega) _).setCell (p := ⟨w.heap.size + 1 + 1, 1, none⟩) (by show w.heap.size ≤ w.heap.size + 1 + 1; omega) _⟩, (Lib.cell_of_heap rC 0).trans rfl, (Lib.cell_of_heap rC 1).trans rfl⟩)
 obtain ⟨a0, a1, _, _⟩ := cells2 h0; have ha := lt_of_heap h0; clear h0 h1 h2 bW; go_enter Try.func16, Try.ntmps16
 go_wp2_with fail
 rw [← HW.out]; go_wp2_with fail
 refine HT.out.mono ?_; rintro e w1 ⟨rfl, b1⟩; have B1 := hid b1; have G0 := hid (heap_up H0.out b1); have G1 := hid (heap_up H1.out b1); have G2 := hid (heap_up H2.out b1); have HR1 := hid (HR.out w1 b1); clear b1 a0 a1 ha; obtain ⟨a0, a1, _, _⟩ := cells2 G0.out; obtain ⟨b0, b1, _, _⟩ := cells2 G1.out; obtain ⟨c0, c1, d0, d1⟩ := cells2 G2.out; have ha := lt_of_heap G0.out; have hb := lt_of_heap G1.out; have hc := lt_of_heap G2.out
 by_cases hA : toE f A = 0
 ·have t1 : (toE f A != 0) = false := by rw [hA]; rfl
  have HA := hid hA; clear hA; go_wp2_with fail
  refine HR1.out.mono ?_; rintro e w2 ⟨rfl, b2⟩; have B2 := hid (B1.out.trans (b2.mono B1.out.size)); have K0 := hid (heap_up G0.out b2); have K1 := hid (heap_up G1.out b2); have K2 := hid (heap_up G2.out b2); clear b2 a0 a1 b0 b1 c0 c1 d0 d1 ha hb hc; obtain ⟨a0, a1, _, _⟩ := cells2 K0.out; obtain ⟨b0, b1, _, _⟩ := cells2 K1.out; obtain ⟨c0, c1, d0, d1⟩ := cells2 K2.out; have ha := lt_of_heap K0.out; have hb := lt_of_heap K1.out; have hc := lt_of_heap K2.out
  by_cases hC : toE g C = 0
  ·have t2 : (toE g C != 0) = false := by rw [hC]; rfl
   by_cases hm : f = g
   ·subst hm
    have t3 : (f != f) = false := by simp
    have HNF := hid (show nrmF f f A C = 0 by unfold nrmF; rw [if_neg (by rw [HA.out]; simp), if_neg (by rw [hC]; simp), if_neg (by simp)]); have HCC := hid hC; have HXA := hid (fun X hX => refAtoms_any f (.slice aa A.length ac) A X (HVA.out.below hX) ((toE_iff _ _).1 HA.out)); have HXC := hid (fun X hX => refAtoms_any f (.slice ba C.length bc) C X (HVB.out.below hX) ((toE_iff _ _).1 hC)); have HX1 := hid (HXA.out w2 B2.out); clear hC; go_wp2_with fail
    refine HX1.out.mono ?_; rintro e w3 ⟨ux, rfl, O3, b3⟩; have B3 := hid (B2.out.trans (b3.mono B2.out.size)); have M0 := hid (heap_up K0.out b3); have M1 := hid (heap_up K1.out b3); have M2 := hid (heap_up K2.out b3); have HX2 := hid (HXC.out w3 B3.out); obtain ⟨px, hpx, P3⟩ := O3; obtain ⟨xa, xc, rfl⟩ := own_slice P3.1; have HP3 := hid P3; have HBW3 := hid (show w.heap.size ≤ w2.heap.size by have := B2.out.size; have := BW.out.size; omega); have HPX := hid hpx; clear b3 a0 a1 b0 b1 c0 c1 d0 d1 ha hb hc P3 hpx; obtain ⟨b0, b1, _, _⟩ := cells2 M1.out; have hb := lt_of_heap M1.out; go_wp2_with fail
    refine HX2.out.mono ?_; rintro e wB ⟨uy, rfl, O4, b4⟩; have B4 := hid (B3.out.trans (b4.mono B3.out.size)); have N0 := hid (heap_up M0.out b4); have N2 := hid (heap_up M2.out b4); obtain ⟨py, hpy, P4⟩ := O4; obtain ⟨ya, yc, rfl⟩ := own_slice P4.1; have HPY := hid hpy; have HBW4 := hid (show w.heap.size ≤ w3.heap.size by have := B3.out.size; have := BW.out.size; omega); have PX := hid (OwnP.base (HP3.out.keep (keep_below (ts := []) b4 (Nat.le_refl _)) (by simp) (by simp)) HBW3.out); have PY := hid (OwnP.base P4 HBW4.out); have HF := hid (Cp.full_g fi HA.out HCC.out); obtain ⟨X, hX⟩ : ∃ X, X = fullA f (norm A) := ⟨_, rfl⟩; obtain ⟨Y, hY⟩ : ∃ Y, Y = fullA f (norm C) := ⟨_, rfl⟩; rw [← hX] at HPX HF; rw [← hY] at HPY HF; have LX := hid (show px.length = X.length by have := congrArg List.length HPX.out; simpa using this); have LY := hid (show py.length = Y.length by have := congrArg List.length HPY.out; simpa using this)
    have HBB := hid (show w.heap.size ≤ wB.heap.size by have := B4.out.size; have := BW.out.size; omega); have J0 := hid (LS.nil w wB); clear b4 b0 b1 hb P4 hpy hX hY; go_wp2_with fail
    have hn0 : 0 ≤ toN f A ∧ toN f A ≤ 20000 := by
     have h1 := (toE_iff _ _).1 HA.out; rw [toN_ok HA.out]; have := dl_le_kd h1.2.2.2.1; have := ins_nonneg A; have := h1.2.2.2.2.1; have := h1.2.2.2.2.2; omega
    obtain ⟨N, hN⟩ : ∃ N, N = toN f A := ⟨_, rfl⟩; rw [← hN] at hn0 ⊢; have HNN := hid hN; clear hN; go_loopw [12, 13, 14, 15] (fun o l i k wr => ∃ (m n : Nat) (R : List Atm) (ps : List PA) (oa : Option Addr) (oc : Nat), o = .slice oa ps.length oc ∧ l = .int .i64 (N + (Cp.iA R : Int) - (Cp.dA R : Int)) ∧ i = .int .i64 (m : Int) ∧ k = .int .i64 (n : Int) ∧ Cp.WayG fi X Y R m n ∧ ps.map (·.1) = R.map opA ∧ LS w wB wr ps oa oc) (fun _ _ i k _ => (X.length + 1 - (intOf i).toNat) + (Y.length + 1 - (intOf k).toNat))
    case atStart => exact ⟨0, 0, [], [], none, 0, rfl, by simp [Cp.iA, Cp.dA], rfl, rfl, Cp.WayG.start HF.out.bal, rfl, J0.out⟩
    case round =>
     obtain ⟨m, n, R, ps, oa, oc, rfl, rfl, rfl, rfl, hw, hps, hJ⟩ := hrel; have hR : R.length ≤ 80000 := by
      have h1 := Cp.fol_len fi X Y; have h2 := congrArg List.length hw.fol; rw [List.length_append] at h2; have := HF.out.lenx; have := HF.out.leny; omega
     have hRI : Cp.iA R ≤ 80000 ∧ Cp.dA R ≤ 80000 := by
      have h1 := Cp.full_len R; have h2 := Cp.dA_le R; omega
     obtain ⟨lg, hlg⟩ : ∃ lg, lg = N + (Cp.iA R : Int) - (Cp.dA R : Int) := ⟨_, rfl⟩; rw [← hlg]; have hl0 : -100000 ≤ lg ∧ lg ≤ 200000 := by omega
     obtain ⟨hl0, hl1⟩ := hl0; have HLG := hid hlg; have hw1 : IntKind.i64.wrap (lg + 1) = lg + 1 := IntWalk.i64_in _ (by omega); have hw2 : IntKind.i64.wrap (lg - 1) = lg - 1 := IntWalk.i64_in _ (by omega); clear hlg hRI; have hpl : ps.length ≤ 80000 := by have := congrArg List.length hps; simp only [List.length_map] at this; omega
     have lx4 : px.length ≤ 40000 := by rw [LX.out]; exact HF.out.lenx
     have ly4 : py.length ≤ 40000 := by rw [LY.out]; exact HF.out.leny
     have hhs := hJ.below.size; have HW8 := hid hw; have HPS := hid hps; have HJ := hid hJ; have hmx : m ≤ px.length := by rw [LX.out]; exact hw.hi
     have hny : n ≤ py.length := by rw [LY.out]; exact hw.hk
     have HB4 := hid (show Below w.heap.size w wr from (BW.out.trans (B4.out.mono BW.out.size)).trans (hJ.below.mono HBB.out)); have R2 := hid (heap_up N2.out hJ.below); clear hw hps hJ
     by_cases hk : n < py.length
     ·have hk' : (n : Int) < (py.length : Int) := by omega
      have hkY : n < Y.length := by rw [← LY.out]; exact hk
      obtain ⟨yg, yar, ycr, hye, hyl, hys, hyo, hyc⟩ := px_at PY.out hk; subst hye; obtain ⟨oy, hoy⟩ : ∃ o, o = py[n].1 := ⟨_, rfl⟩; rw [← hoy] at hys hyo hyc; have HOY := hid (show oy = opA Y[n] by rw [hoy]; have h := congrArg (fun l => l[n]?) HPY.out; simp only [List.getElem?_map] at h; rw [List.getElem?_eq_getElem hk, List.getElem?_eq_getElem hkY] at h; injection h); clear hoy; obtain ⟨y0, y1, y2, y3⟩ := hyc wr HJ.out.below; have HYC8 := hid hyc; have HYO := hid (row_below hyo HJ.out.below); have hyg : yg < wr.heap.size := by omega
      have HYL := hid hyl; clear hys hyo hyc hyl
      by_cases hiy : ∃ c b, Y[n] = .ins c b
      ·have ky : (oy.kind == 2) = true := by obtain ⟨c, b, hy⟩ := hiy; rw [HOY.out, hy]; rfl
       by_cases hi : m < px.length
       ·have hi' : (m : Int) < (px.length : Int) := by omega
        have hiX : m < X.length := by rw [← LX.out]; exact hi
        obtain ⟨xg, xar, xcr, hxe, hxl, hxs, hxo, hxc⟩ := px_at PX.out hi; subst hxe; obtain ⟨ox, hox⟩ : ∃ o, o = px[m].1 := ⟨_, rfl⟩; rw [← hox] at hxs hxo hxc; have HOX := hid (show ox = opA X[m] by rw [hox]; have h := congrArg (fun l => l[m]?) HPX.out; simp only [List.getElem?_map] at h; rw [List.getElem?_eq_getElem hi, List.getElem?_eq_getElem hiX] at h; injection h); clear hox; obtain ⟨x0, x1, x2, x3⟩ := hxc wr HJ.out.below; have HXC8 := hid hxc; have HXO := hid (row_below hxo HJ.out.below); have hxg : xg < wr.heap.size := by omega
        have HXL := hid hxl; clear hxs hxo hxc hxl
        by_cases hix : ∃ c a, X[m] = .ins c a
        ·have kx : (ox.kind == 2) = true := by obtain ⟨c, a, hx⟩ := hix; rw [HOX.out, hx]; rfl
         cases fi with
         | true =>
           have HW9 := hid (show Cp.WayG _ X Y (R ++ [Y[n]]) m (n + 1) by obtain ⟨c, b, hy⟩ := hiy; exact Cp.WayG.mine HW8.out hkY hy (.inl rfl)); have HPS9 := hid (show ps.map (·.1) ++ [oy] = (R ++ [Y[n]]).map opA by rw [HPS.out, HOY.out, List.map_append]; rfl); have HLG9 := hid (show N + (Cp.iA (R ++ [Y[n]]) : Int) - (Cp.dA (R ++ [Y[n]]) : Int) = lg + 1 by obtain ⟨c, b, hy⟩ := hiy; obtain ⟨_, s2, s3⟩ := Cp.sums_append R [Y[n]]; rw [s2, s3, hy, HLG.out]; simp only [Cp.iA, Cp.dA]; omega); clear hiy; go_wp2_with (first | (at_builtin; refine wpList_app_ls rfl (.tmp 127) (.tmp 132) rfl oa oc ps rfl (HJ.out.grow (below_box wr (.cells #[.int .i64 oy.kind, .int .i64 oy.n, .string oy.text, .slice yar oy.attrs.length ycr] 40))) (oy, Value.slice yar oy.attrs.length ycr) ⟨wr.heap.size, 0, none⟩ 1 rfl (new_at4 _ _ _ _ _ _) (row_below HYO.out (below_box wr (.cells #[.int .i64 oy.kind, .int .i64 oy.n, .string oy.text, .slice yar oy.attrs.length ycr] 40))) (by omega) ?_; intro oa' oc' wC LC; obtain ⟨p2, hp2⟩ : ∃ p2, p2 = ps ++ [((oy, Value.slice yar oy.attrs.length ycr) : PA)] := ⟨_, rfl⟩; rw [← hp2] at LC ⊢; have HLC := hid LC; have HP2 := hid hp2; clear LC hp2))
           go_roundw
           case rel => exact ⟨m, n + 1, _, p2, oa', oc', rfl, by rw [HLG9.out], by go_num, by go_num, HW9.out, by rw [HP2.out, List.map_append]; exact HPS9.out, HLC.out⟩
           case measure => simp [intOf]; omega
         | false =>
           have HW9 := hid (show Cp.WayG _ X Y (R ++ [Atm.keep []]) (m + 1) n by obtain ⟨c, a, hx⟩ := hix; exact Cp.WayG.theirs HW8.out hiX hx (.inl rfl)); have HPS9 := hid (show ps.map (·.1) ++ [(⟨1, 1, ⟨#[]⟩, []⟩ : OpD)] = (R ++ [Atm.keep []]).map opA by rw [HPS.out, List.map_append]; rfl); have HLG9 := hid (show N + (Cp.iA (R ++ [Atm.keep []]) : Int) - (Cp.dA (R ++ [Atm.keep []]) : Int) = lg by obtain ⟨_, s2, s3⟩ := Cp.sums_append R [Atm.keep []]; rw [s2, s3, HLG.out]; simp only [Cp.iA, Cp.dA]; omega); clear hix; go_wp2_with (first | (at_builtin; refine wpList_app_ls rfl (.tmp 140) (.tmp 142) rfl oa oc ps rfl (HJ.out.grow (below_box wr (.cells #[.int .i64 1, .int .i64 1, .string ⟨#[]⟩, .slice none 0 0] 40))) ((⟨1, 1, ⟨#[]⟩, []⟩ : OpD), Value.slice none 0 0) ⟨wr.heap.size, 0, none⟩ 1 rfl (new_at4 _ _ _ _ _ _) (World.ownsRow_nil _ _ _ _) (by omega) ?_; intro oa' oc' wC LC; obtain ⟨p2, hp2⟩ : ∃ p2, p2 = ps ++ [(((⟨1, 1, ⟨#[]⟩, []⟩ : OpD), Value.slice none 0 0) : PA)] := ⟨_, rfl⟩; rw [← hp2] at LC ⊢; have HLC := hid LC; have HP2 := hid hp2; clear LC hp2))
           go_roundw
           case rel => exact ⟨m + 1, n, _, p2, oa', oc', rfl, by rw [HLG9.out], by go_num, by go_num, HW9.out, by rw [HP2.out, List.map_append]; exact HPS9.out, HLC.out⟩
           case measure => simp [intOf]; omega
        ·have kx : (ox.kind == 2) = false := by rw [HOX.out]; cases hx : X[m] <;> first | rfl | exact absurd ⟨_, _, hx⟩ hix
         have HIX := hid hix; clear hix; cases fi with
         | true =>
           have HW9 := hid (show Cp.WayG _ X Y (R ++ [Y[n]]) m (n + 1) by obtain ⟨c, b, hy⟩ := hiy; exact Cp.WayG.mine HW8.out hkY hy (.inl rfl)); have HPS9 := hid (show ps.map (·.1) ++ [oy] = (R ++ [Y[n]]).map opA by rw [HPS.out, HOY.out, List.map_append]; rfl); have HLG9 := hid (show N + (Cp.iA (R ++ [Y[n]]) : Int) - (Cp.dA (R ++ [Y[n]]) : Int) = lg + 1 by obtain ⟨c, b, hy⟩ := hiy; obtain ⟨_, s2, s3⟩ := Cp.sums_append R [Y[n]]; rw [s2, s3, hy, HLG.out]; simp only [Cp.iA, Cp.dA]; omega); clear hiy; go_wp2_with (first | (at_builtin; refine wpList_app_ls rfl (.tmp 127) (.tmp 132) rfl oa oc ps rfl (HJ.out.grow (below_box wr (.cells #[.int .i64 oy.kind, .int .i64 oy.n, .string oy.text, .slice yar oy.attrs.length ycr] 40))) (oy, Value.slice yar oy.attrs.length ycr) ⟨wr.heap.size, 0, none⟩ 1 rfl (new_at4 _ _ _ _ _ _) (row_below HYO.out (below_box wr (.cells #[.int .i64 oy.kind, .int .i64 oy.n, .string oy.text, .slice yar oy.attrs.length ycr] 40))) (by omega) ?_; intro oa' oc' wC LC; obtain ⟨p2, hp2⟩ : ∃ p2, p2 = ps ++ [((oy, Value.slice yar oy.attrs.length ycr) : PA)] := ⟨_, rfl⟩; rw [← hp2] at LC ⊢; have HLC := hid LC; have HP2 := hid hp2; clear LC hp2))
           go_roundw
           case rel => exact ⟨m, n + 1, _, p2, oa', oc', rfl, by rw [HLG9.out], by go_num, by go_num, HW9.out, by rw [HP2.out, List.map_append]; exact HPS9.out, HLC.out⟩
           case measure => simp [intOf]; omega
         | false =>
           have HW9 := hid (show Cp.WayG _ X Y (R ++ [Y[n]]) m (n + 1) by obtain ⟨c, b, hy⟩ := hiy; exact Cp.WayG.mine HW8.out hkY hy (.inr fun h d a e => HIX.out ⟨d, a, e⟩)); have HPS9 := hid (show ps.map (·.1) ++ [oy] = (R ++ [Y[n]]).map opA by rw [HPS.out, HOY.out, List.map_append]; rfl); have HLG9 := hid (show N + (Cp.iA (R ++ [Y[n]]) : Int) - (Cp.dA (R ++ [Y[n]]) : Int) = lg + 1 by obtain ⟨c, b, hy⟩ := hiy; obtain ⟨_, s2, s3⟩ := Cp.sums_append R [Y[n]]; rw [s2, s3, hy, HLG.out]; simp only [Cp.iA, Cp.dA]; omega); clear hiy; go_wp2_with (first | (at_builtin; refine wpList_app_ls rfl (.tmp 127) (.tmp 132) rfl oa oc ps rfl (HJ.out.grow (below_box wr (.cells #[.int .i64 oy.kind, .int .i64 oy.n, .string oy.text, .slice yar oy.attrs.length ycr] 40))) (oy, Value.slice yar oy.attrs.length ycr) ⟨wr.heap.size, 0, none⟩ 1 rfl (new_at4 _ _ _ _ _ _) (row_below HYO.out (below_box wr (.cells #[.int .i64 oy.kind, .int .i64 oy.n, .string oy.text, .slice yar oy.attrs.length ycr] 40))) (by omega) ?_; intro oa' oc' wC LC; obtain ⟨p2, hp2⟩ : ∃ p2, p2 = ps ++ [((oy, Value.slice yar oy.attrs.length ycr) : PA)] := ⟨_, rfl⟩; rw [← hp2] at LC ⊢; have HLC := hid LC; have HP2 := hid hp2; clear LC hp2))
           go_roundw
           case rel => exact ⟨m, n + 1, _, p2, oa', oc', rfl, by rw [HLG9.out], by go_num, by go_num, HW9.out, by rw [HP2.out, List.map_append]; exact HPS9.out, HLC.out⟩
           case measure => simp [intOf]; omega
       ·have hi' : ¬ (m : Int) < (px.length : Int) := by omega
        have hiX : ¬ m < X.length := by rw [← LX.out]; exact hi
        cases fi with
        | true =>
          have HW9 := hid (show Cp.WayG _ X Y (R ++ [Y[n]]) m (n + 1) by obtain ⟨c, b, hy⟩ := hiy; exact Cp.WayG.mine HW8.out hkY hy (.inl rfl)); have HPS9 := hid (show ps.map (·.1) ++ [oy] = (R ++ [Y[n]]).map opA by rw [HPS.out, HOY.out, List.map_append]; rfl); have HLG9 := hid (show N + (Cp.iA (R ++ [Y[n]]) : Int) - (Cp.dA (R ++ [Y[n]]) : Int) = lg + 1 by obtain ⟨c, b, hy⟩ := hiy; obtain ⟨_, s2, s3⟩ := Cp.sums_append R [Y[n]]; rw [s2, s3, hy, HLG.out]; simp only [Cp.iA, Cp.dA]; omega); clear hiy; go_wp2_with (first | (at_builtin; refine wpList_app_ls rfl (.tmp 127) (.tmp 132) rfl oa oc ps rfl (HJ.out.grow (below_box wr (.cells #[.int .i64 oy.kind, .int .i64 oy.n, .string oy.text, .slice yar oy.attrs.length ycr] 40))) (oy, Value.slice yar oy.attrs.length ycr) ⟨wr.heap.size, 0, none⟩ 1 rfl (new_at4 _ _ _ _ _ _) (row_below HYO.out (below_box wr (.cells #[.int .i64 oy.kind, .int .i64 oy.n, .string oy.text, .slice yar oy.attrs.length ycr] 40))) (by omega) ?_; intro oa' oc' wC LC; obtain ⟨p2, hp2⟩ : ∃ p2, p2 = ps ++ [((oy, Value.slice yar oy.attrs.length ycr) : PA)] := ⟨_, rfl⟩; rw [← hp2] at LC ⊢; have HLC := hid LC; have HP2 := hid hp2; clear LC hp2))
          go_roundw
          case rel => exact ⟨m, n + 1, _, p2, oa', oc', rfl, by rw [HLG9.out], by go_num, by go_num, HW9.out, by rw [HP2.out, List.map_append]; exact HPS9.out, HLC.out⟩
          case measure => simp [intOf]; omega
        | false =>
          have HW9 := hid (show Cp.WayG _ X Y (R ++ [Y[n]]) m (n + 1) by obtain ⟨c, b, hy⟩ := hiy; exact Cp.WayG.mine HW8.out hkY hy (.inr fun h => absurd h hiX)); have HPS9 := hid (show ps.map (·.1) ++ [oy] = (R ++ [Y[n]]).map opA by rw [HPS.out, HOY.out, List.map_append]; rfl); have HLG9 := hid (show N + (Cp.iA (R ++ [Y[n]]) : Int) - (Cp.dA (R ++ [Y[n]]) : Int) = lg + 1 by obtain ⟨c, b, hy⟩ := hiy; obtain ⟨_, s2, s3⟩ := Cp.sums_append R [Y[n]]; rw [s2, s3, hy, HLG.out]; simp only [Cp.iA, Cp.dA]; omega); clear hiy; go_wp2_with (first | (at_builtin; refine wpList_app_ls rfl (.tmp 127) (.tmp 132) rfl oa oc ps rfl (HJ.out.grow (below_box wr (.cells #[.int .i64 oy.kind, .int .i64 oy.n, .string oy.text, .slice yar oy.attrs.length ycr] 40))) (oy, Value.slice yar oy.attrs.length ycr) ⟨wr.heap.size, 0, none⟩ 1 rfl (new_at4 _ _ _ _ _ _) (row_below HYO.out (below_box wr (.cells #[.int .i64 oy.kind, .int .i64 oy.n, .string oy.text, .slice yar oy.attrs.length ycr] 40))) (by omega) ?_; intro oa' oc' wC LC; obtain ⟨p2, hp2⟩ : ∃ p2, p2 = ps ++ [((oy, Value.slice yar oy.attrs.length ycr) : PA)] := ⟨_, rfl⟩; rw [← hp2] at LC ⊢; have HLC := hid LC; have HP2 := hid hp2; clear LC hp2))
          go_roundw
          case rel => exact ⟨m, n + 1, _, p2, oa', oc', rfl, by rw [HLG9.out], by go_num, by go_num, HW9.out, by rw [HP2.out, List.map_append]; exact HPS9.out, HLC.out⟩
          case measure => simp [intOf]; omega
      ·have ky : (oy.kind == 2) = false := by rw [HOY.out]; cases hy : Y[n] <;> first | rfl | exact absurd ⟨_, _, hy⟩ hiy
       have HIY := hid hiy; clear hiy
       by_cases hi : m < px.length
       ·have hi' : (m : Int) < (px.length : Int) := by omega
        have hiX : m < X.length := by rw [← LX.out]; exact hi
        obtain ⟨xg, xar, xcr, hxe, hxl, hxs, hxo, hxc⟩ := px_at PX.out hi; subst hxe; obtain ⟨ox, hox⟩ : ∃ o, o = px[m].1 := ⟨_, rfl⟩; rw [← hox] at hxs hxo hxc; have HOX := hid (show ox = opA X[m] by rw [hox]; have h := congrArg (fun l => l[m]?) HPX.out; simp only [List.getElem?_map] at h; rw [List.getElem?_eq_getElem hi, List.getElem?_eq_getElem hiX] at h; injection h); clear hox; obtain ⟨x0, x1, x2, x3⟩ := hxc wr HJ.out.below; have HXC8 := hid hxc; have HXO := hid (row_below hxo HJ.out.below); have hxg : xg < wr.heap.size := by omega
        have HXL := hid hxl; clear hxs hxo hxc hxl
        by_cases hix : ∃ c a, X[m] = .ins c a
        ·have kx : (ox.kind == 2) = true := by obtain ⟨c, a, hx⟩ := hix; rw [HOX.out, hx]; rfl
         have HW9 := hid (show Cp.WayG _ X Y (R ++ [Atm.keep []]) (m + 1) n by obtain ⟨c, a, hx⟩ := hix; exact Cp.WayG.theirs HW8.out hiX hx (.inr fun h d b e => HIY.out ⟨d, b, e⟩)); have HPS9 := hid (show ps.map (·.1) ++ [(⟨1, 1, ⟨#[]⟩, []⟩ : OpD)] = (R ++ [Atm.keep []]).map opA by rw [HPS.out, List.map_append]; rfl); have HLG9 := hid (show N + (Cp.iA (R ++ [Atm.keep []]) : Int) - (Cp.dA (R ++ [Atm.keep []]) : Int) = lg by obtain ⟨_, s2, s3⟩ := Cp.sums_append R [Atm.keep []]; rw [s2, s3, HLG.out]; simp only [Cp.iA, Cp.dA]; omega); clear hix; go_wp2_with (first | (at_builtin; refine wpList_app_ls rfl (.tmp 140) (.tmp 142) rfl oa oc ps rfl (HJ.out.grow (below_box wr (.cells #[.int .i64 1, .int .i64 1, .string ⟨#[]⟩, .slice none 0 0] 40))) ((⟨1, 1, ⟨#[]⟩, []⟩ : OpD), Value.slice none 0 0) ⟨wr.heap.size, 0, none⟩ 1 rfl (new_at4 _ _ _ _ _ _) (World.ownsRow_nil _ _ _ _) (by omega) ?_; intro oa' oc' wC LC; obtain ⟨p2, hp2⟩ : ∃ p2, p2 = ps ++ [(((⟨1, 1, ⟨#[]⟩, []⟩ : OpD), Value.slice none 0 0) : PA)] := ⟨_, rfl⟩; rw [← hp2] at LC ⊢; have HLC := hid LC; have HP2 := hid hp2; clear LC hp2))
         go_roundw
         case rel => exact ⟨m + 1, n, _, p2, oa', oc', rfl, by rw [HLG9.out], by go_num, by go_num, HW9.out, by rw [HP2.out, List.map_append]; exact HPS9.out, HLC.out⟩
         case measure => simp [intOf]; omega
        ·have kx : (ox.kind == 2) = false := by rw [HOX.out]; cases hx : X[m] <;> first | rfl | exact absurd ⟨_, _, hx⟩ hix
         have HIX := hid hix; clear hix
         by_cases hdx : X[m] = .del
         ·have kx3 : (ox.kind == 3) = true := by rw [HOX.out, hdx]; rfl
          have HW9 := hid (show Cp.WayG _ X Y R (m + 1) (n + 1) from (Cp.WayG.met HW8.out hiX hkY).2.2 hdx (fun c b h => HIY.out ⟨c, b, h⟩)); clear hdx; go_wp2_with fail
          go_roundw
          case rel => exact ⟨m + 1, n + 1, _, ps, oa, oc, rfl, by rw [HLG.out], by go_num, by go_num, HW9.out, HPS.out, HJ.out⟩
          case measure => simp [intOf]; omega
         ·have hkx : ∃ a, X[m] = .keep a := by
           cases hx : X[m] with
           | ins d a => exact absurd ⟨_, _, hx⟩ HIX.out
           | keep a => exact ⟨a, rfl⟩
           | del => exact absurd hx hdx
          have kx3 : (ox.kind == 3) = false := by obtain ⟨a, hx⟩ := hkx; rw [HOX.out, hx]; rfl
          have kx4 : (ox.kind != 3) = true := by rw [bne, kx3]; rfl
          have HKX := hid hkx; clear hkx hdx
          by_cases hdy : Y[n] = .del
          ·have ky3 : (oy.kind == 3) = true := by rw [HOY.out, hdy]; rfl
           have HDY := hid hdy; clear hdy; have HW9 := hid (show Cp.WayG _ X Y (R ++ [Atm.del]) (m + 1) (n + 1) by obtain ⟨a, hx⟩ := HKX.out; exact (Cp.WayG.met HW8.out hiX hkY).2.1 a hx HDY.out); have HPS9 := hid (show ps.map (·.1) ++ [oy] = (R ++ [Atm.del]).map opA by rw [HPS.out, HOY.out, HDY.out, List.map_append]; rfl); have HLG9 := hid (show N + (Cp.iA (R ++ [Atm.del]) : Int) - (Cp.dA (R ++ [Atm.del]) : Int) = lg - 1 by obtain ⟨_, s2, s3⟩ := Cp.sums_append R [Atm.del]; rw [s2, s3, HLG.out]; simp only [Cp.iA, Cp.dA]; omega); go_wp2_with (first | (at_builtin; refine wpList_app_ls rfl (.tmp 110) (.tmp 112) rfl oa oc ps rfl (HJ.out.grow (two_boxes wr (.cells #[.int .i64 oy.kind, .int .i64 oy.n, .string oy.text, .slice yar oy.attrs.length ycr] 40) (.cells #[.int .i64 oy.kind, .int .i64 oy.n, .string oy.text, .slice yar oy.attrs.length ycr] 40))) (oy, Value.slice yar oy.attrs.length ycr) ⟨wr.heap.size + 1, 0, none⟩ 1 rfl (new_at4s wr (.cells #[.int .i64 oy.kind, .int .i64 oy.n, .string oy.text, .slice yar oy.attrs.length ycr] 40) _ _ _ _ _) (row_below HYO.out (two_boxes wr (.cells #[.int .i64 oy.kind, .int .i64 oy.n, .string oy.text, .slice yar oy.attrs.length ycr] 40) (.cells #[.int .i64 oy.kind, .int .i64 oy.n, .string oy.text, .slice yar oy.attrs.length ycr] 40))) (by omega) ?_; intro oa' oc' wC LC; obtain ⟨p2, hp2⟩ : ∃ p2, p2 = ps ++ [((oy, Value.slice yar oy.attrs.length ycr) : PA)] := ⟨_, rfl⟩; rw [← hp2] at LC ⊢; have HLC := hid LC; have HP2 := hid hp2; clear LC hp2))
           go_roundw
           case rel => exact ⟨m + 1, n + 1, _, p2, oa', oc', rfl, by rw [HLG9.out], by go_num, by go_num, HW9.out, by rw [HP2.out, List.map_append]; exact HPS9.out, HLC.out⟩
           case measure => simp [intOf]; omega
          ·have ky3 : (oy.kind == 3) = false := by rw [HOY.out]; cases hy : Y[n] <;> first | rfl | exact absurd hy hdy
           have HDY := hid hdy; clear hdy; obtain ⟨R8, hW9, hO9, HM⟩ := flw_both HW8.out hiX hkY HF.out.okx HF.out.oky HOX.out HOY.out HKX.out HDY.out HIY.out HXO.out HYO.out (fi := fi); have HW9 := hid hW9; have HPS9 := hid (show ps.map (·.1) ++ [{ oy with attrs := R8 }] = (R ++ [Atm.keep R8]).map opA by rw [HPS.out, hO9, List.map_append]; rfl); have HLG9 := hid (show N + (Cp.iA (R ++ [Atm.keep R8]) : Int) - (Cp.dA (R ++ [Atm.keep R8]) : Int) = lg by obtain ⟨_, s2, s3⟩ := Cp.sums_append R [Atm.keep R8]; rw [s2, s3, HLG.out]; simp only [Cp.iA, Cp.dA]; omega); have HMM := hid HM; clear hW9 hO9 HM; go_upto_region 22 with fail
           refine region_merge6 (fun a a' w' => ∃ (va : Option Addr) (vc : Nat), a' = { a with tmps := ((((((((((((((((a.tmps.setIfInBounds 94 (.tuple #[.slice va R8.length vc, .int .i64 0])).setIfInBounds 95 (.slice (some ⟨xg, 0, none⟩) px.length xc)).setIfInBounds 96 (.int .i64 (m : Int))).setIfInBounds 97 (.pointer (some ⟨xg, m * 4, none⟩))).setIfInBounds 98 (.pointer (some ⟨xg, m * 4 + 3, none⟩))).setIfInBounds 99 (.slice xar ox.attrs.length xcr)).setIfInBounds 100 (.slice (some ⟨yg, 0, none⟩) py.length yc)).setIfInBounds 101 (.int .i64 (n : Int))).setIfInBounds 102 (.pointer (some ⟨yg, n * 4, none⟩))).setIfInBounds 103 (.pointer (some ⟨yg, n * 4 + 3, none⟩))).setIfInBounds 104 (.slice yar oy.attrs.length ycr)).setIfInBounds 105 (.bool fi)).setIfInBounds 106 (.tuple #[.slice va R8.length vc, .int .i64 0])).setIfInBounds 107 (.slice va R8.length vc)).setIfInBounds 108 (.int .i64 0)).setIfInBounds 109 (.pointer (some ⟨wr.heap.size, 3, none⟩))) } ∧ w'.heap[wr.heap.size]? = some (.cells #[.int .i64 oy.kind, .int .i64 oy.n, .string oy.text, .slice va R8.length vc] 40 (0, 0)) ∧ w'.ownsRow w.heap.size 81 2 (.slice va R8.length vc) R8.length (flat R8) ∧ Below wr.heap.size wr w') ?_ ?_
           ·go_region_with (first
             | (go_at_call 42; refine (HMM.out _ (by first | exact (Below.refl wr.heap.size wr).alloc (Nat.le_refl _) _ | exact ((Below.refl wr.heap.size wr).alloc (Nat.le_refl _) _).drew)).mono ?_; rintro e w3 ⟨v, rfl, r3, d3⟩; obtain ⟨va, vc, rfl⟩ := own_slice r3; have D3 := hid (show Below wr.heap.size wr w3 from Below.trans (by first | exact (Below.refl wr.heap.size wr).alloc (Nat.le_refl _) _ | exact ((Below.refl wr.heap.size wr).alloc (Nat.le_refl _) _).drew) (d3.mono (by simp))); have R3 := hid (own_base r3 (C := w.heap.size) (by have := HB4.out.size; simp; omega)); have ZL := hid ((d3.block wr.heap.size (by simp)).trans (heap_new wr (.cells #[.int .i64 oy.kind, .int .i64 oy.n, .string oy.text, .slice yar oy.attrs.length ycr] 40))); obtain ⟨zz0, zz1, zz2, zz3⟩ := cells4J ZL.out; have zzl := lt_of_heap ZL.out; have fz3 := Lib.frozen_of_heap ZL.out 3; clear r3 d3))
            all_goals (refine ⟨va, vc, ?_, nblk_set (j := 3) ZL.out, (keep_set (B := wr.heap.size) (ts := [40]) ZL.out (by simp) (Nat.le_refl _) ⟨wr.heap.size, 3, none⟩ rfl _).own R3.out (by decide), D3.out.setCell (p := ⟨wr.heap.size, 3, none⟩) (Nat.le_refl _) _⟩; simp only [List.setIfInBounds_toArray, List.set_cons_zero, List.set_cons_succ])
           rintro a' Xt ⟨va, vc, rfl, hx8, ho8, bX⟩; simp only [List.setIfInBounds_toArray, List.set_cons_zero, List.set_cons_succ]; have HQO := hid ho8; have HTB := hid hx8; have JX := hid (HJ.out.grow bX); clear x0 x1 x2 x3 y0 y1 y2 y3 hxg hyg bX hx8 ho8; obtain ⟨o0, o1, o2, o3⟩ := cells4J HTB.out; have htb := lt_of_heap HTB.out; have hpl8 := JX.out.below.size; go_wp2_with (first | (at_builtin; refine wpList_app_ls rfl (.tmp 110) (.tmp 112) rfl oa oc ps rfl (JX.out.grow (below_box Xt (.cells #[.int .i64 oy.kind, .int .i64 oy.n, .string oy.text, .slice va R8.length vc] 40))) ({ oy with attrs := R8 }, Value.slice va R8.length vc) ⟨Xt.heap.size, 0, none⟩ 1 rfl (new_at4 _ _ _ _ _ _) (row_below HQO.out (below_box Xt (.cells #[.int .i64 oy.kind, .int .i64 oy.n, .string oy.text, .slice va R8.length vc] 40))) (by omega) ?_; intro oa' oc' wC LC; obtain ⟨p2, hp2⟩ : ∃ p2, p2 = ps ++ [(({ oy with attrs := R8 }, Value.slice va R8.length vc) : PA)] := ⟨_, rfl⟩; rw [← hp2] at LC ⊢; have HLC := hid LC; have HP2 := hid hp2; clear LC hp2))
           go_roundw
           case rel => exact ⟨m + 1, n + 1, _, p2, oa', oc', rfl, by rw [HLG9.out], by go_num, by go_num, HW9.out, by rw [HP2.out, List.map_append]; exact HPS9.out, HLC.out⟩
           case measure => simp [intOf]; omega
       ·exact absurd (Cp.WayG.both HW8.out (.inr hkY) (fun h => absurd h (by rw [← LX.out]; exact hi)) (fun _ c b h => HIY.out ⟨c, b, h⟩)).1 (by rw [← LX.out]; exact hi)
     ·have hk' : ¬ (n : Int) < (py.length : Int) := by omega
      have hkY : ¬ n < Y.length := by rw [← LY.out]; exact hk
      by_cases hi : m < px.length
      ·have hi' : (m : Int) < (px.length : Int) := by omega
       have hiX : m < X.length := by rw [← LX.out]; exact hi
       obtain ⟨xg, xar, xcr, hxe, hxl, hxs, hxo, hxc⟩ := px_at PX.out hi; subst hxe; obtain ⟨ox, hox⟩ : ∃ o, o = px[m].1 := ⟨_, rfl⟩; rw [← hox] at hxs hxo hxc; have HOX := hid (show ox = opA X[m] by rw [hox]; have h := congrArg (fun l => l[m]?) HPX.out; simp only [List.getElem?_map] at h; rw [List.getElem?_eq_getElem hi, List.getElem?_eq_getElem hiX] at h; injection h); clear hox; obtain ⟨x0, x1, x2, x3⟩ := hxc wr HJ.out.below; have HXC8 := hid hxc; have HXO := hid (row_below hxo HJ.out.below); have hxg : xg < wr.heap.size := by omega
       have HXL := hid hxl; clear hxs hxo hxc hxl; have hix : ∃ c a, X[m] = .ins c a := Classical.byContradiction fun hn => hkY (Cp.WayG.both HW8.out (.inl hiX) (fun _ d a h => hn ⟨d, a, h⟩) (fun h => absurd h hkY)).2; have kx : (ox.kind == 2) = true := by obtain ⟨c, a, hx⟩ := hix; rw [HOX.out, hx]; rfl
       have HW9 := hid (show Cp.WayG _ X Y (R ++ [Atm.keep []]) (m + 1) n by obtain ⟨c, a, hx⟩ := hix; exact Cp.WayG.theirs HW8.out hiX hx (.inr fun h => absurd h hkY)); have HPS9 := hid (show ps.map (·.1) ++ [(⟨1, 1, ⟨#[]⟩, []⟩ : OpD)] = (R ++ [Atm.keep []]).map opA by rw [HPS.out, List.map_append]; rfl); have HLG9 := hid (show N + (Cp.iA (R ++ [Atm.keep []]) : Int) - (Cp.dA (R ++ [Atm.keep []]) : Int) = lg by obtain ⟨_, s2, s3⟩ := Cp.sums_append R [Atm.keep []]; rw [s2, s3, HLG.out]; simp only [Cp.iA, Cp.dA]; omega); clear hix; go_wp2_with (first | (at_builtin; refine wpList_app_ls rfl (.tmp 140) (.tmp 142) rfl oa oc ps rfl (HJ.out.grow (below_box wr (.cells #[.int .i64 1, .int .i64 1, .string ⟨#[]⟩, .slice none 0 0] 40))) ((⟨1, 1, ⟨#[]⟩, []⟩ : OpD), Value.slice none 0 0) ⟨wr.heap.size, 0, none⟩ 1 rfl (new_at4 _ _ _ _ _ _) (World.ownsRow_nil _ _ _ _) (by omega) ?_; intro oa' oc' wC LC; obtain ⟨p2, hp2⟩ : ∃ p2, p2 = ps ++ [(((⟨1, 1, ⟨#[]⟩, []⟩ : OpD), Value.slice none 0 0) : PA)] := ⟨_, rfl⟩; rw [← hp2] at LC ⊢; have HLC := hid LC; have HP2 := hid hp2; clear LC hp2))
       go_roundw
       case rel => exact ⟨m + 1, n, _, p2, oa', oc', rfl, by rw [HLG9.out], by go_num, by go_num, HW9.out, by rw [HP2.out, List.map_append]; exact HPS9.out, HLC.out⟩
       case measure => simp [intOf]; omega
      ·have hiX : ¬ m < X.length := by rw [← LX.out]; exact hi
       have hkY : ¬ n < Y.length := by rw [← LY.out]; exact hk
       have hi' : ¬ (m : Int) < (px.length : Int) := by omega
       have hk' : ¬ (n : Int) < (py.length : Int) := by omega
       have hme : m = px.length := by omega
       have hc9 := Cp.WayG.done HW8.out hiX hkY; have okr : OkX R := by rw [← hc9]; exact (Cp.fol_all fi X Y (Cp.kA X) HF.out.oky (Nat.le_refl _) (by rw [HF.out.bal]; exact Nat.le_refl _)).1
       have hsz : sizF fi f (norm A) (norm C) = lg := by rw [HF.out.siz, hc9, HLG.out, HNN.out, (folF_of HA.out HCC.out).2]; omega
       have hnr : norm (R.map opA) = folN fi (norm A) (norm C) := by rw [← Cp.normA_map, ← hc9]; exact HF.out.nrm
       have hfe : folE fi f f A C = if 20000 < lg then 3 else if 2000 < (norm (R.map opA)).length then 2 else 0 := by unfold folE; rw [if_neg (by rw [HNF.out]; simp), hsz, hnr]
       have HRW := hid (show OpRow wr (.slice oa ps.length oc) (R.map opA) by rw [← HPS.out]; exact HJ.out.row HBB.out); have HJO := hid (refJoined_any N (.slice oa ps.length oc) (R.map opA) wr HRW.out (Cp.atms_opA okr).2 (vop_opA okr) (by rw [List.length_map]; omega)); have HFE := hid hfe; have HNR := hid hnr; clear hc9 okr hme hk hi hsz hnr hfe; obtain ⟨r0, r1, d0, d1⟩ := cells2 R2.out; have hr2 := lt_of_heap R2.out
       by_cases hbig : 20000 < lg
       ·obtain ⟨F1, z0, z1⟩ := FBAD.out wr 3 HB4.out R2.out (by rw [HFE.out, if_pos hbig]) (by decide)
        have HF1 := hid F1; clear F1; go_wp2_with fail
        exact bodyPost_ret (v := .tuple #[chAgg 0 (.slice none 0 0), .int .i64 3]) (by simp [results, Try.results16, go_sem, z0, z1]) rfl HF1.out
       ·have HBI := hid hbig
        go_wp2_with fail
        refine HJO.out.mono ?_; rintro e w5 ⟨b5, h5⟩; have B5 := hid (HB4.out.trans (b5.mono HB4.out.size)); have R5 := hid (heap_up R2.out b5); clear b5 r0 r1 hr2 d0 d1; obtain ⟨r0, r1, d0, d1⟩ := cells2 R5.out; have hr2 := lt_of_heap R5.out; rcases h5 with ⟨hbig2, rfl⟩ | ⟨hsm, u, rfl, h5⟩
        ·obtain ⟨F1, z0, z1⟩ := FBAD.out w5 2 B5.out R5.out (by rw [HFE.out, if_neg (show ¬ 20000 < lg by have := HBI.out; omega), if_pos hbig2]) (by decide)
         have HF1 := hid F1; clear F1 hbig2; go_wp2_with fail
         exact bodyPost_ret (v := .tuple #[chAgg 0 (.slice none 0 0), .int .i64 2]) (by simp [results, Try.results16, go_sem, z0, z1]) rfl HF1.out
        ·have hE : folE fi f f A C = 0 := by rw [HFE.out, if_neg (show ¬ 20000 < lg by have := HBI.out; omega), if_neg (by omega)]
         have hRR : folR fi f f A C = norm (R.map opA) := by unfold folR; rw [if_pos hE, HNR.out]
         have h6 := h5.base HB4.out.size; rw [← hRR] at h6; obtain ⟨ua, uc, hu⟩ := (OwnOps.row h6).shape; subst hu; have rB := nblk_set (j := 0) (u := .int .i64 N) R5.out; have rC := nblk_set (j := 1) (u := .slice ua (folR fi f f A C).length uc) rB; have KS := (keep_set (B := w.heap.size) (ts := [24]) R5.out (by simp) (by omega) ⟨w.heap.size + 1 + 1, 0, none⟩ rfl (.int .i64 N)).trans (keep_set (B := w.heap.size) (ts := [24]) rB (by simp) (by omega) ⟨w.heap.size + 1 + 1, 1, none⟩ rfl (.slice ua (folR fi f f A C).length uc)); have HF1 := hid (show ChOwn w F (folE fi f f A C) (folR fi f f A C) (.returned (.tuple #[chAgg N (.slice ua (folR fi f f A C).length uc), .int .i64 0])) ((w5.setCell ⟨w.heap.size + 1 + 1, 0, none⟩ (.int .i64 N)).setCell ⟨w.heap.size + 1 + 1, 1, none⟩ (.slice ua (folR fi f f A C).length uc)) from ⟨ua, uc, by rw [HFF.out, hE, if_pos rfl, HNN.out], h6.keep7 KS (by decide) (by decide), B5.out.trans KS.below⟩)
         have z0 := (Lib.cell_of_heap rC 0).trans rfl; have z1 := (Lib.cell_of_heap rC 1).trans rfl; clear hE hRR h5 h6 hsm rB rC KS; go_wp2_with fail
         exact bodyPost_ret (v := .tuple #[chAgg N (.slice ua (folR fi f f A C).length uc), .int .i64 0]) (by simp [results, Try.results16, go_sem, z0, z1]) rfl HF1.out
   ·have t3 : (f != g) = true := by rw [bne_iff_ne]; exact hm
    have hE : folE fi f g A C = 31 := by
     have e1 : nrmF f g A C = 31 := by unfold nrmF; rw [if_neg (by rw [HA.out]; simp), if_neg (by rw [hC]; simp), if_pos hm]
     unfold folE; rw [if_pos (by rw [e1]; decide), e1]
    obtain ⟨F1, z0, z1⟩ := FBAD.out w2 31 (BW.out.trans (B2.out.mono BW.out.size)) K2.out hE (by decide); have HF1 := hid F1; clear F1 hE hm hC; go_wp2_with fail
    exact bodyPost_ret (v := .tuple #[chAgg 0 (.slice none 0 0), .int .i64 31]) (by simp [results, Try.results16, go_sem, z0, z1]) rfl HF1.out
  ·have t2 : (toE g C != 0) = true := by rw [bne_iff_ne]; exact hC
   have hE : folE fi f g A C = toE g C := by
    have e1 : nrmF f g A C = toE g C := by unfold nrmF; rw [if_neg (by rw [HA.out]; simp), if_pos hC]
    unfold folE; rw [if_pos (by rw [e1]; exact hC), e1]
   obtain ⟨F1, z0, z1⟩ := FBAD.out w2 (toE g C) (BW.out.trans (B2.out.mono BW.out.size)) K2.out hE hC; have HF1 := hid F1; clear F1 hE hC; go_wp2_with fail
   exact bodyPost_ret (v := .tuple #[chAgg 0 (.slice none 0 0), .int .i64 (toE g C)]) (by simp [results, Try.results16, go_sem, z0, z1]) rfl HF1.out
 ·have t1 : (toE f A != 0) = true := by rw [bne_iff_ne]; exact hA
  have hE : folE fi f g A C = toE f A := by
   have e1 : nrmF f g A C = toE f A := by unfold nrmF; rw [if_pos hA]
   unfold folE; rw [if_pos (by rw [e1]; exact hA), e1]
  obtain ⟨F1, z0, z1⟩ := FBAD.out w1 (toE f A) (BW.out.trans (B1.out.mono BW.out.size)) G2.out hE hA; have HF1 := hid F1; clear F1 hE hA; go_wp2_with fail
  exact bodyPost_ret (v := .tuple #[chAgg 0 (.slice none 0 0), .int .i64 (toE f A)]) (by simp [results, Try.results16, go_sem, z0, z1]) rfl HF1.out
end Go.Proofs.Ytchceolbbkhnnaa
