/- Texts of this seat, put together: Jp. -/
import Derived.Test.YtchceolbbkhnnaaGJ3
import Derived.Test.YtchceolbbkhnnaaGR1
/- The document's own Compose: rune by rune. -/
namespace Go.Proofs.Ytchceolbbkhnnaa
open Go.RowKit Rn Ch
open Cp (Atm opA Bal OkX)
open An (fullA)

theorem E_size8 (c : Nat) : (E c).size ≤ 4 := by
 have h1 : (E c).size = (enc c).length := List.size_toArray
 rw [h1]
 unfold enc
 repeat' split
 all_goals simp
theorem small_op {o : OpD} (h : opE o = 0) (hn : 0 ≤ o.n) (h1 : o.n ≤ 1) (ht : o.text.size ≤ 4) : VOp o := by
 have hk := opE_kind h
 refine ⟨hn, by omega, by omega, hk, ?_⟩
 rcases hk with k | k | k
 ·exact small_chg ((opE_keep k).1 h).2.2
 ·exact small_rgt ((opE_put k).1 h).2.2.2
 ·have := ((opE_cut k).1 h).2.2
  rw [List.length_eq_zero_iff.1 (show o.attrs.length = 0 by omega)]
  exact small_chg rfl
theorem Cl_fit {f g : Int} {A C : List OpD} (h : nrmE f g A C = 0) (hf : Cp.fit (Cp.atms (norm A)) (Cp.atms (norm C))) : cmpE f g A C = if 2000 < (Cp.cmpN (norm A) (norm C)).length then 2 else 0 := cmpE_fit h hf
theorem region_merge6 {P : Program} {c : Code} {Q : Exit → Act → World → Prop} {a : Act} {w : World} (S : Act → Act → World → Prop) (h1 : Code.wp P c (fun e a' w' => match e with | .normal => S a a' w' | _ => False) a w) (h2 : ∀ a' w', S a a' w' → Q .normal a' w') : Code.wp P c Q a w :=
 Code.wp_mono (fun e a' w' h => by
  cases e with
  | normal => exact h2 a' w' h
  | _ => exact h.elim) h1
theorem own4_set {Y : World} {B n C k m : Nat} {a b c d a' b' c' d' : Value} {e : Value} {xs : List Value} (h : Y.heap[n]? = some (.cells #[a, b, c, d] 40 (0, 0))) (ho : Y.ownsRow C 81 k e m xs) (hb : B ≤ n) :
 ((((Y.setCell ⟨n, 0, none⟩ a').setCell ⟨n, 1, none⟩ b').setCell ⟨n, 2, none⟩ c').setCell ⟨n, 3, none⟩ d').ownsRow C 81 k e m xs :=
 ((((keep_set (B := B) (ts := [40]) h (by simp) hb _ rfl a').trans (keep_set (nblk_set (j := 0) h) (by simp) hb _ rfl b')).trans (keep_set (nblk_set (j := 1) (nblk_set (j := 0) h)) (by simp) hb _ rfl c')).trans (keep_set (nblk_set (j := 2) (nblk_set (j := 1) (nblk_set (j := 0) h))) (by simp) hb _ rfl d')).own ho (by decide)
theorem vop_opA {X : List Atm} (h : OkX X) : ∀ o ∈ X.map opA, VOp o := by
 have hE := (Cp.atms_opA h).2
 intro o ho
 obtain ⟨x, _, rfl⟩ := List.mem_map.1 ho
 refine small_op (hE _ ho) ?_ ?_ ?_ <;> cases x <;> simp [opA]
 all_goals first | exact Nat.zero_le _ | (rw [T_one]; exact E_size8 _)

set_option maxRecDepth 100000 in
set_option maxHeartbeats 16000000 in
theorem refCompose6_any (f : Int) (va : Value) (A : List OpD) (g : Int) (vb : Value) (C : List OpD) (w : World) (hva : OpRow w va A) (hza : OSized A) (hvb : OpRow w vb C) (hzb : OSized C) (tA : TSmall A) (tC : TSmall C) :
 Calls Try.prog 9 #[chAgg f va, chAgg g vb] w (ChOwn w (if cmpE f g A C = 0 then f else 0) (cmpE f g A C) (cmpR f g A C)) := by
 obtain ⟨F, hF⟩ : ∃ F, F = if cmpE f g A C = 0 then f else 0 := ⟨_, rfl⟩
 rw [← hF]
 have HFF := Lib.hid hF
 clear hF
 obtain ⟨aa, ac, rfl⟩ := hva.shape
 obtain ⟨ba, bc, rfl⟩ := hvb.shape
 obtain ⟨W, hW⟩ : ∃ W, W = ((w.alloc (.cells #[.int .i64 f, .slice aa A.length ac] 24)).alloc (.cells #[.int .i64 g, .slice ba C.length bc] 24)).alloc (.cells #[.int .i64 0, .slice none 0 0] 24) := ⟨_, rfl⟩
 obtain ⟨h0, h1, h2, bW⟩ := box3J w (.cells #[.int .i64 f, .slice aa A.length ac] 24) (.cells #[.int .i64 g, .slice ba C.length bc] 24) (.cells #[.int .i64 0, .slice none 0 0] 24)
 rw [← hW] at h0 h1 h2 bW
 have HW := Lib.hid hW
 have HVA := Lib.hid (hva.below bW)
 have HVB := Lib.hid (hvb.below bW)
 have HT := Lib.hid (refTo_any f _ A W HVA.out hza tA)
 have HR := Lib.hid (fun X hX => refRight_any g (.slice ba C.length bc) C X (HVB.out.below hX) hzb tC)
 clear hW hva hvb hza hzb tA tC
 have H0 := Lib.hid h0
 have H1 := Lib.hid h1
 have H2 := Lib.hid h2
 have BW := Lib.hid bW
 have FBAD := Lib.hid (fun (Y : World) (E : Int) (hb : Below w.heap.size w Y) (hr : Y.heap[w.heap.size + 1 + 1]? = some (.cells #[.int .i64 0, .slice none 0 0] 24 (0, 0))) (hE : cmpE f g A C = E) (hn : E ≠ 0) =>
  show ChOwn w F (cmpE f g A C) (cmpR f g A C) (.returned (.tuple #[chAgg 0 (.slice none 0 0), .int .i64 E])) ((Y.setCell ⟨w.heap.size + 1 + 1, 0, none⟩ (.int .i64 0)).setCell ⟨w.heap.size + 1 + 1, 1, none⟩ (.slice none 0 0)) ∧ ((Y.setCell ⟨w.heap.size + 1 + 1, 0, none⟩ (.int .i64 0)).setCell ⟨w.heap.size + 1 + 1, 1, none⟩ (.slice none 0 0)).cell? ⟨w.heap.size + 1 + 1, 0, none⟩ = some (.int .i64 0) ∧ ((Y.setCell ⟨w.heap.size + 1 + 1, 0, none⟩ (.int .i64 0)).setCell ⟨w.heap.size + 1 + 1, 1, none⟩ (.slice none 0 0)).cell? ⟨w.heap.size + 1 + 1, 1, none⟩ = some (.slice none 0 0) from by
   have rB := nblk_set (j := 0) (u := .int .i64 0) hr
   have rC := nblk_set (j := 1) (u := .slice none 0 0) rB
   have hR : cmpR f g A C = [] := by unfold cmpR; rw [if_neg (by rw [hE]; exact hn)]
   refine ⟨⟨none, 0, by rw [HFF.out, hE, if_neg hn, hR]; rfl, by rw [hR]; exact ownOps_nil _ _, (hb.setCell (p := ⟨w.heap.size + 1 + 1, 0, none⟩) (by show w.heap.size ≤ w.heap.size + 1 + 1; omega) _).setCell (p := ⟨w.heap.size + 1 + 1, 1, none⟩) (by show w.heap.size ≤ w.heap.size + 1 + 1; omega) _⟩, (Lib.cell_of_heap rC 0).trans rfl, (Lib.cell_of_heap rC 1).trans rfl⟩)
 obtain ⟨a0, a1, _, _⟩ := cells2 h0
 have ha := lt_of_heap h0
 clear h0 h1 h2 bW
 go_enter Try.func9, Try.ntmps9
 go_wp2_with fail
 rw [← HW.out]
 go_wp2_with fail
 refine HT.out.mono ?_
 rintro e w1 ⟨rfl, b1⟩
 have B1 := Lib.hid b1
 have G0 := Lib.hid (heap_up H0.out b1)
 have G1 := Lib.hid (heap_up H1.out b1)
 have G2 := Lib.hid (heap_up H2.out b1)
 have HR1 := Lib.hid (HR.out w1 b1)
 clear b1 a0 a1 ha
 obtain ⟨a0, a1, _, _⟩ := cells2 G0.out
 obtain ⟨b0, b1, _, _⟩ := cells2 G1.out
 obtain ⟨c0, c1, d0, d1⟩ := cells2 G2.out
 have ha := lt_of_heap G0.out
 have hb := lt_of_heap G1.out
 have hc := lt_of_heap G2.out
 by_cases hA : toE f A = 0
 ·have t1 : (toE f A != 0) = false := by rw [hA]; rfl
  have HA := Lib.hid hA
  clear hA
  go_wp2_with fail
  refine HR1.out.mono ?_
  rintro e w2 ⟨rfl, b2⟩
  have B2 := Lib.hid (B1.out.trans (b2.mono B1.out.size))
  have K0 := Lib.hid (heap_up G0.out b2)
  have K1 := Lib.hid (heap_up G1.out b2)
  have K2 := Lib.hid (heap_up G2.out b2)
  clear b2 a0 a1 b0 b1 c0 c1 d0 d1 ha hb hc
  obtain ⟨a0, a1, _, _⟩ := cells2 K0.out
  obtain ⟨b0, b1, _, _⟩ := cells2 K1.out
  obtain ⟨c0, c1, d0, d1⟩ := cells2 K2.out
  have ha := lt_of_heap K0.out
  have hb := lt_of_heap K1.out
  have hc := lt_of_heap K2.out
  by_cases hC : toE g C = 0
  ·have t2 : (toE g C != 0) = false := by rw [hC]; rfl
   by_cases hm : g = toN f A
   ·have t3 : (g != toN f A) = false := by rw [← hm]; simp
    have HN := Lib.hid (nrmE_mk HA.out hC hm.symm)
    have HXA := Lib.hid (fun X hX => refAtoms_any f (.slice aa A.length ac) A X (HVA.out.below hX) ((toE_iff _ _).1 HA.out))
    have HXC := Lib.hid (fun X hX => refAtoms_any g (.slice ba C.length bc) C X (HVB.out.below hX) ((toE_iff _ _).1 hC))
    have HX1 := Lib.hid (HXA.out w2 B2.out)
    clear hC hm
    go_wp2_with fail
    refine HX1.out.mono ?_
    rintro e w3 ⟨ux, rfl, O3, b3⟩
    have B3 := Lib.hid (B2.out.trans (b3.mono B2.out.size))
    have M0 := Lib.hid (heap_up K0.out b3)
    have M1 := Lib.hid (heap_up K1.out b3)
    have M2 := Lib.hid (heap_up K2.out b3)
    have HX2 := Lib.hid (HXC.out w3 B3.out)
    obtain ⟨px, hpx, P3⟩ := O3
    obtain ⟨xa, xc, rfl⟩ := own_slice P3.1
    have HP3 := Lib.hid P3
    have HBW3 := Lib.hid (show w.heap.size ≤ w2.heap.size by have := B2.out.size; have := BW.out.size; omega)
    have HPX := Lib.hid hpx
    clear b3 a0 a1 b0 b1 c0 c1 d0 d1 ha hb hc P3 hpx
    obtain ⟨b0, b1, _, _⟩ := cells2 M1.out
    have hb := lt_of_heap M1.out
    go_wp2_with fail
    refine HX2.out.mono ?_
    rintro e wB ⟨uy, rfl, O4, b4⟩
    have B4 := Lib.hid (B3.out.trans (b4.mono B3.out.size))
    have N0 := Lib.hid (heap_up M0.out b4)
    have N2 := Lib.hid (heap_up M2.out b4)
    obtain ⟨py, hpy, P4⟩ := O4
    obtain ⟨ya, yc, rfl⟩ := own_slice P4.1
    have HPY := Lib.hid hpy
    have HBW4 := Lib.hid (show w.heap.size ≤ w3.heap.size by have := B3.out.size; have := BW.out.size; omega)
    have PX := Lib.hid (OwnP.base (HP3.out.keep (keep_below (ts := []) b4 (Nat.le_refl _)) (by simp) (by simp)) HBW3.out)
    have PY := Lib.hid (OwnP.base P4 HBW4.out)
    have HF := Lib.hid (Cp.full_f HN.out)
    obtain ⟨X, hX⟩ : ∃ X, X = fullA f (norm A) := ⟨_, rfl⟩
    obtain ⟨Y, hY⟩ : ∃ Y, Y = fullA g (norm C) := ⟨_, rfl⟩
    rw [← hX] at HPX HF
    rw [← hY] at HPY HF
    have LX := Lib.hid (show px.length = X.length by have := congrArg List.length HPX.out; simpa using this)
    have LY := Lib.hid (show py.length = Y.length by have := congrArg List.length HPY.out; simpa using this)
    have HBB := Lib.hid (show w.heap.size ≤ wB.heap.size by have := B4.out.size; have := BW.out.size; omega)
    have J0 := Lib.hid (LS.nil w wB)
    clear b4 b0 b1 hb P4 hpy hX hY
    go_wp2_with fail
    go_loopw [10, 11, 12] (fun o i k wr => ∃ (m n : Nat) (R : List Atm) (ps : List PA) (oa : Option Addr) (oc : Nat), o = .slice oa ps.length oc ∧ i = .int .i64 (m : Int) ∧ k = .int .i64 (n : Int) ∧ Cp.Way X Y R m n ∧ ps.map (·.1) = R.map opA ∧ LS w wB wr ps oa oc) (fun _ i k _ => (X.length + 1 - (intOf i).toNat) + (Y.length + 1 - (intOf k).toNat))
    case atStart => exact ⟨0, 0, [], [], none, 0, rfl, rfl, rfl, Cp.Way.start HF.out.bal, rfl, J0.out⟩
    case round =>
     obtain ⟨m, n, R, ps, oa, oc, rfl, rfl, rfl, hw, hps, hJ⟩ := hrel
     have hR : R.length ≤ 80000 := by
      have h1 := Cp.comp_len X Y
      have h2 := congrArg List.length hw.comp
      rw [List.length_append] at h2
      have := HF.out.lenx
      have := HF.out.leny
      omega
     have hpl : ps.length ≤ 80000 := by have := congrArg List.length hps; simp only [List.length_map] at this; omega
     have lx4 : px.length ≤ 40000 := by rw [LX.out]; exact HF.out.lenx
     have ly4 : py.length ≤ 40000 := by rw [LY.out]; exact HF.out.leny
     have hhs := hJ.below.size
     have HW8 := Lib.hid hw
     have HPS := Lib.hid hps
     have HJ := Lib.hid hJ
     have hmx : m ≤ px.length := by rw [LX.out]; exact hw.hi
     have hny : n ≤ py.length := by rw [LY.out]; exact hw.hk
     have HB4 := Lib.hid (show Below w.heap.size w wr from (BW.out.trans (B4.out.mono BW.out.size)).trans (hJ.below.mono HBB.out))
     obtain ⟨r0, r1, _, _⟩ := cells2 (heap_up N0.out hJ.below)
     have hr0 := lt_of_heap (heap_up N0.out hJ.below)
     have R2 := Lib.hid (heap_up N2.out hJ.below)
     have hr2 := lt_of_heap R2.out
     clear hw hps hJ
     by_cases hi : m < px.length
     ·have hi' : (m : Int) < (px.length : Int) := by omega
      have hiX : m < X.length := by rw [← LX.out]; exact hi
      obtain ⟨xg, xar, xcr, hxe, hxl, hxs, hxo, hxc⟩ := px_at PX.out hi
      subst hxe
      obtain ⟨ox, hox⟩ : ∃ o, o = px[m].1 := ⟨_, rfl⟩
      rw [← hox] at hxs hxo hxc
      have HOX := Lib.hid (show ox = opA X[m] by rw [hox]; have h := congrArg (fun l => l[m]?) HPX.out; simp only [List.getElem?_map] at h; rw [List.getElem?_eq_getElem hi, List.getElem?_eq_getElem hiX] at h; injection h)
      clear hox
      obtain ⟨x0, x1, x2, x3⟩ := hxc wr HJ.out.below
      have HXC8 := Lib.hid hxc
      have HXO := Lib.hid (row_below hxo HJ.out.below)
      have hxg : xg < wr.heap.size := by omega
      have HXL := Lib.hid hxl
      clear hxs hxo hxc hxl
      by_cases hdx : X[m] = .del
      ·have kx : (ox.kind == 3) = true := by rw [HOX.out, hdx]; rfl
       have HW9 := Lib.hid (Cp.Way.del HW8.out hiX hdx)
       have HPS9 := Lib.hid (show ps.map (·.1) ++ [ox] = (R ++ [X[m]]).map opA by rw [HPS.out, HOX.out, List.map_append]; rfl)
       clear hdx
       have HQO := HXO
       go_wp2_with (first | (at_builtin; refine wpList_app_ls rfl (.tmp 62) (.tmp 67) rfl oa oc ps rfl (HJ.out.grow (below_box wr (.cells #[.int .i64 ox.kind, .int .i64 ox.n, .string ox.text, .slice xar ox.attrs.length xcr] 40))) (ox, .slice xar ox.attrs.length xcr) ⟨wr.heap.size, 0, none⟩ 1 rfl (new_at4 _ _ _ _ _ _) (row_below HQO.out (below_box wr (.cells #[.int .i64 ox.kind, .int .i64 ox.n, .string ox.text, .slice xar ox.attrs.length xcr] 40))) (by omega) ?_; intro oa' oc' wC LC; obtain ⟨p2, hp2⟩ : ∃ p2, p2 = ps ++ [((ox, Value.slice xar ox.attrs.length xcr) : PA)] := ⟨_, rfl⟩; rw [← hp2] at LC ⊢; have HLC := Lib.hid LC; have HP2 := Lib.hid hp2; clear LC hp2))
       go_roundw
       case rel => exact ⟨m + 1, n, _, p2, oa', oc', rfl, by go_num, by go_num, HW9.out, by rw [HP2.out, List.map_append]; exact HPS9.out, HLC.out⟩
       case measure => simp [intOf]; omega
      ·have kx : (ox.kind == 3) = false := by rw [HOX.out]; cases hx : X[m] <;> first | rfl | exact absurd hx hdx
       have HDX := Lib.hid hdx
       clear hdx
       by_cases hk : n < py.length
       ·have hk' : (n : Int) < (py.length : Int) := by omega
        have hkY : n < Y.length := by rw [← LY.out]; exact hk
        obtain ⟨yg, yar, ycr, hye, hyl, hys, hyo, hyc⟩ := px_at PY.out hk
        subst hye
        obtain ⟨oy, hoy⟩ : ∃ o, o = py[n].1 := ⟨_, rfl⟩
        rw [← hoy] at hys hyo hyc
        have HOY := Lib.hid (show oy = opA Y[n] by rw [hoy]; have h := congrArg (fun l => l[n]?) HPY.out; simp only [List.getElem?_map] at h; rw [List.getElem?_eq_getElem hk, List.getElem?_eq_getElem hkY] at h; injection h)
        clear hoy
        obtain ⟨y0, y1, y2, y3⟩ := hyc wr HJ.out.below
        have HYC8 := Lib.hid hyc
        have HYO := Lib.hid (row_below hyo HJ.out.below)
        have hyg : yg < wr.heap.size := by omega
        have HYL := Lib.hid hyl
        clear hys hyo hyc hyl
        by_cases hiy : ∃ c b, Y[n] = .ins c b
        ·have ky : (oy.kind == 2) = true := by obtain ⟨c, b, hy⟩ := hiy; rw [HOY.out, hy]; rfl
         have HW9 := Lib.hid (show Cp.Way X Y (R ++ [Y[n]]) m (n + 1) by obtain ⟨c, b, hy⟩ := hiy; exact Cp.Way.ins HW8.out hkY hy (fun _ => HDX.out))
         have HPS9 := Lib.hid (show ps.map (·.1) ++ [oy] = (R ++ [Y[n]]).map opA by rw [HPS.out, HOY.out, List.map_append]; rfl)
         have HQO := HYO
         clear hiy
         go_wp2_with (first | (at_builtin; refine wpList_app_ls rfl (.tmp 83) (.tmp 88) rfl oa oc ps rfl (HJ.out.grow (below_box wr (.cells #[.int .i64 oy.kind, .int .i64 oy.n, .string oy.text, .slice yar oy.attrs.length ycr] 40))) (oy, .slice yar oy.attrs.length ycr) ⟨wr.heap.size, 0, none⟩ 1 rfl (new_at4 _ _ _ _ _ _) (row_below HQO.out (below_box wr (.cells #[.int .i64 oy.kind, .int .i64 oy.n, .string oy.text, .slice yar oy.attrs.length ycr] 40))) (by omega) ?_; intro oa' oc' wC LC; obtain ⟨p2, hp2⟩ : ∃ p2, p2 = ps ++ [((oy, Value.slice yar oy.attrs.length ycr) : PA)] := ⟨_, rfl⟩; rw [← hp2] at LC ⊢; have HLC := Lib.hid LC; have HP2 := Lib.hid hp2; clear LC hp2))
         go_roundw
         case rel => exact ⟨m, n + 1, _, p2, oa', oc', rfl, by go_num, by go_num, HW9.out, by rw [HP2.out, List.map_append]; exact HPS9.out, HLC.out⟩
         case measure => simp [intOf]; omega
        ·have ky : (oy.kind == 2) = false := by rw [HOY.out]; cases hy : Y[n] <;> first | rfl | exact absurd ⟨_, _, hy⟩ hiy
         obtain ⟨o, is, E, HM, hres⟩ := met_both HW8.out hiX hkY HF.out.okx HF.out.oky HOX.out HOY.out HDX.out (fun c b h => hiy ⟨c, b, h⟩) HXO.out HYO.out HB4.out.size
         have HMM := Lib.hid HM
         clear hiy HM
         go_upto_region 21 with fail
         refine region_merge6 (fun a a' w' => ∃ (tb : Nat) (va : Option Addr) (vc : Nat), a' = { a with tmps := ((((((((((((((((a.tmps.setIfInBounds 92 (.tuple #[opAgg o (.slice va o.attrs.length vc), .bool is, .int .i64 E])).setIfInBounds 93 (.slice (some ⟨xg, 0, none⟩) px.length xc)).setIfInBounds 94 (.int .i64 (m : Int))).setIfInBounds 95 (.pointer (some ⟨xg, m * 4, none⟩))).setIfInBounds 96 (opAgg ox (.slice xar ox.attrs.length xcr))).setIfInBounds 97 (.slice (some ⟨yg, 0, none⟩) py.length yc)).setIfInBounds 98 (.int .i64 (n : Int))).setIfInBounds 99 (.pointer (some ⟨yg, n * 4, none⟩))).setIfInBounds 100 (opAgg oy (.slice yar oy.attrs.length ycr))).setIfInBounds 101 (.tuple #[opAgg o (.slice va o.attrs.length vc), .bool is, .int .i64 E])).setIfInBounds 102 (opAgg o (.slice va o.attrs.length vc))).setIfInBounds 103 (.bool is)).setIfInBounds 104 (.int .i64 E)).setIfInBounds 13 (.pointer (some ⟨tb, 0, none⟩))).setIfInBounds 14 (.bool is)).setIfInBounds 15 (.int .i64 E)) } ∧ w'.heap[tb]? = some (.cells #[.int .i64 o.kind, .int .i64 o.n, .string o.text, .slice va o.attrs.length vc] 40 (0, 0)) ∧ w'.ownsRow w.heap.size 81 2 (.slice va o.attrs.length vc) o.attrs.length (flat o.attrs) ∧ Below wr.heap.size wr w') ?_ ?_
         ·go_region_with (first
           | (go_at_call 33; (with_reducible refine (HMM.out wr.drew (Below.refl wr.heap.size wr).drew).mono ?_); rintro e w3 ⟨d3, v, rfl, r3⟩; obtain ⟨va, vc, rfl⟩ := own_slice r3; have D3 := Lib.hid ((Below.refl wr.heap.size wr).drew.trans d3); have R3 := Lib.hid r3; clear r3 d3)
           | (go_at_call 33; refine (HMM.out _ (by first | exact ((Below.refl wr.heap.size wr).alloc (Nat.le_refl _) _).drew | exact ((Below.refl wr.heap.size wr).drew).alloc (Nat.le_refl _) _)).mono ?_; rintro e w3 ⟨d3, v, rfl, r3⟩; obtain ⟨va, vc, rfl⟩ := own_slice r3; have D3 := Lib.hid (show Below wr.heap.size wr w3 from Below.trans (by first | exact ((Below.refl wr.heap.size wr).alloc (Nat.le_refl _) _).drew | exact ((Below.refl wr.heap.size wr).drew).alloc (Nat.le_refl _) _) (d3.mono (by simp))); have R3 := Lib.hid r3; have ZL := Lib.hid ((d3.block wr.heap.size (by simp)).trans (heap_new wr (.cells #[.int .i64 0, .int .i64 0, .string ⟨#[]⟩, .slice none 0 0] 40))); obtain ⟨zz0, zz1, zz2, zz3⟩ := cells4J ZL.out; have zzl := lt_of_heap ZL.out; have fz0 := Lib.frozen_of_heap ZL.out 0; have fz1 := Lib.frozen_of_heap ZL.out 1; have fz2 := Lib.frozen_of_heap ZL.out 2; have fz3 := Lib.frozen_of_heap ZL.out 3; clear r3 d3))
          all_goals first
           | (refine ⟨wr.heap.size, va, vc, ?_, box4_set ZL.out (.int .i64 o.kind) (.int .i64 o.n) (.string o.text) (.slice va o.attrs.length vc), own4_set ZL.out R3.out HB4.out.size, below4_set D3.out (Nat.le_refl _) _ _ _ _⟩; simp only [Act.put, List.getElem_toArray, List.getElem_cons_zero, List.getElem_cons_succ, List.setIfInBounds_toArray, List.set_cons_zero, List.set_cons_succ])
           | (refine ⟨w3.heap.size, va, vc, ?_, heap_new _ _, row_below R3.out (below_box _ _), D3.out.trans ((below_box w3 _).mono D3.out.size)⟩; simp only [Act.put, List.getElem_toArray, List.getElem_cons_zero, List.getElem_cons_succ, List.setIfInBounds_toArray, List.set_cons_zero, List.set_cons_succ])
         rintro a' Xt ⟨tb, va, vc, rfl, hx8, ho8, bX⟩
         simp only [List.setIfInBounds_toArray, List.set_cons_zero, List.set_cons_succ]
         have HQO := Lib.hid ho8
         have HTB := Lib.hid hx8
         have JX := Lib.hid (HJ.out.grow bX)
         have B9 := Lib.hid (HB4.out.trans (bX.mono HB4.out.size))
         have RX := Lib.hid (heap_up R2.out bX)
         clear r0 r1 hr0 hr2 x0 x1 x2 x3 y0 y1 y2 y3 hxg hyg bX hx8 ho8
         obtain ⟨o0, o1, o2, o3⟩ := cells4J HTB.out
         have htb := lt_of_heap HTB.out
         obtain ⟨r0, r1, d0, d1⟩ := cells2 RX.out
         have hr2 := lt_of_heap RX.out
         have hpl8 := JX.out.below.size
         rcases hres with ⟨rfl, rfl, z, hoz, hW9⟩ | ⟨rfl, rfl, hW9⟩ | ⟨rfl, rfl, hnf⟩
         ·have HW9 := Lib.hid hW9
          have HPS9 := Lib.hid (show ps.map (·.1) ++ [o] = (R ++ [z]).map opA by rw [HPS.out, hoz, List.map_append]; rfl)
          clear hW9 hoz
          go_wp2_with (first | (at_builtin; refine wpList_app_ls rfl (.tmp 110) (.tmp 112) rfl oa oc ps rfl (JX.out.grow (below_box Xt (.cells #[.int .i64 o.kind, .int .i64 o.n, .string o.text, .slice va o.attrs.length vc] 40))) (o, .slice va o.attrs.length vc) ⟨Xt.heap.size, 0, none⟩ 1 rfl (new_at4 _ _ _ _ _ _) (row_below HQO.out (below_box Xt (.cells #[.int .i64 o.kind, .int .i64 o.n, .string o.text, .slice va o.attrs.length vc] 40))) (by omega) ?_; intro oa' oc' wC LC; obtain ⟨p2, hp2⟩ : ∃ p2, p2 = ps ++ [((o, Value.slice va o.attrs.length vc) : PA)] := ⟨_, rfl⟩; rw [← hp2] at LC ⊢; have HLC := Lib.hid LC; have HP2 := Lib.hid hp2; clear LC hp2))
          go_roundw
          case rel => exact ⟨m + 1, n + 1, _, p2, oa', oc', rfl, by go_num, by go_num, HW9.out, by rw [HP2.out, List.map_append]; exact HPS9.out, HLC.out⟩
          case measure => simp [intOf]; omega
         ·have HW9 := Lib.hid hW9
          clear hW9
          go_wp2_with fail
          go_roundw
          case rel => exact ⟨m + 1, n + 1, R, ps, oa, oc, rfl, by go_num, by go_num, HW9.out, HPS.out, JX.out⟩
          case measure => simp [intOf]; omega
         ·obtain ⟨F1, z0, z1⟩ := FBAD.out Xt 3 B9.out RX.out (cmpE_unfit HN.out (fun h => hnf (HF.out.fit.2 h))) (by decide)
          have HF1 := Lib.hid F1
          clear F1 hnf
          go_wp2_with fail
          exact bodyPost_ret (v := .tuple #[chAgg 0 (.slice none 0 0), .int .i64 3]) (by simp [results, Try.results9, go_sem, z0, z1]) rfl HF1.out
       ·exact absurd (Cp.Way.both HW8.out (.inl hiX) (fun _ => HDX.out) (fun h => absurd h (by rw [← LY.out]; exact hk))).2 (by rw [← LY.out]; exact hk)
     ·skip
      have hiX : ¬ m < X.length := by rw [← LX.out]; exact hi
      have hme : m = px.length := by omega
      have hi' : ¬ (m : Int) < (px.length : Int) := by omega
      by_cases hk : n < py.length
      ·have hk' : (n : Int) < (py.length : Int) := by omega
       have hkY : n < Y.length := by rw [← LY.out]; exact hk
       obtain ⟨yg, yar, ycr, hye, hyl, hys, hyo, hyc⟩ := px_at PY.out hk
       subst hye
       obtain ⟨oy, hoy⟩ : ∃ o, o = py[n].1 := ⟨_, rfl⟩
       rw [← hoy] at hys hyo hyc
       have HOY := Lib.hid (show oy = opA Y[n] by rw [hoy]; have h := congrArg (fun l => l[n]?) HPY.out; simp only [List.getElem?_map] at h; rw [List.getElem?_eq_getElem hk, List.getElem?_eq_getElem hkY] at h; injection h)
       clear hoy
       obtain ⟨y0, y1, y2, y3⟩ := hyc wr HJ.out.below
       have HYC8 := Lib.hid hyc
       have HYO := Lib.hid (row_below hyo HJ.out.below)
       have hyg : yg < wr.heap.size := by omega
       have HYL := Lib.hid hyl
       clear hys hyo hyc hyl
       have hiy : ∃ c b, Y[n] = .ins c b := Classical.byContradiction fun hn => hiX (Cp.Way.both HW8.out (.inr hkY) (fun h => absurd h hiX) (fun _ c b h => hn ⟨c, b, h⟩)).1
       have ky : (oy.kind == 2) = true := by obtain ⟨c, b, hy⟩ := hiy; rw [HOY.out, hy]; rfl
       have HW9 := Lib.hid (show Cp.Way X Y (R ++ [Y[n]]) m (n + 1) by obtain ⟨c, b, hy⟩ := hiy; exact Cp.Way.ins HW8.out hkY hy (fun h => absurd h hiX))
       have HPS9 := Lib.hid (show ps.map (·.1) ++ [oy] = (R ++ [Y[n]]).map opA by rw [HPS.out, HOY.out, List.map_append]; rfl)
       have HQO := HYO
       clear hiy hme
       go_wp2_with (first | (at_builtin; refine wpList_app_ls rfl (.tmp 83) (.tmp 88) rfl oa oc ps rfl (HJ.out.grow (below_box wr (.cells #[.int .i64 oy.kind, .int .i64 oy.n, .string oy.text, .slice yar oy.attrs.length ycr] 40))) (oy, .slice yar oy.attrs.length ycr) ⟨wr.heap.size, 0, none⟩ 1 rfl (new_at4 _ _ _ _ _ _) (row_below HQO.out (below_box wr (.cells #[.int .i64 oy.kind, .int .i64 oy.n, .string oy.text, .slice yar oy.attrs.length ycr] 40))) (by omega) ?_; intro oa' oc' wC LC; obtain ⟨p2, hp2⟩ : ∃ p2, p2 = ps ++ [((oy, Value.slice yar oy.attrs.length ycr) : PA)] := ⟨_, rfl⟩; rw [← hp2] at LC ⊢; have HLC := Lib.hid LC; have HP2 := Lib.hid hp2; clear LC hp2))
       go_roundw
       case rel => exact ⟨m, n + 1, _, p2, oa', oc', rfl, by go_num, by go_num, HW9.out, by rw [HP2.out, List.map_append]; exact HPS9.out, HLC.out⟩
       case measure => simp [intOf]; omega
      ·have hk' : ¬ (n : Int) < (py.length : Int) := by omega
       have hkY : ¬ n < Y.length := by rw [← LY.out]; exact hk
       obtain ⟨hc9, hf9⟩ := Cp.Way.done HW8.out hiX hkY
       have okr : OkX R := by rw [← hc9]; exact Cp.okX_comp _ _ HF.out.okx HF.out.oky hf9
       have HRW := Lib.hid (show OpRow wr (.slice oa ps.length oc) (R.map opA) by rw [← HPS.out]; exact HJ.out.row HBB.out)
       have HJO := Lib.hid (refJoined_any f (.slice oa ps.length oc) (R.map opA) wr HRW.out (Cp.atms_opA okr).2 (vop_opA okr) (by rw [List.length_map]; omega))
       have HFIT := Lib.hid (HF.out.fit.1 hf9)
       have HNR := Lib.hid (show norm (R.map opA) = Cp.cmpN (norm A) (norm C) by rw [← Cp.normA_map, ← hc9]; exact HF.out.cmp)
       clear hc9 hf9 okr hme hk hi
       go_wp2_with fail
       refine HJO.out.mono ?_
       rintro e w5 ⟨b5, h5⟩
       have B5 := Lib.hid (HB4.out.trans (b5.mono HB4.out.size))
       have R5 := Lib.hid (heap_up R2.out b5)
       clear b5 r0 r1 hr0 hr2
       obtain ⟨_, _, d0, d1⟩ := cells2 R5.out
       obtain ⟨r0, r1, _, _⟩ := cells2 R5.out
       have hr2 := lt_of_heap R5.out
       rcases h5 with ⟨hbig, rfl⟩ | ⟨hsm, u, rfl, h5⟩
       ·obtain ⟨F1, z0, z1⟩ := FBAD.out w5 2 B5.out R5.out (by rw [Cl_fit HN.out HFIT.out, if_pos (by rw [← HNR.out]; exact hbig)]) (by decide)
        have HF1 := Lib.hid F1
        clear F1 hbig
        go_wp2_with fail
        exact bodyPost_ret (v := .tuple #[chAgg 0 (.slice none 0 0), .int .i64 2]) (by simp [results, Try.results9, go_sem, z0, z1]) rfl HF1.out
       ·have hE : cmpE f g A C = 0 := by rw [Cl_fit HN.out HFIT.out, if_neg (by rw [← HNR.out]; omega)]
        have hR : cmpR f g A C = norm (R.map opA) := by unfold cmpR; rw [if_pos hE, HNR.out]
        have h6 := h5.base HB4.out.size
        rw [← hR] at h6
        obtain ⟨ua, uc, hu⟩ := (OwnOps.row h6).shape
        subst hu
        have rB := nblk_set (j := 0) (u := .int .i64 f) R5.out
        have rC := nblk_set (j := 1) (u := .slice ua (cmpR f g A C).length uc) rB
        have KS := (keep_set (B := w.heap.size) (ts := [24]) R5.out (by simp) (by omega) ⟨w.heap.size + 1 + 1, 0, none⟩ rfl (.int .i64 f)).trans (keep_set (B := w.heap.size) (ts := [24]) rB (by simp) (by omega) ⟨w.heap.size + 1 + 1, 1, none⟩ rfl (.slice ua (cmpR f g A C).length uc))
        have HF1 := Lib.hid (show ChOwn w F (cmpE f g A C) (cmpR f g A C) (.returned (.tuple #[chAgg f (.slice ua (cmpR f g A C).length uc), .int .i64 0])) ((w5.setCell ⟨w.heap.size + 1 + 1, 0, none⟩ (.int .i64 f)).setCell ⟨w.heap.size + 1 + 1, 1, none⟩ (.slice ua (cmpR f g A C).length uc)) from ⟨ua, uc, by rw [HFF.out, hE, if_pos rfl], h6.keep7 KS (by decide) (by decide), B5.out.trans KS.below⟩)
        have z0 := (Lib.cell_of_heap rC 0).trans rfl
        have z1 := (Lib.cell_of_heap rC 1).trans rfl
        clear hE hR h5 h6 hsm rB rC KS
        go_wp2_with fail
        exact bodyPost_ret (v := .tuple #[chAgg f (.slice ua (cmpR f g A C).length uc), .int .i64 0]) (by simp [results, Try.results9, go_sem, z0, z1]) rfl HF1.out
   ·have t3 : (g != toN f A) = true := by rw [bne_iff_ne]; exact hm
    have hE : cmpE f g A C = 31 := by
     have e1 : nrmE f g A C = 31 := by unfold nrmE; rw [if_neg (by rw [HA.out]; simp), if_neg (by rw [hC]; simp), if_pos (fun h => hm h.symm)]
     unfold cmpE; rw [if_pos (by rw [e1]; decide), e1]
    obtain ⟨F1, z0, z1⟩ := FBAD.out w2 31 (BW.out.trans (B2.out.mono BW.out.size)) K2.out hE (by decide)
    have HF1 := Lib.hid F1
    clear F1 hE hm hC
    go_wp2_with fail
    exact bodyPost_ret (v := .tuple #[chAgg 0 (.slice none 0 0), .int .i64 31]) (by simp [results, Try.results9, go_sem, z0, z1]) rfl HF1.out
  ·have t2 : (toE g C != 0) = true := by rw [bne_iff_ne]; exact hC
   have hE : cmpE f g A C = toE g C := by
    have e1 : nrmE f g A C = toE g C := by unfold nrmE; rw [if_neg (by rw [HA.out]; simp), if_pos hC]
    unfold cmpE; rw [if_pos (by rw [e1]; exact hC), e1]
   obtain ⟨F1, z0, z1⟩ := FBAD.out w2 (toE g C) (BW.out.trans (B2.out.mono BW.out.size)) K2.out hE hC
   have HF1 := Lib.hid F1
   clear F1 hE hC
   go_wp2_with fail
   exact bodyPost_ret (v := .tuple #[chAgg 0 (.slice none 0 0), .int .i64 (toE g C)]) (by simp [results, Try.results9, go_sem, z0, z1]) rfl HF1.out
 ·have t1 : (toE f A != 0) = true := by rw [bne_iff_ne]; exact hA
  have hE : cmpE f g A C = toE f A := by
   have e1 : nrmE f g A C = toE f A := by unfold nrmE; rw [if_pos hA]
   unfold cmpE; rw [if_pos (by rw [e1]; exact hA), e1]
  obtain ⟨F1, z0, z1⟩ := FBAD.out w1 (toE f A) (BW.out.trans (B1.out.mono BW.out.size)) G2.out hE hA
  have HF1 := Lib.hid F1
  clear F1 hE hA
  go_wp2_with fail
  exact bodyPost_ret (v := .tuple #[chAgg 0 (.slice none 0 0), .int .i64 (toE f A)]) (by simp [results, Try.results9, go_sem, z0, z1]) rfl HF1.out
end Go.Proofs.Ytchceolbbkhnnaa
