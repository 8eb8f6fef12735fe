import Derived.Test.YtadookafnfnaoaaGreatDoorGS16
import Derived.Test.YtadookafnfnaoaaGreatDoorGS18
import Derived.Test.YtadookafnfnaoaaGreatDoorGS11
import Derived.BigQuiet
import Derived.Deep.QuietTactic
/- The document's Normal. -/
namespace Go.Proofs.YtadookafnfnaoaaGreatDoor
open Go.RowKit Ch

abbrev TG : List TypeId := 81 :: TS
theorem keepTG {B : Nat} {w w' : World} (h : Keep B TS w w') : Keep B TG w w' := h.more fun _t ht => List.mem_cons_of_mem _ ht
theorem keepGG {B : Nat} {w w' : World} (h : Keep B [81] w w') : Keep B TG w w' := h.more fun t ht => by rw [List.mem_singleton.1 ht]; exact List.mem_cons_self ..
theorem RSt.drew {w : World} {B : Nat} {gv kv : Value} {gs : List Grp} {ks : List PA} (h : RSt w B gv kv gs ks) : RSt w.drew B gv kv gs ks := ⟨h.gr, h.kr, h.gi, h.ap, h.pw⟩
theorem RSt.drewN {w : World} {B : Nat} {gv kv : Value} {gs : List Grp} {ks : List PA} (h : RSt w B gv kv gs ks) (n : Nat) : RSt (w.drewN n) B gv kv gs ks := ⟨h.gr, h.kr, h.gi, h.ap, h.pw⟩
theorem insO_eq {o : OpD} (hk : o.kind = 2) (hn : o.n = 0) : insO o.text o.attrs = o := by cases o; simp only at hk hn; subst hk; subst hn; rfl
def keepO (n : Int) (l : List (ByteArray × ByteArray)) : OpD := ⟨1, n, ⟨#[]⟩, l⟩
theorem keepO_eq {o : OpD} (hk : o.kind = 1) (ht : o.text.size = 0) : Ch.OpD.mk 1 o.n ⟨#[]⟩ o.attrs = o := by
  cases o with
  | mk a b c d =>
    simp only at hk ht
    subst hk
    have : c = ⟨#[]⟩ := ba_eq (List.length_eq_zero_iff.1 ht)
    rw [this]
theorem RSt.at' {w : World} {B gb gc : Nat} {kv : Value} {gs : List Grp} {ks : List PA} (h : RSt w B (.slice (some ⟨gb, 0, none⟩) gs.length gc) kv gs ks) {i : Nat} (hi : i < gs.length) : gb < w.heap.size ∧
    w.cell? ⟨gb, i * 2, none⟩ = some gs[i].v ∧ w.cell? ⟨gb, i * 2 + 1, none⟩ = some (.int .i64 gs[i].g) := by
  obtain ⟨gb', gc', he, h1, h2, h3⟩ := h.at hi
  simp only [Value.slice.injEq, Option.some.injEq, Addr.mk.injEq, and_true, true_and] at he
  obtain ⟨rfl, _⟩ := he
  exact ⟨h1, h2, h3⟩
theorem chg8 {l : List (ByteArray × ByteArray)} (h : chgE l = 0) : l.length ≤ 8 := by
  unfold chgE at h
  split at h
  · rename_i hb; exact (of_decide_eq_true hb).1
  · omega
theorem attrs8 {o : OpD} (h : opE o = 0) : o.attrs.length ≤ 8 := by
  rcases opE_kind h with k | k | k
  · exact chg8 ((opE_keep k).1 h).2.2
  · have hr := ((opE_put k).1 h).2.2.2
    unfold rgtE at hr
    split at hr
    · rename_i hb
      have hc := chg_of_rgt hb
      exact (of_decide_eq_true hc).1
    · omega
  · have := ((opE_cut k).1 h).2.2; omega
theorem ownP_nil (w : World) (B : Nat) : OwnP w B (.slice none 0 0) [] := ⟨World.ownsRow_nil _ _ _ _, fun _ h => by cases h⟩

set_option maxRecDepth 100000 in
set_option maxHeartbeats 32000000 in
theorem refNormal_any (f : Int) (v : Value) (ops : List OpD) (w : World) (hv : OpRow w v ops) (hz : OSized ops) (hts : TSmall ops) :
    Calls Tryz.prog 23 #[chAgg f v] w (NormOut w f ops) := by
  have Hv := Lib.hid hv
  have Hz := Lib.hid hz
  obtain ⟨aa, acap, rfl, v1, v2, v3⟩ := hv
  have V3 := Lib.hid v3
  have hn : ops.length ≤ 9223372036854775807 := Nat.le_trans v1 v2
  obtain ⟨W, hW⟩ : ∃ W, W = (w.alloc (.cells #[.int .i64 f, .slice aa ops.length acap] 24)).alloc (.cells #[.int .i64 0, .slice none 0 0] 24) := ⟨_, rfl⟩
  have BW := Lib.hid (show Below w.heap.size w W by rw [hW]; exact ((Below.refl _ _).alloc (Nat.le_refl _) _).alloc (by simp) _)
  have c0 : W.cell? ⟨w.heap.size, 0, none⟩ = some (.int .i64 f) := by rw [hW]; go_simp
  have c1 : W.cell? ⟨w.heap.size, 1, none⟩ = some (.slice aa ops.length acap) := by rw [hW]; go_simp
  have r0 : W.heap[w.heap.size + 1]? = some (.cells #[.int .i64 0, .slice none 0 0] 24 (0, 0)) := by
    rw [hW]
    have := heap_new (w.alloc (.cells #[.int .i64 f, .slice aa ops.length acap] 24)) (.cells #[.int .i64 0, .slice none 0 0] 24)
    simpa using this
  have b0 : W.heap[w.heap.size]? = some (.cells #[.int .i64 f, .slice aa ops.length acap] 24 (0, 0)) := by
    rw [hW, Below.heap_alloc _ _ _ (by simp)]
    exact heap_new _ _
  have HW := Lib.hid hW
  have hlW : w.heap.size + 2 = W.heap.size := by rw [hW]; simp
  have HR := Lib.hid (refRight_any f _ ops W (Hv.out.below BW.out) hz hts)
  have HR0 := Lib.hid r0
  have HB0 := Lib.hid b0
  clear hz hts hW v1 v2 v3 r0 b0
  by_cases he : toE f ops = 0
  · have hok := (toE_iff f ops).1 he
    have HOK := Lib.hid hok
    have HE := Lib.hid he
    have hl2 : ops.length ≤ 2000 := hok.2.2.1
    rw [he] at HR
    clear he hok
    go_enter Tryz.func23, Tryz.ntmps23
    go_wp2_with fail
    rw [← HW.out]
    go_wp2_with fail
    refine HR.out.mono ?_
    rintro e w1 ⟨rfl, b1⟩
    have HB1 := Lib.hid b1
    have hs1 := b1.size
    clear b1 c0 c1
    go_wp2_with fail
    go_loopw [5, 6, 7] (fun gv kv i wr => ∃ (k : Nat) (init : List Grp) (ks cur : List PA) (cv : Value) (g : Int), i = .int .i64 (k : Int) ∧ k ≤ ops.length ∧ RSt wr w.heap.size gv kv (init ++ [⟨cv, cur, g⟩]) ks ∧ Rel init ks cur g (fold (ops.take k)) ∧ Keep w.heap.size TG W wr) (fun _ _ i _ => ops.length - (intOf i).toNat)
    case atStart =>
      refine ⟨0, [], [], [], .slice none 0 0, 0, rfl, Nat.zero_le _, ⟨?_, ownP_nil _ _, fun G hG => ?_, fun G hG => ?_, by simp⟩, rel_start, ?_⟩
      · exact World.ownsRow_lit w1 #[.slice none 0 0, .int .i64 0] 1 (by omega) (by decide) rfl
      · rw [List.mem_singleton.1 hG]; exact ownP_nil _ _
      · rw [List.mem_singleton.1 hG]; exact apart_nil _
      · exact (keep_below HB1.out BW.out.size).trans (keep_below (below_box _ _) (by omega))
    case round =>
      obtain ⟨k, init, ks, cur, cv, g, rfl, hk, hS, hR, hK⟩ := hrel
      have bF : wr.heap[w.heap.size]? = _ := hK.kept _ _ _ _ (HB0.out) (by decide)
      have rF : wr.heap[w.heap.size + 1]? = _ := hK.kept _ _ _ _ (HR0.out) (by decide)
      have HRF := Lib.hid rF
      have u0 : wr.cell? ⟨w.heap.size, 0, none⟩ = some (.int .i64 f) := by rw [Lib.cell_of_heap bF]; rfl
      have u1 : wr.cell? ⟨w.heap.size, 1, none⟩ = some (.slice aa ops.length acap) := by rw [Lib.cell_of_heap bF]; rfl
      clear bF rF
      by_cases hlt : k < ops.length
      · have hlt' : (k : Int) < (ops.length : Int) := by omega
        obtain ⟨gb, gc, cs, rfl, hBg, hg, hc0, hc1⟩ := hS.last
        obtain ⟨b, off, rfl, hbl, av, q0, qp, x0, x1, x2, x3⟩ := V3.out k hlt
        have hvo := vop_of HOK.out (List.getElem_mem hlt)
        have hoe := HOK.out.2.2.2.1 _ (List.getElem_mem hlt)
        have hfs : fold (ops.take (k + 1)) = add (fold (ops.take k)) ops[k] := by rw [List.take_succ_eq_append_getElem hlt, fold_snoc]
        obtain ⟨L1, L2⟩ := lim_fold HOK.out k (by omega)
        obtain ⟨m1, m2, m3, m4, m5⟩ := hR.lim L1 (by omega)
        have mi : init.length ≤ 2000 := by rw [hR.len]; exact m2
        obtain ⟨o, ho⟩ : ∃ o, o = ops[k] := ⟨_, rfl⟩
        rw [← ho] at q0 x0 x1 x2 hfs hvo hoe
        obtain ⟨ar, cr, rfl⟩ := q0.shape
        have BK : Below w.heap.size w wr := BW.out.trans hK.below
        have y0 : wr.cell? ⟨b, off + k * 4, none⟩ = some (.int .i64 o.kind) := (BK.cell (by exact hbl)).trans x0
        have y1 : wr.cell? ⟨b, off + k * 4 + 1, none⟩ = some (.int .i64 o.n) := (BK.cell (by exact hbl)).trans x1
        have y2 : wr.cell? ⟨b, off + k * 4 + 2, none⟩ = some (.string o.text) := (BK.cell (by exact hbl)).trans x2
        have y3 : wr.cell? ⟨b, off + k * 4 + 3, none⟩ = some (.slice ar o.attrs.length cr) := (BK.cell (by exact hbl)).trans x3
        obtain ⟨X, hX⟩ : ∃ X, X = wr.alloc (.cells #[.int .i64 o.kind, .int .i64 o.n, .string o.text, .slice ar o.attrs.length cr] 48) := ⟨_, rfl⟩
        have BX : Below wr.heap.size wr X := by rw [hX]; exact below_box _ _
        have d0 : X.cell? ⟨wr.heap.size, 0, none⟩ = some (.int .i64 o.kind) := by rw [hX]; go_simp
        have d1 : X.cell? ⟨wr.heap.size, 1, none⟩ = some (.int .i64 o.n) := by rw [hX]; go_simp
        have d2 : X.cell? ⟨wr.heap.size, 2, none⟩ = some (.string o.text) := by rw [hX]; go_simp
        have d3 : X.cell? ⟨wr.heap.size, 3, none⟩ = some (.slice ar o.attrs.length cr) := by rw [hX]; go_simp
        have hXs : wr.heap.size < X.heap.size := by rw [hX]; simp
        have hgl := lt_of_heap hg
        have hgX : gb < X.heap.size := by omega
        have hg' : X.heap[gb]? = some (.cells cs 81 (0, 0)) := (BX.block _ hgl).trans hg
        have e0 : X.cell? ⟨gb, init.length * 2, none⟩ = some cv := by rw [Lib.cell_of_heap hg']; exact hc0
        have e1 : X.cell? ⟨gb, init.length * 2 + 1, none⟩ = some (.int .i64 g) := by rw [Lib.cell_of_heap hg']; exact hc1
        have e2 : X.frozen? ⟨gb, init.length * 2 + 1, none⟩ = false := Lib.frozen_of_heap hg' _
        have hBX : w.heap.size ≤ X.heap.size := Nat.le_trans BK.size BX.size
        have HX := Lib.hid hX
        have HS := Lib.hid (hS.below BX)
        have HRel := Lib.hid hR
        have HK := Lib.hid (hK.trans (keep_below (B := w.heap.size) (ts := TG) BX BK.size))
        have HFS := Lib.hid hfs
        have HAV := Lib.hid (q0.below (BK.trans (BX.mono BK.size)))
        have HAP := Lib.hid qp
        have HO := Lib.hid hoe
        have HV := Lib.hid hvo
        have HL := Lib.hid (And.intro L1 L2)
        have HG := Lib.hid (And.intro hg' hc0)
        have HBG := Lib.hid hBg
        have M4 := Lib.hid m4
        have M5 := Lib.hid m5
        have ha8 : o.attrs.length ≤ 4096 := Nat.le_trans (attrs8 hoe) (by decide)
        have i1 : (0 : Int) ≤ (init.length : Int) := by omega
        have i2 : (init.length : Int) < (init.length : Int) + 1 := by omega
        clear hS hR hK q0 qp x0 x1 x2 x3 hvo hoe hfs L1 L2 m4 m5 ho BK BX hX hg' hc0 hc1 hg u0 hBg
        by_cases hk2 : o.kind = 2
        · have k2 : (o.kind == 2) = true := by rw [hk2]; rfl
          have hn0 := ((opE_put hk2).1 HO.out).1
          have HK2 := Lib.hid hk2
          have htx := HV.out.text
          clear hk2 hn0
          rcases nil_or_snoc cur with rfl | ⟨c0, ⟨x, xv⟩, rfl⟩
          · have HI := Lib.hid (insert_first w.heap.size gb (init.length * 2) cs cv [] o.text (.slice ar o.attrs.length cr) o.attrs X HBG.out HG.out.1 HG.out.2 (HS.out.gi ⟨cv, [], g⟩ (by simp)) HAV.out HAP.out ha8 rfl)
            go_wp2_with fail
            rw [← HX.out]
            go_wp2_with fail
            refine HI.out.mono ?_
            rintro e w2 ⟨rfl, w3, cv', av', rfl, KO, P1⟩
            rw [insO_eq HK2.out ((opE_put HK2.out).1 HO.out).1] at P1
            have N1 := HS.out.ins (G := ⟨cv, [], g⟩) KO P1
            have HN := Lib.hid (And.intro N1.1 (And.intro (show Rel init ks ([] ++ [(o, av')]) g (fold (ops.take (k + 1))) by rw [HFS.out]; exact HRel.out.ins_new HK2.out (fun c0 x h => by simp at h) av') (HK.out.trans ((keepTG KO.keep).trans (keepGG N1.2)))))
            clear KO P1 N1
            go_wp2_with fail
            go_roundw
            case rel => exact ⟨k + 1, init, ks, _, cv', g, by go_num, by omega, HN.out.1, HN.out.2.1, HN.out.2.2⟩
            case measure => simp [intOf]; omega
          · by_cases hal : x.attrs = o.attrs
            · have hx1 := (M4.out (x, xv) (by simp))
              simp only at hx1
              have HI := Lib.hid (insert_join w.heap.size gb (init.length * 2) cs cv c0 x xv o.text (.slice ar o.attrs.length cr) o.attrs X HBG.out HG.out.1 HG.out.2 (HS.out.gi ⟨cv, c0 ++ [(x, xv)], g⟩ (by simp)) HAV.out (by rw [List.length_append, List.length_singleton] at m1; omega) (by omega) (by omega) hal)
              have HAL := Lib.hid hal
              clear hal hx1
              go_wp2_with fail
              rw [← HX.out]
              go_wp2_with fail
              refine HI.out.mono ?_
              rintro e w2 ⟨rfl, KO, P1⟩
              have N1 := HS.out.join (G := ⟨cv, c0 ++ [(x, xv)], g⟩) KO P1
              have HN := Lib.hid (And.intro N1 (And.intro (show Rel init ks (c0 ++ [({ x with text := cat x.text o.text }, xv)]) g (fold (ops.take (k + 1))) by rw [HFS.out]; exact HRel.out.ins_join HK2.out ((opE_put HK2.out).1 HO.out).1 HAL.out) (HK.out.trans (keepTG KO.keep))))
              clear KO P1 N1
              go_wp2_with fail
              go_roundw
              case rel => exact ⟨k + 1, init, ks, _, cv, g, by go_num, by omega, HN.out.1, HN.out.2.1, HN.out.2.2⟩
              case measure => simp [intOf]; omega
            · have HI := Lib.hid (insert_next w.heap.size gb (init.length * 2) cs cv c0 x xv o.text (.slice ar o.attrs.length cr) o.attrs X HBG.out HG.out.1 HG.out.2 (HS.out.gi ⟨cv, c0 ++ [(x, xv)], g⟩ (by simp)) HAV.out HAP.out ha8 (by rw [List.length_append, List.length_singleton] at m1; omega) hal)
              have HAL := Lib.hid hal
              clear hal
              go_wp2_with fail
              rw [← HX.out]
              go_wp2_with fail
              refine HI.out.mono ?_
              rintro e w2 ⟨rfl, w3, cv', av', rfl, KO, P1⟩
              rw [insO_eq HK2.out ((opE_put HK2.out).1 HO.out).1] at P1
              have N1 := HS.out.ins (G := ⟨cv, (c0 ++ [(x, xv)]), g⟩) KO P1
              have HN := Lib.hid (And.intro N1.1 (And.intro (show Rel init ks ((c0 ++ [(x, xv)]) ++ [(o, av')]) g (fold (ops.take (k + 1))) by rw [HFS.out]; exact HRel.out.ins_new HK2.out (fun c1 y h => by have h2 := List.append_inj_right' h rfl; simp only [List.cons.injEq, and_true] at h2; rw [← h2]; exact HAL.out) av') (HK.out.trans ((keepTG KO.keep).trans (keepGG N1.2)))))
              clear KO P1 N1
              go_wp2_with fail
              go_roundw
              case rel => exact ⟨k + 1, init, ks, _, cv', g, by go_num, by omega, HN.out.1, HN.out.2.1, HN.out.2.2⟩
              case measure => simp [intOf]; omega
        · have k2 : (o.kind == 2) = false := by rw [beq_eq_false_iff_ne]; exact hk2
          by_cases hk3 : o.kind = 3
          · have k3 : (o.kind == 3) = true := by rw [hk3]; rfl
            have n0 := HV.out.n0
            have n1 := HV.out.n1
            have hg0 := HRel.out.g0
            have hwr : IntKind.i64.wrap (g + o.n) = g + o.n := IntWalk.i64_in _ (by omega)
            have N1 := HS.out.del (G := ⟨cv, cur, g⟩) (g + o.n)
            have HN := Lib.hid (And.intro N1.1 (And.intro (show Rel init ks cur (g + o.n) (fold (ops.take (k + 1))) by rw [HFS.out]; exact HRel.out.del hk3 n0) (HK.out.trans (keepGG N1.2))))
            clear hk2 hk3 N1 n0 n1 hg0
            go_wp2_with fail
            rw [← HX.out]
            go_wp2_with fail
            go_region
            go_wp2_with fail
            go_roundw
            case rel => exact ⟨k + 1, init, ks, cur, cv, g + o.n, by go_num, by omega, HN.out.1.drew, HN.out.2.1, HN.out.2.2.drew⟩
            case measure => simp [intOf]; omega
          · have k3 : (o.kind == 3) = false := by rw [beq_eq_false_iff_ne]; exact hk3
            have hk1 : o.kind = 1 := by rcases HV.out.kind with h | h | h <;> omega
            have K1 := Lib.hid hk1
            have hts0 := ((opE_keep hk1).1 HO.out).2.1
            have HT0 := Lib.hid hts0
            clear hk1 hk2 hk3 hts0
            rcases nil_or_snoc ks with rfl | ⟨k0, ⟨x, xv⟩, rfl⟩
            · obtain ⟨ka, kc, hkv⟩ : ∃ a c, _ = Value.slice a 0 c := own_slice HS.out.kr.1
              subst hkv
              obtain ⟨ca, cc, hcv⟩ := own_slice (HS.out.gi ⟨cv, cur, g⟩ (by simp)).1
              simp only at hcv
              subst hcv
              go_wp2_with fail
              rw [← HX.out]
              go_wp2_with fail
              go_quiet (fail)
              go_wp2_with fail
              obtain ⟨Y, hY⟩ : ∃ Y, Y = X.drewN nq := ⟨_, rfl⟩
              have SY : Y.drew.cell? ⟨wr.heap.size, 1, none⟩ = some (.int .i64 o.n) ∧ Y.drew.cell? ⟨wr.heap.size, 3, none⟩ = some (.slice ar o.attrs.length cr) := by rw [hY]; exact ⟨d1, d3⟩
              have HSY := Lib.hid (show RSt Y w.heap.size _ _ _ _ by rw [hY]; exact HS.out.drewN nq)
              have HKY := Lib.hid (show Keep w.heap.size TG W Y by rw [hY]; exact HK.out.trans (keep_below (below_drewN (Below.refl _ _) nq) hBX))
              have HAY := Lib.hid (show AtRow Y _ _ by rw [hY]; exact HAV.out.below (below_drewN (Below.refl _ _) nq))
              have hBY : w.heap.size ≤ Y.heap.size := by rw [hY]; exact hBX
              have hxY : wr.heap.size < Y.heap.size := by rw [hY]; exact hXs
              rw [← hY]
              clear hY d0 d1 d2 d3 e0 e1 e2
              refine wp_region_B (fun w' => w'.cell? ⟨wr.heap.size, 1, none⟩ = some (.int .i64 o.n) ∧ w'.cell? ⟨wr.heap.size, 3, none⟩ = some (.slice ar o.attrs.length cr)) [8] (by kernel_rfl) (?_ : wpAnyB _ _ _ _ _ _ 10 (Array.replicate 10 false) _ _)
              refine wpAnyB_free (fuel := 9) (i := 0) (v := ?_) rfl (by kernel_rfl) (by kernel_rfl) (by kernel_rfl) (by kernel_rfl) (fun _ _ _ h => h) (.inr SY) ?_ (by rfl) ?_
              rotate_left
              · intro w'; go_simp; (try with_reducible rfl)
              simp only [Act.put, List.getElem_toArray, List.getElem_cons_zero, List.setIfInBounds_toArray, List.set_cons_zero, List.set_cons_succ]
              refine wpAnyB_free (fuel := 8) (i := 1) (v := ?_) rfl (by kernel_rfl) (by kernel_rfl) (by kernel_rfl) (by kernel_rfl) (fun _ _ _ h => h) (.inr SY) ?_ (by rfl) ?_
              rotate_left
              · intro w'; go_simp; (try with_reducible rfl)
              simp only [Act.put, List.getElem_toArray, List.getElem_cons_zero, List.getElem_cons_succ, List.setIfInBounds_toArray, List.set_cons_zero, List.set_cons_succ]
              refine wpAnyB_load [2,6,7,8] (fuel := 7) (i := 2) (v := ?_) rfl (by kernel_rfl) (by kernel_rfl) (by kernel_rfl) (by kernel_rfl) (by kernel_rfl) (fun _ _ _ h => h) (.inr SY) ?_ (by rfl) ?_
              rotate_left
              · intro w' hw'; obtain ⟨m0, m1⟩ := hw'; go_simp; (try with_reducible rfl)
              simp only [Act.put, List.getElem_toArray, List.getElem_cons_zero, List.getElem_cons_succ, List.setIfInBounds_toArray, List.set_cons_zero, List.set_cons_succ]
              refine wpAnyB_free (fuel := 6) (i := 3) (v := ?_) rfl (by kernel_rfl) (by kernel_rfl) (by kernel_rfl) (by kernel_rfl) (fun _ _ _ h => h) (.inr SY) ?_ (by rfl) ?_
              rotate_left
              · intro w'; go_simp; (try with_reducible rfl)
              simp only [Act.put, List.getElem_toArray, List.getElem_cons_zero, List.getElem_cons_succ, List.setIfInBounds_toArray, List.set_cons_zero, List.set_cons_succ]
              refine wpAnyB_load [4,5,6,7,8] (fuel := 5) (i := 4) (v := ?_) rfl (by kernel_rfl) (by kernel_rfl) (by kernel_rfl) (by kernel_rfl) (by kernel_rfl) (fun _ _ _ h => h) (.inr SY) ?_ (by rfl) ?_
              rotate_left
              · intro w' hw'; obtain ⟨m0, m1⟩ := hw'; go_simp; (try with_reducible rfl)
              simp only [Act.put, List.getElem_toArray, List.getElem_cons_zero, List.getElem_cons_succ, List.setIfInBounds_toArray, List.set_cons_zero, List.set_cons_succ]
              refine wpAnyB_one (fuel := 4) (i := 5) rfl (by kernel_rfl) ?_
              intro KB hKB
              go_simp
              refine (copied_any (.slice ar o.attrs.length cr) o.attrs _ (HAY.out.below (Below.refl _ _).drew) HAP.out ha8).mono ?_
              rintro e wA ⟨u, rfl, oA, bA⟩
              obtain ⟨ua, uc, rfl⟩ := own_slice oA
              have BA : Below Y.heap.size Y wA := of_drew bA
              have OA := Lib.hid (own_base oA (show w.heap.size ≤ Y.drew.heap.size from hBY))
              have SA' := Lib.hid (HSY.out.below BA)
              have KA := Lib.hid (HKY.out.trans (keep_below (ts := TG) BA hBY))
              have hBA : w.heap.size ≤ wA.heap.size := Nat.le_trans hBY BA.size
              have hxA : wr.heap.size < wA.heap.size := Nat.lt_of_lt_of_le hxY BA.size
              have SA : wA.cell? ⟨wr.heap.size, 1, none⟩ = some (.int .i64 o.n) ∧ wA.cell? ⟨wr.heap.size, 3, none⟩ = some (.slice ar o.attrs.length cr) := ⟨(BA.cell (by exact hxY)).trans SY.1, (BA.cell (by exact hxY)).trans SY.2⟩
              clear oA bA BA
              refine hKB _ _ (.inr SA) ?_
              (try simp only [Act.put, List.getElem_toArray, List.getElem_cons_zero, List.getElem_cons_succ, List.setIfInBounds_toArray, List.set_cons_zero, List.set_cons_succ])
              refine wpAnyB_free (fuel := 3) (i := 6) (v := ?_) rfl (by kernel_rfl) (by kernel_rfl) (by kernel_rfl) (by kernel_rfl) (fun _ _ _ h => h) (.inr SA) ?_ (by rfl) ?_
              rotate_left
              · intro w'; go_simp; (try with_reducible rfl)
              simp only [Act.put, List.getElem_toArray, List.getElem_cons_zero, List.getElem_cons_succ, List.setIfInBounds_toArray, List.set_cons_zero, List.set_cons_succ]
              refine wpAnyB_one (fuel := 2) (i := 7) rfl (by kernel_rfl) ?_
              intro KB hKB
              go_simp
              have BC : Below wA.heap.size wA (wA.alloc (.cells #[.int .i64 1, .int .i64 o.n, .string ⟨#[]⟩, .slice ua o.attrs.length uc] 48)) := below_box _ _
              have SB : (wA.alloc (.cells #[.int .i64 1, .int .i64 o.n, .string ⟨#[]⟩, .slice ua o.attrs.length uc] 48)).cell? ⟨wr.heap.size, 1, none⟩ = some (.int .i64 o.n) ∧ (wA.alloc (.cells #[.int .i64 1, .int .i64 o.n, .string ⟨#[]⟩, .slice ua o.attrs.length uc] 48)).cell? ⟨wr.heap.size, 3, none⟩ = some (.slice ar o.attrs.length cr) := ⟨(BC.cell (by exact hxA)).trans SA.1, (BC.cell (by exact hxA)).trans SA.2⟩
              have HBC := Lib.hid BC
              clear BC
              refine hKB _ _ (.inr SB) ?_
              (try simp only [Act.put, List.getElem_toArray, List.getElem_cons_zero, List.getElem_cons_succ, List.setIfInBounds_toArray, List.set_cons_zero, List.set_cons_succ])
              refine wpAnyB_one (fuel := 1) (i := 8) rfl (by kernel_rfl) ?_
              intro KB hKB
              refine step_app_op rfl (.tmp 83) (.tmp 90) rfl w.heap.size (.slice ka 0 kc) [] rfl (SA'.out.below HBC.out).kr (⟨1, o.n, ⟨#[]⟩, o.attrs⟩, .slice ua o.attrs.length uc) ⟨wA.heap.size, 0, none⟩ 1 rfl (new_at4 _ _ _ _ _ _) ((keep_below (B := w.heap.size) (ts := []) HBC.out hBA).own OA.out (by simp)) (by omega) (Nat.le_trans hBA HBC.out.size) ?_
              intro v' wC PC KC
              obtain ⟨oa', oc', rfl⟩ : ∃ a c, v' = .slice a (0 + 1) c := by have := own_slice PC.1; simpa using this
              rw [keepO_eq K1.out HT0.out] at PC
              have SC' := (SA'.out.below HBC.out).keeps KC PC
              have HKC := Lib.hid (KA.out.trans ((keep_below (ts := TG) HBC.out hBA).trans (keepTG KC.keep)))
              have hBC : w.heap.size ≤ wC.heap.size := Nat.le_trans hBA (Nat.le_trans HBC.out.size KC.keep.below.size)
              have HSC := Lib.hid SC'
              have GRO := Lib.hid SC'.gr
              clear PC KC SC'
              refine hKB _ _ (.inl (by kernel_rfl)) ?_
              (try simp only [Act.put, List.getElem_toArray, List.getElem_cons_zero, List.getElem_cons_succ, List.setIfInBounds_toArray, List.set_cons_zero, List.set_cons_succ])
              refine wpAnyB_free (fuel := 0) (i := 9) (v := ?_) rfl (by kernel_rfl) (by kernel_rfl) (by kernel_rfl) (by kernel_rfl) (fun _ _ _ h => h) (.inl (by kernel_rfl)) ?_ (by rfl) ?_
              rotate_left
              · intro w'; go_simp; (try with_reducible rfl)
              simp only [Act.put, List.getElem_toArray, List.getElem_cons_zero, List.getElem_cons_succ, List.setIfInBounds_toArray, List.set_cons_zero, List.set_cons_succ]
              refine wpAnyB_done (by kernel_rfl) ?_
              obtain ⟨ig, hi, hz0, hz1, hz2⟩ := info_parts infoGrp
              have Hi := Lib.hid (And.intro hi (And.intro hz0 (And.intro hz1 hz2)))
              rw [List.length_append, List.length_singleton] at GRO
              clear hi hz0 hz1 hz2
              go_wp2_with (at_builtin; refine wpList_append_own _ rfl (.tmp 92) (.tmp 94) 82 rfl w.heap.size 81 ig (.agg #[.slice none 0 0, .int .i64 0]) 2 32 Tryz.underlying82 Hi.out.1 Hi.out.2.1 Hi.out.2.2.1 Hi.out.2.2.2 rfl (by decide) (.slice (some ⟨gb, 0, none⟩) (init.length + 1) gc) (init.length + 1) (flatG (init ++ [⟨.slice ca cur.length cc, cur, g⟩])) rfl (GRO.out.alloc _) ⟨wC.heap.size, 0, none⟩ 1 1 [.slice none 0 0, .int .i64 0] rfl rfl (new_at2 _ _ _ _) (fun u hu => by simp at hu; rcases hu with rfl | rfl <;> rfl) (by unfold maxLen; omega) (by omega) (by simp; omega) ?_; intro gv' wD oD gD _; have KD := keep_row (GRO.out.alloc _) gD (ts := [81]) (by simp) (by simp; omega); have ND := (HSC.out.below (below_box wC (.cells #[.slice none 0 0, .int .i64 0] 81))).more KD (by rw [List.length_append, List.length_singleton]; exact oD); have HND := Lib.hid ND; have HKD := Lib.hid (HKC.out.trans ((keep_below (ts := TG) (below_box wC (.cells #[.slice none 0 0, .int .i64 0] 81)) hBC).trans (keepGG KD))); clear oD gD KD ND)
              go_roundw
              case rel => exact ⟨k + 1, init ++ [⟨.slice ca cur.length cc, cur, g⟩], _, [], .slice none 0 0, 0, by go_num, by omega, HND.out, by rw [HFS.out]; exact HRel.out.keep_new HL.out.2 K1.out (fun _ _ k0 x h => by simp at h) _ _, HKD.out⟩
              case measure => simp [intOf]; omega
            · have m2' : k0.length ≤ 4000 := by rw [List.length_append, List.length_singleton] at m2; omega
              obtain ⟨kb, kc, hkv⟩ := ownsRow_open HS.out.kr.len (Nat.succ_pos _)
              subst hkv
              obtain ⟨xa, xc, hxv⟩ : ∃ a c, xv = .slice a x.attrs.length c := own_slice (HS.out.kr.2 (x, xv) (by simp))
              subst hxv
              obtain ⟨q0, q1, q2, q3⟩ := last_cells HS.out.kr.len
              have j1 : (0 : Int) ≤ (k0.length : Int) := by omega
              have j2 : (k0.length : Int) < (k0.length : Int) + 1 := by omega
              have j3 : decide ((0 : Int) ≤ (k0.length : Int)) = true := decide_eq_true (by omega)
              have hkX : kb < X.heap.size := by obtain ⟨_, cs', hcs'⟩ := own_heap HS.out.kr.len; exact lt_of_heap hcs'
              have HQ := Lib.hid (fun n : Nat => refSame_any (.slice xa x.attrs.length xc) (.slice ar o.attrs.length cr) x.attrs o.attrs (X.drewN n) (row_of_own ((HS.out.drewN n).kr.2 (x, .slice xa x.attrs.length xc) (by simp))) (HAV.out.below (below_drewN (Below.refl _ _) n)))
              obtain ⟨ca, cc, hcv⟩ := own_slice (HS.out.gi ⟨cv, cur, g⟩ (by simp)).1
              simp only at hcv
              subst hcv
              rcases nil_or_snoc cur with rfl | ⟨c0, y, rfl⟩
              · by_cases hg0 : g = 0
                · subst hg0
                  by_cases hal : x.attrs = o.attrs
                  · rw [show sameB x.attrs o.attrs = true from decide_eq_true hal] at HQ
                    have hx1 := M5.out (x, .slice xa x.attrs.length xc) (by simp)
                    simp only at hx1
                    have n0 := HV.out.n0
                    have n1 := HV.out.n1
                    have f1 : X.frozen? ⟨kb, k0.length * 4 + 1, none⟩ = false := HS.out.kr.len.frozenAt _
                    have hwr : IntKind.i64.wrap (x.n + o.n) = x.n + o.n := IntWalk.i64_in _ (by omega)
                    obtain ⟨P1, KO1⟩ := OwnP.setLast (y := { x with n := x.n + o.n }) HS.out.kr 1 (.int .i64 (x.n + o.n)) rfl rfl
                    have N1 := HS.out.keeps KO1 P1
                    have HN := Lib.hid (And.intro N1 (And.intro (show Rel init (k0 ++ [({ x with n := x.n + o.n }, .slice xa x.attrs.length xc)]) [] 0 (fold (ops.take (k + 1))) by rw [HFS.out]; exact HRel.out.keep_join HL.out.2 K1.out HT0.out hal) (HK.out.trans (keepTG KO1.keep))))
                    clear hal hx1 n0 n1 P1 KO1 N1
                    go_wp2_with fail
                    rw [← HX.out]
                    go_wp2_with fail
                    go_quiet ((go_at_call 51; exact Calls.quiet_of (HQ.out _)))
                    go_wp2_with fail
                    go_region
                    obtain ⟨Y, hY⟩ : ∃ Y, Y = X.setCell ⟨kb, k0.length * 4 + 1, none⟩ (.int .i64 (x.n + o.n)) := ⟨_, rfl⟩
                    go_wp2_with fail
                    go_roundw
                    case rel => exact ⟨k + 1, init, _, [], _, 0, by go_num, by omega, (HN.out.1.drewN nq).drew, HN.out.2.1, HN.out.2.2.trans (keep_below (below_drewN (Below.refl _ _) nq).drew (by have := HN.out.2.2.below.size; have := hlW; omega))⟩
                    case measure => simp [intOf]; omega
                  · rw [show sameB x.attrs o.attrs = false from decide_eq_false hal] at HQ
                    have HAL := Lib.hid hal
                    clear hal
                    go_wp2_with fail
                    rw [← HX.out]
                    go_wp2_with fail
                    go_quiet ((go_at_call 51; exact Calls.quiet_of (HQ.out _)))
                    go_wp2_with fail
                    obtain ⟨Y, hY⟩ : ∃ Y, Y = X.drewN nq := ⟨_, rfl⟩
                    have SY : Y.drew.cell? ⟨wr.heap.size, 1, none⟩ = some (.int .i64 o.n) ∧ Y.drew.cell? ⟨wr.heap.size, 3, none⟩ = some (.slice ar o.attrs.length cr) := by rw [hY]; exact ⟨d1, d3⟩
                    have HSY := Lib.hid (show RSt Y w.heap.size _ _ _ _ by rw [hY]; exact HS.out.drewN nq)
                    have HKY := Lib.hid (show Keep w.heap.size TG W Y by rw [hY]; exact HK.out.trans (keep_below (below_drewN (Below.refl _ _) nq) hBX))
                    have HAY := Lib.hid (show AtRow Y _ _ by rw [hY]; exact HAV.out.below (below_drewN (Below.refl _ _) nq))
                    have hBY : w.heap.size ≤ Y.heap.size := by rw [hY]; exact hBX
                    have hxY : wr.heap.size < Y.heap.size := by rw [hY]; exact hXs
                    rw [← hY]
                    clear hY d0 d1 d2 d3 e0 e1 e2
                    refine wp_region_B (fun w' => w'.cell? ⟨wr.heap.size, 1, none⟩ = some (.int .i64 o.n) ∧ w'.cell? ⟨wr.heap.size, 3, none⟩ = some (.slice ar o.attrs.length cr)) [8] (by kernel_rfl) (?_ : wpAnyB _ _ _ _ _ _ 10 (Array.replicate 10 false) _ _)
                    refine wpAnyB_free (fuel := 9) (i := 0) (v := ?_) rfl (by kernel_rfl) (by kernel_rfl) (by kernel_rfl) (by kernel_rfl) (fun _ _ _ h => h) (.inr SY) ?_ (by rfl) ?_
                    rotate_left
                    · intro w'; go_simp; (try with_reducible rfl)
                    simp only [Act.put, List.getElem_toArray, List.getElem_cons_zero, List.setIfInBounds_toArray, List.set_cons_zero, List.set_cons_succ]
                    refine wpAnyB_free (fuel := 8) (i := 1) (v := ?_) rfl (by kernel_rfl) (by kernel_rfl) (by kernel_rfl) (by kernel_rfl) (fun _ _ _ h => h) (.inr SY) ?_ (by rfl) ?_
                    rotate_left
                    · intro w'; go_simp; (try with_reducible rfl)
                    simp only [Act.put, List.getElem_toArray, List.getElem_cons_zero, List.getElem_cons_succ, List.setIfInBounds_toArray, List.set_cons_zero, List.set_cons_succ]
                    refine wpAnyB_load [2,6,7,8] (fuel := 7) (i := 2) (v := ?_) rfl (by kernel_rfl) (by kernel_rfl) (by kernel_rfl) (by kernel_rfl) (by kernel_rfl) (fun _ _ _ h => h) (.inr SY) ?_ (by rfl) ?_
                    rotate_left
                    · intro w' hw'; obtain ⟨m0, m1⟩ := hw'; go_simp; (try with_reducible rfl)
                    simp only [Act.put, List.getElem_toArray, List.getElem_cons_zero, List.getElem_cons_succ, List.setIfInBounds_toArray, List.set_cons_zero, List.set_cons_succ]
                    refine wpAnyB_free (fuel := 6) (i := 3) (v := ?_) rfl (by kernel_rfl) (by kernel_rfl) (by kernel_rfl) (by kernel_rfl) (fun _ _ _ h => h) (.inr SY) ?_ (by rfl) ?_
                    rotate_left
                    · intro w'; go_simp; (try with_reducible rfl)
                    simp only [Act.put, List.getElem_toArray, List.getElem_cons_zero, List.getElem_cons_succ, List.setIfInBounds_toArray, List.set_cons_zero, List.set_cons_succ]
                    refine wpAnyB_load [4,5,6,7,8] (fuel := 5) (i := 4) (v := ?_) rfl (by kernel_rfl) (by kernel_rfl) (by kernel_rfl) (by kernel_rfl) (by kernel_rfl) (fun _ _ _ h => h) (.inr SY) ?_ (by rfl) ?_
                    rotate_left
                    · intro w' hw'; obtain ⟨m0, m1⟩ := hw'; go_simp; (try with_reducible rfl)
                    simp only [Act.put, List.getElem_toArray, List.getElem_cons_zero, List.getElem_cons_succ, List.setIfInBounds_toArray, List.set_cons_zero, List.set_cons_succ]
                    refine wpAnyB_one (fuel := 4) (i := 5) rfl (by kernel_rfl) ?_
                    intro KB hKB
                    go_simp
                    refine (copied_any (.slice ar o.attrs.length cr) o.attrs _ (HAY.out.below (Below.refl _ _).drew) HAP.out ha8).mono ?_
                    rintro e wA ⟨u, rfl, oA, bA⟩
                    obtain ⟨ua, uc, rfl⟩ := own_slice oA
                    have BA : Below Y.heap.size Y wA := of_drew bA
                    have OA := Lib.hid (own_base oA (show w.heap.size ≤ Y.drew.heap.size from hBY))
                    have SA' := Lib.hid (HSY.out.below BA)
                    have KA := Lib.hid (HKY.out.trans (keep_below (ts := TG) BA hBY))
                    have hBA : w.heap.size ≤ wA.heap.size := Nat.le_trans hBY BA.size
                    have hxA : wr.heap.size < wA.heap.size := Nat.lt_of_lt_of_le hxY BA.size
                    have SA : wA.cell? ⟨wr.heap.size, 1, none⟩ = some (.int .i64 o.n) ∧ wA.cell? ⟨wr.heap.size, 3, none⟩ = some (.slice ar o.attrs.length cr) := ⟨(BA.cell (by exact hxY)).trans SY.1, (BA.cell (by exact hxY)).trans SY.2⟩
                    clear oA bA BA
                    refine hKB _ _ (.inr SA) ?_
                    (try simp only [Act.put, List.getElem_toArray, List.getElem_cons_zero, List.getElem_cons_succ, List.setIfInBounds_toArray, List.set_cons_zero, List.set_cons_succ])
                    refine wpAnyB_free (fuel := 3) (i := 6) (v := ?_) rfl (by kernel_rfl) (by kernel_rfl) (by kernel_rfl) (by kernel_rfl) (fun _ _ _ h => h) (.inr SA) ?_ (by rfl) ?_
                    rotate_left
                    · intro w'; go_simp; (try with_reducible rfl)
                    simp only [Act.put, List.getElem_toArray, List.getElem_cons_zero, List.getElem_cons_succ, List.setIfInBounds_toArray, List.set_cons_zero, List.set_cons_succ]
                    refine wpAnyB_one (fuel := 2) (i := 7) rfl (by kernel_rfl) ?_
                    intro KB hKB
                    go_simp
                    have BC : Below wA.heap.size wA (wA.alloc (.cells #[.int .i64 1, .int .i64 o.n, .string ⟨#[]⟩, .slice ua o.attrs.length uc] 48)) := below_box _ _
                    have SB : (wA.alloc (.cells #[.int .i64 1, .int .i64 o.n, .string ⟨#[]⟩, .slice ua o.attrs.length uc] 48)).cell? ⟨wr.heap.size, 1, none⟩ = some (.int .i64 o.n) ∧ (wA.alloc (.cells #[.int .i64 1, .int .i64 o.n, .string ⟨#[]⟩, .slice ua o.attrs.length uc] 48)).cell? ⟨wr.heap.size, 3, none⟩ = some (.slice ar o.attrs.length cr) := ⟨(BC.cell (by exact hxA)).trans SA.1, (BC.cell (by exact hxA)).trans SA.2⟩
                    have HBC := Lib.hid BC
                    clear BC
                    refine hKB _ _ (.inr SB) ?_
                    (try simp only [Act.put, List.getElem_toArray, List.getElem_cons_zero, List.getElem_cons_succ, List.setIfInBounds_toArray, List.set_cons_zero, List.set_cons_succ])
                    refine wpAnyB_one (fuel := 1) (i := 8) rfl (by kernel_rfl) ?_
                    intro KB hKB
                    refine step_app_op rfl (.tmp 83) (.tmp 90) rfl w.heap.size (.slice (some ⟨kb, 0, none⟩) (k0.length + 1) kc) (k0 ++ [(x, .slice xa x.attrs.length xc)]) rfl (SA'.out.below HBC.out).kr (⟨1, o.n, ⟨#[]⟩, o.attrs⟩, .slice ua o.attrs.length uc) ⟨wA.heap.size, 0, none⟩ 1 rfl (new_at4 _ _ _ _ _ _) ((keep_below (B := w.heap.size) (ts := []) HBC.out hBA).own OA.out (by simp)) (by omega) (Nat.le_trans hBA HBC.out.size) ?_
                    intro v' wC PC KC
                    obtain ⟨oa', oc', rfl⟩ : ∃ a c, v' = .slice a ((k0.length + 1) + 1) c := by have := own_slice PC.1; simpa using this
                    rw [keepO_eq K1.out HT0.out] at PC
                    have SC' := (SA'.out.below HBC.out).keeps KC PC
                    have HKC := Lib.hid (KA.out.trans ((keep_below (ts := TG) HBC.out hBA).trans (keepTG KC.keep)))
                    have hBC : w.heap.size ≤ wC.heap.size := Nat.le_trans hBA (Nat.le_trans HBC.out.size KC.keep.below.size)
                    have HSC := Lib.hid SC'
                    have GRO := Lib.hid SC'.gr
                    clear PC KC SC'
                    refine hKB _ _ (.inl (by kernel_rfl)) ?_
                    (try simp only [Act.put, List.getElem_toArray, List.getElem_cons_zero, List.getElem_cons_succ, List.setIfInBounds_toArray, List.set_cons_zero, List.set_cons_succ])
                    refine wpAnyB_free (fuel := 0) (i := 9) (v := ?_) rfl (by kernel_rfl) (by kernel_rfl) (by kernel_rfl) (by kernel_rfl) (fun _ _ _ h => h) (.inl (by kernel_rfl)) ?_ (by rfl) ?_
                    rotate_left
                    · intro w'; go_simp; (try with_reducible rfl)
                    simp only [Act.put, List.getElem_toArray, List.getElem_cons_zero, List.getElem_cons_succ, List.setIfInBounds_toArray, List.set_cons_zero, List.set_cons_succ]
                    refine wpAnyB_done (by kernel_rfl) ?_
                    obtain ⟨ig, hi, hz0, hz1, hz2⟩ := info_parts infoGrp
                    have Hi := Lib.hid (And.intro hi (And.intro hz0 (And.intro hz1 hz2)))
                    rw [List.length_append, List.length_singleton] at GRO
                    clear hi hz0 hz1 hz2
                    go_wp2_with (at_builtin; refine wpList_append_own _ rfl (.tmp 92) (.tmp 94) 82 rfl w.heap.size 81 ig (.agg #[.slice none 0 0, .int .i64 0]) 2 32 Tryz.underlying82 Hi.out.1 Hi.out.2.1 Hi.out.2.2.1 Hi.out.2.2.2 rfl (by decide) (.slice (some ⟨gb, 0, none⟩) (init.length + 1) gc) (init.length + 1) (flatG (init ++ [⟨.slice ca ([] : List PA).length cc, [], 0⟩])) rfl (GRO.out.alloc _) ⟨wC.heap.size, 0, none⟩ 1 1 [.slice none 0 0, .int .i64 0] rfl rfl (new_at2 _ _ _ _) (fun u hu => by simp at hu; rcases hu with rfl | rfl <;> rfl) (by unfold maxLen; omega) (by omega) (by simp; omega) ?_; intro gv' wD oD gD _; have KD := keep_row (GRO.out.alloc _) gD (ts := [81]) (by simp) (by simp; omega); have ND := (HSC.out.below (below_box wC (.cells #[.slice none 0 0, .int .i64 0] 81))).more KD (by rw [List.length_append, List.length_singleton]; exact oD); have HND := Lib.hid ND; have HKD := Lib.hid (HKC.out.trans ((keep_below (ts := TG) (below_box wC (.cells #[.slice none 0 0, .int .i64 0] 81)) hBC).trans (keepGG KD))); clear oD gD KD ND)
                    go_roundw
                    case rel => exact ⟨k + 1, init ++ [⟨.slice ca ([] : List PA).length cc, [], 0⟩], _, [], .slice none 0 0, 0, by go_num, by omega, HND.out, by rw [HFS.out]; exact HRel.out.keep_new HL.out.2 K1.out (fun _ _ k1 z h => by have h2 := List.append_inj_right' h rfl; simp only [List.cons.injEq, and_true] at h2; rw [← h2]; exact HAL.out) _ _, HKD.out⟩
                    case measure => simp [intOf]; omega
                · have g1 : (g == 0) = false := by rw [beq_eq_false_iff_ne]; exact hg0
                  have HG0 := Lib.hid hg0
                  clear hg0
                  go_wp2_with fail
                  rw [← HX.out]
                  go_wp2_with fail
                  go_quiet (fail)
                  go_wp2_with fail
                  obtain ⟨Y, hY⟩ : ∃ Y, Y = X.drewN nq := ⟨_, rfl⟩
                  have SY : Y.drew.cell? ⟨wr.heap.size, 1, none⟩ = some (.int .i64 o.n) ∧ Y.drew.cell? ⟨wr.heap.size, 3, none⟩ = some (.slice ar o.attrs.length cr) := by rw [hY]; exact ⟨d1, d3⟩
                  have HSY := Lib.hid (show RSt Y w.heap.size _ _ _ _ by rw [hY]; exact HS.out.drewN nq)
                  have HKY := Lib.hid (show Keep w.heap.size TG W Y by rw [hY]; exact HK.out.trans (keep_below (below_drewN (Below.refl _ _) nq) hBX))
                  have HAY := Lib.hid (show AtRow Y _ _ by rw [hY]; exact HAV.out.below (below_drewN (Below.refl _ _) nq))
                  have hBY : w.heap.size ≤ Y.heap.size := by rw [hY]; exact hBX
                  have hxY : wr.heap.size < Y.heap.size := by rw [hY]; exact hXs
                  rw [← hY]
                  clear hY d0 d1 d2 d3 e0 e1 e2
                  refine wp_region_B (fun w' => w'.cell? ⟨wr.heap.size, 1, none⟩ = some (.int .i64 o.n) ∧ w'.cell? ⟨wr.heap.size, 3, none⟩ = some (.slice ar o.attrs.length cr)) [8] (by kernel_rfl) (?_ : wpAnyB _ _ _ _ _ _ 10 (Array.replicate 10 false) _ _)
                  refine wpAnyB_free (fuel := 9) (i := 0) (v := ?_) rfl (by kernel_rfl) (by kernel_rfl) (by kernel_rfl) (by kernel_rfl) (fun _ _ _ h => h) (.inr SY) ?_ (by rfl) ?_
                  rotate_left
                  · intro w'; go_simp; (try with_reducible rfl)
                  simp only [Act.put, List.getElem_toArray, List.getElem_cons_zero, List.setIfInBounds_toArray, List.set_cons_zero, List.set_cons_succ]
                  refine wpAnyB_free (fuel := 8) (i := 1) (v := ?_) rfl (by kernel_rfl) (by kernel_rfl) (by kernel_rfl) (by kernel_rfl) (fun _ _ _ h => h) (.inr SY) ?_ (by rfl) ?_
                  rotate_left
                  · intro w'; go_simp; (try with_reducible rfl)
                  simp only [Act.put, List.getElem_toArray, List.getElem_cons_zero, List.getElem_cons_succ, List.setIfInBounds_toArray, List.set_cons_zero, List.set_cons_succ]
                  refine wpAnyB_load [2,6,7,8] (fuel := 7) (i := 2) (v := ?_) rfl (by kernel_rfl) (by kernel_rfl) (by kernel_rfl) (by kernel_rfl) (by kernel_rfl) (fun _ _ _ h => h) (.inr SY) ?_ (by rfl) ?_
                  rotate_left
                  · intro w' hw'; obtain ⟨m0, m1⟩ := hw'; go_simp; (try with_reducible rfl)
                  simp only [Act.put, List.getElem_toArray, List.getElem_cons_zero, List.getElem_cons_succ, List.setIfInBounds_toArray, List.set_cons_zero, List.set_cons_succ]
                  refine wpAnyB_free (fuel := 6) (i := 3) (v := ?_) rfl (by kernel_rfl) (by kernel_rfl) (by kernel_rfl) (by kernel_rfl) (fun _ _ _ h => h) (.inr SY) ?_ (by rfl) ?_
                  rotate_left
                  · intro w'; go_simp; (try with_reducible rfl)
                  simp only [Act.put, List.getElem_toArray, List.getElem_cons_zero, List.getElem_cons_succ, List.setIfInBounds_toArray, List.set_cons_zero, List.set_cons_succ]
                  refine wpAnyB_load [4,5,6,7,8] (fuel := 5) (i := 4) (v := ?_) rfl (by kernel_rfl) (by kernel_rfl) (by kernel_rfl) (by kernel_rfl) (by kernel_rfl) (fun _ _ _ h => h) (.inr SY) ?_ (by rfl) ?_
                  rotate_left
                  · intro w' hw'; obtain ⟨m0, m1⟩ := hw'; go_simp; (try with_reducible rfl)
                  simp only [Act.put, List.getElem_toArray, List.getElem_cons_zero, List.getElem_cons_succ, List.setIfInBounds_toArray, List.set_cons_zero, List.set_cons_succ]
                  refine wpAnyB_one (fuel := 4) (i := 5) rfl (by kernel_rfl) ?_
                  intro KB hKB
                  go_simp
                  refine (copied_any (.slice ar o.attrs.length cr) o.attrs _ (HAY.out.below (Below.refl _ _).drew) HAP.out ha8).mono ?_
                  rintro e wA ⟨u, rfl, oA, bA⟩
                  obtain ⟨ua, uc, rfl⟩ := own_slice oA
                  have BA : Below Y.heap.size Y wA := of_drew bA
                  have OA := Lib.hid (own_base oA (show w.heap.size ≤ Y.drew.heap.size from hBY))
                  have SA' := Lib.hid (HSY.out.below BA)
                  have KA := Lib.hid (HKY.out.trans (keep_below (ts := TG) BA hBY))
                  have hBA : w.heap.size ≤ wA.heap.size := Nat.le_trans hBY BA.size
                  have hxA : wr.heap.size < wA.heap.size := Nat.lt_of_lt_of_le hxY BA.size
                  have SA : wA.cell? ⟨wr.heap.size, 1, none⟩ = some (.int .i64 o.n) ∧ wA.cell? ⟨wr.heap.size, 3, none⟩ = some (.slice ar o.attrs.length cr) := ⟨(BA.cell (by exact hxY)).trans SY.1, (BA.cell (by exact hxY)).trans SY.2⟩
                  clear oA bA BA
                  refine hKB _ _ (.inr SA) ?_
                  (try simp only [Act.put, List.getElem_toArray, List.getElem_cons_zero, List.getElem_cons_succ, List.setIfInBounds_toArray, List.set_cons_zero, List.set_cons_succ])
                  refine wpAnyB_free (fuel := 3) (i := 6) (v := ?_) rfl (by kernel_rfl) (by kernel_rfl) (by kernel_rfl) (by kernel_rfl) (fun _ _ _ h => h) (.inr SA) ?_ (by rfl) ?_
                  rotate_left
                  · intro w'; go_simp; (try with_reducible rfl)
                  simp only [Act.put, List.getElem_toArray, List.getElem_cons_zero, List.getElem_cons_succ, List.setIfInBounds_toArray, List.set_cons_zero, List.set_cons_succ]
                  refine wpAnyB_one (fuel := 2) (i := 7) rfl (by kernel_rfl) ?_
                  intro KB hKB
                  go_simp
                  have BC : Below wA.heap.size wA (wA.alloc (.cells #[.int .i64 1, .int .i64 o.n, .string ⟨#[]⟩, .slice ua o.attrs.length uc] 48)) := below_box _ _
                  have SB : (wA.alloc (.cells #[.int .i64 1, .int .i64 o.n, .string ⟨#[]⟩, .slice ua o.attrs.length uc] 48)).cell? ⟨wr.heap.size, 1, none⟩ = some (.int .i64 o.n) ∧ (wA.alloc (.cells #[.int .i64 1, .int .i64 o.n, .string ⟨#[]⟩, .slice ua o.attrs.length uc] 48)).cell? ⟨wr.heap.size, 3, none⟩ = some (.slice ar o.attrs.length cr) := ⟨(BC.cell (by exact hxA)).trans SA.1, (BC.cell (by exact hxA)).trans SA.2⟩
                  have HBC := Lib.hid BC
                  clear BC
                  refine hKB _ _ (.inr SB) ?_
                  (try simp only [Act.put, List.getElem_toArray, List.getElem_cons_zero, List.getElem_cons_succ, List.setIfInBounds_toArray, List.set_cons_zero, List.set_cons_succ])
                  refine wpAnyB_one (fuel := 1) (i := 8) rfl (by kernel_rfl) ?_
                  intro KB hKB
                  refine step_app_op rfl (.tmp 83) (.tmp 90) rfl w.heap.size (.slice (some ⟨kb, 0, none⟩) (k0.length + 1) kc) (k0 ++ [(x, .slice xa x.attrs.length xc)]) rfl (SA'.out.below HBC.out).kr (⟨1, o.n, ⟨#[]⟩, o.attrs⟩, .slice ua o.attrs.length uc) ⟨wA.heap.size, 0, none⟩ 1 rfl (new_at4 _ _ _ _ _ _) ((keep_below (B := w.heap.size) (ts := []) HBC.out hBA).own OA.out (by simp)) (by omega) (Nat.le_trans hBA HBC.out.size) ?_
                  intro v' wC PC KC
                  obtain ⟨oa', oc', rfl⟩ : ∃ a c, v' = .slice a ((k0.length + 1) + 1) c := by have := own_slice PC.1; simpa using this
                  rw [keepO_eq K1.out HT0.out] at PC
                  have SC' := (SA'.out.below HBC.out).keeps KC PC
                  have HKC := Lib.hid (KA.out.trans ((keep_below (ts := TG) HBC.out hBA).trans (keepTG KC.keep)))
                  have hBC : w.heap.size ≤ wC.heap.size := Nat.le_trans hBA (Nat.le_trans HBC.out.size KC.keep.below.size)
                  have HSC := Lib.hid SC'
                  have GRO := Lib.hid SC'.gr
                  clear PC KC SC'
                  refine hKB _ _ (.inl (by kernel_rfl)) ?_
                  (try simp only [Act.put, List.getElem_toArray, List.getElem_cons_zero, List.getElem_cons_succ, List.setIfInBounds_toArray, List.set_cons_zero, List.set_cons_succ])
                  refine wpAnyB_free (fuel := 0) (i := 9) (v := ?_) rfl (by kernel_rfl) (by kernel_rfl) (by kernel_rfl) (by kernel_rfl) (fun _ _ _ h => h) (.inl (by kernel_rfl)) ?_ (by rfl) ?_
                  rotate_left
                  · intro w'; go_simp; (try with_reducible rfl)
                  simp only [Act.put, List.getElem_toArray, List.getElem_cons_zero, List.getElem_cons_succ, List.setIfInBounds_toArray, List.set_cons_zero, List.set_cons_succ]
                  refine wpAnyB_done (by kernel_rfl) ?_
                  obtain ⟨ig, hi, hz0, hz1, hz2⟩ := info_parts infoGrp
                  have Hi := Lib.hid (And.intro hi (And.intro hz0 (And.intro hz1 hz2)))
                  rw [List.length_append, List.length_singleton] at GRO
                  clear hi hz0 hz1 hz2
                  go_wp2_with (at_builtin; refine wpList_append_own _ rfl (.tmp 92) (.tmp 94) 82 rfl w.heap.size 81 ig (.agg #[.slice none 0 0, .int .i64 0]) 2 32 Tryz.underlying82 Hi.out.1 Hi.out.2.1 Hi.out.2.2.1 Hi.out.2.2.2 rfl (by decide) (.slice (some ⟨gb, 0, none⟩) (init.length + 1) gc) (init.length + 1) (flatG (init ++ [⟨.slice ca ([] : List PA).length cc, [], g⟩])) rfl (GRO.out.alloc _) ⟨wC.heap.size, 0, none⟩ 1 1 [.slice none 0 0, .int .i64 0] rfl rfl (new_at2 _ _ _ _) (fun u hu => by simp at hu; rcases hu with rfl | rfl <;> rfl) (by unfold maxLen; omega) (by omega) (by simp; omega) ?_; intro gv' wD oD gD _; have KD := keep_row (GRO.out.alloc _) gD (ts := [81]) (by simp) (by simp; omega); have ND := (HSC.out.below (below_box wC (.cells #[.slice none 0 0, .int .i64 0] 81))).more KD (by rw [List.length_append, List.length_singleton]; exact oD); have HND := Lib.hid ND; have HKD := Lib.hid (HKC.out.trans ((keep_below (ts := TG) (below_box wC (.cells #[.slice none 0 0, .int .i64 0] 81)) hBC).trans (keepGG KD))); clear oD gD KD ND)
                  go_roundw
                  case rel => exact ⟨k + 1, init ++ [⟨.slice ca ([] : List PA).length cc, [], g⟩], _, [], .slice none 0 0, 0, by go_num, by omega, HND.out, by rw [HFS.out]; exact HRel.out.keep_new HL.out.2 K1.out (fun _ h => absurd h HG0.out) _ _, HKD.out⟩
                  case measure => simp [intOf]; omega
              · have g1 : (((c0 ++ [y]).length : Int) == 0) = false := by rw [beq_eq_false_iff_ne, List.length_append, List.length_singleton]; omega
                have g2 : ((c0 ++ [y]).length == 0) = false := by rw [beq_eq_false_iff_ne, List.length_append, List.length_singleton]; omega
                obtain ⟨cl, hcl⟩ : ∃ cl, cl = (c0 ++ [y]).length := ⟨_, rfl⟩
                obtain ⟨cur, hcur⟩ : ∃ cur, cur = c0 ++ [y] := ⟨_, rfl⟩
                have HNE := Lib.hid (show cur ≠ [] by rw [hcur]; simp)
                rw [← hcur] at HS HRel hcl g1 g2 e0 HG m1 M4
                rw [← hcl] at g1 g2 HS e0 HG
                clear hcl hcur
                go_wp2_with fail
                rw [← HX.out]
                go_wp2_with fail
                go_quiet (fail)
                go_wp2_with fail
                obtain ⟨Y, hY⟩ : ∃ Y, Y = X.drewN nq := ⟨_, rfl⟩
                have SY : Y.drew.cell? ⟨wr.heap.size, 1, none⟩ = some (.int .i64 o.n) ∧ Y.drew.cell? ⟨wr.heap.size, 3, none⟩ = some (.slice ar o.attrs.length cr) := by rw [hY]; exact ⟨d1, d3⟩
                have HSY := Lib.hid (show RSt Y w.heap.size _ _ _ _ by rw [hY]; exact HS.out.drewN nq)
                have HKY := Lib.hid (show Keep w.heap.size TG W Y by rw [hY]; exact HK.out.trans (keep_below (below_drewN (Below.refl _ _) nq) hBX))
                have HAY := Lib.hid (show AtRow Y _ _ by rw [hY]; exact HAV.out.below (below_drewN (Below.refl _ _) nq))
                have hBY : w.heap.size ≤ Y.heap.size := by rw [hY]; exact hBX
                have hxY : wr.heap.size < Y.heap.size := by rw [hY]; exact hXs
                rw [← hY]
                clear hY d0 d1 d2 d3 e0 e1 e2
                refine wp_region_B (fun w' => w'.cell? ⟨wr.heap.size, 1, none⟩ = some (.int .i64 o.n) ∧ w'.cell? ⟨wr.heap.size, 3, none⟩ = some (.slice ar o.attrs.length cr)) [8] (by kernel_rfl) (?_ : wpAnyB _ _ _ _ _ _ 10 (Array.replicate 10 false) _ _)
                refine wpAnyB_free (fuel := 9) (i := 0) (v := ?_) rfl (by kernel_rfl) (by kernel_rfl) (by kernel_rfl) (by kernel_rfl) (fun _ _ _ h => h) (.inr SY) ?_ (by rfl) ?_
                rotate_left
                · intro w'; go_simp; (try with_reducible rfl)
                simp only [Act.put, List.getElem_toArray, List.getElem_cons_zero, List.setIfInBounds_toArray, List.set_cons_zero, List.set_cons_succ]
                refine wpAnyB_free (fuel := 8) (i := 1) (v := ?_) rfl (by kernel_rfl) (by kernel_rfl) (by kernel_rfl) (by kernel_rfl) (fun _ _ _ h => h) (.inr SY) ?_ (by rfl) ?_
                rotate_left
                · intro w'; go_simp; (try with_reducible rfl)
                simp only [Act.put, List.getElem_toArray, List.getElem_cons_zero, List.getElem_cons_succ, List.setIfInBounds_toArray, List.set_cons_zero, List.set_cons_succ]
                refine wpAnyB_load [2,6,7,8] (fuel := 7) (i := 2) (v := ?_) rfl (by kernel_rfl) (by kernel_rfl) (by kernel_rfl) (by kernel_rfl) (by kernel_rfl) (fun _ _ _ h => h) (.inr SY) ?_ (by rfl) ?_
                rotate_left
                · intro w' hw'; obtain ⟨m0, m1⟩ := hw'; go_simp; (try with_reducible rfl)
                simp only [Act.put, List.getElem_toArray, List.getElem_cons_zero, List.getElem_cons_succ, List.setIfInBounds_toArray, List.set_cons_zero, List.set_cons_succ]
                refine wpAnyB_free (fuel := 6) (i := 3) (v := ?_) rfl (by kernel_rfl) (by kernel_rfl) (by kernel_rfl) (by kernel_rfl) (fun _ _ _ h => h) (.inr SY) ?_ (by rfl) ?_
                rotate_left
                · intro w'; go_simp; (try with_reducible rfl)
                simp only [Act.put, List.getElem_toArray, List.getElem_cons_zero, List.getElem_cons_succ, List.setIfInBounds_toArray, List.set_cons_zero, List.set_cons_succ]
                refine wpAnyB_load [4,5,6,7,8] (fuel := 5) (i := 4) (v := ?_) rfl (by kernel_rfl) (by kernel_rfl) (by kernel_rfl) (by kernel_rfl) (by kernel_rfl) (fun _ _ _ h => h) (.inr SY) ?_ (by rfl) ?_
                rotate_left
                · intro w' hw'; obtain ⟨m0, m1⟩ := hw'; go_simp; (try with_reducible rfl)
                simp only [Act.put, List.getElem_toArray, List.getElem_cons_zero, List.getElem_cons_succ, List.setIfInBounds_toArray, List.set_cons_zero, List.set_cons_succ]
                refine wpAnyB_one (fuel := 4) (i := 5) rfl (by kernel_rfl) ?_
                intro KB hKB
                go_simp
                refine (copied_any (.slice ar o.attrs.length cr) o.attrs _ (HAY.out.below (Below.refl _ _).drew) HAP.out ha8).mono ?_
                rintro e wA ⟨u, rfl, oA, bA⟩
                obtain ⟨ua, uc, rfl⟩ := own_slice oA
                have BA : Below Y.heap.size Y wA := of_drew bA
                have OA := Lib.hid (own_base oA (show w.heap.size ≤ Y.drew.heap.size from hBY))
                have SA' := Lib.hid (HSY.out.below BA)
                have KA := Lib.hid (HKY.out.trans (keep_below (ts := TG) BA hBY))
                have hBA : w.heap.size ≤ wA.heap.size := Nat.le_trans hBY BA.size
                have hxA : wr.heap.size < wA.heap.size := Nat.lt_of_lt_of_le hxY BA.size
                have SA : wA.cell? ⟨wr.heap.size, 1, none⟩ = some (.int .i64 o.n) ∧ wA.cell? ⟨wr.heap.size, 3, none⟩ = some (.slice ar o.attrs.length cr) := ⟨(BA.cell (by exact hxY)).trans SY.1, (BA.cell (by exact hxY)).trans SY.2⟩
                clear oA bA BA
                refine hKB _ _ (.inr SA) ?_
                (try simp only [Act.put, List.getElem_toArray, List.getElem_cons_zero, List.getElem_cons_succ, List.setIfInBounds_toArray, List.set_cons_zero, List.set_cons_succ])
                refine wpAnyB_free (fuel := 3) (i := 6) (v := ?_) rfl (by kernel_rfl) (by kernel_rfl) (by kernel_rfl) (by kernel_rfl) (fun _ _ _ h => h) (.inr SA) ?_ (by rfl) ?_
                rotate_left
                · intro w'; go_simp; (try with_reducible rfl)
                simp only [Act.put, List.getElem_toArray, List.getElem_cons_zero, List.getElem_cons_succ, List.setIfInBounds_toArray, List.set_cons_zero, List.set_cons_succ]
                refine wpAnyB_one (fuel := 2) (i := 7) rfl (by kernel_rfl) ?_
                intro KB hKB
                go_simp
                have BC : Below wA.heap.size wA (wA.alloc (.cells #[.int .i64 1, .int .i64 o.n, .string ⟨#[]⟩, .slice ua o.attrs.length uc] 48)) := below_box _ _
                have SB : (wA.alloc (.cells #[.int .i64 1, .int .i64 o.n, .string ⟨#[]⟩, .slice ua o.attrs.length uc] 48)).cell? ⟨wr.heap.size, 1, none⟩ = some (.int .i64 o.n) ∧ (wA.alloc (.cells #[.int .i64 1, .int .i64 o.n, .string ⟨#[]⟩, .slice ua o.attrs.length uc] 48)).cell? ⟨wr.heap.size, 3, none⟩ = some (.slice ar o.attrs.length cr) := ⟨(BC.cell (by exact hxA)).trans SA.1, (BC.cell (by exact hxA)).trans SA.2⟩
                have HBC := Lib.hid BC
                clear BC
                refine hKB _ _ (.inr SB) ?_
                (try simp only [Act.put, List.getElem_toArray, List.getElem_cons_zero, List.getElem_cons_succ, List.setIfInBounds_toArray, List.set_cons_zero, List.set_cons_succ])
                refine wpAnyB_one (fuel := 1) (i := 8) rfl (by kernel_rfl) ?_
                intro KB hKB
                refine step_app_op rfl (.tmp 83) (.tmp 90) rfl w.heap.size (.slice (some ⟨kb, 0, none⟩) (k0.length + 1) kc) (k0 ++ [(x, .slice xa x.attrs.length xc)]) rfl (SA'.out.below HBC.out).kr (⟨1, o.n, ⟨#[]⟩, o.attrs⟩, .slice ua o.attrs.length uc) ⟨wA.heap.size, 0, none⟩ 1 rfl (new_at4 _ _ _ _ _ _) ((keep_below (B := w.heap.size) (ts := []) HBC.out hBA).own OA.out (by simp)) (by omega) (Nat.le_trans hBA HBC.out.size) ?_
                intro v' wC PC KC
                obtain ⟨oa', oc', rfl⟩ : ∃ a c, v' = .slice a ((k0.length + 1) + 1) c := by have := own_slice PC.1; simpa using this
                rw [keepO_eq K1.out HT0.out] at PC
                have SC' := (SA'.out.below HBC.out).keeps KC PC
                have HKC := Lib.hid (KA.out.trans ((keep_below (ts := TG) HBC.out hBA).trans (keepTG KC.keep)))
                have hBC : w.heap.size ≤ wC.heap.size := Nat.le_trans hBA (Nat.le_trans HBC.out.size KC.keep.below.size)
                have HSC := Lib.hid SC'
                have GRO := Lib.hid SC'.gr
                clear PC KC SC'
                refine hKB _ _ (.inl (by kernel_rfl)) ?_
                (try simp only [Act.put, List.getElem_toArray, List.getElem_cons_zero, List.getElem_cons_succ, List.setIfInBounds_toArray, List.set_cons_zero, List.set_cons_succ])
                refine wpAnyB_free (fuel := 0) (i := 9) (v := ?_) rfl (by kernel_rfl) (by kernel_rfl) (by kernel_rfl) (by kernel_rfl) (fun _ _ _ h => h) (.inl (by kernel_rfl)) ?_ (by rfl) ?_
                rotate_left
                · intro w'; go_simp; (try with_reducible rfl)
                simp only [Act.put, List.getElem_toArray, List.getElem_cons_zero, List.getElem_cons_succ, List.setIfInBounds_toArray, List.set_cons_zero, List.set_cons_succ]
                refine wpAnyB_done (by kernel_rfl) ?_
                obtain ⟨ig, hi, hz0, hz1, hz2⟩ := info_parts infoGrp
                have Hi := Lib.hid (And.intro hi (And.intro hz0 (And.intro hz1 hz2)))
                rw [List.length_append, List.length_singleton] at GRO
                clear hi hz0 hz1 hz2
                go_wp2_with (at_builtin; refine wpList_append_own _ rfl (.tmp 92) (.tmp 94) 82 rfl w.heap.size 81 ig (.agg #[.slice none 0 0, .int .i64 0]) 2 32 Tryz.underlying82 Hi.out.1 Hi.out.2.1 Hi.out.2.2.1 Hi.out.2.2.2 rfl (by decide) (.slice (some ⟨gb, 0, none⟩) (init.length + 1) gc) (init.length + 1) (flatG (init ++ [⟨.slice ca cl cc, cur, g⟩])) rfl (GRO.out.alloc _) ⟨wC.heap.size, 0, none⟩ 1 1 [.slice none 0 0, .int .i64 0] rfl rfl (new_at2 _ _ _ _) (fun u hu => by simp at hu; rcases hu with rfl | rfl <;> rfl) (by unfold maxLen; omega) (by omega) (by simp; omega) ?_; intro gv' wD oD gD _; have KD := keep_row (GRO.out.alloc _) gD (ts := [81]) (by simp) (by simp; omega); have ND := (HSC.out.below (below_box wC (.cells #[.slice none 0 0, .int .i64 0] 81))).more KD (by rw [List.length_append, List.length_singleton]; exact oD); have HND := Lib.hid ND; have HKD := Lib.hid (HKC.out.trans ((keep_below (ts := TG) (below_box wC (.cells #[.slice none 0 0, .int .i64 0] 81)) hBC).trans (keepGG KD))); clear oD gD KD ND)
                go_roundw
                case rel => exact ⟨k + 1, init ++ [⟨.slice ca cl cc, cur, g⟩], _, [], .slice none 0 0, 0, by go_num, by omega, HND.out, by rw [HFS.out]; exact HRel.out.keep_new HL.out.2 K1.out (fun h => absurd h HNE.out) _ _, HKD.out⟩
                case measure => simp [intOf]; omega
      · have hkn : k = ops.length := by omega
        subst hkn
        obtain ⟨wo, rfl⟩ : ∃ wo : World, wo = wr := ⟨_, rfl⟩
        rw [List.take_length] at hR
        obtain ⟨L1, L2⟩ := lim_fold HOK.out ops.length (Nat.le_refl _)
        rw [List.take_length] at L1 L2
        have hno := norm_of hR L2
        have hfl := flush_len (fold ops)
        have hfz := siz_fold ops
        have htl : (rend init ks ++ (cur ++ dels g)).length ≤ 4000 := by
          have := congrArg List.length (hR.flush L2)
          rw [List.length_reverse, fsts_len] at this
          omega
        rw [← part_all cv hR.len] at hno htl
        have hgl : (init ++ [(⟨cv, cur, g⟩ : Grp)]).length = ks.length + 1 := by rw [List.length_append, List.length_singleton, hR.len]
        have hgi : init.length + 1 = (init ++ [(⟨cv, cur, g⟩ : Grp)]).length := by simp
        rw [hgi] at hno htl
        obtain ⟨gs, hgs⟩ : ∃ gs, gs = init ++ [(⟨cv, cur, g⟩ : Grp)] := ⟨_, rfl⟩
        rw [← hgs] at hno htl hgl hS
        obtain ⟨gb, gc, hgv, hgr⟩ := hS.at (i := 0) (by omega)
        subst hgv
        clear hgr
        obtain ⟨ka, kc, hkv⟩ := own_slice hS.kr.1
        subst hkv
        have BK : Below w.heap.size w wo := BW.out.trans hK.below
        have hBr := BK.size
        have hwr1 : w.heap.size + 1 < wo.heap.size := lt_of_heap HRF.out
        have hgn : gs.length ≤ 4001 := by
          have := part_le hgl (gs.length - 1) 1 (by omega)
          have h2 := L1.siz
          have h3 := hR.lim L1 hl2
          omega
        obtain ⟨V, hV⟩ : ∃ V, V = wo.alloc (.cells #[.int .i64 f, .slice none 0 0] 24) := ⟨_, rfl⟩
        have BV : Below wo.heap.size wo V := by rw [hV]; exact below_box _ _
        have HO0 := Lib.hid (show OSt V w.heap.size wo.heap.size (w.heap.size + 1) f _ _ (.slice none 0 0) gs ks (part gs ks 0) from ⟨by rw [hV]; exact heap_new _ _, (BV.block _ hwr1).trans HRF.out, hS.below BV, ownP_nil _ _, apart_nil _, fun _ _ => apart_nil _⟩)
        have HBV := Lib.hid (BK.trans (BV.mono hBr))
        have HV := Lib.hid hV
        have HNO := Lib.hid hno
        have HTL := Lib.hid htl
        have HGL := Lib.hid hgl
        have hob : w.heap.size ≤ wo.heap.size := hBr
        have hor : wo.heap.size ≠ w.heap.size + 1 := by omega
        clear hS hR hK L1 L2 hno hfl hfz htl hgl hgi hgs BK BV hV
        go_wp2_with fail
        rw [← HV.out]
        go_loopw [12] (fun i wr => ∃ (n : Nat) (ov : Value), i = .int .i64 (n : Int) ∧ n ≤ gs.length ∧ OSt wr w.heap.size wo.heap.size (w.heap.size + 1) f (.slice (some ⟨gb, 0, none⟩) gs.length gc) (.slice ka ks.length kc) ov gs ks (part gs ks n) ∧ Below w.heap.size w wr) (fun i _ => gs.length - (intOf i).toNat)
        case atStart => exact ⟨0, .slice none 0 0, rfl, Nat.zero_le _, HO0.out, HBV.out⟩
        case round =>
          obtain ⟨n, ov, rfl, hn', hO, hB⟩ := hrel
          by_cases hlt2 : n < gs.length
          · have hlt2' : (n : Int) < (gs.length : Int) := by omega
            have hpl := part_le HGL.out (gs.length - n) n (by omega)
            have hpl2 := part_le HGL.out (gs.length - (n + 1)) (n + 1) (by omega)
            rw [show n + (gs.length - n) = gs.length by omega] at hpl
            rw [show n + 1 + (gs.length - (n + 1)) = gs.length by omega] at hpl2
            have htl := HTL.out
            obtain ⟨hgq, t0, t1⟩ := hO.st.at' hlt2
            have HOq := Lib.hid hO
            have HBq := Lib.hid hB
            have hBq := hB.size
            have l1 : (0 : Int) ≤ (n : Int) := by omega
            obtain ⟨G, hG⟩ : ∃ G, G = gs[n] := ⟨_, rfl⟩
            have HGm := Lib.hid (show G ∈ gs by rw [hG]; exact List.getElem_mem hlt2)
            have T0 := Lib.hid (fun (Y : World) (ov : Value) (out : List PA) (h : OSt Y w.heap.size wo.heap.size (w.heap.size + 1) f (.slice (some ⟨gb, 0, none⟩) gs.length gc) (.slice ka ks.length kc) ov gs ks out) => show Y.cell? ⟨gb, n * 2, none⟩ = some G.v by rw [hG]; exact (h.st.at' hlt2).2.1)
            have T1 := Lib.hid (fun (Y : World) (ov : Value) (out : List PA) (h : OSt Y w.heap.size wo.heap.size (w.heap.size + 1) f (.slice (some ⟨gb, 0, none⟩) gs.length gc) (.slice ka ks.length kc) ov gs ks out) => show Y.cell? ⟨gb, n * 2 + 1, none⟩ = some (.int .i64 G.g) by rw [hG]; exact (h.st.at' hlt2).2.2)
            cases n with
            | zero =>
              have HPE := Lib.hid (show part gs ks 1 = ([] ++ G.l) ++ dels G.g by rw [part_one (by omega), hG, List.nil_append])
              rw [HPE.out] at hpl2
              rw [List.length_append, List.length_append] at hpl2
              have hp0 : (part gs ks 0).length ≤ 0 := Nat.le_refl _
              have hp1 : (part gs ks 0 ++ G.l).length ≤ 4000 := by rw [List.length_append]; omega
              rw [Nat.zero_mul] at T0 T1
              rw [Nat.zero_add] at T1
              clear hG hO hB hpl hlt2' t0 t1
              by_cases hgp : 0 < G.g
              · have HD := Lib.hid (show dels G.g = [(delO G.g, .slice none 0 0)] by unfold dels; rw [if_pos hgp])
                go_wp2_with fail
                have SYb : wr.drew.cell? ⟨wo.heap.size, 1, none⟩ = some ov ∧ wr.drew.cell? ⟨gb, 0, none⟩ = some G.v := ⟨HOq.out.cell.1, T0.out wr _ _ HOq.out⟩
                refine wp_region_B (fun w' => w'.cell? ⟨wo.heap.size, 1, none⟩ = some ov ∧ w'.cell? ⟨gb, 0, none⟩ = some G.v) [7, 9] (by kernel_rfl) (?_ : wpAnyB _ _ _ _ _ _ 10 (Array.replicate 10 false) _ _)
                refine wpAnyB_free (fuel := 9) (i := 0) (v := ?_) rfl (by kernel_rfl) (by kernel_rfl) (by kernel_rfl) (by kernel_rfl) (fun _ _ _ h => h) (.inr SYb) ?_ (by rfl) ?_
                rotate_left
                · intro w'; go_simp; (try with_reducible rfl)
                simp only [Act.put, List.getElem_toArray, List.getElem_cons_zero, List.setIfInBounds_toArray, List.set_cons_zero, List.set_cons_succ]
                refine wpAnyB_load [1,7,8,9] (fuel := 8) (i := 1) (v := ?_) rfl (by kernel_rfl) (by kernel_rfl) (by kernel_rfl) (by kernel_rfl) (by kernel_rfl) (fun _ _ _ h => h) (.inr SYb) ?_ (by rfl) ?_
                rotate_left
                · intro w' hw'; obtain ⟨m0, m1⟩ := hw'; go_simp; (try with_reducible rfl)
                simp only [Act.put, List.getElem_toArray, List.getElem_cons_zero, List.getElem_cons_succ, List.setIfInBounds_toArray, List.set_cons_zero, List.set_cons_succ]
                refine wpAnyB_free (fuel := 7) (i := 2) (v := ?_) rfl (by kernel_rfl) (by kernel_rfl) (by kernel_rfl) (by kernel_rfl) (fun _ _ _ h => h) (.inr SYb) ?_ (by rfl) ?_
                rotate_left
                · intro w'; go_simp; (try with_reducible rfl)
                simp only [Act.put, List.getElem_toArray, List.getElem_cons_zero, List.getElem_cons_succ, List.setIfInBounds_toArray, List.set_cons_zero, List.set_cons_succ]
                refine wpAnyB_free (fuel := 6) (i := 3) (v := ?_) rfl (by kernel_rfl) (by kernel_rfl) (by kernel_rfl) (by kernel_rfl) (fun _ _ _ h => h) (.inr SYb) ?_ (by rfl) ?_
                rotate_left
                · intro w'; go_simp; (try with_reducible rfl)
                simp only [Act.put, List.getElem_toArray, List.getElem_cons_zero, List.getElem_cons_succ, List.setIfInBounds_toArray, List.set_cons_zero, List.set_cons_succ]
                refine wpAnyB_free (fuel := 5) (i := 4) (v := .pointer (some ⟨gb, 0, none⟩)) rfl (by kernel_rfl) (by kernel_rfl) (by kernel_rfl) (by kernel_rfl) (fun _ _ _ h => h) (.inr SYb) ?_ (by rfl) ?_
                · intro w'; go_simp; (try (intro hh; omega))
                simp only [Act.put, List.getElem_toArray, List.getElem_cons_zero, List.getElem_cons_succ, List.setIfInBounds_toArray, List.set_cons_zero, List.set_cons_succ]
                refine wpAnyB_free (fuel := 4) (i := 5) (v := ?_) rfl (by kernel_rfl) (by kernel_rfl) (by kernel_rfl) (by kernel_rfl) (fun _ _ _ h => h) (.inr SYb) ?_ (by rfl) ?_
                rotate_left
                · intro w'; go_simp; (try with_reducible rfl)
                simp only [Act.put, List.getElem_toArray, List.getElem_cons_zero, List.getElem_cons_succ, List.setIfInBounds_toArray, List.set_cons_zero, List.set_cons_succ]
                refine wpAnyB_load [6,7,8,9] (fuel := 3) (i := 6) (v := ?_) rfl (by kernel_rfl) (by kernel_rfl) (by kernel_rfl) (by kernel_rfl) (by kernel_rfl) (fun _ _ _ h => h) (.inr SYb) ?_ (by rfl) ?_
                rotate_left
                · intro w' hw'; obtain ⟨m0, m1⟩ := hw'; go_simp; (try with_reducible rfl)
                simp only [Act.put, List.getElem_toArray, List.getElem_cons_zero, List.getElem_cons_succ, List.setIfInBounds_toArray, List.set_cons_zero, List.set_cons_succ]
                refine wpAnyB_one (fuel := 2) (i := 7) rfl (by kernel_rfl) ?_
                intro KB hKB
                refine step_app_row rfl (.tmp 138) (.tmp 143) rfl w.heap.size ov (part gs ks 0) rfl (show OwnP wr.drew w.heap.size ov (part gs ks 0) from HOq.out.own) G.v G.l rfl (show OwnP wr.drew w.heap.size G.v G.l from HOq.out.st.gi G HGm.out) (by omega) (show w.heap.size ≤ wr.heap.size from HBq.out.size) ?_
                intro vb wCb PCb KCb
                obtain ⟨xb, nb, yb, rfl⟩ : ∃ x n y, vb = .slice x n y := by obtain ⟨x, y, h⟩ := own_slice PCb.1; exact ⟨x, _, y, h⟩
                have KOQb : KeepO w.heap.size wr wCb ov (.slice xb nb yb) := (keepO_below (B := w.heap.size) (below_drewN (Below.refl _ wr) 1) HBq.out.size ov).trans KCb
                have NXb := HOq.out.app hob hor KOQb PCb
                have bxb := KOQb.keep.kept _ _ _ _ HOq.out.box (by decide)
                have fzb : wCb.frozen? ⟨wo.heap.size, 1, none⟩ = false := Lib.frozen_of_heap bxb 1
                have szb : wCb.cell? ⟨wo.heap.size, 1, none⟩ = some ov := (Lib.cell_of_heap bxb 1).trans rfl
                have BZb := Lib.hid ((HBq.out.trans KOQb.keep.below).trans NXb.2.below)
                have HZb := Lib.hid NXb.1
                clear PCb KCb KOQb NXb bxb
                refine hKB _ _ (.inl (by kernel_rfl)) ?_
                (try simp only [Act.put, List.getElem_toArray, List.getElem_cons_zero, List.getElem_cons_succ, List.setIfInBounds_toArray, List.set_cons_zero, List.set_cons_succ])
                refine wpAnyB_free (fuel := 1) (i := 8) (v := ?_) rfl (by kernel_rfl) (by kernel_rfl) (by kernel_rfl) (by kernel_rfl) (fun _ _ _ h => h) (.inl (by kernel_rfl)) ?_ (by rfl) ?_
                rotate_left
                · intro w'; go_simp; (try with_reducible rfl)
                simp only [Act.put, List.getElem_toArray, List.getElem_cons_zero, List.getElem_cons_succ, List.setIfInBounds_toArray, List.set_cons_zero, List.set_cons_succ]
                refine wpAnyB_one (fuel := 0) (i := 9) rfl (by kernel_rfl) ?_
                intro KB hKB
                go_simp
                refine hKB _ _ (.inl (by kernel_rfl)) ?_
                (try simp only [Act.put, List.getElem_toArray, List.getElem_cons_zero, List.getElem_cons_succ, List.setIfInBounds_toArray, List.set_cons_zero, List.set_cons_succ])
                refine wpAnyB_done (by kernel_rfl) ?_
                obtain ⟨Z2, hZb⟩ : ∃ Z, Z = wCb.setCell ⟨wo.heap.size, 1, none⟩ (.slice xb nb yb) := ⟨_, rfl⟩
                change (Exit.then _ _) _ _ (wCb.setCell ⟨wo.heap.size, 1, none⟩ (.slice xb nb yb))
                rw [← hZb] at HZb BZb ⊢
                clear hZb fzb szb SYb
                have t1Z2 := T1.out Z2 _ _ HZb.out
                go_wp2_with fail
                have SYc : Z2.drew.cell? ⟨wo.heap.size, 1, none⟩ = some (.slice xb nb yb) ∧ Z2.drew.cell? ⟨gb, 1, none⟩ = some (.int .i64 G.g) := ⟨HZb.out.cell.1, T1.out Z2 _ _ HZb.out⟩
                have uoc : wo.heap.size < Z2.drew.heap.size := HZb.out.cell.2.2
                have usc : gb < Z2.drew.heap.size := (HZb.out.st.at' hlt2).1
                refine wp_region_B (fun w' => w'.cell? ⟨wo.heap.size, 1, none⟩ = some (.slice xb nb yb) ∧ w'.cell? ⟨gb, 1, none⟩ = some (.int .i64 G.g)) [9, 11] (by kernel_rfl) (?_ : wpAnyB _ _ _ _ _ _ 12 (Array.replicate 12 false) _ _)
                refine wpAnyB_free (fuel := 11) (i := 0) (v := ?_) rfl (by kernel_rfl) (by kernel_rfl) (by kernel_rfl) (by kernel_rfl) (fun _ _ _ h => h) (.inr SYc) ?_ (by rfl) ?_
                rotate_left
                · intro w'; go_simp; (try with_reducible rfl)
                simp only [Act.put, List.getElem_toArray, List.getElem_cons_zero, List.setIfInBounds_toArray, List.set_cons_zero, List.set_cons_succ]
                refine wpAnyB_load [1,9,10,11] (fuel := 10) (i := 1) (v := ?_) rfl (by kernel_rfl) (by kernel_rfl) (by kernel_rfl) (by kernel_rfl) (by kernel_rfl) (fun _ _ _ h => h) (.inr SYc) ?_ (by rfl) ?_
                rotate_left
                · intro w' hw'; obtain ⟨m0, m1⟩ := hw'; go_simp; (try with_reducible rfl)
                simp only [Act.put, List.getElem_toArray, List.getElem_cons_zero, List.getElem_cons_succ, List.setIfInBounds_toArray, List.set_cons_zero, List.set_cons_succ]
                refine wpAnyB_free (fuel := 9) (i := 2) (v := ?_) rfl (by kernel_rfl) (by kernel_rfl) (by kernel_rfl) (by kernel_rfl) (fun _ _ _ h => h) (.inr SYc) ?_ (by rfl) ?_
                rotate_left
                · intro w'; go_simp; (try with_reducible rfl)
                simp only [Act.put, List.getElem_toArray, List.getElem_cons_zero, List.getElem_cons_succ, List.setIfInBounds_toArray, List.set_cons_zero, List.set_cons_succ]
                refine wpAnyB_free (fuel := 8) (i := 3) (v := ?_) rfl (by kernel_rfl) (by kernel_rfl) (by kernel_rfl) (by kernel_rfl) (fun _ _ _ h => h) (.inr SYc) ?_ (by rfl) ?_
                rotate_left
                · intro w'; go_simp; (try with_reducible rfl)
                simp only [Act.put, List.getElem_toArray, List.getElem_cons_zero, List.getElem_cons_succ, List.setIfInBounds_toArray, List.set_cons_zero, List.set_cons_succ]
                refine wpAnyB_free (fuel := 7) (i := 4) (v := .pointer (some ⟨gb, 0, none⟩)) rfl (by kernel_rfl) (by kernel_rfl) (by kernel_rfl) (by kernel_rfl) (fun _ _ _ h => h) (.inr SYc) ?_ (by rfl) ?_
                · intro w'; go_simp; (try (intro hh; omega))
                simp only [Act.put, List.getElem_toArray, List.getElem_cons_zero, List.getElem_cons_succ, List.setIfInBounds_toArray, List.set_cons_zero, List.set_cons_succ]
                refine wpAnyB_free (fuel := 6) (i := 5) (v := ?_) rfl (by kernel_rfl) (by kernel_rfl) (by kernel_rfl) (by kernel_rfl) (fun _ _ _ h => h) (.inr SYc) ?_ (by rfl) ?_
                rotate_left
                · intro w'; go_simp; (try with_reducible rfl)
                simp only [Act.put, List.getElem_toArray, List.getElem_cons_zero, List.getElem_cons_succ, List.setIfInBounds_toArray, List.set_cons_zero, List.set_cons_succ]
                refine wpAnyB_load [6,7,8,9,10,11] (fuel := 5) (i := 6) (v := ?_) rfl (by kernel_rfl) (by kernel_rfl) (by kernel_rfl) (by kernel_rfl) (by kernel_rfl) (fun _ _ _ h => h) (.inr SYc) ?_ (by rfl) ?_
                rotate_left
                · intro w' hw'; obtain ⟨m0, m1⟩ := hw'; go_simp; (try with_reducible rfl)
                simp only [Act.put, List.getElem_toArray, List.getElem_cons_zero, List.getElem_cons_succ, List.setIfInBounds_toArray, List.set_cons_zero, List.set_cons_succ]
                refine wpAnyB_free (fuel := 4) (i := 7) (v := ?_) rfl (by kernel_rfl) (by kernel_rfl) (by kernel_rfl) (by kernel_rfl) (fun _ _ _ h => h) (.inr SYc) ?_ (by rfl) ?_
                rotate_left
                · intro w'; go_simp; (try with_reducible rfl)
                simp only [Act.put, List.getElem_toArray, List.getElem_cons_zero, List.getElem_cons_succ, List.setIfInBounds_toArray, List.set_cons_zero, List.set_cons_succ]
                refine wpAnyB_one (fuel := 3) (i := 8) rfl (by kernel_rfl) ?_
                intro KB hKB
                go_simp
                have BCc : Below Z2.drew.heap.size Z2.drew (Z2.drew.alloc (.cells #[.int .i64 3, .int .i64 G.g, .string ⟨#[]⟩, .slice none 0 0] 48)) := below_box _ _
                have SBc : (Z2.drew.alloc (.cells #[.int .i64 3, .int .i64 G.g, .string ⟨#[]⟩, .slice none 0 0] 48)).cell? ⟨wo.heap.size, 1, none⟩ = some (.slice xb nb yb) ∧ (Z2.drew.alloc (.cells #[.int .i64 3, .int .i64 G.g, .string ⟨#[]⟩, .slice none 0 0] 48)).cell? ⟨gb, 1, none⟩ = some (.int .i64 G.g) := ⟨(BCc.cell (by exact uoc)).trans SYc.1, (BCc.cell (by exact usc)).trans SYc.2⟩
                have HBCc := Lib.hid BCc
                clear BCc
                refine hKB _ _ (.inr SBc) ?_
                (try simp only [Act.put, List.getElem_toArray, List.getElem_cons_zero, List.getElem_cons_succ, List.setIfInBounds_toArray, List.set_cons_zero, List.set_cons_succ])
                refine wpAnyB_one (fuel := 2) (i := 9) rfl (by kernel_rfl) ?_
                intro KB hKB
                refine step_app_op rfl (.tmp 153) (.tmp 160) rfl w.heap.size (.slice xb nb yb) (part gs ks 0 ++ G.l) rfl ((show OwnP Z2.drew w.heap.size (.slice xb nb yb) (part gs ks 0 ++ G.l) from HZb.out.own).keep (keep_below (ts := []) HBCc.out (Nat.le_refl _)) (by simp) (by simp)) (delO G.g, .slice none 0 0) ⟨Z2.heap.size, 0, none⟩ 1 rfl (new_at4 _ _ _ _ _ _) ((keep_below (B := w.heap.size) (ts := []) HBCc.out BZb.out.size).own (World.ownsRow_nil _ _ _ _) (by simp)) (by omega) (Nat.le_trans BZb.out.size HBCc.out.size) ?_
                intro vc wCc PCc KCc
                obtain ⟨xc, nc, yc, rfl⟩ : ∃ x n y, vc = .slice x n y := by obtain ⟨x, y, h⟩ := own_slice PCc.1; exact ⟨x, _, y, h⟩
                have KOQc : KeepO w.heap.size Z2 wCc (.slice xb nb yb) (.slice xc nc yc) := (keepO_below (B := w.heap.size) (below_drewN (Below.refl _ Z2) 1) BZb.out.size (.slice xb nb yb)).trans ((keepO_below (B := w.heap.size) HBCc.out BZb.out.size (.slice xb nb yb)).trans KCc)
                have NXc := HZb.out.app hob hor KOQc PCc
                have bxc := KOQc.keep.kept _ _ _ _ HZb.out.box (by decide)
                have fzc : wCc.frozen? ⟨wo.heap.size, 1, none⟩ = false := Lib.frozen_of_heap bxc 1
                have szc : wCc.cell? ⟨wo.heap.size, 1, none⟩ = some (.slice xb nb yb) := (Lib.cell_of_heap bxc 1).trans rfl
                have BZc := Lib.hid ((BZb.out.trans KOQc.keep.below).trans NXc.2.below)
                have HZc := Lib.hid NXc.1
                clear PCc KCc KOQc NXc bxc
                refine hKB _ _ (.inl (by kernel_rfl)) ?_
                (try simp only [Act.put, List.getElem_toArray, List.getElem_cons_zero, List.getElem_cons_succ, List.setIfInBounds_toArray, List.set_cons_zero, List.set_cons_succ])
                refine wpAnyB_free (fuel := 1) (i := 10) (v := ?_) rfl (by kernel_rfl) (by kernel_rfl) (by kernel_rfl) (by kernel_rfl) (fun _ _ _ h => h) (.inl (by kernel_rfl)) ?_ (by rfl) ?_
                rotate_left
                · intro w'; go_simp; (try with_reducible rfl)
                simp only [Act.put, List.getElem_toArray, List.getElem_cons_zero, List.getElem_cons_succ, List.setIfInBounds_toArray, List.set_cons_zero, List.set_cons_succ]
                refine wpAnyB_one (fuel := 0) (i := 11) rfl (by kernel_rfl) ?_
                intro KB hKB
                go_simp
                refine hKB _ _ (.inl (by kernel_rfl)) ?_
                (try simp only [Act.put, List.getElem_toArray, List.getElem_cons_zero, List.getElem_cons_succ, List.setIfInBounds_toArray, List.set_cons_zero, List.set_cons_succ])
                refine wpAnyB_done (by kernel_rfl) ?_
                obtain ⟨Z3, hZc⟩ : ∃ Z, Z = wCc.setCell ⟨wo.heap.size, 1, none⟩ (.slice xc nc yc) := ⟨_, rfl⟩
                (try change (Exit.then _ _) _ _ (wCc.setCell ⟨wo.heap.size, 1, none⟩ (.slice xc nc yc)))
                rw [← hZc] at HZc BZc ⊢
                clear hZc fzc szc
                go_wp2_with fail
                go_roundw
                case rel => exact ⟨0 + 1, _, by go_num, by omega, by rw [HPE.out, HD.out]; exact HZc.out, BZc.out⟩
                case measure => simp [intOf]; omega
              · have HD := Lib.hid (show dels G.g = [] by unfold dels; rw [if_neg hgp])
                go_wp2_with fail
                have SYb : wr.drew.cell? ⟨wo.heap.size, 1, none⟩ = some ov ∧ wr.drew.cell? ⟨gb, 0, none⟩ = some G.v := ⟨HOq.out.cell.1, T0.out wr _ _ HOq.out⟩
                refine wp_region_B (fun w' => w'.cell? ⟨wo.heap.size, 1, none⟩ = some ov ∧ w'.cell? ⟨gb, 0, none⟩ = some G.v) [7, 9] (by kernel_rfl) (?_ : wpAnyB _ _ _ _ _ _ 10 (Array.replicate 10 false) _ _)
                refine wpAnyB_free (fuel := 9) (i := 0) (v := ?_) rfl (by kernel_rfl) (by kernel_rfl) (by kernel_rfl) (by kernel_rfl) (fun _ _ _ h => h) (.inr SYb) ?_ (by rfl) ?_
                rotate_left
                · intro w'; go_simp; (try with_reducible rfl)
                simp only [Act.put, List.getElem_toArray, List.getElem_cons_zero, List.setIfInBounds_toArray, List.set_cons_zero, List.set_cons_succ]
                refine wpAnyB_load [1,7,8,9] (fuel := 8) (i := 1) (v := ?_) rfl (by kernel_rfl) (by kernel_rfl) (by kernel_rfl) (by kernel_rfl) (by kernel_rfl) (fun _ _ _ h => h) (.inr SYb) ?_ (by rfl) ?_
                rotate_left
                · intro w' hw'; obtain ⟨m0, m1⟩ := hw'; go_simp; (try with_reducible rfl)
                simp only [Act.put, List.getElem_toArray, List.getElem_cons_zero, List.getElem_cons_succ, List.setIfInBounds_toArray, List.set_cons_zero, List.set_cons_succ]
                refine wpAnyB_free (fuel := 7) (i := 2) (v := ?_) rfl (by kernel_rfl) (by kernel_rfl) (by kernel_rfl) (by kernel_rfl) (fun _ _ _ h => h) (.inr SYb) ?_ (by rfl) ?_
                rotate_left
                · intro w'; go_simp; (try with_reducible rfl)
                simp only [Act.put, List.getElem_toArray, List.getElem_cons_zero, List.getElem_cons_succ, List.setIfInBounds_toArray, List.set_cons_zero, List.set_cons_succ]
                refine wpAnyB_free (fuel := 6) (i := 3) (v := ?_) rfl (by kernel_rfl) (by kernel_rfl) (by kernel_rfl) (by kernel_rfl) (fun _ _ _ h => h) (.inr SYb) ?_ (by rfl) ?_
                rotate_left
                · intro w'; go_simp; (try with_reducible rfl)
                simp only [Act.put, List.getElem_toArray, List.getElem_cons_zero, List.getElem_cons_succ, List.setIfInBounds_toArray, List.set_cons_zero, List.set_cons_succ]
                refine wpAnyB_free (fuel := 5) (i := 4) (v := .pointer (some ⟨gb, 0, none⟩)) rfl (by kernel_rfl) (by kernel_rfl) (by kernel_rfl) (by kernel_rfl) (fun _ _ _ h => h) (.inr SYb) ?_ (by rfl) ?_
                · intro w'; go_simp; (try (intro hh; omega))
                simp only [Act.put, List.getElem_toArray, List.getElem_cons_zero, List.getElem_cons_succ, List.setIfInBounds_toArray, List.set_cons_zero, List.set_cons_succ]
                refine wpAnyB_free (fuel := 4) (i := 5) (v := ?_) rfl (by kernel_rfl) (by kernel_rfl) (by kernel_rfl) (by kernel_rfl) (fun _ _ _ h => h) (.inr SYb) ?_ (by rfl) ?_
                rotate_left
                · intro w'; go_simp; (try with_reducible rfl)
                simp only [Act.put, List.getElem_toArray, List.getElem_cons_zero, List.getElem_cons_succ, List.setIfInBounds_toArray, List.set_cons_zero, List.set_cons_succ]
                refine wpAnyB_load [6,7,8,9] (fuel := 3) (i := 6) (v := ?_) rfl (by kernel_rfl) (by kernel_rfl) (by kernel_rfl) (by kernel_rfl) (by kernel_rfl) (fun _ _ _ h => h) (.inr SYb) ?_ (by rfl) ?_
                rotate_left
                · intro w' hw'; obtain ⟨m0, m1⟩ := hw'; go_simp; (try with_reducible rfl)
                simp only [Act.put, List.getElem_toArray, List.getElem_cons_zero, List.getElem_cons_succ, List.setIfInBounds_toArray, List.set_cons_zero, List.set_cons_succ]
                refine wpAnyB_one (fuel := 2) (i := 7) rfl (by kernel_rfl) ?_
                intro KB hKB
                refine step_app_row rfl (.tmp 138) (.tmp 143) rfl w.heap.size ov (part gs ks 0) rfl (show OwnP wr.drew w.heap.size ov (part gs ks 0) from HOq.out.own) G.v G.l rfl (show OwnP wr.drew w.heap.size G.v G.l from HOq.out.st.gi G HGm.out) (by omega) (show w.heap.size ≤ wr.heap.size from HBq.out.size) ?_
                intro vb wCb PCb KCb
                obtain ⟨xb, nb, yb, rfl⟩ : ∃ x n y, vb = .slice x n y := by obtain ⟨x, y, h⟩ := own_slice PCb.1; exact ⟨x, _, y, h⟩
                have KOQb : KeepO w.heap.size wr wCb ov (.slice xb nb yb) := (keepO_below (B := w.heap.size) (below_drewN (Below.refl _ wr) 1) HBq.out.size ov).trans KCb
                have NXb := HOq.out.app hob hor KOQb PCb
                have bxb := KOQb.keep.kept _ _ _ _ HOq.out.box (by decide)
                have fzb : wCb.frozen? ⟨wo.heap.size, 1, none⟩ = false := Lib.frozen_of_heap bxb 1
                have szb : wCb.cell? ⟨wo.heap.size, 1, none⟩ = some ov := (Lib.cell_of_heap bxb 1).trans rfl
                have BZb := Lib.hid ((HBq.out.trans KOQb.keep.below).trans NXb.2.below)
                have HZb := Lib.hid NXb.1
                clear PCb KCb KOQb NXb bxb
                refine hKB _ _ (.inl (by kernel_rfl)) ?_
                (try simp only [Act.put, List.getElem_toArray, List.getElem_cons_zero, List.getElem_cons_succ, List.setIfInBounds_toArray, List.set_cons_zero, List.set_cons_succ])
                refine wpAnyB_free (fuel := 1) (i := 8) (v := ?_) rfl (by kernel_rfl) (by kernel_rfl) (by kernel_rfl) (by kernel_rfl) (fun _ _ _ h => h) (.inl (by kernel_rfl)) ?_ (by rfl) ?_
                rotate_left
                · intro w'; go_simp; (try with_reducible rfl)
                simp only [Act.put, List.getElem_toArray, List.getElem_cons_zero, List.getElem_cons_succ, List.setIfInBounds_toArray, List.set_cons_zero, List.set_cons_succ]
                refine wpAnyB_one (fuel := 0) (i := 9) rfl (by kernel_rfl) ?_
                intro KB hKB
                go_simp
                refine hKB _ _ (.inl (by kernel_rfl)) ?_
                (try simp only [Act.put, List.getElem_toArray, List.getElem_cons_zero, List.getElem_cons_succ, List.setIfInBounds_toArray, List.set_cons_zero, List.set_cons_succ])
                refine wpAnyB_done (by kernel_rfl) ?_
                obtain ⟨Z2, hZb⟩ : ∃ Z, Z = wCb.setCell ⟨wo.heap.size, 1, none⟩ (.slice xb nb yb) := ⟨_, rfl⟩
                change (Exit.then _ _) _ _ (wCb.setCell ⟨wo.heap.size, 1, none⟩ (.slice xb nb yb))
                rw [← hZb] at HZb BZb ⊢
                clear hZb fzb szb SYb
                have t1Z2 := T1.out Z2 _ _ HZb.out
                go_wp2_with fail
                go_roundw
                case rel => exact ⟨0 + 1, _, by go_num, by omega, by rw [HPE.out, HD.out, List.append_nil]; exact HZb.out, BZb.out⟩
                case measure => simp [intOf]; omega
            | succ m =>
              have hmk : m < ks.length := by have := HGL.out; omega
              obtain ⟨kb, kc', hkv, hkb, z0, z1, z2, z3⟩ := hO.st.kr.at hmk
              simp only [Value.slice.injEq, true_and] at hkv
              obtain ⟨rfl, rfl⟩ := hkv
              obtain ⟨K, hK⟩ : ∃ K, K = ks[m] := ⟨_, rfl⟩
              have HKO := Lib.hid (show wr.ownsRow w.heap.size 53 2 K.2 K.1.attrs.length (flat K.1.attrs) by rw [hK]; exact hO.st.kr.2 _ (List.getElem_mem hmk))
              have HPE := Lib.hid (show part gs ks (m + 2) = (part gs ks (m + 1) ++ [K]) ++ G.l ++ dels G.g by rw [part_step hlt2 hmk, hG, hK])
              rw [← hK] at z0 z1 z2 z3
              rw [HPE.out] at hpl2
              rw [List.length_append, List.length_append, List.length_append, List.length_singleton] at hpl2
              have hp1 : (part gs ks (m + 1)).length ≤ 4000 := by omega
              have hp2 : (part gs ks (m + 1) ++ [K]).length + G.l.length ≤ 4000 := by rw [List.length_append, List.length_singleton]; omega
              have hp3 : (part gs ks (m + 1) ++ [K] ++ G.l).length ≤ 4000 := by rw [List.length_append, List.length_append, List.length_singleton]; omega
              have l2 : (0 : Int) ≤ (m : Int) := by omega
              have l3 : (m : Int) < (ks.length : Int) := by omega
              have l4 : IntKind.i64.wrap ((m : Int) + 1 - 1) = (m : Int) := by rw [show (m : Int) + 1 - 1 = (m : Int) by omega]; exact IntWalk.i64_in _ (by omega)
              clear hG hK hO hB hpl t0 t1
              by_cases hgp : 0 < G.g
              · have HD := Lib.hid (show dels G.g = [(delO G.g, .slice none 0 0)] by unfold dels; rw [if_pos hgp])
                go_wp2_with fail
                have SYa : wr.drew.cell? ⟨wo.heap.size, 1, none⟩ = some ov ∧ wr.drew.cell? ⟨kb, m * 4, none⟩ = some (.int .i64 K.1.kind) ∧ wr.drew.cell? ⟨kb, m * 4 + 1, none⟩ = some (.int .i64 K.1.n) ∧ wr.drew.cell? ⟨kb, m * 4 + 2, none⟩ = some (.string K.1.text) ∧ wr.drew.cell? ⟨kb, m * 4 + 3, none⟩ = some (K.2) := ⟨HOq.out.cell.1, z0, z1, z2, z3⟩
                have uoa : wo.heap.size < wr.drew.heap.size := HOq.out.cell.2.2
                have usa : kb < wr.drew.heap.size := hkb
                refine wp_region_B (fun w' => w'.cell? ⟨wo.heap.size, 1, none⟩ = some ov ∧ w'.cell? ⟨kb, m * 4, none⟩ = some (.int .i64 K.1.kind) ∧ w'.cell? ⟨kb, m * 4 + 1, none⟩ = some (.int .i64 K.1.n) ∧ w'.cell? ⟨kb, m * 4 + 2, none⟩ = some (.string K.1.text) ∧ w'.cell? ⟨kb, m * 4 + 3, none⟩ = some (K.2)) [8, 10] (by kernel_rfl) (?_ : wpAnyB _ _ _ _ _ _ 11 (Array.replicate 11 false) _ _)
                refine wpAnyB_free (fuel := 10) (i := 0) (v := ?_) rfl (by kernel_rfl) (by kernel_rfl) (by kernel_rfl) (by kernel_rfl) (fun _ _ _ h => h) (.inr SYa) ?_ (by rfl) ?_
                rotate_left
                · intro w'; go_simp; (try with_reducible rfl)
                simp only [Act.put, List.getElem_toArray, List.getElem_cons_zero, List.setIfInBounds_toArray, List.set_cons_zero, List.set_cons_succ]
                refine wpAnyB_load [1,8,9,10] (fuel := 9) (i := 1) (v := ?_) rfl (by kernel_rfl) (by kernel_rfl) (by kernel_rfl) (by kernel_rfl) (by kernel_rfl) (fun _ _ _ h => h) (.inr SYa) ?_ (by rfl) ?_
                rotate_left
                · intro w' hw'; obtain ⟨m0, m1, m2, m3, m4⟩ := hw'; go_simp; (try with_reducible rfl)
                simp only [Act.put, List.getElem_toArray, List.getElem_cons_zero, List.getElem_cons_succ, List.setIfInBounds_toArray, List.set_cons_zero, List.set_cons_succ]
                refine wpAnyB_free (fuel := 8) (i := 2) (v := ?_) rfl (by kernel_rfl) (by kernel_rfl) (by kernel_rfl) (by kernel_rfl) (fun _ _ _ h => h) (.inr SYa) ?_ (by rfl) ?_
                rotate_left
                · intro w'; go_simp; (try with_reducible rfl)
                simp only [Act.put, List.getElem_toArray, List.getElem_cons_zero, List.getElem_cons_succ, List.setIfInBounds_toArray, List.set_cons_zero, List.set_cons_succ]
                refine wpAnyB_free (fuel := 7) (i := 3) (v := ?_) rfl (by kernel_rfl) (by kernel_rfl) (by kernel_rfl) (by kernel_rfl) (fun _ _ _ h => h) (.inr SYa) ?_ (by rfl) ?_
                rotate_left
                · intro w'; go_simp; (try with_reducible rfl)
                simp only [Act.put, List.getElem_toArray, List.getElem_cons_zero, List.getElem_cons_succ, List.setIfInBounds_toArray, List.set_cons_zero, List.set_cons_succ]
                refine wpAnyB_free (fuel := 6) (i := 4) (v := .int .i64 (m : Int)) rfl (by kernel_rfl) (by kernel_rfl) (by kernel_rfl) (by kernel_rfl) (fun _ _ _ h => h) (.inr SYa) ?_ (by rfl) ?_
                · intro w'; go_simp; exact IntWalk.i64_in _ (by omega)
                simp only [Act.put, List.getElem_toArray, List.getElem_cons_zero, List.getElem_cons_succ, List.setIfInBounds_toArray, List.set_cons_zero, List.set_cons_succ]
                refine wpAnyB_free (fuel := 5) (i := 5) (v := .pointer (some ⟨kb, m * 4, none⟩)) rfl (by kernel_rfl) (by kernel_rfl) (by kernel_rfl) (by kernel_rfl) (fun _ _ _ h => h) (.inr SYa) ?_ (by rfl) ?_
                · intro w'; go_simp; (try (intro hh; omega))
                simp only [Act.put, List.getElem_toArray, List.getElem_cons_zero, List.getElem_cons_succ, List.setIfInBounds_toArray, List.set_cons_zero, List.set_cons_succ]
                refine wpAnyB_load [6,7,8,9,10] (fuel := 4) (i := 6) (v := ?_) rfl (by kernel_rfl) (by kernel_rfl) (by kernel_rfl) (by kernel_rfl) (by kernel_rfl) (fun _ _ _ h => h) (.inr SYa) ?_ (by rfl) ?_
                rotate_left
                · intro w' hw'; obtain ⟨m0, m1, m2, m3, m4⟩ := hw'; go_simp; (try with_reducible rfl)
                simp only [Act.put, List.getElem_toArray, List.getElem_cons_zero, List.getElem_cons_succ, List.setIfInBounds_toArray, List.set_cons_zero, List.set_cons_succ]
                refine wpAnyB_one (fuel := 3) (i := 7) rfl (by kernel_rfl) ?_
                intro KB hKB
                go_simp
                have BCa : Below wr.drew.heap.size wr.drew (wr.drew.alloc (.cells #[.int .i64 K.1.kind, .int .i64 K.1.n, .string K.1.text, K.2] 48)) := below_box _ _
                have SBa : (wr.drew.alloc (.cells #[.int .i64 K.1.kind, .int .i64 K.1.n, .string K.1.text, K.2] 48)).cell? ⟨wo.heap.size, 1, none⟩ = some ov ∧ (wr.drew.alloc (.cells #[.int .i64 K.1.kind, .int .i64 K.1.n, .string K.1.text, K.2] 48)).cell? ⟨kb, m * 4, none⟩ = some (.int .i64 K.1.kind) ∧ (wr.drew.alloc (.cells #[.int .i64 K.1.kind, .int .i64 K.1.n, .string K.1.text, K.2] 48)).cell? ⟨kb, m * 4 + 1, none⟩ = some (.int .i64 K.1.n) ∧ (wr.drew.alloc (.cells #[.int .i64 K.1.kind, .int .i64 K.1.n, .string K.1.text, K.2] 48)).cell? ⟨kb, m * 4 + 2, none⟩ = some (.string K.1.text) ∧ (wr.drew.alloc (.cells #[.int .i64 K.1.kind, .int .i64 K.1.n, .string K.1.text, K.2] 48)).cell? ⟨kb, m * 4 + 3, none⟩ = some (K.2) := ⟨(BCa.cell (by exact uoa)).trans SYa.1, (BCa.cell (by exact usa)).trans SYa.2.1, (BCa.cell (by exact usa)).trans SYa.2.2.1, (BCa.cell (by exact usa)).trans SYa.2.2.2.1, (BCa.cell (by exact usa)).trans SYa.2.2.2.2⟩
                have HBCa := Lib.hid BCa
                clear BCa
                refine hKB _ _ (.inr SBa) ?_
                (try simp only [Act.put, List.getElem_toArray, List.getElem_cons_zero, List.getElem_cons_succ, List.setIfInBounds_toArray, List.set_cons_zero, List.set_cons_succ])
                refine wpAnyB_one (fuel := 2) (i := 8) rfl (by kernel_rfl) ?_
                intro KB hKB
                refine step_app_op rfl (.tmp 128) (.tmp 134) rfl w.heap.size ov (part gs ks (m + 1)) rfl ((show OwnP wr.drew w.heap.size ov (part gs ks (m + 1)) from HOq.out.own).keep (keep_below (ts := []) HBCa.out (Nat.le_refl _)) (by simp) (by simp)) (K.1, K.2) ⟨wr.heap.size, 0, none⟩ 1 rfl (new_at4 _ _ _ _ _ _) ((keep_below (B := w.heap.size) (ts := []) HBCa.out HBq.out.size).own HKO.out (by simp)) (by omega) (Nat.le_trans HBq.out.size HBCa.out.size) ?_
                intro va wCa PCa KCa
                obtain ⟨xa, na, ya, rfl⟩ : ∃ x n y, va = .slice x n y := by obtain ⟨x, y, h⟩ := own_slice PCa.1; exact ⟨x, _, y, h⟩
                have KOQa : KeepO w.heap.size wr wCa ov (.slice xa na ya) := (keepO_below (B := w.heap.size) (below_drewN (Below.refl _ wr) 1) HBq.out.size ov).trans ((keepO_below (B := w.heap.size) HBCa.out HBq.out.size ov).trans KCa)
                have NXa := HOq.out.app hob hor KOQa PCa
                have bxa := KOQa.keep.kept _ _ _ _ HOq.out.box (by decide)
                have fza : wCa.frozen? ⟨wo.heap.size, 1, none⟩ = false := Lib.frozen_of_heap bxa 1
                have sza : wCa.cell? ⟨wo.heap.size, 1, none⟩ = some ov := (Lib.cell_of_heap bxa 1).trans rfl
                have BZa := Lib.hid ((HBq.out.trans KOQa.keep.below).trans NXa.2.below)
                have HZa := Lib.hid NXa.1
                clear PCa KCa KOQa NXa bxa
                refine hKB _ _ (.inl (by kernel_rfl)) ?_
                (try simp only [Act.put, List.getElem_toArray, List.getElem_cons_zero, List.getElem_cons_succ, List.setIfInBounds_toArray, List.set_cons_zero, List.set_cons_succ])
                refine wpAnyB_free (fuel := 1) (i := 9) (v := ?_) rfl (by kernel_rfl) (by kernel_rfl) (by kernel_rfl) (by kernel_rfl) (fun _ _ _ h => h) (.inl (by kernel_rfl)) ?_ (by rfl) ?_
                rotate_left
                · intro w'; go_simp; (try with_reducible rfl)
                simp only [Act.put, List.getElem_toArray, List.getElem_cons_zero, List.getElem_cons_succ, List.setIfInBounds_toArray, List.set_cons_zero, List.set_cons_succ]
                refine wpAnyB_one (fuel := 0) (i := 10) rfl (by kernel_rfl) ?_
                intro KB hKB
                go_simp
                refine hKB _ _ (.inl (by kernel_rfl)) ?_
                (try simp only [Act.put, List.getElem_toArray, List.getElem_cons_zero, List.getElem_cons_succ, List.setIfInBounds_toArray, List.set_cons_zero, List.set_cons_succ])
                refine wpAnyB_done (by kernel_rfl) ?_
                obtain ⟨Z1, hZa⟩ : ∃ Z, Z = wCa.setCell ⟨wo.heap.size, 1, none⟩ (.slice xa na ya) := ⟨_, rfl⟩
                (try change (Exit.then _ _) _ _ (wCa.setCell ⟨wo.heap.size, 1, none⟩ (.slice xa na ya)))
                rw [← hZa] at HZa BZa ⊢
                clear hZa fza sza
                go_wp2_with fail
                have SYb : Z1.drew.cell? ⟨wo.heap.size, 1, none⟩ = some (.slice xa na ya) ∧ Z1.drew.cell? ⟨gb, (m + 1) * 2, none⟩ = some G.v := ⟨HZa.out.cell.1, T0.out Z1 _ _ HZa.out⟩
                refine wp_region_B (fun w' => w'.cell? ⟨wo.heap.size, 1, none⟩ = some (.slice xa na ya) ∧ w'.cell? ⟨gb, (m + 1) * 2, none⟩ = some G.v) [7, 9] (by kernel_rfl) (?_ : wpAnyB _ _ _ _ _ _ 10 (Array.replicate 10 false) _ _)
                refine wpAnyB_free (fuel := 9) (i := 0) (v := ?_) rfl (by kernel_rfl) (by kernel_rfl) (by kernel_rfl) (by kernel_rfl) (fun _ _ _ h => h) (.inr SYb) ?_ (by rfl) ?_
                rotate_left
                · intro w'; go_simp; (try with_reducible rfl)
                simp only [Act.put, List.getElem_toArray, List.getElem_cons_zero, List.setIfInBounds_toArray, List.set_cons_zero, List.set_cons_succ]
                refine wpAnyB_load [1,7,8,9] (fuel := 8) (i := 1) (v := ?_) rfl (by kernel_rfl) (by kernel_rfl) (by kernel_rfl) (by kernel_rfl) (by kernel_rfl) (fun _ _ _ h => h) (.inr SYb) ?_ (by rfl) ?_
                rotate_left
                · intro w' hw'; obtain ⟨m0, m1⟩ := hw'; go_simp; (try with_reducible rfl)
                simp only [Act.put, List.getElem_toArray, List.getElem_cons_zero, List.getElem_cons_succ, List.setIfInBounds_toArray, List.set_cons_zero, List.set_cons_succ]
                refine wpAnyB_free (fuel := 7) (i := 2) (v := ?_) rfl (by kernel_rfl) (by kernel_rfl) (by kernel_rfl) (by kernel_rfl) (fun _ _ _ h => h) (.inr SYb) ?_ (by rfl) ?_
                rotate_left
                · intro w'; go_simp; (try with_reducible rfl)
                simp only [Act.put, List.getElem_toArray, List.getElem_cons_zero, List.getElem_cons_succ, List.setIfInBounds_toArray, List.set_cons_zero, List.set_cons_succ]
                refine wpAnyB_free (fuel := 6) (i := 3) (v := ?_) rfl (by kernel_rfl) (by kernel_rfl) (by kernel_rfl) (by kernel_rfl) (fun _ _ _ h => h) (.inr SYb) ?_ (by rfl) ?_
                rotate_left
                · intro w'; go_simp; (try with_reducible rfl)
                simp only [Act.put, List.getElem_toArray, List.getElem_cons_zero, List.getElem_cons_succ, List.setIfInBounds_toArray, List.set_cons_zero, List.set_cons_succ]
                refine wpAnyB_free (fuel := 5) (i := 4) (v := .pointer (some ⟨gb, (m + 1) * 2, none⟩)) rfl (by kernel_rfl) (by kernel_rfl) (by kernel_rfl) (by kernel_rfl) (fun _ _ _ h => h) (.inr SYb) ?_ (by rfl) ?_
                · intro w'; go_simp; (try (intro hh; omega))
                simp only [Act.put, List.getElem_toArray, List.getElem_cons_zero, List.getElem_cons_succ, List.setIfInBounds_toArray, List.set_cons_zero, List.set_cons_succ]
                refine wpAnyB_free (fuel := 4) (i := 5) (v := ?_) rfl (by kernel_rfl) (by kernel_rfl) (by kernel_rfl) (by kernel_rfl) (fun _ _ _ h => h) (.inr SYb) ?_ (by rfl) ?_
                rotate_left
                · intro w'; go_simp; (try with_reducible rfl)
                simp only [Act.put, List.getElem_toArray, List.getElem_cons_zero, List.getElem_cons_succ, List.setIfInBounds_toArray, List.set_cons_zero, List.set_cons_succ]
                refine wpAnyB_load [6,7,8,9] (fuel := 3) (i := 6) (v := ?_) rfl (by kernel_rfl) (by kernel_rfl) (by kernel_rfl) (by kernel_rfl) (by kernel_rfl) (fun _ _ _ h => h) (.inr SYb) ?_ (by rfl) ?_
                rotate_left
                · intro w' hw'; obtain ⟨m0, m1⟩ := hw'; go_simp; (try with_reducible rfl)
                simp only [Act.put, List.getElem_toArray, List.getElem_cons_zero, List.getElem_cons_succ, List.setIfInBounds_toArray, List.set_cons_zero, List.set_cons_succ]
                refine wpAnyB_one (fuel := 2) (i := 7) rfl (by kernel_rfl) ?_
                intro KB hKB
                refine step_app_row rfl (.tmp 138) (.tmp 143) rfl w.heap.size (.slice xa na ya) (part gs ks (m + 1) ++ [K]) rfl (show OwnP Z1.drew w.heap.size (.slice xa na ya) (part gs ks (m + 1) ++ [K]) from HZa.out.own) G.v G.l rfl (show OwnP Z1.drew w.heap.size G.v G.l from HZa.out.st.gi G HGm.out) (by omega) (show w.heap.size ≤ Z1.heap.size from BZa.out.size) ?_
                intro vb wCb PCb KCb
                obtain ⟨xb, nb, yb, rfl⟩ : ∃ x n y, vb = .slice x n y := by obtain ⟨x, y, h⟩ := own_slice PCb.1; exact ⟨x, _, y, h⟩
                have KOQb : KeepO w.heap.size Z1 wCb (.slice xa na ya) (.slice xb nb yb) := (keepO_below (B := w.heap.size) (below_drewN (Below.refl _ Z1) 1) BZa.out.size (.slice xa na ya)).trans KCb
                have NXb := HZa.out.app hob hor KOQb PCb
                have bxb := KOQb.keep.kept _ _ _ _ HZa.out.box (by decide)
                have fzb : wCb.frozen? ⟨wo.heap.size, 1, none⟩ = false := Lib.frozen_of_heap bxb 1
                have szb : wCb.cell? ⟨wo.heap.size, 1, none⟩ = some (.slice xa na ya) := (Lib.cell_of_heap bxb 1).trans rfl
                have BZb := Lib.hid ((BZa.out.trans KOQb.keep.below).trans NXb.2.below)
                have HZb := Lib.hid NXb.1
                clear PCb KCb KOQb NXb bxb
                refine hKB _ _ (.inl (by kernel_rfl)) ?_
                (try simp only [Act.put, List.getElem_toArray, List.getElem_cons_zero, List.getElem_cons_succ, List.setIfInBounds_toArray, List.set_cons_zero, List.set_cons_succ])
                refine wpAnyB_free (fuel := 1) (i := 8) (v := ?_) rfl (by kernel_rfl) (by kernel_rfl) (by kernel_rfl) (by kernel_rfl) (fun _ _ _ h => h) (.inl (by kernel_rfl)) ?_ (by rfl) ?_
                rotate_left
                · intro w'; go_simp; (try with_reducible rfl)
                simp only [Act.put, List.getElem_toArray, List.getElem_cons_zero, List.getElem_cons_succ, List.setIfInBounds_toArray, List.set_cons_zero, List.set_cons_succ]
                refine wpAnyB_one (fuel := 0) (i := 9) rfl (by kernel_rfl) ?_
                intro KB hKB
                go_simp
                refine hKB _ _ (.inl (by kernel_rfl)) ?_
                (try simp only [Act.put, List.getElem_toArray, List.getElem_cons_zero, List.getElem_cons_succ, List.setIfInBounds_toArray, List.set_cons_zero, List.set_cons_succ])
                refine wpAnyB_done (by kernel_rfl) ?_
                obtain ⟨Z2, hZb⟩ : ∃ Z, Z = wCb.setCell ⟨wo.heap.size, 1, none⟩ (.slice xb nb yb) := ⟨_, rfl⟩
                change (Exit.then _ _) _ _ (wCb.setCell ⟨wo.heap.size, 1, none⟩ (.slice xb nb yb))
                rw [← hZb] at HZb BZb ⊢
                clear hZb fzb szb SYb
                have t1Z2 := T1.out Z2 _ _ HZb.out
                go_wp2_with fail
                have SYc : Z2.drew.cell? ⟨wo.heap.size, 1, none⟩ = some (.slice xb nb yb) ∧ Z2.drew.cell? ⟨gb, (m + 1) * 2 + 1, none⟩ = some (.int .i64 G.g) := ⟨HZb.out.cell.1, T1.out Z2 _ _ HZb.out⟩
                have uoc : wo.heap.size < Z2.drew.heap.size := HZb.out.cell.2.2
                have usc : gb < Z2.drew.heap.size := (HZb.out.st.at' hlt2).1
                refine wp_region_B (fun w' => w'.cell? ⟨wo.heap.size, 1, none⟩ = some (.slice xb nb yb) ∧ w'.cell? ⟨gb, (m + 1) * 2 + 1, none⟩ = some (.int .i64 G.g)) [9, 11] (by kernel_rfl) (?_ : wpAnyB _ _ _ _ _ _ 12 (Array.replicate 12 false) _ _)
                refine wpAnyB_free (fuel := 11) (i := 0) (v := ?_) rfl (by kernel_rfl) (by kernel_rfl) (by kernel_rfl) (by kernel_rfl) (fun _ _ _ h => h) (.inr SYc) ?_ (by rfl) ?_
                rotate_left
                · intro w'; go_simp; (try with_reducible rfl)
                simp only [Act.put, List.getElem_toArray, List.getElem_cons_zero, List.setIfInBounds_toArray, List.set_cons_zero, List.set_cons_succ]
                refine wpAnyB_load [1,9,10,11] (fuel := 10) (i := 1) (v := ?_) rfl (by kernel_rfl) (by kernel_rfl) (by kernel_rfl) (by kernel_rfl) (by kernel_rfl) (fun _ _ _ h => h) (.inr SYc) ?_ (by rfl) ?_
                rotate_left
                · intro w' hw'; obtain ⟨m0, m1⟩ := hw'; go_simp; (try with_reducible rfl)
                simp only [Act.put, List.getElem_toArray, List.getElem_cons_zero, List.getElem_cons_succ, List.setIfInBounds_toArray, List.set_cons_zero, List.set_cons_succ]
                refine wpAnyB_free (fuel := 9) (i := 2) (v := ?_) rfl (by kernel_rfl) (by kernel_rfl) (by kernel_rfl) (by kernel_rfl) (fun _ _ _ h => h) (.inr SYc) ?_ (by rfl) ?_
                rotate_left
                · intro w'; go_simp; (try with_reducible rfl)
                simp only [Act.put, List.getElem_toArray, List.getElem_cons_zero, List.getElem_cons_succ, List.setIfInBounds_toArray, List.set_cons_zero, List.set_cons_succ]
                refine wpAnyB_free (fuel := 8) (i := 3) (v := ?_) rfl (by kernel_rfl) (by kernel_rfl) (by kernel_rfl) (by kernel_rfl) (fun _ _ _ h => h) (.inr SYc) ?_ (by rfl) ?_
                rotate_left
                · intro w'; go_simp; (try with_reducible rfl)
                simp only [Act.put, List.getElem_toArray, List.getElem_cons_zero, List.getElem_cons_succ, List.setIfInBounds_toArray, List.set_cons_zero, List.set_cons_succ]
                refine wpAnyB_free (fuel := 7) (i := 4) (v := .pointer (some ⟨gb, (m + 1) * 2, none⟩)) rfl (by kernel_rfl) (by kernel_rfl) (by kernel_rfl) (by kernel_rfl) (fun _ _ _ h => h) (.inr SYc) ?_ (by rfl) ?_
                · intro w'; go_simp; (try (intro hh; omega))
                simp only [Act.put, List.getElem_toArray, List.getElem_cons_zero, List.getElem_cons_succ, List.setIfInBounds_toArray, List.set_cons_zero, List.set_cons_succ]
                refine wpAnyB_free (fuel := 6) (i := 5) (v := ?_) rfl (by kernel_rfl) (by kernel_rfl) (by kernel_rfl) (by kernel_rfl) (fun _ _ _ h => h) (.inr SYc) ?_ (by rfl) ?_
                rotate_left
                · intro w'; go_simp; (try with_reducible rfl)
                simp only [Act.put, List.getElem_toArray, List.getElem_cons_zero, List.getElem_cons_succ, List.setIfInBounds_toArray, List.set_cons_zero, List.set_cons_succ]
                refine wpAnyB_load [6,7,8,9,10,11] (fuel := 5) (i := 6) (v := ?_) rfl (by kernel_rfl) (by kernel_rfl) (by kernel_rfl) (by kernel_rfl) (by kernel_rfl) (fun _ _ _ h => h) (.inr SYc) ?_ (by rfl) ?_
                rotate_left
                · intro w' hw'; obtain ⟨m0, m1⟩ := hw'; go_simp; (try with_reducible rfl)
                simp only [Act.put, List.getElem_toArray, List.getElem_cons_zero, List.getElem_cons_succ, List.setIfInBounds_toArray, List.set_cons_zero, List.set_cons_succ]
                refine wpAnyB_free (fuel := 4) (i := 7) (v := ?_) rfl (by kernel_rfl) (by kernel_rfl) (by kernel_rfl) (by kernel_rfl) (fun _ _ _ h => h) (.inr SYc) ?_ (by rfl) ?_
                rotate_left
                · intro w'; go_simp; (try with_reducible rfl)
                simp only [Act.put, List.getElem_toArray, List.getElem_cons_zero, List.getElem_cons_succ, List.setIfInBounds_toArray, List.set_cons_zero, List.set_cons_succ]
                refine wpAnyB_one (fuel := 3) (i := 8) rfl (by kernel_rfl) ?_
                intro KB hKB
                go_simp
                have BCc : Below Z2.drew.heap.size Z2.drew (Z2.drew.alloc (.cells #[.int .i64 3, .int .i64 G.g, .string ⟨#[]⟩, .slice none 0 0] 48)) := below_box _ _
                have SBc : (Z2.drew.alloc (.cells #[.int .i64 3, .int .i64 G.g, .string ⟨#[]⟩, .slice none 0 0] 48)).cell? ⟨wo.heap.size, 1, none⟩ = some (.slice xb nb yb) ∧ (Z2.drew.alloc (.cells #[.int .i64 3, .int .i64 G.g, .string ⟨#[]⟩, .slice none 0 0] 48)).cell? ⟨gb, (m + 1) * 2 + 1, none⟩ = some (.int .i64 G.g) := ⟨(BCc.cell (by exact uoc)).trans SYc.1, (BCc.cell (by exact usc)).trans SYc.2⟩
                have HBCc := Lib.hid BCc
                clear BCc
                refine hKB _ _ (.inr SBc) ?_
                (try simp only [Act.put, List.getElem_toArray, List.getElem_cons_zero, List.getElem_cons_succ, List.setIfInBounds_toArray, List.set_cons_zero, List.set_cons_succ])
                refine wpAnyB_one (fuel := 2) (i := 9) rfl (by kernel_rfl) ?_
                intro KB hKB
                refine step_app_op rfl (.tmp 153) (.tmp 160) rfl w.heap.size (.slice xb nb yb) (part gs ks (m + 1) ++ [K] ++ G.l) rfl ((show OwnP Z2.drew w.heap.size (.slice xb nb yb) (part gs ks (m + 1) ++ [K] ++ G.l) from HZb.out.own).keep (keep_below (ts := []) HBCc.out (Nat.le_refl _)) (by simp) (by simp)) (delO G.g, .slice none 0 0) ⟨Z2.heap.size, 0, none⟩ 1 rfl (new_at4 _ _ _ _ _ _) ((keep_below (B := w.heap.size) (ts := []) HBCc.out BZb.out.size).own (World.ownsRow_nil _ _ _ _) (by simp)) (by omega) (Nat.le_trans BZb.out.size HBCc.out.size) ?_
                intro vc wCc PCc KCc
                obtain ⟨xc, nc, yc, rfl⟩ : ∃ x n y, vc = .slice x n y := by obtain ⟨x, y, h⟩ := own_slice PCc.1; exact ⟨x, _, y, h⟩
                have KOQc : KeepO w.heap.size Z2 wCc (.slice xb nb yb) (.slice xc nc yc) := (keepO_below (B := w.heap.size) (below_drewN (Below.refl _ Z2) 1) BZb.out.size (.slice xb nb yb)).trans ((keepO_below (B := w.heap.size) HBCc.out BZb.out.size (.slice xb nb yb)).trans KCc)
                have NXc := HZb.out.app hob hor KOQc PCc
                have bxc := KOQc.keep.kept _ _ _ _ HZb.out.box (by decide)
                have fzc : wCc.frozen? ⟨wo.heap.size, 1, none⟩ = false := Lib.frozen_of_heap bxc 1
                have szc : wCc.cell? ⟨wo.heap.size, 1, none⟩ = some (.slice xb nb yb) := (Lib.cell_of_heap bxc 1).trans rfl
                have BZc := Lib.hid ((BZb.out.trans KOQc.keep.below).trans NXc.2.below)
                have HZc := Lib.hid NXc.1
                clear PCc KCc KOQc NXc bxc
                refine hKB _ _ (.inl (by kernel_rfl)) ?_
                (try simp only [Act.put, List.getElem_toArray, List.getElem_cons_zero, List.getElem_cons_succ, List.setIfInBounds_toArray, List.set_cons_zero, List.set_cons_succ])
                refine wpAnyB_free (fuel := 1) (i := 10) (v := ?_) rfl (by kernel_rfl) (by kernel_rfl) (by kernel_rfl) (by kernel_rfl) (fun _ _ _ h => h) (.inl (by kernel_rfl)) ?_ (by rfl) ?_
                rotate_left
                · intro w'; go_simp; (try with_reducible rfl)
                simp only [Act.put, List.getElem_toArray, List.getElem_cons_zero, List.getElem_cons_succ, List.setIfInBounds_toArray, List.set_cons_zero, List.set_cons_succ]
                refine wpAnyB_one (fuel := 0) (i := 11) rfl (by kernel_rfl) ?_
                intro KB hKB
                go_simp
                refine hKB _ _ (.inl (by kernel_rfl)) ?_
                (try simp only [Act.put, List.getElem_toArray, List.getElem_cons_zero, List.getElem_cons_succ, List.setIfInBounds_toArray, List.set_cons_zero, List.set_cons_succ])
                refine wpAnyB_done (by kernel_rfl) ?_
                obtain ⟨Z3, hZc⟩ : ∃ Z, Z = wCc.setCell ⟨wo.heap.size, 1, none⟩ (.slice xc nc yc) := ⟨_, rfl⟩
                (try change (Exit.then _ _) _ _ (wCc.setCell ⟨wo.heap.size, 1, none⟩ (.slice xc nc yc)))
                rw [← hZc] at HZc BZc ⊢
                clear hZc fzc szc
                go_wp2_with fail
                go_roundw
                case rel => exact ⟨m + 1 + 1, _, by go_num, by omega, by rw [HPE.out, HD.out]; exact HZc.out, BZc.out⟩
                case measure => simp [intOf]; omega
              · have HD := Lib.hid (show dels G.g = [] by unfold dels; rw [if_neg hgp])
                go_wp2_with fail
                have SYa : wr.drew.cell? ⟨wo.heap.size, 1, none⟩ = some ov ∧ wr.drew.cell? ⟨kb, m * 4, none⟩ = some (.int .i64 K.1.kind) ∧ wr.drew.cell? ⟨kb, m * 4 + 1, none⟩ = some (.int .i64 K.1.n) ∧ wr.drew.cell? ⟨kb, m * 4 + 2, none⟩ = some (.string K.1.text) ∧ wr.drew.cell? ⟨kb, m * 4 + 3, none⟩ = some (K.2) := ⟨HOq.out.cell.1, z0, z1, z2, z3⟩
                have uoa : wo.heap.size < wr.drew.heap.size := HOq.out.cell.2.2
                have usa : kb < wr.drew.heap.size := hkb
                refine wp_region_B (fun w' => w'.cell? ⟨wo.heap.size, 1, none⟩ = some ov ∧ w'.cell? ⟨kb, m * 4, none⟩ = some (.int .i64 K.1.kind) ∧ w'.cell? ⟨kb, m * 4 + 1, none⟩ = some (.int .i64 K.1.n) ∧ w'.cell? ⟨kb, m * 4 + 2, none⟩ = some (.string K.1.text) ∧ w'.cell? ⟨kb, m * 4 + 3, none⟩ = some (K.2)) [8, 10] (by kernel_rfl) (?_ : wpAnyB _ _ _ _ _ _ 11 (Array.replicate 11 false) _ _)
                refine wpAnyB_free (fuel := 10) (i := 0) (v := ?_) rfl (by kernel_rfl) (by kernel_rfl) (by kernel_rfl) (by kernel_rfl) (fun _ _ _ h => h) (.inr SYa) ?_ (by rfl) ?_
                rotate_left
                · intro w'; go_simp; (try with_reducible rfl)
                simp only [Act.put, List.getElem_toArray, List.getElem_cons_zero, List.setIfInBounds_toArray, List.set_cons_zero, List.set_cons_succ]
                refine wpAnyB_load [1,8,9,10] (fuel := 9) (i := 1) (v := ?_) rfl (by kernel_rfl) (by kernel_rfl) (by kernel_rfl) (by kernel_rfl) (by kernel_rfl) (fun _ _ _ h => h) (.inr SYa) ?_ (by rfl) ?_
                rotate_left
                · intro w' hw'; obtain ⟨m0, m1, m2, m3, m4⟩ := hw'; go_simp; (try with_reducible rfl)
                simp only [Act.put, List.getElem_toArray, List.getElem_cons_zero, List.getElem_cons_succ, List.setIfInBounds_toArray, List.set_cons_zero, List.set_cons_succ]
                refine wpAnyB_free (fuel := 8) (i := 2) (v := ?_) rfl (by kernel_rfl) (by kernel_rfl) (by kernel_rfl) (by kernel_rfl) (fun _ _ _ h => h) (.inr SYa) ?_ (by rfl) ?_
                rotate_left
                · intro w'; go_simp; (try with_reducible rfl)
                simp only [Act.put, List.getElem_toArray, List.getElem_cons_zero, List.getElem_cons_succ, List.setIfInBounds_toArray, List.set_cons_zero, List.set_cons_succ]
                refine wpAnyB_free (fuel := 7) (i := 3) (v := ?_) rfl (by kernel_rfl) (by kernel_rfl) (by kernel_rfl) (by kernel_rfl) (fun _ _ _ h => h) (.inr SYa) ?_ (by rfl) ?_
                rotate_left
                · intro w'; go_simp; (try with_reducible rfl)
                simp only [Act.put, List.getElem_toArray, List.getElem_cons_zero, List.getElem_cons_succ, List.setIfInBounds_toArray, List.set_cons_zero, List.set_cons_succ]
                refine wpAnyB_free (fuel := 6) (i := 4) (v := .int .i64 (m : Int)) rfl (by kernel_rfl) (by kernel_rfl) (by kernel_rfl) (by kernel_rfl) (fun _ _ _ h => h) (.inr SYa) ?_ (by rfl) ?_
                · intro w'; go_simp; exact IntWalk.i64_in _ (by omega)
                simp only [Act.put, List.getElem_toArray, List.getElem_cons_zero, List.getElem_cons_succ, List.setIfInBounds_toArray, List.set_cons_zero, List.set_cons_succ]
                refine wpAnyB_free (fuel := 5) (i := 5) (v := .pointer (some ⟨kb, m * 4, none⟩)) rfl (by kernel_rfl) (by kernel_rfl) (by kernel_rfl) (by kernel_rfl) (fun _ _ _ h => h) (.inr SYa) ?_ (by rfl) ?_
                · intro w'; go_simp; (try (intro hh; omega))
                simp only [Act.put, List.getElem_toArray, List.getElem_cons_zero, List.getElem_cons_succ, List.setIfInBounds_toArray, List.set_cons_zero, List.set_cons_succ]
                refine wpAnyB_load [6,7,8,9,10] (fuel := 4) (i := 6) (v := ?_) rfl (by kernel_rfl) (by kernel_rfl) (by kernel_rfl) (by kernel_rfl) (by kernel_rfl) (fun _ _ _ h => h) (.inr SYa) ?_ (by rfl) ?_
                rotate_left
                · intro w' hw'; obtain ⟨m0, m1, m2, m3, m4⟩ := hw'; go_simp; (try with_reducible rfl)
                simp only [Act.put, List.getElem_toArray, List.getElem_cons_zero, List.getElem_cons_succ, List.setIfInBounds_toArray, List.set_cons_zero, List.set_cons_succ]
                refine wpAnyB_one (fuel := 3) (i := 7) rfl (by kernel_rfl) ?_
                intro KB hKB
                go_simp
                have BCa : Below wr.drew.heap.size wr.drew (wr.drew.alloc (.cells #[.int .i64 K.1.kind, .int .i64 K.1.n, .string K.1.text, K.2] 48)) := below_box _ _
                have SBa : (wr.drew.alloc (.cells #[.int .i64 K.1.kind, .int .i64 K.1.n, .string K.1.text, K.2] 48)).cell? ⟨wo.heap.size, 1, none⟩ = some ov ∧ (wr.drew.alloc (.cells #[.int .i64 K.1.kind, .int .i64 K.1.n, .string K.1.text, K.2] 48)).cell? ⟨kb, m * 4, none⟩ = some (.int .i64 K.1.kind) ∧ (wr.drew.alloc (.cells #[.int .i64 K.1.kind, .int .i64 K.1.n, .string K.1.text, K.2] 48)).cell? ⟨kb, m * 4 + 1, none⟩ = some (.int .i64 K.1.n) ∧ (wr.drew.alloc (.cells #[.int .i64 K.1.kind, .int .i64 K.1.n, .string K.1.text, K.2] 48)).cell? ⟨kb, m * 4 + 2, none⟩ = some (.string K.1.text) ∧ (wr.drew.alloc (.cells #[.int .i64 K.1.kind, .int .i64 K.1.n, .string K.1.text, K.2] 48)).cell? ⟨kb, m * 4 + 3, none⟩ = some (K.2) := ⟨(BCa.cell (by exact uoa)).trans SYa.1, (BCa.cell (by exact usa)).trans SYa.2.1, (BCa.cell (by exact usa)).trans SYa.2.2.1, (BCa.cell (by exact usa)).trans SYa.2.2.2.1, (BCa.cell (by exact usa)).trans SYa.2.2.2.2⟩
                have HBCa := Lib.hid BCa
                clear BCa
                refine hKB _ _ (.inr SBa) ?_
                (try simp only [Act.put, List.getElem_toArray, List.getElem_cons_zero, List.getElem_cons_succ, List.setIfInBounds_toArray, List.set_cons_zero, List.set_cons_succ])
                refine wpAnyB_one (fuel := 2) (i := 8) rfl (by kernel_rfl) ?_
                intro KB hKB
                refine step_app_op rfl (.tmp 128) (.tmp 134) rfl w.heap.size ov (part gs ks (m + 1)) rfl ((show OwnP wr.drew w.heap.size ov (part gs ks (m + 1)) from HOq.out.own).keep (keep_below (ts := []) HBCa.out (Nat.le_refl _)) (by simp) (by simp)) (K.1, K.2) ⟨wr.heap.size, 0, none⟩ 1 rfl (new_at4 _ _ _ _ _ _) ((keep_below (B := w.heap.size) (ts := []) HBCa.out HBq.out.size).own HKO.out (by simp)) (by omega) (Nat.le_trans HBq.out.size HBCa.out.size) ?_
                intro va wCa PCa KCa
                obtain ⟨xa, na, ya, rfl⟩ : ∃ x n y, va = .slice x n y := by obtain ⟨x, y, h⟩ := own_slice PCa.1; exact ⟨x, _, y, h⟩
                have KOQa : KeepO w.heap.size wr wCa ov (.slice xa na ya) := (keepO_below (B := w.heap.size) (below_drewN (Below.refl _ wr) 1) HBq.out.size ov).trans ((keepO_below (B := w.heap.size) HBCa.out HBq.out.size ov).trans KCa)
                have NXa := HOq.out.app hob hor KOQa PCa
                have bxa := KOQa.keep.kept _ _ _ _ HOq.out.box (by decide)
                have fza : wCa.frozen? ⟨wo.heap.size, 1, none⟩ = false := Lib.frozen_of_heap bxa 1
                have sza : wCa.cell? ⟨wo.heap.size, 1, none⟩ = some ov := (Lib.cell_of_heap bxa 1).trans rfl
                have BZa := Lib.hid ((HBq.out.trans KOQa.keep.below).trans NXa.2.below)
                have HZa := Lib.hid NXa.1
                clear PCa KCa KOQa NXa bxa
                refine hKB _ _ (.inl (by kernel_rfl)) ?_
                (try simp only [Act.put, List.getElem_toArray, List.getElem_cons_zero, List.getElem_cons_succ, List.setIfInBounds_toArray, List.set_cons_zero, List.set_cons_succ])
                refine wpAnyB_free (fuel := 1) (i := 9) (v := ?_) rfl (by kernel_rfl) (by kernel_rfl) (by kernel_rfl) (by kernel_rfl) (fun _ _ _ h => h) (.inl (by kernel_rfl)) ?_ (by rfl) ?_
                rotate_left
                · intro w'; go_simp; (try with_reducible rfl)
                simp only [Act.put, List.getElem_toArray, List.getElem_cons_zero, List.getElem_cons_succ, List.setIfInBounds_toArray, List.set_cons_zero, List.set_cons_succ]
                refine wpAnyB_one (fuel := 0) (i := 10) rfl (by kernel_rfl) ?_
                intro KB hKB
                go_simp
                refine hKB _ _ (.inl (by kernel_rfl)) ?_
                (try simp only [Act.put, List.getElem_toArray, List.getElem_cons_zero, List.getElem_cons_succ, List.setIfInBounds_toArray, List.set_cons_zero, List.set_cons_succ])
                refine wpAnyB_done (by kernel_rfl) ?_
                obtain ⟨Z1, hZa⟩ : ∃ Z, Z = wCa.setCell ⟨wo.heap.size, 1, none⟩ (.slice xa na ya) := ⟨_, rfl⟩
                (try change (Exit.then _ _) _ _ (wCa.setCell ⟨wo.heap.size, 1, none⟩ (.slice xa na ya)))
                rw [← hZa] at HZa BZa ⊢
                clear hZa fza sza
                go_wp2_with fail
                have SYb : Z1.drew.cell? ⟨wo.heap.size, 1, none⟩ = some (.slice xa na ya) ∧ Z1.drew.cell? ⟨gb, (m + 1) * 2, none⟩ = some G.v := ⟨HZa.out.cell.1, T0.out Z1 _ _ HZa.out⟩
                refine wp_region_B (fun w' => w'.cell? ⟨wo.heap.size, 1, none⟩ = some (.slice xa na ya) ∧ w'.cell? ⟨gb, (m + 1) * 2, none⟩ = some G.v) [7, 9] (by kernel_rfl) (?_ : wpAnyB _ _ _ _ _ _ 10 (Array.replicate 10 false) _ _)
                refine wpAnyB_free (fuel := 9) (i := 0) (v := ?_) rfl (by kernel_rfl) (by kernel_rfl) (by kernel_rfl) (by kernel_rfl) (fun _ _ _ h => h) (.inr SYb) ?_ (by rfl) ?_
                rotate_left
                · intro w'; go_simp; (try with_reducible rfl)
                simp only [Act.put, List.getElem_toArray, List.getElem_cons_zero, List.setIfInBounds_toArray, List.set_cons_zero, List.set_cons_succ]
                refine wpAnyB_load [1,7,8,9] (fuel := 8) (i := 1) (v := ?_) rfl (by kernel_rfl) (by kernel_rfl) (by kernel_rfl) (by kernel_rfl) (by kernel_rfl) (fun _ _ _ h => h) (.inr SYb) ?_ (by rfl) ?_
                rotate_left
                · intro w' hw'; obtain ⟨m0, m1⟩ := hw'; go_simp; (try with_reducible rfl)
                simp only [Act.put, List.getElem_toArray, List.getElem_cons_zero, List.getElem_cons_succ, List.setIfInBounds_toArray, List.set_cons_zero, List.set_cons_succ]
                refine wpAnyB_free (fuel := 7) (i := 2) (v := ?_) rfl (by kernel_rfl) (by kernel_rfl) (by kernel_rfl) (by kernel_rfl) (fun _ _ _ h => h) (.inr SYb) ?_ (by rfl) ?_
                rotate_left
                · intro w'; go_simp; (try with_reducible rfl)
                simp only [Act.put, List.getElem_toArray, List.getElem_cons_zero, List.getElem_cons_succ, List.setIfInBounds_toArray, List.set_cons_zero, List.set_cons_succ]
                refine wpAnyB_free (fuel := 6) (i := 3) (v := ?_) rfl (by kernel_rfl) (by kernel_rfl) (by kernel_rfl) (by kernel_rfl) (fun _ _ _ h => h) (.inr SYb) ?_ (by rfl) ?_
                rotate_left
                · intro w'; go_simp; (try with_reducible rfl)
                simp only [Act.put, List.getElem_toArray, List.getElem_cons_zero, List.getElem_cons_succ, List.setIfInBounds_toArray, List.set_cons_zero, List.set_cons_succ]
                refine wpAnyB_free (fuel := 5) (i := 4) (v := .pointer (some ⟨gb, (m + 1) * 2, none⟩)) rfl (by kernel_rfl) (by kernel_rfl) (by kernel_rfl) (by kernel_rfl) (fun _ _ _ h => h) (.inr SYb) ?_ (by rfl) ?_
                · intro w'; go_simp; (try (intro hh; omega))
                simp only [Act.put, List.getElem_toArray, List.getElem_cons_zero, List.getElem_cons_succ, List.setIfInBounds_toArray, List.set_cons_zero, List.set_cons_succ]
                refine wpAnyB_free (fuel := 4) (i := 5) (v := ?_) rfl (by kernel_rfl) (by kernel_rfl) (by kernel_rfl) (by kernel_rfl) (fun _ _ _ h => h) (.inr SYb) ?_ (by rfl) ?_
                rotate_left
                · intro w'; go_simp; (try with_reducible rfl)
                simp only [Act.put, List.getElem_toArray, List.getElem_cons_zero, List.getElem_cons_succ, List.setIfInBounds_toArray, List.set_cons_zero, List.set_cons_succ]
                refine wpAnyB_load [6,7,8,9] (fuel := 3) (i := 6) (v := ?_) rfl (by kernel_rfl) (by kernel_rfl) (by kernel_rfl) (by kernel_rfl) (by kernel_rfl) (fun _ _ _ h => h) (.inr SYb) ?_ (by rfl) ?_
                rotate_left
                · intro w' hw'; obtain ⟨m0, m1⟩ := hw'; go_simp; (try with_reducible rfl)
                simp only [Act.put, List.getElem_toArray, List.getElem_cons_zero, List.getElem_cons_succ, List.setIfInBounds_toArray, List.set_cons_zero, List.set_cons_succ]
                refine wpAnyB_one (fuel := 2) (i := 7) rfl (by kernel_rfl) ?_
                intro KB hKB
                refine step_app_row rfl (.tmp 138) (.tmp 143) rfl w.heap.size (.slice xa na ya) (part gs ks (m + 1) ++ [K]) rfl (show OwnP Z1.drew w.heap.size (.slice xa na ya) (part gs ks (m + 1) ++ [K]) from HZa.out.own) G.v G.l rfl (show OwnP Z1.drew w.heap.size G.v G.l from HZa.out.st.gi G HGm.out) (by omega) (show w.heap.size ≤ Z1.heap.size from BZa.out.size) ?_
                intro vb wCb PCb KCb
                obtain ⟨xb, nb, yb, rfl⟩ : ∃ x n y, vb = .slice x n y := by obtain ⟨x, y, h⟩ := own_slice PCb.1; exact ⟨x, _, y, h⟩
                have KOQb : KeepO w.heap.size Z1 wCb (.slice xa na ya) (.slice xb nb yb) := (keepO_below (B := w.heap.size) (below_drewN (Below.refl _ Z1) 1) BZa.out.size (.slice xa na ya)).trans KCb
                have NXb := HZa.out.app hob hor KOQb PCb
                have bxb := KOQb.keep.kept _ _ _ _ HZa.out.box (by decide)
                have fzb : wCb.frozen? ⟨wo.heap.size, 1, none⟩ = false := Lib.frozen_of_heap bxb 1
                have szb : wCb.cell? ⟨wo.heap.size, 1, none⟩ = some (.slice xa na ya) := (Lib.cell_of_heap bxb 1).trans rfl
                have BZb := Lib.hid ((BZa.out.trans KOQb.keep.below).trans NXb.2.below)
                have HZb := Lib.hid NXb.1
                clear PCb KCb KOQb NXb bxb
                refine hKB _ _ (.inl (by kernel_rfl)) ?_
                (try simp only [Act.put, List.getElem_toArray, List.getElem_cons_zero, List.getElem_cons_succ, List.setIfInBounds_toArray, List.set_cons_zero, List.set_cons_succ])
                refine wpAnyB_free (fuel := 1) (i := 8) (v := ?_) rfl (by kernel_rfl) (by kernel_rfl) (by kernel_rfl) (by kernel_rfl) (fun _ _ _ h => h) (.inl (by kernel_rfl)) ?_ (by rfl) ?_
                rotate_left
                · intro w'; go_simp; (try with_reducible rfl)
                simp only [Act.put, List.getElem_toArray, List.getElem_cons_zero, List.getElem_cons_succ, List.setIfInBounds_toArray, List.set_cons_zero, List.set_cons_succ]
                refine wpAnyB_one (fuel := 0) (i := 9) rfl (by kernel_rfl) ?_
                intro KB hKB
                go_simp
                refine hKB _ _ (.inl (by kernel_rfl)) ?_
                (try simp only [Act.put, List.getElem_toArray, List.getElem_cons_zero, List.getElem_cons_succ, List.setIfInBounds_toArray, List.set_cons_zero, List.set_cons_succ])
                refine wpAnyB_done (by kernel_rfl) ?_
                obtain ⟨Z2, hZb⟩ : ∃ Z, Z = wCb.setCell ⟨wo.heap.size, 1, none⟩ (.slice xb nb yb) := ⟨_, rfl⟩
                change (Exit.then _ _) _ _ (wCb.setCell ⟨wo.heap.size, 1, none⟩ (.slice xb nb yb))
                rw [← hZb] at HZb BZb ⊢
                clear hZb fzb szb SYb
                have t1Z2 := T1.out Z2 _ _ HZb.out
                go_wp2_with fail
                go_roundw
                case rel => exact ⟨m + 1 + 1, _, by go_num, by omega, by rw [HPE.out, HD.out, List.append_nil]; exact HZb.out, BZb.out⟩
                case measure => simp [intOf]; omega
          · have hng : n = gs.length := by omega
            subst hng
            have hO' := hO
            obtain ⟨tot, htot⟩ : ∃ tot, tot = part gs ks gs.length := ⟨_, rfl⟩
            rw [← htot] at hO HNO HTL
            have HBq := Lib.hid hB
            obtain ⟨s1, s2, s3⟩ := hO.cell
            have s4 : wr.cell? ⟨wo.heap.size, 0, none⟩ = some (.int .i64 f) := (Lib.cell_of_heap hO.box 0).trans rfl
            have s5 : wr.frozen? ⟨w.heap.size + 1, 0, none⟩ = false := Lib.frozen_of_heap hO.res 0
            have s6 : wr.frozen? ⟨w.heap.size + 1, 1, none⟩ = false := Lib.frozen_of_heap hO.res 1
            have s7 : wr.cell? ⟨w.heap.size + 1, 0, none⟩ = some (.int .i64 0) := (Lib.cell_of_heap hO.res 0).trans rfl
            have s8 : wr.cell? ⟨w.heap.size + 1, 1, none⟩ = some (.slice none 0 0) := (Lib.cell_of_heap hO.res 1).trans rfl
            have HTL' := HTL.out
            have HFIN := Lib.hid (fun (Y : World) (u : Value) (out : List PA) (hb : Below w.heap.size w Y) (hp : OwnP Y w.heap.size u out) (hr : Y.heap[w.heap.size + 1]? = some (.cells #[.int .i64 0, .slice none 0 0] 24 (0, 0))) (e : norm ops = fsts out) =>
              show NormOut w f ops (.returned (.tuple #[chAgg f u, .int .i64 0])) ((Y.setCell ⟨w.heap.size + 1, 0, none⟩ (.int .i64 f)).setCell ⟨w.heap.size + 1, 1, none⟩ u) ∧ ((Y.setCell ⟨w.heap.size + 1, 0, none⟩ (.int .i64 f)).setCell ⟨w.heap.size + 1, 1, none⟩ u).cell? ⟨w.heap.size + 1, 0, none⟩ = some (.int .i64 f) ∧ ((Y.setCell ⟨w.heap.size + 1, 0, none⟩ (.int .i64 f)).setCell ⟨w.heap.size + 1, 1, none⟩ u).cell? ⟨w.heap.size + 1, 1, none⟩ = some u from by
                have S1 : Keep w.heap.size [24] Y (Y.setCell ⟨w.heap.size + 1, 0, none⟩ (.int .i64 f)) := keep_set hr (by simp) (Nat.le_succ _) _ rfl _
                have rB := nblk_set (j := 0) (u := .int .i64 f) hr
                have S2 : Keep w.heap.size [24] (Y.setCell ⟨w.heap.size + 1, 0, none⟩ (.int .i64 f)) ((Y.setCell ⟨w.heap.size + 1, 0, none⟩ (.int .i64 f)).setCell ⟨w.heap.size + 1, 1, none⟩ u) := keep_set rB (by simp) (Nat.le_succ _) _ rfl _
                have rC := nblk_set (j := 1) (u := u) rB
                exact ⟨.inr ⟨HE.out, u, rfl, ⟨out, by rw [e]; rfl, hp.keep (S1.trans S2) (by decide) (by decide)⟩, hb.trans (S1.trans S2).below⟩, (Lib.cell_of_heap rC 0).trans rfl, (Lib.cell_of_heap rC 1).trans rfl⟩)
            have HOq := Lib.hid hO
            clear hO hO' hB htot
            rcases nil_or_snoc tot with rfl | ⟨fr, ⟨x, xv⟩, rfl⟩
            · obtain ⟨oa, oc, hov⟩ : ∃ a c, ov = .slice a 0 c := own_slice HOq.out.own.1
              subst hov
              obtain ⟨F1, z0, z1⟩ := HFIN.out wr (.slice oa 0 oc) [] HBq.out HOq.out.own HOq.out.res (by rw [HNO.out]; rfl)
              have HF1 := Lib.hid F1
              clear F1
              go_wp2_with fail
              exact bodyPost_ret (v := .tuple #[chAgg f (.slice oa 0 oc), .int .i64 0]) (by simp [results, Tryz.results23, go_sem, z0, z1]) rfl HF1.out
            · obtain ⟨gg, cap, hov⟩ := ownsRow_open HOq.out.own.len (Nat.succ_pos _)
              subst hov
              obtain ⟨xa, xc, hxv⟩ : ∃ a c, xv = .slice a x.attrs.length c := own_slice (HOq.out.own.2 (x, xv) (by simp))
              subst hxv
              obtain ⟨q0, q1, q2, q3⟩ := last_cells HOq.out.own.len
              have hm : fr.length ≤ 4000 := by rw [List.length_append, List.length_singleton] at HTL'; omega
              have hcap : fr.length ≤ cap := by
                rcases HOq.out.own.len.2 with ⟨h', _⟩ | ⟨g', cap', cur', h', _, _, hn2, _⟩
                · simp at h'
                · simp only [Value.slice.injEq] at h'
                  omega
              have HCAP := Lib.hid hcap
              have j1 : (0 : Int) ≤ (fr.length : Int) := by omega
              have j2 : (fr.length : Int) < (fr.length : Int) + 1 := by omega
              have j3 : decide ((0 : Int) < (fr.length : Int) + 1) = true := decide_eq_true (by omega)
              have j4 : decide (0 < fr.length + 1) = true := decide_eq_true (by omega)
              clear hcap q1 q2
              by_cases hk : x.kind = 1
              · have t1 : (x.kind == 1) = true := by rw [hk]; rfl
                by_cases ha : x.attrs.length = 0
                · have a1 : ((x.attrs.length : Int) == 0) = true := by rw [ha]; rfl
                  have a2 : (x.attrs.length == 0) = true := by rw [ha]; rfl
                  have bz := nblk_set (j := 1) (u := .slice (some ⟨gg, 0, none⟩) fr.length cap) HOq.out.box
                  have kz : Keep w.heap.size [24] wr (wr.setCell ⟨wo.heap.size, 1, none⟩ (.slice (some ⟨gg, 0, none⟩) fr.length cap)) := keep_set HOq.out.box (by simp) hob _ rfl _
                  have rz : (wr.setCell ⟨wo.heap.size, 1, none⟩ (.slice (some ⟨gg, 0, none⟩) fr.length cap)).heap[w.heap.size + 1]? = _ := (Below.heap_setCell _ _ _ _ (fun e => hor e.symm)).trans HOq.out.res
                  obtain ⟨F1, z0, z1⟩ := HFIN.out (wr.setCell ⟨wo.heap.size, 1, none⟩ (.slice (some ⟨gg, 0, none⟩) fr.length cap)) (.slice (some ⟨gg, 0, none⟩) fr.length cap) fr (HBq.out.trans kz.below) (OwnP.keep (B := w.heap.size) ⟨own_front HOq.out.own.len, fun p hp => HOq.out.own.2 p (List.mem_append_left _ hp)⟩ kz (by decide) (by decide)) rz (by rw [HNO.out, trimF_snoc, if_pos ⟨hk, ha⟩])
                  have HF1 := Lib.hid F1
                  clear F1 hk ha kz bz rz
                  have hsl := slice_ops gg (fr.length + 1) cap fr.length HCAP.out
                  go_wp2_with fail
                  exact bodyPost_ret (v := .tuple #[chAgg f (.slice (some ⟨gg, 0, none⟩) fr.length cap), .int .i64 0]) (by simp [results, Tryz.results23, go_sem, z0, z1]) rfl HF1.out
                · have a1 : ((x.attrs.length : Int) == 0) = false := by rw [beq_eq_false_iff_ne]; omega
                  have a2 : (x.attrs.length == 0) = false := by rw [beq_eq_false_iff_ne]; omega
                  obtain ⟨F1, z0, z1⟩ := HFIN.out wr _ _ HBq.out HOq.out.own HOq.out.res (by rw [HNO.out, trimF_snoc, if_neg fun h => ha h.2])
                  have HF1 := Lib.hid F1
                  clear F1 hk ha
                  go_wp2_with fail
                  exact bodyPost_ret (v := .tuple #[chAgg f (.slice (some ⟨gg, 0, none⟩) (fr.length + 1) cap), .int .i64 0]) (by simp [results, Tryz.results23, go_sem, z0, z1]) rfl HF1.out
              · have t1 : (x.kind == 1) = false := by rw [beq_eq_false_iff_ne]; exact hk
                obtain ⟨F1, z0, z1⟩ := HFIN.out wr _ _ HBq.out HOq.out.own HOq.out.res (by rw [HNO.out, trimF_snoc, if_neg fun h => hk h.1])
                have HF1 := Lib.hid F1
                clear F1 hk
                go_wp2_with fail
                exact bodyPost_ret (v := .tuple #[chAgg f (.slice (some ⟨gg, 0, none⟩) (fr.length + 1) cap), .int .i64 0]) (by simp [results, Tryz.results23, go_sem, z0, z1]) rfl HF1.out
  · have HE := Lib.hid he
    have t1 : (toE f ops != 0) = true := by rw [bne_iff_ne]; exact he
    clear he
    go_enter Tryz.func23, Tryz.ntmps23
    go_wp2_with fail
    rw [← HW.out]
    go_wp2_with fail
    refine HR.out.mono ?_
    rintro e w1 ⟨rfl, b1⟩
    have r1 := (b1.block _ (lt_of_heap HR0.out)).trans HR0.out
    have e0 : w1.cell? ⟨w.heap.size + 1, 0, none⟩ = some (.int .i64 0) := (Lib.cell_of_heap r1 0).trans rfl
    have e1 : w1.cell? ⟨w.heap.size + 1, 1, none⟩ = some (.slice none 0 0) := (Lib.cell_of_heap r1 1).trans rfl
    have e2 : w1.frozen? ⟨w.heap.size + 1, 0, none⟩ = false := Lib.frozen_of_heap r1 0
    have e3 : w1.frozen? ⟨w.heap.size + 1, 1, none⟩ = false := Lib.frozen_of_heap r1 1
    have B1 : Below w.heap.size w ((w1.setCell ⟨w.heap.size + 1, 0, none⟩ (.int .i64 0)).setCell ⟨w.heap.size + 1, 1, none⟩ (.slice none 0 0)) := ((BW.out.trans (b1.mono BW.out.size)).setCell (Nat.le_succ _) _).setCell (Nat.le_succ _) _
    have rC := nblk_set (j := 1) (u := .slice none 0 0) (nblk_set (j := 0) (u := .int .i64 0) r1)
    have HRC := Lib.hid rC
    have HB1 := Lib.hid B1
    clear b1 B1 r1 rC c0 c1
    go_wp2_with fail
    have z0 := (Lib.cell_of_heap HRC.out 0)
    have z1 := (Lib.cell_of_heap HRC.out 1)
    have FIN : NormOut w f ops (.returned (.tuple #[chAgg 0 (.slice none 0 0), .int .i64 (toE f ops)])) ((w1.setCell ⟨w.heap.size + 1, 0, none⟩ (.int .i64 0)).setCell ⟨w.heap.size + 1, 1, none⟩ (.slice none 0 0)) := .inl ⟨HE.out, rfl, HB1.out⟩
    exact bodyPost_ret (v := .tuple #[chAgg 0 (.slice none 0 0), .int .i64 (toE f ops)]) (by simp [results, Tryz.results23, go_sem, z0, z1]) rfl FIN
end Go.Proofs.YtadookafnfnaoaaGreatDoor
