/- Texts of this seat, put together: HhQ, HgQ. -/
import Derived.Test.YtlfodemmdfaeeaaDoorGH4
import Derived.Test.YtlfodemmdfaeeaaDoorGL2
/- Many changesets, and one beside all of them: what the law FollowMany stands on. -/
namespace Go.Proofs.YtlfodemmdfaeeaaDoor
open Go.RowKit Rn Ch
open At hiding put

theorem fol_normr {fi : Bool} {f g : Int} {A R : List OpD} (h : toE g R = 0) : folE fi f g A (norm R) = folE fi f g A R ∧ folR fi f g A (norm R) = folR fi f g A R := by
  obtain ⟨h1, h2, h3⟩ := norm_to7 h
  have e : folE fi f g A (norm R) = folE fi f g A R := by
    unfold folE nrmF
    rw [h3, h1, h]
  exact ⟨e, by unfold folR; rw [e, h3]⟩
theorem pastR_snoc (c : Int × List OpD) : ∀ (L : List (Int × List OpD)) (f : Int) (R : List OpD) (F : Int) (S : List OpD), pastR L f R = (0, F, S) → folE false c.1 F c.2 S = 0 → pastR (L ++ [c]) f R = (0, toN c.1 c.2, folR false c.1 F c.2 S)
  | [], f, R, F, S, h, h2 => by
    rw [pastR] at h
    injection h with _ h
    injection h with e1 e2
    subst e1 e2
    rw [List.nil_append, pastR_ok h2, pastR]
  | d :: L, f, R, F, S, h, h2 => by
    by_cases hd : folE false d.1 f d.2 R = 0
    · rw [pastR_ok hd] at h
      rw [List.cons_append, pastR_ok hd]
      exact pastR_snoc c L _ _ F S h h2
    · rw [pastR_bad hd] at h
      injection h with e1 _
      exact absurd e1 hd
theorem many_start {l V : List RunD} {f : Int} {B : List OpD} (Ls : List (Int × List OpD)) (h : appE l f B = 0) (hV : appL l f B = V) (hz : RSized l) (hy : OSized B) : ManyI f B Ls 0 l f B V := by
  subst hV
  have ht : toE f B = 0 := (fit_iff.1 (appF_of h).fit).2.1
  exact ⟨h, rfl, by unfold pastF; rw [if_pos ht, List.take_zero, pastR], hz, rsized7 h, hy⟩
theorem many_step {f g : Int} {B : List OpD} {Ls : List (Int × List OpD)} {k : Nat} {U V X : List RunD} {F m n : Int} {R C T N : List OpD} (h : ManyI f B Ls k U F R V) (hk : k < Ls.length) (hc : Ls[k] = (g, C))
    (h1 : folE true F g R C = 0) (q1 : (if folE true F g R C = 0 then toN F R else 0) = m) (k1 : folR true F g R C = T) (h2 : folE false g F C R = 0) (q2 : (if folE false g F C R = 0 then toN g C else 0) = n) (k2 : folR false g F C R = N) (h3 : appE U g C = 0) (k3 : appL U g C = X) : ManyS f B Ls k V X m n T N := by
  rw [if_pos h1] at q1
  rw [if_pos h2] at q2
  subst q1 q2 k1 k2 k3
  have gt := fol_ok h1
  have gn := fol_ok h2
  obtain ⟨e1, e2⟩ := fol_app h.app h3 gt gn
  rw [h.val] at e1 e2
  have ep : pastF f B (Ls.take (k + 1)) = (0, toN g C, folR false g F C R) := by
    have hp := h.past
    have h0 : toE f B = 0 := by
      refine Classical.byContradiction fun hn => ?_
      unfold pastF at hp
      rw [if_neg hn] at hp
      injection hp with a _
      exact hn a
    unfold pastF at hp ⊢
    rw [if_pos h0] at hp ⊢
    obtain ⟨n1, n2⟩ := fol_normr (fi := false) (f := g) (A := C) h.tz
    have := pastR_snoc (g, C) (Ls.take k) f (norm B) F (norm R) hp (n1.trans h2)
    rw [List.take_succ_eq_append_getElem hk, hc, this, n2]
  exact ⟨gt.sized, gn.sized, rsized7 h3, e1, e2, ep, fun hz => ⟨hz, e2.symm, by rw [ep, gn.once], rsized7 h3, by rw [e2]; exact rsized7 hz, gn.sized⟩⟩
def DocOwn (w : World) (E : Int) (L : List RunD) (e : Ending) (w' : World) : Prop :=
  ∃ a c, e = .returned (.tuple #[.slice a L.length c, .int .i64 E]) ∧ (∃ ps : List RP, ps.map (·.1) = L ∧ OwnR w' w.heap.size (.slice a L.length c) ps) ∧ Below w.heap.size w w'
theorem appO {v va : Value} {l L : List RunD} {f E : Int} {A : List OpD} {w : World} (hv : HasD w v l) (hz : RSized l) (hc : OpRow w va A) (hp : Proper va) (hy : OSized A) (hU : U8s w.heap.size w) (he : appE l f A = E) (hl : appL l f A = L) :
    Calls Tryd.prog 9 #[v, chAgg f va] w (DocOwn w E L) := by
  obtain ⟨ps, h1, h2⟩ := hv
  refine (apply_any v va ps f A w h2 (by rw [h1]; exact hz) hc hp hy hU).mono fun e w' ⟨x, e1, e2, rs, e3, e4⟩ => ?_
  rw [h1] at e1 e3
  have hh : HasD w' x L := ⟨rs, e3.trans hl, e4.row⟩
  obtain ⟨a, c, rfl⟩ := hh.shape
  exact ⟨a, c, by rw [e1, he], ⟨rs, e3.trans hl, e4⟩, e2⟩
theorem docS_own {W w w' : World} {v : Value} {L : List RunD} (h : ∃ ps : List RP, ps.map (·.1) = L ∧ OwnR w' w.heap.size v ps) (hb : Below W.heap.size W w) : DocS W w' v L := by
  obtain ⟨ps, h1, h2⟩ := h
  exact .inr ⟨ps, h1, h2.base hb.size⟩
theorem wrap_succ8 {k : Nat} (h : k < 6) : wrap64 ((k : Int) + 1) = ((k + 1 : Nat) : Int) ∧ IntKind.i64.wrap ((k : Int) + 1) = ((k + 1 : Nat) : Int) := by
  have e : (k : Int) + 1 = ((k + 1 : Nat) : Int) := by omega
  refine ⟨?_, ?_⟩
  · rw [IntWalk.wrap64_in _ (by omega)]; exact e
  · rw [IntWalk.i64_in _ (by omega)]; exact e
/-- Whatever way a region took: one statement of where it came to. -/
theorem region_merge {P : Program} {c : Code} {Q : Exit → Act → World → Prop} {a : Act} {w : World} (S : Act → Act → World → Prop) (h1 : Code.wp P c (fun e a' w' => match e with | .normal => S a a' w' | _ => False) a w) (h2 : ∀ a' w', S a a' w' → Q .normal a' w') : Code.wp P c Q a w :=
  Code.wp_mono (fun e a' w' h => by
    cases e with
    | normal => exact h2 a' w' h
    | _ => exact h.elim) h1
end Go.Proofs.YtlfodemmdfaeeaaDoor

/- The law FollowMany, walked. -/
namespace Go.Proofs.YtlfodemmdfaeeaaDoor
open Go.RowKit Rn Ch
open At hiding put

set_option maxRecDepth 100000 in
set_option maxHeartbeats 8000000 in
theorem fmany_walk (vd : Value) (l : List RunD) (vl : Value) (Ls : List (Int × List OpD)) (f : Int) (vc : Value) (A : List OpD) (w : World) (hvd : HasD w vd l) (hzd : RSized l) (hvl : ChsRowP w vl Ls) (hzl : CsSized Ls) (hvc : OpRow w vc A) (hpc : Proper vc) (hzc : OSized A) (hU : U8s w.heap.size w) :
    Calls Tryd.prog 5 #[vd, vl, chAgg f vc] w (OutB w true) := by
  obtain ⟨ud, td, rfl⟩ := hvd.shape
  obtain ⟨ul, tl, rfl, ml, xl⟩ := hvl.shape
  obtain ⟨uc, tc, rfl⟩ := hvc.shape
  obtain ⟨W, hW, kc, bW⟩ : ∃ W, W = (w.alloc (.cells #[.int .i64 f, .slice uc A.length tc] 25)) ∧ W.heap[w.heap.size]? = some (.cells #[.int .i64 f, .slice uc A.length tc] 25 (0, 0)) ∧ Below w.heap.size w W := ⟨_, rfl, heap_new _ _, below_box _ _⟩
  have Rc := Lib.hid (hvc.below bW)
  have Zc := Lib.hid hzc
  have Pc := Lib.hid hpc
  have Hc := Lib.hid kc
  have Jc := Lib.hid (Below.refl W.heap.size W)
  have Rd := Lib.hid (hvd.below bW)
  have Zd := Lib.hid hzd
  have Jd := Lib.hid (Below.refl W.heap.size W)
  have Rl := Lib.hid (hvl.below bW)
  have Zl := Lib.hid hzl
  have Jl := Lib.hid (Below.refl W.heap.size W)
  have HU0 := Lib.hid (hU.up7 bW)
  have J0 := Lib.hid (Below.refl W.heap.size W)
  have BW := Lib.hid bW
  have HW := Lib.hid hW
  clear hvc hpc hzc kc hvd hzd hvl hzl hU bW hW
  go_enter Tryd.func5, Tryd.ntmps5
  go_wp2_with fail
  rw [← HW.out]
  refine (awake7_any _).mono ?_
  rintro e y1 ⟨rfl, d1⟩
  have Jc := Lib.hid (Jc.out.trans (d1.mono Jc.out.size))
  have Jd := Lib.hid (Jd.out.trans (d1.mono Jd.out.size))
  have Jl := Lib.hid (Jl.out.trans (d1.mono Jl.out.size))
  have J0 := Lib.hid (J0.out.trans (d1.mono J0.out.size))
  obtain ⟨c0c, c1c, clc⟩ := box_at (heap_up Hc.out Jc.out)
  clear d1
  go_wp2_with fail
  obtain ⟨E1, hE1⟩ : ∃ X : Int, appE l f A = X := ⟨_, rfl⟩
  obtain ⟨V1, hV1⟩ : ∃ X : List RunD, appL l f A = X := ⟨_, rfl⟩
  have HLU := Lib.hid (And.intro hE1 (hV1))
  clear hE1 hV1
  have JB := Lib.hid J0.out
  refine (appO (Rd.out.below Jd.out) Zd.out (Rc.out.below Jc.out) Pc.out Zc.out (HU0.out.up7 J0.out) HLU.out.1 HLU.out.2).mono ?_
  rintro e y2 ⟨a2, n2, rfl, r2, d2⟩
  have Jc := Lib.hid (Jc.out.trans (d2.mono Jc.out.size))
  have Jd := Lib.hid (Jd.out.trans (d2.mono Jd.out.size))
  have Jl := Lib.hid (Jl.out.trans (d2.mono Jl.out.size))
  have J0 := Lib.hid (J0.out.trans (d2.mono J0.out.size))
  clear c0c c1c clc
  obtain ⟨c0c, c1c, clc⟩ := box_at (heap_up Hc.out Jc.out)
  have Rv := Lib.hid (docS_own r2 (JB.out))
  have Jv := Lib.hid (Below.refl y2.heap.size y2)
  clear d2 r2
  by_cases e1 : E1 = 0
  · skip
    have HM := Lib.hid (many_start Ls (HLU.out.1.trans e1) HLU.out.2 Zd.out Zc.out)
    subst e1
    obtain ⟨X, hX, kX, bX⟩ : ∃ X, X = y2.alloc (.cells #[.int .i64 f, .slice uc A.length tc] 25) ∧ X.heap[y2.heap.size]? = some (.cells #[.int .i64 f, .slice uc A.length tc] 25 (0, 0)) ∧ Below y2.heap.size y2 X := ⟨_, rfl, heap_new _ _, below_box _ _⟩
    have EX := Lib.hid hX
    have KX := Lib.hid kX
    have BX := Lib.hid bX
    clear hX kX bX
    have HB0 := Lib.hid (J0.out.trans (BX.out.mono J0.out.size))
    have hms : W.heap.size ≤ y2.heap.size := J0.out.size
    go_wp2_with fail
    rw [← EX.out]
    generalize hMB : y2.heap.size = MB at *
    go_loopw [8, 9, 12] (fun uv vv iv wr => ∃ (k : Nat) (U V : List RunD) (F : Int) (R : List OpD) (ua : Option Addr) (nu : Nat) (va : Option Addr) (nv : Nat) (ra : Option Addr) (nr : Nat), uv = .slice ua U.length nu ∧ vv = .slice va V.length nv ∧ iv = .int .i64 (k : Int) ∧ k ≤ Ls.length ∧ k ≤ 6 ∧ wr.heap[MB]? = some (.cells #[.int .i64 F, .slice ra R.length nr] 25 (0, 0)) ∧ OpsS W wr (.slice ra R.length nr) R ∧ Proper (.slice ra R.length nr) ∧ DocS W wr (.slice ua U.length nu) U ∧ DocS W wr (.slice va V.length nv) V ∧ ManyI f A Ls k U F R V ∧ Below W.heap.size W wr) (fun _ _ iv _ => 6 - (intOf iv).toNat)
    case atStart => exact ⟨0, l, V1, f, A, ud, td, a2, n2, uc, tc, rfl, rfl, rfl, Nat.zero_le _, Nat.zero_le _, KX.out, .inl Rc.out, Pc.out, .inl Rd.out, Rv.out.below (by rw [hMB]; exact BX.out), HM.out, HB0.out⟩
    case round =>
      obtain ⟨k, U, V, F, R, ua, nu, va, nv, ra, nr, rfl, rfl, rfl, hk, hk6, hbx, hor, hpr, hdu, hdv, hM, hbel⟩ := hrel
      have Hm := Lib.hid hbx
      have OR := Lib.hid hor
      have Pm := Lib.hid hpr
      have HMI := Lib.hid hM
      have HBL := Lib.hid hbel
      have Rm := Lib.hid (hor.row hbel)
      have Ru := Lib.hid (hdu.row hbel)
      have Rv := Lib.hid (hdv.row hbel)
      have Jm := Lib.hid (Below.refl wr.heap.size wr)
      have Ju := Lib.hid (Below.refl wr.heap.size wr)
      have Jv := Lib.hid (Below.refl wr.heap.size wr)
      have J0 := Lib.hid hbel
      have Jc := Lib.hid hbel
      have Jl := Lib.hid hbel
      have HMB := Lib.hid hMB
      have HMS := Lib.hid hms
      obtain ⟨c0m, c1m, clm⟩ := box_at hbx
      obtain ⟨c0c, c1c, clc⟩ := box_at (heap_up Hc.out Jc.out)
      clear hbx hor hpr hM hbel hdu hdv hMB hms
      by_cases hkl : k < Ls.length ∧ k < 6
      · obtain ⟨hk1, hk2⟩ := hkl
        have q1 : (k : Int) < (Ls.length : Int) := by omega
        have q2 : (k : Int) < 6 := by omega
        have q3 : (0 : Int) ≤ (k : Int) := by omega
        obtain ⟨b, off, u, hul, hlt, z0, z1, yr, yp⟩ := Rl.out.at k hk1
        have RL := Rl.out
        rw [hul] at RL
        have RL := Lib.hid RL
        subst hul
        have HLT := Lib.hid (And.intro hlt (And.intro z0 z1))
        have RY := Lib.hid yr
        have PY := Lib.hid yp
        have ZY := Lib.hid (Zl.out _ (List.getElem_mem hk1))
        obtain ⟨gc, hgc⟩ : ∃ gc, Ls[k] = gc := ⟨_, rfl⟩
        obtain ⟨g, C⟩ := gc
        rw [hgc] at HLT RY ZY
        obtain ⟨uy, ty, rfl⟩ := RY.out.shape
        have HGC := Lib.hid hgc
        have HK := Lib.hid hk1
        clear hlt z0 z1 yr yp hgc hk2 hk hk6
        have z0 := (Jl.out.cell HLT.out.1).trans HLT.out.2.1
        have z1 := (Jl.out.cell HLT.out.1).trans HLT.out.2.2
        have zl := Nat.lt_of_lt_of_le HLT.out.1 Jl.out.size
        obtain ⟨F3, hF3⟩ : ∃ X : Int, (if folE true F g R C = 0 then toN F R else 0) = X := ⟨_, rfl⟩
        obtain ⟨E3, hE3⟩ : ∃ X : Int, folE true F g R C = X := ⟨_, rfl⟩
        obtain ⟨T3, hT3⟩ : ∃ X : List OpD, folR true F g R C = X := ⟨_, rfl⟩
        have HL3 := Lib.hid (And.intro hF3 (And.intro hE3 (hT3)))
        clear hF3 hE3 hT3
        obtain ⟨F4, hF4⟩ : ∃ X : Int, (if folE false g F C R = 0 then toN g C else 0) = X := ⟨_, rfl⟩
        obtain ⟨E4, hE4⟩ : ∃ X : Int, folE false g F C R = X := ⟨_, rfl⟩
        obtain ⟨N4, hN4⟩ : ∃ X : List OpD, folR false g F C R = X := ⟨_, rfl⟩
        have HL4 := Lib.hid (And.intro hF4 (And.intro hE4 (hN4)))
        clear hF4 hE4 hN4
        obtain ⟨E5, hE5⟩ : ∃ X : Int, appE U g C = X := ⟨_, rfl⟩
        obtain ⟨X5, hX5⟩ : ∃ X : List RunD, appL U g C = X := ⟨_, rfl⟩
        have HL5 := Lib.hid (And.intro hE5 (hX5))
        clear hE5 hX5
        have HC3 := Lib.hid (fun (Z : World) (hb : Below wr.heap.size wr Z) => folH_eq (w := Z) (fi := true) (f := F) (g := g) (A := R) (C := C) (Rm.out.below hb) HMI.out.sr (RY.out.below (Jl.out.trans (hb.mono Jl.out.size))) ZY.out HL3.out.1 HL3.out.2.1 HL3.out.2.2)
        have BSt := Lib.hid J0.out.size
        go_wp2_with fail
        refine region_merge (fun a a' w' => ∃ (tb : Nat) (a3 : Option Addr) (n3 : Nat), a' = { a with tmps := (((((((((((a.tmps.setIfInBounds 51 (.tuple #[chAgg F3 (.slice a3 T3.length n3), .int .i64 E3])).setIfInBounds 52 (.agg #[.int .i64 F, .slice ra R.length nr])).setIfInBounds 53 (.slice (some ⟨b, off, none⟩) Ls.length tl)).setIfInBounds 54 (.int .i64 (k : Int))).setIfInBounds 55 (.pointer (some ⟨b, off + k * 2, none⟩))).setIfInBounds 56 (.agg #[.int .i64 g, .slice uy C.length ty])).setIfInBounds 57 (.tuple #[chAgg F3 (.slice a3 T3.length n3), .int .i64 E3])).setIfInBounds 58 (chAgg F3 (.slice a3 T3.length n3))).setIfInBounds 59 (.int .i64 E3)).setIfInBounds 13 (.pointer (some ⟨tb, 0, none⟩))).setIfInBounds 14 (.int .i64 E3)) } ∧ w'.heap[tb]? = some (.cells #[.int .i64 F3, .slice a3 T3.length n3] 25 (0, 0)) ∧ OwnOps w' wr.heap.size (.slice a3 T3.length n3) T3 ∧ Below wr.heap.size wr w') ?_ ?_
        · go_region_with (first
            | (go_at_call 13; (with_reducible refine (HC3.out wr.drew (Below.refl wr.heap.size wr).drew).mono ?_); rintro e w3 ⟨a3, n3, rfl, r3, d3⟩; have D3 := Lib.hid ((Below.refl wr.heap.size wr).drew.trans d3); have R3 := Lib.hid r3; clear r3 d3)
            | (go_at_call 13; refine (HC3.out _ (by first | exact ((Below.refl wr.heap.size wr).alloc (Nat.le_refl _) _).drew | exact ((Below.refl wr.heap.size wr).drew).alloc (Nat.le_refl _) _)).mono ?_; rintro e w3 ⟨a3, n3, rfl, r3, d3⟩; have D3 := Lib.hid (show Below wr.heap.size wr w3 from Below.trans (by first | exact ((Below.refl wr.heap.size wr).alloc (Nat.le_refl _) _).drew | exact ((Below.refl wr.heap.size wr).drew).alloc (Nat.le_refl _) _) (d3.mono (by simp))); have R3 := Lib.hid r3; have ZL := Lib.hid ((d3.block wr.heap.size (by simp)).trans (heap_new wr (.cells #[.int .i64 0, .slice none 0 0] 25))); obtain ⟨zz0, zz1, zzl⟩ := box_at ZL.out; have fz0 := (cells2 ZL.out).2.2.1; have fz1 := (cells2 ZL.out).2.2.2; clear r3 d3))
          all_goals first
            | (obtain ⟨u1, u2, u3⟩ := agg_set (.int .i64 F3) (.slice a3 T3.length n3) ZL.out; refine ⟨wr.heap.size, a3, n3, ?_, u1, (R3.out.keep7 u2 (by decide) (by decide)).base (by simp), D3.out.trans u2.below⟩; simp only [Act.put, List.getElem_toArray, List.getElem_cons_zero, List.getElem_cons_succ, List.setIfInBounds_toArray, List.set_cons_zero, List.set_cons_succ])
            | (refine ⟨w3.heap.size, a3, n3, ?_, heap_new _ _, (R3.out.below (below_box _ _)).base (by simp), D3.out.trans ((below_box w3 _).mono D3.out.size)⟩; simp only [Act.put, List.getElem_toArray, List.getElem_cons_zero, List.getElem_cons_succ, List.setIfInBounds_toArray, List.set_cons_zero, List.set_cons_succ])
        rintro a' Xt ⟨tbt, a3, n3, rfl, x, o, bX⟩
        simp only [List.setIfInBounds_toArray, List.set_cons_zero, List.set_cons_succ]
        have Ht := Lib.hid x
        have Ot := Lib.hid o
        have Pt := Lib.hid (proper_ops7 o)
        have Rt := Lib.hid o.row
        have Jm := Lib.hid (Jm.out.trans (bX.mono Jm.out.size))
        have Jc := Lib.hid (Jc.out.trans (bX.mono Jc.out.size))
        have Ju := Lib.hid (Ju.out.trans (bX.mono Ju.out.size))
        have Jv := Lib.hid (Jv.out.trans (bX.mono Jv.out.size))
        have Jl := Lib.hid (Jl.out.trans (bX.mono Jl.out.size))
        have J0 := Lib.hid (J0.out.trans (bX.mono J0.out.size))
        have Jt := Lib.hid (Below.refl Xt.heap.size Xt)
        clear x o bX HC3 c0m c1m clm c0c c1c clc z0 z1 zl
        obtain ⟨c0m, c1m, clm⟩ := box_at (heap_up Hm.out Jm.out)
        obtain ⟨c0c, c1c, clc⟩ := box_at (heap_up Hc.out Jc.out)
        obtain ⟨c0t, c1t, clt⟩ := box_at (heap_up Ht.out Jt.out)
        have z0 := (Jl.out.cell HLT.out.1).trans HLT.out.2.1
        have z1 := (Jl.out.cell HLT.out.1).trans HLT.out.2.2
        have zl := Nat.lt_of_lt_of_le HLT.out.1 Jl.out.size
        have HC4 := Lib.hid (fun (Z : World) (hb : Below Xt.heap.size Xt Z) => folH_eq (w := Z) (fi := false) (f := g) (g := F) (A := C) (C := R) (RY.out.below (Jl.out.trans (hb.mono Jl.out.size))) ZY.out (Rm.out.below (Jm.out.trans (hb.mono Jm.out.size))) HMI.out.sr HL4.out.1 HL4.out.2.1 HL4.out.2.2)
        have BSn := Lib.hid J0.out.size
        go_wp2_with fail
        refine region_merge (fun a a' w' => ∃ (tb : Nat) (a4 : Option Addr) (n4 : Nat), a' = { a with tmps := (((((((((((a.tmps.setIfInBounds 60 (.tuple #[chAgg F4 (.slice a4 N4.length n4), .int .i64 E4])).setIfInBounds 61 (.slice (some ⟨b, off, none⟩) Ls.length tl)).setIfInBounds 62 (.int .i64 (k : Int))).setIfInBounds 63 (.pointer (some ⟨b, off + k * 2, none⟩))).setIfInBounds 64 (.agg #[.int .i64 g, .slice uy C.length ty])).setIfInBounds 65 (.agg #[.int .i64 F, .slice ra R.length nr])).setIfInBounds 66 (.tuple #[chAgg F4 (.slice a4 N4.length n4), .int .i64 E4])).setIfInBounds 67 (chAgg F4 (.slice a4 N4.length n4))).setIfInBounds 68 (.int .i64 E4)).setIfInBounds 15 (.pointer (some ⟨tb, 0, none⟩))).setIfInBounds 16 (.int .i64 E4)) } ∧ w'.heap[tb]? = some (.cells #[.int .i64 F4, .slice a4 N4.length n4] 25 (0, 0)) ∧ OwnOps w' Xt.heap.size (.slice a4 N4.length n4) N4 ∧ Below Xt.heap.size Xt w') ?_ ?_
        · go_region_with (first
            | (go_at_call 13; (with_reducible refine (HC4.out Xt.drew (Below.refl Xt.heap.size Xt).drew).mono ?_); rintro e w4 ⟨a4, n4, rfl, r4, d4⟩; have D4 := Lib.hid ((Below.refl Xt.heap.size Xt).drew.trans d4); have R4 := Lib.hid r4; clear r4 d4)
            | (go_at_call 13; refine (HC4.out _ (by first | exact ((Below.refl Xt.heap.size Xt).alloc (Nat.le_refl _) _).drew | exact ((Below.refl Xt.heap.size Xt).drew).alloc (Nat.le_refl _) _)).mono ?_; rintro e w4 ⟨a4, n4, rfl, r4, d4⟩; have D4 := Lib.hid (show Below Xt.heap.size Xt w4 from Below.trans (by first | exact ((Below.refl Xt.heap.size Xt).alloc (Nat.le_refl _) _).drew | exact ((Below.refl Xt.heap.size Xt).drew).alloc (Nat.le_refl _) _) (d4.mono (by simp))); have R4 := Lib.hid r4; have ZL := Lib.hid ((d4.block Xt.heap.size (by simp)).trans (heap_new Xt (.cells #[.int .i64 0, .slice none 0 0] 25))); obtain ⟨zz0, zz1, zzl⟩ := box_at ZL.out; have fz0 := (cells2 ZL.out).2.2.1; have fz1 := (cells2 ZL.out).2.2.2; clear r4 d4))
          all_goals first
            | (obtain ⟨u1, u2, u3⟩ := agg_set (.int .i64 F4) (.slice a4 N4.length n4) ZL.out; refine ⟨Xt.heap.size, a4, n4, ?_, u1, (R4.out.keep7 u2 (by decide) (by decide)).base (by simp), D4.out.trans u2.below⟩; simp only [Act.put, List.getElem_toArray, List.getElem_cons_zero, List.getElem_cons_succ, List.setIfInBounds_toArray, List.set_cons_zero, List.set_cons_succ])
            | (refine ⟨w4.heap.size, a4, n4, ?_, heap_new _ _, (R4.out.below (below_box _ _)).base (by simp), D4.out.trans ((below_box w4 _).mono D4.out.size)⟩; simp only [Act.put, List.getElem_toArray, List.getElem_cons_zero, List.getElem_cons_succ, List.setIfInBounds_toArray, List.set_cons_zero, List.set_cons_succ])
        rintro a' Xn ⟨tbn, a4, n4, rfl, x, o, bX⟩
        simp only [List.setIfInBounds_toArray, List.set_cons_zero, List.set_cons_succ]
        have Hn := Lib.hid x
        have On := Lib.hid o
        have Pn := Lib.hid (proper_ops7 o)
        have Rn := Lib.hid o.row
        have Jm := Lib.hid (Jm.out.trans (bX.mono Jm.out.size))
        have Jc := Lib.hid (Jc.out.trans (bX.mono Jc.out.size))
        have Jt := Lib.hid (Jt.out.trans (bX.mono Jt.out.size))
        have Ju := Lib.hid (Ju.out.trans (bX.mono Ju.out.size))
        have Jv := Lib.hid (Jv.out.trans (bX.mono Jv.out.size))
        have Jl := Lib.hid (Jl.out.trans (bX.mono Jl.out.size))
        have J0 := Lib.hid (J0.out.trans (bX.mono J0.out.size))
        have Jn := Lib.hid (Below.refl Xn.heap.size Xn)
        clear x o bX HC4 c0m c1m clm c0c c1c clc c0t c1t clt z0 z1 zl
        obtain ⟨c0m, c1m, clm⟩ := box_at (heap_up Hm.out Jm.out)
        obtain ⟨c0c, c1c, clc⟩ := box_at (heap_up Hc.out Jc.out)
        obtain ⟨c0t, c1t, clt⟩ := box_at (heap_up Ht.out Jt.out)
        obtain ⟨c0n, c1n, cln⟩ := box_at (heap_up Hn.out Jn.out)
        have z0 := (Jl.out.cell HLT.out.1).trans HLT.out.2.1
        have z1 := (Jl.out.cell HLT.out.1).trans HLT.out.2.2
        have zl := Nat.lt_of_lt_of_le HLT.out.1 Jl.out.size
        go_wp2_with fail
        have JB := Lib.hid J0.out
        refine (appO (Ru.out.below Ju.out) HMI.out.su (RY.out.below Jl.out) PY.out ZY.out (HU0.out.up7 J0.out) HL5.out.1 HL5.out.2).mono ?_
        rintro e y5 ⟨a5, n5, rfl, r5, d5⟩
        have Jm := Lib.hid (Jm.out.trans (d5.mono Jm.out.size))
        have Jc := Lib.hid (Jc.out.trans (d5.mono Jc.out.size))
        have Jt := Lib.hid (Jt.out.trans (d5.mono Jt.out.size))
        have Jn := Lib.hid (Jn.out.trans (d5.mono Jn.out.size))
        have Ju := Lib.hid (Ju.out.trans (d5.mono Ju.out.size))
        have Jv := Lib.hid (Jv.out.trans (d5.mono Jv.out.size))
        have Jl := Lib.hid (Jl.out.trans (d5.mono Jl.out.size))
        have J0 := Lib.hid (J0.out.trans (d5.mono J0.out.size))
        clear c0m c1m clm c0c c1c clc c0t c1t clt c0n c1n cln z0 z1 zl
        obtain ⟨c0m, c1m, clm⟩ := box_at (heap_up Hm.out Jm.out)
        obtain ⟨c0c, c1c, clc⟩ := box_at (heap_up Hc.out Jc.out)
        obtain ⟨c0t, c1t, clt⟩ := box_at (heap_up Ht.out Jt.out)
        obtain ⟨c0n, c1n, cln⟩ := box_at (heap_up Hn.out Jn.out)
        have z0 := (Jl.out.cell HLT.out.1).trans HLT.out.2.1
        have z1 := (Jl.out.cell HLT.out.1).trans HLT.out.2.2
        have zl := Nat.lt_of_lt_of_le HLT.out.1 Jl.out.size
        have Rx := Lib.hid (docS_own r5 (JB.out))
        have Jx := Lib.hid (Below.refl y5.heap.size y5)
        clear d5 r5
        by_cases e3 : E3 = 0
        · skip
          by_cases e4 : E4 = 0
          · skip
            by_cases e5 : E5 = 0
            · skip
              have HS := many_step HMI.out HK.out HGC.out (HL3.out.2.1.trans e3) HL3.out.1 HL3.out.2.2 (HL4.out.2.1.trans e4) HL4.out.1 HL4.out.2.2 (HL5.out.1.trans e5) HL5.out.2
              subst e3
              subst e4
              subst e5
              have HS := Lib.hid HS
              obtain ⟨E6, hE6⟩ : ∃ X : Int, appE V F3 T3 = X := ⟨_, rfl⟩
              obtain ⟨L6, hL6⟩ : ∃ X : List RunD, appL V F3 T3 = X := ⟨_, rfl⟩
              have HL6 := Lib.hid (And.intro hE6 (hL6))
              clear hE6 hL6
              go_wp2_with fail
              have JB := Lib.hid J0.out
              refine (appO (Rv.out.below Jv.out) HMI.out.sv (Rt.out.below Jt.out) Pt.out HS.out.st (HU0.out.up7 J0.out) HL6.out.1 HL6.out.2).mono ?_
              rintro e y6 ⟨a6, n6, rfl, r6, d6⟩
              have Jm := Lib.hid (Jm.out.trans (d6.mono Jm.out.size))
              have Jc := Lib.hid (Jc.out.trans (d6.mono Jc.out.size))
              have Jt := Lib.hid (Jt.out.trans (d6.mono Jt.out.size))
              have Jn := Lib.hid (Jn.out.trans (d6.mono Jn.out.size))
              have Ju := Lib.hid (Ju.out.trans (d6.mono Ju.out.size))
              have Jv := Lib.hid (Jv.out.trans (d6.mono Jv.out.size))
              have Jl := Lib.hid (Jl.out.trans (d6.mono Jl.out.size))
              have Jx := Lib.hid (Jx.out.trans (d6.mono Jx.out.size))
              have J0 := Lib.hid (J0.out.trans (d6.mono J0.out.size))
              clear c0m c1m clm c0c c1c clc c0t c1t clt c0n c1n cln z0 z1 zl
              obtain ⟨c0m, c1m, clm⟩ := box_at (heap_up Hm.out Jm.out)
              obtain ⟨c0c, c1c, clc⟩ := box_at (heap_up Hc.out Jc.out)
              obtain ⟨c0t, c1t, clt⟩ := box_at (heap_up Ht.out Jt.out)
              obtain ⟨c0n, c1n, cln⟩ := box_at (heap_up Hn.out Jn.out)
              have z0 := (Jl.out.cell HLT.out.1).trans HLT.out.2.1
              have z1 := (Jl.out.cell HLT.out.1).trans HLT.out.2.2
              have zl := Nat.lt_of_lt_of_le HLT.out.1 Jl.out.size
              have Ry := Lib.hid (docS_own r6 (JB.out))
              have Jy := Lib.hid (Below.refl y6.heap.size y6)
              clear d6 r6
              go_wp2_with fail
              refine (appH ((Rx.out.below Jx.out).row J0.out) HS.out.sx (Rn.out.below Jn.out) Pn.out HS.out.sn (HU0.out.up7 J0.out) (HS.out.e.symm.trans HL6.out.1) (HS.out.v.symm.trans HL6.out.2)).mono ?_
              rintro e y7 ⟨a7, n7, rfl, r7, d7⟩
              have Jm := Lib.hid (Jm.out.trans (d7.mono Jm.out.size))
              have Jc := Lib.hid (Jc.out.trans (d7.mono Jc.out.size))
              have Jt := Lib.hid (Jt.out.trans (d7.mono Jt.out.size))
              have Jn := Lib.hid (Jn.out.trans (d7.mono Jn.out.size))
              have Ju := Lib.hid (Ju.out.trans (d7.mono Ju.out.size))
              have Jv := Lib.hid (Jv.out.trans (d7.mono Jv.out.size))
              have Jl := Lib.hid (Jl.out.trans (d7.mono Jl.out.size))
              have Jx := Lib.hid (Jx.out.trans (d7.mono Jx.out.size))
              have Jy := Lib.hid (Jy.out.trans (d7.mono Jy.out.size))
              have J0 := Lib.hid (J0.out.trans (d7.mono J0.out.size))
              clear c0m c1m clm c0c c1c clc c0t c1t clt c0n c1n cln z0 z1 zl
              obtain ⟨c0m, c1m, clm⟩ := box_at (heap_up Hm.out Jm.out)
              obtain ⟨c0c, c1c, clc⟩ := box_at (heap_up Hc.out Jc.out)
              obtain ⟨c0t, c1t, clt⟩ := box_at (heap_up Ht.out Jt.out)
              obtain ⟨c0n, c1n, cln⟩ := box_at (heap_up Hn.out Jn.out)
              have z0 := (Jl.out.cell HLT.out.1).trans HLT.out.2.1
              have z1 := (Jl.out.cell HLT.out.1).trans HLT.out.2.2
              have zl := Nat.lt_of_lt_of_le HLT.out.1 Jl.out.size
              have Rz := Lib.hid r7
              have Jz := Lib.hid (Below.refl y7.heap.size y7)
              clear d7 r7
              have te : (E6 != E6) = false := bne_self_eq_false E6
              by_cases e6 : E6 = 0
              · have hn := HS.out.next (HS.out.e.symm.trans (HL6.out.1.trans e6))
                rw [HL6.out.2] at hn
                have HN := Lib.hid hn
                clear hn
                subst e6
                clear te
                go_wp2_with fail
                refine (sameD ((Ry.out.below Jy.out).row J0.out) (Rz.out.below Jz.out)).mono ?_
                rintro e y8 ⟨rfl, d8⟩
                have Jm := Lib.hid (Jm.out.trans (d8.mono Jm.out.size))
                have Jc := Lib.hid (Jc.out.trans (d8.mono Jc.out.size))
                have Jt := Lib.hid (Jt.out.trans (d8.mono Jt.out.size))
                have Jn := Lib.hid (Jn.out.trans (d8.mono Jn.out.size))
                have Ju := Lib.hid (Ju.out.trans (d8.mono Ju.out.size))
                have Jv := Lib.hid (Jv.out.trans (d8.mono Jv.out.size))
                have Jl := Lib.hid (Jl.out.trans (d8.mono Jl.out.size))
                have Jx := Lib.hid (Jx.out.trans (d8.mono Jx.out.size))
                have Jy := Lib.hid (Jy.out.trans (d8.mono Jy.out.size))
                have Jz := Lib.hid (Jz.out.trans (d8.mono Jz.out.size))
                have J0 := Lib.hid (J0.out.trans (d8.mono J0.out.size))
                clear c0m c1m clm c0c c1c clc c0t c1t clt c0n c1n cln z0 z1 zl
                obtain ⟨c0m, c1m, clm⟩ := box_at (heap_up Hm.out Jm.out)
                obtain ⟨c0c, c1c, clc⟩ := box_at (heap_up Hc.out Jc.out)
                obtain ⟨c0t, c1t, clt⟩ := box_at (heap_up Ht.out Jt.out)
                obtain ⟨c0n, c1n, cln⟩ := box_at (heap_up Hn.out Jn.out)
                have z0 := (Jl.out.cell HLT.out.1).trans HLT.out.2.1
                have z1 := (Jl.out.cell HLT.out.1).trans HLT.out.2.2
                have zl := Nat.lt_of_lt_of_le HLT.out.1 Jl.out.size
                clear d8
                have hk3 : k + 1 ≤ tl := by have := HK.out; omega
                have w1 : (k : Int) + 1 ≤ (tl : Int) := by omega
                have w2 : (0 : Int) ≤ (k : Int) + 1 := by omega
                have w3 : ((k + 1 : Nat) : Int) ≤ (tl : Int) := by omega
                have w4 : (0 : Int) ≤ ((k + 1 : Nat) : Int) := by omega
                obtain ⟨v1, v2⟩ := wrap_succ8 (k := k) (by omega)
                have HC9 := Lib.hid (fun (Z : World) (hb : Below y8.heap.size y8 Z) => pastH_eq (w := Z) (v := .slice (some ⟨b, off, none⟩) (k + 1) tl) ((RL.out.below (Jl.out.trans (hb.mono Jl.out.size))).take (k + 1) HK.out) (csSized_take Zl.out _) (Rc.out.below (Jc.out.trans (hb.mono Jc.out.size))) Zc.out HS.out.past)
                have BSp := Lib.hid J0.out.size
                go_wp2_with fail
                refine region_merge (fun a a' w' => ∃ (tb : Nat) (a9 : Option Addr) (n9 : Nat), a' = { a with tmps := (((((((((((a.tmps.setIfInBounds 116 (.slice (some ⟨b, off, none⟩) Ls.length tl)).setIfInBounds 117 (.int .i64 (k : Int))).setIfInBounds 118 (.int .i64 ((k : Int) + 1))).setIfInBounds 119 (.slice (some ⟨b, off, none⟩) (k + 1) tl)).setIfInBounds 120 (.agg #[.int .i64 f, .slice uc A.length tc])).setIfInBounds 115 (.tuple #[chAgg F4 (.slice a9 N4.length n9), .int .i64 0])).setIfInBounds 121 (.tuple #[chAgg F4 (.slice a9 N4.length n9), .int .i64 0])).setIfInBounds 122 (chAgg F4 (.slice a9 N4.length n9))).setIfInBounds 123 (.int .i64 0)).setIfInBounds 23 (.pointer (some ⟨tb, 0, none⟩))).setIfInBounds 24 (.int .i64 0)) } ∧ w'.heap[tb]? = some (.cells #[.int .i64 F4, .slice a9 N4.length n9] 25 (0, 0)) ∧ OwnOps w' y8.heap.size (.slice a9 N4.length n9) N4 ∧ Below y8.heap.size y8 w') ?_ ?_
                · go_region_with (first
                    | (go_at_call 14; (with_reducible refine (HC9.out y8.drew (Below.refl y8.heap.size y8).drew).mono ?_); rintro e w9 ⟨a9, n9, rfl, r9, d9⟩; have D9 := Lib.hid ((Below.refl y8.heap.size y8).drew.trans d9); have R9 := Lib.hid r9; clear r9 d9)
                    | (go_at_call 14; refine (HC9.out _ (by first | exact ((Below.refl y8.heap.size y8).alloc (Nat.le_refl _) _).drew | exact ((Below.refl y8.heap.size y8).drew).alloc (Nat.le_refl _) _)).mono ?_; rintro e w9 ⟨a9, n9, rfl, r9, d9⟩; have D9 := Lib.hid (show Below y8.heap.size y8 w9 from Below.trans (by first | exact ((Below.refl y8.heap.size y8).alloc (Nat.le_refl _) _).drew | exact ((Below.refl y8.heap.size y8).drew).alloc (Nat.le_refl _) _) (d9.mono (by simp))); have R9 := Lib.hid r9; have ZL := Lib.hid ((d9.block y8.heap.size (by simp)).trans (heap_new y8 (.cells #[.int .i64 0, .slice none 0 0] 25))); obtain ⟨zz0, zz1, zzl⟩ := box_at ZL.out; have fz0 := (cells2 ZL.out).2.2.1; have fz1 := (cells2 ZL.out).2.2.2; clear r9 d9))
                  all_goals first
                    | (obtain ⟨u1, u2, u3⟩ := agg_set (.int .i64 F4) (.slice a9 N4.length n9) ZL.out; refine ⟨y8.heap.size, a9, n9, ?_, u1, (R9.out.keep7 u2 (by decide) (by decide)).base (by simp), D9.out.trans u2.below⟩; simp only [Act.put, List.getElem_toArray, List.getElem_cons_zero, List.getElem_cons_succ, List.setIfInBounds_toArray, List.set_cons_zero, List.set_cons_succ])
                    | (refine ⟨w9.heap.size, a9, n9, ?_, heap_new _ _, (R9.out.below (below_box _ _)).base (by simp), D9.out.trans ((below_box w9 _).mono D9.out.size)⟩; simp only [Act.put, List.getElem_toArray, List.getElem_cons_zero, List.getElem_cons_succ, List.setIfInBounds_toArray, List.set_cons_zero, List.set_cons_succ])
                rintro a' Xp ⟨tbp, a9, n9, rfl, x, o, bX⟩
                simp only [List.setIfInBounds_toArray, List.set_cons_zero, List.set_cons_succ]
                have Hp := Lib.hid x
                have Op := Lib.hid o
                have Pp := Lib.hid (proper_ops7 o)
                have Rp := Lib.hid o.row
                have Jm := Lib.hid (Jm.out.trans (bX.mono Jm.out.size))
                have Jc := Lib.hid (Jc.out.trans (bX.mono Jc.out.size))
                have Jt := Lib.hid (Jt.out.trans (bX.mono Jt.out.size))
                have Jn := Lib.hid (Jn.out.trans (bX.mono Jn.out.size))
                have Ju := Lib.hid (Ju.out.trans (bX.mono Ju.out.size))
                have Jv := Lib.hid (Jv.out.trans (bX.mono Jv.out.size))
                have Jl := Lib.hid (Jl.out.trans (bX.mono Jl.out.size))
                have Jx := Lib.hid (Jx.out.trans (bX.mono Jx.out.size))
                have Jy := Lib.hid (Jy.out.trans (bX.mono Jy.out.size))
                have Jz := Lib.hid (Jz.out.trans (bX.mono Jz.out.size))
                have J0 := Lib.hid (J0.out.trans (bX.mono J0.out.size))
                have Jp := Lib.hid (Below.refl Xp.heap.size Xp)
                clear x o bX HC9 c0m c1m clm c0c c1c clc c0t c1t clt c0n c1n cln z0 z1 zl
                obtain ⟨c0m, c1m, clm⟩ := box_at (heap_up Hm.out Jm.out)
                obtain ⟨c0c, c1c, clc⟩ := box_at (heap_up Hc.out Jc.out)
                obtain ⟨c0t, c1t, clt⟩ := box_at (heap_up Ht.out Jt.out)
                obtain ⟨c0n, c1n, cln⟩ := box_at (heap_up Hn.out Jn.out)
                obtain ⟨c0p, c1p, clp⟩ := box_at (heap_up Hp.out Jp.out)
                have z0 := (Jl.out.cell HLT.out.1).trans HLT.out.2.1
                have z1 := (Jl.out.cell HLT.out.1).trans HLT.out.2.2
                have zl := Nat.lt_of_lt_of_le HLT.out.1 Jl.out.size
                go_wp2_with fail
                refine (sameH (Rp.out.below Jp.out) (Rn.out.below Jn.out)).mono ?_
                rintro e y10 ⟨rfl, d10⟩
                have Jm := Lib.hid (Jm.out.trans (d10.mono Jm.out.size))
                have Jc := Lib.hid (Jc.out.trans (d10.mono Jc.out.size))
                have Jt := Lib.hid (Jt.out.trans (d10.mono Jt.out.size))
                have Jn := Lib.hid (Jn.out.trans (d10.mono Jn.out.size))
                have Jp := Lib.hid (Jp.out.trans (d10.mono Jp.out.size))
                have Ju := Lib.hid (Ju.out.trans (d10.mono Ju.out.size))
                have Jv := Lib.hid (Jv.out.trans (d10.mono Jv.out.size))
                have Jl := Lib.hid (Jl.out.trans (d10.mono Jl.out.size))
                have Jx := Lib.hid (Jx.out.trans (d10.mono Jx.out.size))
                have Jy := Lib.hid (Jy.out.trans (d10.mono Jy.out.size))
                have Jz := Lib.hid (Jz.out.trans (d10.mono Jz.out.size))
                have J0 := Lib.hid (J0.out.trans (d10.mono J0.out.size))
                clear c0m c1m clm c0c c1c clc c0t c1t clt c0n c1n cln c0p c1p clp z0 z1 zl
                obtain ⟨c0m, c1m, clm⟩ := box_at (heap_up Hm.out Jm.out)
                obtain ⟨c0c, c1c, clc⟩ := box_at (heap_up Hc.out Jc.out)
                obtain ⟨c0t, c1t, clt⟩ := box_at (heap_up Ht.out Jt.out)
                obtain ⟨c0n, c1n, cln⟩ := box_at (heap_up Hn.out Jn.out)
                obtain ⟨c0p, c1p, clp⟩ := box_at (heap_up Hp.out Jp.out)
                have z0 := (Jl.out.cell HLT.out.1).trans HLT.out.2.1
                have z1 := (Jl.out.cell HLT.out.1).trans HLT.out.2.2
                have zl := Nat.lt_of_lt_of_le HLT.out.1 Jl.out.size
                clear d10
                have fm0 := (cells2 (heap_up Hm.out Jm.out)).2.2.1
                have fm1 := (cells2 (heap_up Hm.out Jm.out)).2.2.2
                obtain ⟨u1, u2, u3⟩ := agg_set (.int .i64 F4) (.slice a4 N4.length n4) (heap_up Hm.out Jm.out)
                have HU1 := Lib.hid u1
                have HU2 := Lib.hid u2
                clear u1 u2 u3
                go_wp2_with fail
                go_roundw
                case rel =>
                  exact ⟨k + 1, X5, L6, F4, N4, a5, n5, a6, n6, a4, n4, rfl, rfl, by go_num, HK.out, by omega, HU1.out, .inr (((On.out.base BSn.out).below Jn.out).keep7 HU2.out (by decide) (by decide)), Pn.out, (Rx.out.below Jx.out).keep HU2.out (by decide) (by decide), (Ry.out.below Jy.out).keep HU2.out (by decide) (by decide), HN.out, J0.out.trans (HU2.out.below.mono HMS.out)⟩
                case measure => simp [intOf]; omega
              · have t5 : (E6 == 0) = false := by rw [beq_eq_false_iff_ne]; exact e6
                have t6 : (E6 != 0) = true := by rw [bne_iff_ne]; assumption
                have BF := BW.out.trans (J0.out.mono BW.out.size)
                have BG := Lib.hid BF
                clear BF
                go_wp2_with fail
                go_ret
                exact ⟨rfl, BG.out⟩
            · have t5 : (E5 != 0) = true := by rw [bne_iff_ne]; assumption
              subst e3
              subst e4
              have BF := BW.out.trans (J0.out.mono BW.out.size)
              have BG := Lib.hid BF
              clear BF
              go_wp2_with fail
              go_ret
              exact ⟨rfl, BG.out⟩
          · have t4 : (E4 != 0) = true := by rw [bne_iff_ne]; assumption
            subst e3
            have BF := BW.out.trans (J0.out.mono BW.out.size)
            have BG := Lib.hid BF
            clear BF
            go_wp2_with fail
            go_ret
            exact ⟨rfl, BG.out⟩
        · have t3 : (E3 != 0) = true := by rw [bne_iff_ne]; assumption
          have BF := BW.out.trans (J0.out.mono BW.out.size)
          have BG := Lib.hid BF
          clear BF
          go_wp2_with fail
          go_ret
          exact ⟨rfl, BG.out⟩
      · have hl1 : k < Ls.length → ¬ ((k : Int) < 6) := fun h => by omega
        clear c0m c1m clm c0c c1c clc
        have BF := BW.out.trans (J0.out.mono BW.out.size)
        have BG := Lib.hid BF
        clear BF
        by_cases h1 : k < Ls.length
        · have q1 : (k : Int) < (Ls.length : Int) := by omega
          have q2 := hl1 h1
          clear hl1 hkl
          go_wp2_with fail
          go_ret
          exact ⟨rfl, BG.out⟩
        · have q1 : ¬ (k : Int) < (Ls.length : Int) := by omega
          clear hl1 hkl
          go_wp2_with fail
          go_ret
          exact ⟨rfl, BG.out⟩
  · have t1 : (E1 != 0) = true := by rw [bne_iff_ne]; assumption
    have BF := BW.out.trans (J0.out.mono BW.out.size)
    have BG := Lib.hid BF
    clear BF
    go_wp2_with fail
    go_ret
    exact ⟨rfl, BG.out⟩
theorem fmany_walk7 (v : Value) (ps : List RP) (lv : Value) (Ls : List (Int × List OpD)) (f : Int) (ov : Value) (ops : List OpD) (w : World) (hv : RunRow w v ps) (hz : RSized (ps.map (·.1))) (hl : ChsRowP w lv Ls) (hzl : CsSized Ls) (hc : OpRow w ov ops) (hpr : Proper ov) (hy : OSized ops) (hU : U8s w.heap.size w) :
    Calls Tryd.prog 5 #[v, lv, chAgg f ov] w (OutB w true) := fmany_walk v _ lv Ls f ov ops w ⟨ps, rfl, hv⟩ hz hl hzl hc hpr hy hU
end Go.Proofs.YtlfodemmdfaeeaaDoor
