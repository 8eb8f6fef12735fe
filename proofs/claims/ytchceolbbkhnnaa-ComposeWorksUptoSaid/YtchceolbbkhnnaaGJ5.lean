/- Texts of this seat, put together: Js, CwK. -/
import Derived.Test.YtchceolbbkhnnaaGJ4
import Derived.Test.YtchceolbbkhnnaaGL2
import Derived.Test.YtchceolbbkhnnaaGK3
import Derived.Test.YtchceolbbkhnnaaGR1
/- The document's own All: many changesets as one. -/
namespace Go.Proofs.Ytchceolbbkhnnaa
open Go.RowKit Rn Ch

theorem tsmall_cmpR (f g : Int) (A C : List OpD) : TSmall (cmpR f g A C) := by
 by_cases h : cmpE f g A C = 0
 ·intro o ho
  have := (vop_of (cmpR_ok h).ok ho).text
  omega
 ·unfold cmpR
  rw [if_neg h]
  intro o ho
  cases ho
theorem bad_set {w Y : World} {E : Int} (hb : Below w.heap.size w Y) (hr : Y.heap[w.heap.size]? = some (.cells #[.int .i64 0, .slice none 0 0] 24 (0, 0))) :
 ChOwn w 0 E [] (.returned (.tuple #[chAgg 0 (.slice none 0 0), .int .i64 E])) ((Y.setCell ⟨w.heap.size, 0, none⟩ (.int .i64 0)).setCell ⟨w.heap.size, 1, none⟩ (.slice none 0 0)) ∧ ((Y.setCell ⟨w.heap.size, 0, none⟩ (.int .i64 0)).setCell ⟨w.heap.size, 1, none⟩ (.slice none 0 0)).cell? ⟨w.heap.size, 0, none⟩ = some (.int .i64 0) ∧ ((Y.setCell ⟨w.heap.size, 0, none⟩ (.int .i64 0)).setCell ⟨w.heap.size, 1, none⟩ (.slice none 0 0)).cell? ⟨w.heap.size, 1, none⟩ = some (.slice none 0 0) := by
 obtain ⟨q1, q2, _⟩ := agg_set (.int .i64 0) (.slice none 0 0) hr
 exact ⟨⟨none, 0, rfl, ownOps_nil _ _, hb.trans q2.below⟩, (cells2 q1).1, (cells2 q1).2.1⟩
set_option maxRecDepth 100000 in
set_option maxHeartbeats 8000000 in
theorem refAll6_any (n : Int) (v : Value) (L : List (Int × List OpD)) (w : World) (hv : ChsRow w v L) (hz : CsSized L) (ht : ∀ c ∈ L, TSmall c.2) :
 Calls Try.prog 13 #[.int .i64 n, v] w (ChOwn w (allF n L).2.1 (allF n L).1 (allF n L).2.2) := by
 obtain ⟨E0, F0, R0, hfin⟩ : ∃ E0 F0 R0, allF n L = (E0, F0, R0) := ⟨_, _, _, rfl⟩
 rw [hfin]
 have HV := Lib.hid hv
 have HZ := Lib.hid hz
 have HT := Lib.hid ht
 obtain ⟨la, lc, rfl, l1, l2, _⟩ := hv
 have hL : L.length ≤ 9223372036854775807 := Nat.le_trans l1 l2
 clear hz ht l1 l2
 by_cases hn : n < 0 ∨ 20000 < n
 ·obtain ⟨rfl, rfl, rfl⟩ : E0 = 31 ∧ F0 = 0 ∧ R0 = [] := by
   unfold allF at hfin
   rw [if_pos hn] at hfin
   simp only [Prod.mk.injEq] at hfin
   exact ⟨hfin.1.symm, hfin.2.1.symm, hfin.2.2.symm⟩
  obtain ⟨W, hW, r0, bW⟩ : ∃ W, W = w.alloc (.cells #[.int .i64 0, .slice none 0 0] 24) ∧ W.heap[w.heap.size]? = some (.cells #[.int .i64 0, .slice none 0 0] 24 (0, 0)) ∧ Below w.heap.size w W := ⟨_, rfl, heap_new _ _, below_box _ _⟩
  have HF1 := Lib.hid (show ChOwn w 0 31 [] (.returned (.tuple #[chAgg 0 (.slice none 0 0), .int .i64 31])) W from ⟨none, 0, rfl, ownOps_nil _ _, bW⟩)
  obtain ⟨z0, z1, d0, d1⟩ := cells2 r0
  have hc := lt_of_heap r0
  have HW := Lib.hid hW
  clear hfin bW r0 hW
  rcases hn with hn | hn
  ·go_enter Try.func13, Try.ntmps13
   go_wp2_with fail
   rw [← HW.out]
   go_wp2_with fail
   exact bodyPost_ret (v := .tuple #[chAgg 0 (.slice none 0 0), .int .i64 31]) (by simp [results, Try.results13, go_sem, z0, z1]) rfl HF1.out
  ·have hn0 : ¬ n < 0 := by omega
   go_enter Try.func13, Try.ntmps13
   go_wp2_with fail
   rw [← HW.out]
   go_wp2_with fail
   exact bodyPost_ret (v := .tuple #[chAgg 0 (.slice none 0 0), .int .i64 31]) (by simp [results, Try.results13, go_sem, z0, z1]) rfl HF1.out
 ·have hfn0 : allR L n [] = (E0, F0, R0) := by
   rw [← hfin]
   unfold allF
   rw [if_neg hn]
  have HFN0 := Lib.hid hfn0
  have hn0 : ¬ n < 0 := by omega
  have hn1 : ¬ 20000 < n := by omega
  obtain ⟨W, hW⟩ : ∃ W, W = (w.alloc (.cells #[.int .i64 0, .slice none 0 0] 24)).alloc (.cells #[.int .i64 n, .slice none 0 0] 24) := ⟨_, rfl⟩
  obtain ⟨r0, r1, bW⟩ := jbox (w := w) (f := n)
  rw [← hW] at r0 r1 bW
  have HR0 := Lib.hid r0
  have HR1 := Lib.hid r1
  have BW := Lib.hid bW
  have HW := Lib.hid hW
  clear hfin hfn0 hn r0 r1 bW hW
  go_enter Try.func13, Try.ntmps13
  go_wp2_with fail
  rw [← HW.out]
  clear hn0 hn1
  go_loopw [7] (fun iv wr => ∃ (k : Nat) (F : Int) (R : List OpD) (ra : Option Addr) (rc : Nat), iv = .int .i64 (k : Int) ∧ k ≤ L.length ∧ wr.heap[w.heap.size + 1]? = some (.cells #[.int .i64 F, .slice ra R.length rc] 24 (0, 0)) ∧ OwnOps wr w.heap.size (.slice ra R.length rc) R ∧ OSized R ∧ TSmall R ∧
   allR (L.drop k) F R = (E0, F0, R0) ∧ wr.heap[w.heap.size]? = some (.cells #[.int .i64 0, .slice none 0 0] 24 (0, 0)) ∧ Below w.heap.size w wr) (fun iv _ => L.length - (intOf iv).toNat)
  case atStart => exact ⟨0, n, [], none, 0, rfl, Nat.zero_le _, HR1.out, ownOps_nil _ _, nil_sized, (fun o h => by cases h), by rw [List.drop_zero]; exact HFN0.out, HR0.out, BW.out⟩
  case round =>
   obtain ⟨k, F, R, ra, rc, rfl, hk, hbx, hrow, hsz, hts, hfn, hres, hbel⟩ := hrel
   obtain ⟨x0, x1, xl⟩ := box_at hbx
   have f0 : wr.frozen? ⟨w.heap.size + 1, 0, none⟩ = false := (cells2 hbx).2.2.1
   have f1 : wr.frozen? ⟨w.heap.size + 1, 1, none⟩ = false := (cells2 hbx).2.2.2
   have HBX := Lib.hid hbx
   have HRW := Lib.hid hrow
   have HSZ := Lib.hid hsz
   have HTS := Lib.hid hts
   have HRS := Lib.hid hres
   have HBL := Lib.hid hbel
   by_cases hkl : k < L.length
   ·have c1 : (k : Int) < (L.length : Int) := by omega
    rw [List.drop_eq_getElem_cons hkl] at hfn
    have HFN := Lib.hid hfn
    obtain ⟨b, off, u, e1, hlt, y0, y1, yr⟩ := (HV.out.below HBL.out).at k hkl
    subst e1
    have hk0 : (0 : Int) ≤ (k : Int) := by omega
    have HY := Lib.hid yr
    obtain ⟨ua, uc, rfl⟩ := yr.shape
    have HZk := Lib.hid (HZ.out _ (List.getElem_mem hkl))
    have HTk := Lib.hid (HT.out _ (List.getElem_mem hkl))
    have HC := Lib.hid (fun (Z : World) (hb : Below wr.heap.size wr Z) => refCompose6_any F (.slice ra R.length rc) R L[k].1 (.slice ua L[k].2.length uc) L[k].2 Z ((HRW.out.row : OpRow wr _ R).below hb) HSZ.out ((HY.out : OpRow wr _ _).below hb) HZk.out HTS.out HTk.out)
    have HAL := Lib.hid (And.intro (allR_ok (c := L[k]) (L := L.drop (k + 1)) (f := F) (R := R)) (allR_bad (c := L[k]) (L := L.drop (k + 1)) (f := F) (R := R)))
    have HCS := Lib.hid (cmpR_sized F L[k].1 R L[k].2)
    have HCT := Lib.hid (tsmall_cmpR F L[k].1 R L[k].2)
    have hcr : cmpE F L[k].1 R L[k].2 ≠ 0 → cmpR F L[k].1 R L[k].2 = [] := fun h => by unfold cmpR; rw [if_neg h]
    have HCR := Lib.hid hcr
    generalize L[k] = ck at *
    obtain ⟨g, C⟩ := ck
    simp only at *
    generalize cmpE F g R C = E2 at *
    generalize cmpR F g R C = R2 at *
    obtain ⟨F2, hF2⟩ : ∃ F2, F2 = if E2 = 0 then F else 0 := ⟨_, rfl⟩
    rw [← hF2] at HC
    have HF2 := Lib.hid hF2
    clear hF2
    generalize hL2 : List.drop (k + 1) L = L2 at *
    have HL2 := Lib.hid hL2
    clear hL2
    clear hfn hbx hrow hsz hts hres hbel hk hcr yr
    go_upto_region 7 with fail
    refine region_merge6 (fun a a' w' => ∃ (tb : Nat) (a2 : Option Addr) (c2 : Nat), a' = { a with tmps := (((((((((((a.tmps.setIfInBounds 25 (.tuple #[chAgg F2 (.slice a2 R2.length c2), .int .i64 E2])).setIfInBounds 26 (.agg #[.int .i64 F, .slice ra R.length rc])).setIfInBounds 27 (.slice (some ⟨b, off, none⟩) L.length lc)).setIfInBounds 28 (.int .i64 (k : Int))).setIfInBounds 29 (.pointer (some ⟨b, off + k * 2, none⟩))).setIfInBounds 30 (.agg #[.int .i64 g, .slice ua C.length uc])).setIfInBounds 31 (.tuple #[chAgg F2 (.slice a2 R2.length c2), .int .i64 E2])).setIfInBounds 32 (chAgg F2 (.slice a2 R2.length c2))).setIfInBounds 33 (.int .i64 E2)).setIfInBounds 8 (.pointer (some ⟨tb, 0, none⟩))).setIfInBounds 9 (.int .i64 E2)) } ∧ w'.heap[tb]? = some (.cells #[.int .i64 F2, .slice a2 R2.length c2] 24 (0, 0)) ∧ OwnOps w' wr.heap.size (.slice a2 R2.length c2) R2 ∧ Below wr.heap.size wr w') ?_ ?_
    ·go_region_with (first
      | (go_at_call 9; (with_reducible refine (HC.out wr.drew (Below.refl wr.heap.size wr).drew).mono ?_); rintro e w3 ⟨a2, c2, rfl, r3, d3⟩; have D3 := Lib.hid ((Below.refl wr.heap.size wr).drew.trans d3); have R3 := Lib.hid r3; clear r3 d3)
      | (go_at_call 9; refine (HC.out _ (by first | exact ((Below.refl wr.heap.size wr).alloc (Nat.le_refl _) _).drew | exact ((Below.refl wr.heap.size wr).drew).alloc (Nat.le_refl _) _)).mono ?_; rintro e w3 ⟨a2, c2, rfl, r3, d3⟩; have D3 := Lib.hid (show Below wr.heap.size wr w3 from Below.trans (by first | exact ((Below.refl wr.heap.size wr).alloc (Nat.le_refl _) _).drew | exact ((Below.refl wr.heap.size wr).drew).alloc (Nat.le_refl _) _) (d3.mono (by simp))); have R3 := Lib.hid r3; have ZL := Lib.hid ((d3.block wr.heap.size (by simp)).trans (heap_new wr (.cells #[.int .i64 0, .slice none 0 0] 24))); obtain ⟨zz0, zz1, zzl⟩ := box_at ZL.out; have fz0 := (cells2 ZL.out).2.2.1; have fz1 := (cells2 ZL.out).2.2.2; clear r3 d3))
     all_goals first
      | (obtain ⟨u1, u2, u3⟩ := agg_set (.int .i64 F2) (.slice a2 R2.length c2) ZL.out; refine ⟨wr.heap.size, a2, c2, ?_, u1, (R3.out.keep7 u2 (by decide) (by decide)).base (by simp), D3.out.trans u2.below⟩; simp only [Act.put, List.getElem_toArray, List.getElem_cons_zero, List.getElem_cons_succ, List.setIfInBounds_toArray, List.set_cons_zero, List.set_cons_succ])
      | (refine ⟨w3.heap.size, a2, c2, ?_, heap_new _ _, (R3.out.below (below_box _ _)).base (by simp), D3.out.trans ((below_box w3 _).mono D3.out.size)⟩; simp only [Act.put, List.getElem_toArray, List.getElem_cons_zero, List.getElem_cons_succ, List.setIfInBounds_toArray, List.set_cons_zero, List.set_cons_succ])
    rintro a' Xt ⟨tb, a2, c2, rfl, hx8, ho8, bX⟩
    simp only [List.setIfInBounds_toArray, List.set_cons_zero, List.set_cons_succ]
    have HTB := Lib.hid hx8
    have HO8 := Lib.hid (ho8.base HBL.out.size)
    have B9 := Lib.hid (HBL.out.trans (bX.mono HBL.out.size))
    have RX := Lib.hid (heap_up HRS.out bX)
    have QX := Lib.hid (heap_up HBX.out bX)
    clear x0 x1 xl f0 f1 y0 y1 hx8 ho8 bX
    obtain ⟨o0, o1, ol⟩ := box_at HTB.out
    by_cases h2 : E2 = 0
    ·have t2 : (E2 != 0) = false := by rw [h2]; rfl
     obtain ⟨q0, q1, ql⟩ := box_at QX.out
     have f0 : Xt.frozen? ⟨w.heap.size + 1, 0, none⟩ = false := (cells2 QX.out).2.2.1
     have f1 : Xt.frozen? ⟨w.heap.size + 1, 1, none⟩ = false := (cells2 QX.out).2.2.2
     obtain ⟨s1, s2, s3⟩ := agg_set (.int .i64 F2) (.slice a2 R2.length c2) QX.out
     have hs2 := s2.below.size
     have FIN : _ ∧ _ ∧ _ ∧ _ := ⟨s1, HO8.out.keep7 s2 (by decide) (by decide), (s3 w.heap.size (by omega)).trans RX.out, B9.out.trans (s2.below.mono (by omega))⟩
     have HFIN := Lib.hid FIN
     have H2 := Lib.hid h2
     clear s1 s2 s3 hs2 FIN h2
     go_wp2_with fail
     go_roundw
     case rel =>
      refine ⟨k + 1, F2, R2, a2, c2, by go_num, by omega, HFIN.out.1, HFIN.out.2.1, HCS.out, HCT.out, ?_, HFIN.out.2.2.1, HFIN.out.2.2.2⟩
      rw [HF2.out, if_pos H2.out, HL2.out, ← HFN.out]
      exact (HAL.out.1 H2.out).symm
     case measure => simp [intOf]; omega
    ·have t2 : (E2 != 0) = true := by rw [bne_iff_ne]; exact h2
     obtain ⟨rfl, rfl, rfl⟩ : E0 = E2 ∧ F0 = 0 ∧ R0 = [] := by
      have h := HFN.out
      rw [HAL.out.2 h2] at h
      simp only [Prod.mk.injEq] at h
      exact ⟨h.1.symm, h.2.1.symm, h.2.2.symm⟩
     obtain ⟨F1, z0, z1⟩ := bad_set (E := E0) B9.out RX.out
     have HF1 := Lib.hid F1
     obtain ⟨c0, c1', d0, d1⟩ := cells2 RX.out
     have hc := lt_of_heap RX.out
     clear F1 h2
     go_wp2_with fail
     exact bodyPost_ret (v := .tuple #[chAgg 0 (.slice none 0 0), .int .i64 E0]) (by simp [results, Try.results13, go_sem, z0, z1]) rfl HF1.out
   ·have c1 : ¬ (k : Int) < (L.length : Int) := by omega
    rw [List.drop_of_length_le (by omega), allR] at hfn
    simp only [Prod.mk.injEq] at hfn
    obtain ⟨rfl, rfl, rfl⟩ := hfn
    obtain ⟨z0, z1, zl⟩ := box_at HRS.out
    have g0 : wr.frozen? ⟨w.heap.size, 0, none⟩ = false := (cells2 HRS.out).2.2.1
    have g1 : wr.frozen? ⟨w.heap.size, 1, none⟩ = false := (cells2 HRS.out).2.2.2
    clear hbx hrow hsz hts hres hbel hk
    go_wp2_with fail
    obtain ⟨q1, q2, q3⟩ := agg_set (.int .i64 F) (.slice ra R.length rc) HRS.out
    refine bodyPost_ret (results_all rfl rfl rfl (cells2 q1).1 (cells2 q1).2.1) rfl ?_
    exact ⟨ra, rc, rfl, HRW.out.keep7 q2 (by decide) (by decide), HBL.out.trans q2.below⟩
end Go.Proofs.Ytchceolbbkhnnaa

/- What the laws ComposeWorks and FollowWorks keep: boxes, rows with their bounds. -/
namespace Go.Proofs.Ytchceolbbkhnnaa
open Go.RowKit Ch

theorem LRow.span {w w' : World} {B lo hi gg gc : Nat} {ps : List PA} (h : LRow w B gg gc ps) (hs : Span lo hi w w') (hb : hi ≤ B) : LRow w' B gg gc ps :=
 ⟨hs.own h.row hb, fun q hq => by
  obtain ⟨g, e, h⟩ := h.att q hq
  exact ⟨g, e, hs.own h hb⟩, h.pw⟩
/-- Operations that the call owns, in blocks from B on, ahead of U. -/
structure OwnU (w : World) (B U : Nat) (v : Value) (l : List OpD) : Prop where
 own : ∃ ps : List PA, ps.map (·.1) = l ∧ OwnP w B v ps ∧ (∀ j, v.ownBlock = some j → j < U) ∧ ∀ q ∈ ps, ∀ j, q.2.ownBlock = some j → j < U
theorem ownU_mk {w : World} {B : Nat} {v : Value} {l : List OpD} (h : OwnOps w B v l) : OwnU w B w.heap.size v l := by
 obtain ⟨ps, e, h⟩ := h
 exact ⟨ps, e, h, fun j hj => (h.1.lt j hj).2, fun q hq j hj => ((h.2 q hq).lt j hj).2⟩
theorem OwnU.span {w w' : World} {B U lo hi : Nat} {v : Value} {l : List OpD} (h : OwnU w B U v l) (hs : Span lo hi w w') (hb : hi ≤ B) : OwnU w' B U v l := by
 obtain ⟨ps, e, h1, h2, h3⟩ := h
 exact ⟨ps, e, h1.span hs hb, h2, h3⟩
theorem OwnU.below {w w' : World} {B U : Nat} {v : Value} {l : List OpD} (h : OwnU w B U v l) (hb : Below w.heap.size w w') : OwnU w' B U v l := by
 obtain ⟨ps, e, h1, h2, h3⟩ := h
 exact ⟨ps, e, h1.keep (keep_below (ts := []) hb (Nat.le_refl _)) (by simp) (by simp), h2, h3⟩
theorem OwnU.row {w : World} {B U : Nat} {v : Value} {l : List OpD} (h : OwnU w B U v l) : OpRow w v l := by
 obtain ⟨ps, e, h1, h2, h3⟩ := h
 rw [← e]; exact h1.row
theorem spoilU_any (f : Int) (v : Value) (B E : Nat) (l : List OpD) (w : World) (h : OwnU w B E v l) (hz : SmallO l) (hEw : E ≤ w.heap.size) (hBw : B ≤ w.heap.size) :
 Calls Try.prog 11 #[chAgg f v] w (SpoilOutC w B E) := by
 obtain ⟨ps, e, h1, h2, h3⟩ := h
 exact spoilC_any f v B E ps w h1 (by rw [e]; exact hz) h2 h3 hEw hBw
theorem refSame_yes (f : Int) (v u : Value) (l : List OpD) (w : World) (hv : OpRow w v l) (hu : OpRow w u l) : Calls Try.prog 10 #[chAgg f v, chAgg f u] w (OutB w true) := by
 have := refSameCh_any f f v u l l w hv hu
 rwa [show sameCh f f l l = true from decide_eq_true ⟨rfl, rfl⟩] at this
theorem cmpR_small (f g : Int) (A C : List OpD) : SmallO (cmpR f g A C) := by
 by_cases h : cmpE f g A C = 0
 ·exact smallO_ok (cmpR_ok h).ok
 ·unfold cmpR
  rw [if_neg h]
  exact ⟨by simp, fun o ho => by cases ho⟩
theorem ChOwn.shapeW {w : World} {F E : Int} {R : List OpD} {e : Ending} {w' : World} (h : ChOwn w F E R e w') : ∃ a n c, e = .returned (.tuple #[chAgg F (.slice a n c), .int .i64 E]) ∧ OwnU w' w.heap.size w'.heap.size (.slice a n c) R ∧ Below w.heap.size w w' := by
 obtain ⟨a, c, h1, h2, h3⟩ := h
 exact ⟨a, _, c, h1, ownU_mk h2, h3⟩
theorem LentOutC.shapeW {w : World} {f : Int} {ops : List OpD} {e : Ending} {w' : World} (h : LentOutC w f ops e w') : ∃ gg gc ps, e = .returned (chAgg f (.slice (some ⟨gg, 0, none⟩) ops.length gc)) ∧ ps.map (·.1) = ops ∧ LRow w' w.heap.size gg gc ps ∧ Below w.heap.size w w' ∧ gg < w'.heap.size ∧ ∀ q ∈ ps, ∀ j, q.2.ownBlock = some j → j < w'.heap.size := by
 obtain ⟨gg, gc, ps, h1, h2, h3, h4⟩ := h
 exact ⟨gg, gc, ps, h1, h2, h3, h4, (h3.row.lt gg rfl).2, fun q hq j hj => ((h3.att q hq).lt j hj).2⟩
theorem LRow.opsE {w : World} {B gg gc : Nat} {ps : List PA} {ops : List OpD} (h : LRow w B gg gc ps) (e : ps.map (·.1) = ops) : OpRow w (.slice (some ⟨gg, 0, none⟩) ops.length gc) ops := by
 have := h.ops
 rw [e] at this
 rwa [show ps.length = ops.length by rw [← e]; simp] at this
end Go.Proofs.Ytchceolbbkhnnaa
