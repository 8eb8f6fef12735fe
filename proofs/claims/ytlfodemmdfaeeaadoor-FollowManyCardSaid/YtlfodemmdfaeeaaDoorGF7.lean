/- Texts of this seat, put together: Gc. -/
import Derived.Test.YtlfodemmdfaeeaaDoorGF6
/- The program's Past: one behind many. -/
namespace Go.Proofs.YtlfodemmdfaeeaaDoor
open Go.RowKit Rn Ch
open At hiding put
open Cp (atms FolF folN sizF)

/-- One behind many: the error, the From, the operations. -/
def pastR : List (Int × List OpD) → Int → List OpD → Int × Int × List OpD
  | [], f, R => (0, f, R)
  | c :: L, f, R => if folE false c.1 f c.2 R = 0 then pastR L (toN c.1 c.2) (folR false c.1 f c.2 R) else (folE false c.1 f c.2 R, 0, [])
theorem pastR_ok {c : Int × List OpD} {L : List (Int × List OpD)} {f : Int} {R : List OpD} (h : folE false c.1 f c.2 R = 0) : pastR (c :: L) f R = pastR L (toN c.1 c.2) (folR false c.1 f c.2 R) := by rw [pastR, if_pos h]
theorem pastR_bad {c : Int × List OpD} {L : List (Int × List OpD)} {f : Int} {R : List OpD} (h : folE false c.1 f c.2 R ≠ 0) : pastR (c :: L) f R = (folE false c.1 f c.2 R, 0, []) := by rw [pastR, if_neg h]
def pastF (f : Int) (B : List OpD) (L : List (Int × List OpD)) : Int × Int × List OpD := if toE f B = 0 then pastR L f (norm B) else (toE f B, 0, [])
theorem folR_sized (fi : Bool) (f g : Int) (A C : List OpD) : OSized (folR fi f g A C) := by
  by_cases h : folE fi f g A C = 0
  · exact (fol_ok h).sized
  · rw [folR_bad h]
    exact nil_sized
set_option maxRecDepth 100000 in
set_option maxHeartbeats 4000000 in
theorem past_any (v : Value) (L : List (Int × List OpD)) (f : Int) (vb : Value) (B : List OpD) (w : World) (hv : ChsRow w v L) (hz : CsSized L) (hu : OpRow w vb B) (hy : OSized B) :
    Calls Tryd.prog 14 #[v, chAgg f vb] w (ChOwn w (pastF f B L).2.1 (pastF f B L).1 (pastF f B L).2.2) := by
  obtain ⟨E0, F0, R0, hfin⟩ : ∃ E0 F0 R0, pastF f B L = (E0, F0, R0) := ⟨_, _, _, rfl⟩
  rw [hfin]
  have HV := Lib.hid hv
  have HZ := Lib.hid hz
  obtain ⟨la, lc, rfl, l1, l2, _⟩ := hv
  obtain ⟨ub, tb, rfl⟩ := hu.shape
  obtain ⟨W, hW, k0, r0, bW⟩ : ∃ W, W = (w.alloc (.cells #[.int .i64 f, .slice ub B.length tb] 25)).alloc (.cells #[.int .i64 0, .slice none 0 0] 25) ∧ W.heap[w.heap.size]? = some (.cells #[.int .i64 f, .slice ub B.length tb] 25 (0, 0)) ∧ W.heap[w.heap.size + 1]? = some (.cells #[.int .i64 0, .slice none 0 0] 25 (0, 0)) ∧ Below w.heap.size w W := ⟨_, rfl, (box2 _ _ _).1, (box2 _ _ _).2.1, (box2 _ _ _).2.2⟩
  have HW := Lib.hid hW
  have HR0 := Lib.hid (And.intro k0 r0)
  have BW := Lib.hid bW
  have HNM := Lib.hid (normal_any f _ B W (hu.below bW) hy)
  have hL : L.length ≤ 9223372036854775807 := Nat.le_trans l1 l2
  clear hW k0 r0 bW hz l1 l2 hu hy
  go_enter Tryd.func14, Tryd.ntmps14
  go_wp2_with fail
  rw [← HW.out]
  refine HNM.out.mono ?_
  rintro e w1 he
  obtain ⟨E1, F1, R1, a1, c1, he1, ho1, hs1, hF1, b1⟩ : ∃ E1 F1 R1 a1 c1, e = .returned (.tuple #[chAgg F1 (.slice a1 (R1 : List OpD).length c1), .int .i64 E1]) ∧ OwnOps w1 w.heap.size (.slice a1 R1.length c1) R1 ∧ OSized R1 ∧ (if E1 = 0 then pastR L F1 R1 else (E1, F1, R1)) = (E0, F0, R0) ∧ Below W.heap.size W w1 := by
    rcases he with ⟨h1, h2, h3⟩ | ⟨h1, u, h2, h3, h4⟩
    · refine ⟨_, _, [], none, 0, h2, ownOps_nil _ _, nil_sized, ?_, h3⟩
      rw [if_neg h1, ← hfin]
      unfold pastF
      rw [if_neg h1]
    · obtain ⟨a, c, rfl⟩ := h3.row.shape
      refine ⟨_, _, norm B, a, c, h2, h3.base BW.out.size, okc_sized7 (norm_ok ((toE_iff _ _).1 h1)).1, ?_, h4⟩
      rw [if_pos rfl, ← hfin]
      unfold pastF
      rw [if_pos h1]
  subst he1
  have B1 := Lib.hid (BW.out.trans (b1.mono BW.out.size))
  have HF1 := Lib.hid hF1
  have z0 := heap_up HR0.out.1 b1
  have z1 := heap_up HR0.out.2 b1
  obtain ⟨p0, p1, pl⟩ := box_at z0
  have g0 := (cells2 z0).2.2.1
  have g1 := (cells2 z0).2.2.2
  obtain ⟨q0, q1, ql⟩ := box_at z1
  obtain ⟨Y, hY, y0, y1, yk⟩ : ∃ Y, Y = (w1.setCell ⟨w.heap.size, 0, none⟩ (.int .i64 F1)).setCell ⟨w.heap.size, 1, none⟩ (.slice a1 R1.length c1) ∧ Y.heap[w.heap.size]? = some (.cells #[.int .i64 F1, .slice a1 R1.length c1] 25 (0, 0)) ∧ Y.heap[w.heap.size + 1]? = some (.cells #[.int .i64 0, .slice none 0 0] 25 (0, 0)) ∧ Keep w.heap.size [25] w1 Y := by
    obtain ⟨u1, u2, u3⟩ := agg_set (.int .i64 F1) (.slice a1 R1.length c1) z0
    exact ⟨_, rfl, u1, (u3 _ (by omega)).trans z1, u2⟩
  have HYE := Lib.hid hY
  have HYS := Lib.hid (And.intro y0 y1)
  have HO1 := Lib.hid (ho1.keep7 yk (by decide) (by decide))
  have HS1 := Lib.hid hs1
  have BY := Lib.hid (B1.out.trans yk.below)
  clear b1 he hfin hF1 z0 z1 hY y0 y1 yk ho1 hs1
  go_wp2_with fail
  rw [← HYE.out]
  go_loopw [6, 7] (fun ev iv wr => ∃ (k : Nat) (E F : Int) (R : List OpD) (ra : Option Addr) (rc : Nat), ev = .int .i64 E ∧ iv = .int .i64 (k : Int) ∧ k ≤ L.length ∧ wr.heap[w.heap.size]? = some (.cells #[.int .i64 F, .slice ra R.length rc] 25 (0, 0)) ∧ OwnOps wr w.heap.size (.slice ra R.length rc) R ∧ OSized R ∧
    (if E = 0 then pastR (L.drop k) F R else (E, F, R)) = (E0, F0, R0) ∧ wr.heap[w.heap.size + 1]? = some (.cells #[.int .i64 0, .slice none 0 0] 25 (0, 0)) ∧ Below w.heap.size w wr) (fun _ iv _ => L.length - (intOf iv).toNat)
  case atStart => exact ⟨0, E1, F1, R1, a1, c1, rfl, rfl, Nat.zero_le _, HYS.out.1, HO1.out, HS1.out, by rw [List.drop_zero]; exact HF1.out, HYS.out.2, BY.out⟩
  case round =>
    obtain ⟨k, E, F, R, ra, rc, rfl, rfl, hk, hbx, hrow, hsz, hfn, hres, hbel⟩ := hrel
    obtain ⟨x0, x1, xl⟩ := box_at hbx
    have f0 : wr.frozen? ⟨w.heap.size, 0, none⟩ = false := (cells2 hbx).2.2.1
    have f1 : wr.frozen? ⟨w.heap.size, 1, none⟩ = false := (cells2 hbx).2.2.2
    have HBX := Lib.hid hbx
    have HRW := Lib.hid hrow
    have HSZ := Lib.hid hsz
    have HRS := Lib.hid hres
    have HBL := Lib.hid hbel
    by_cases hkl : k < L.length
    · have c1 : (k : Int) < (L.length : Int) := by omega
      by_cases hE : E = 0
      · subst hE
        rw [if_pos rfl, List.drop_eq_getElem_cons hkl] at hfn
        have HFN := Lib.hid hfn
        obtain ⟨b, off, u, e1, hlt, y0, y1, yr⟩ := (HV.out.below HBL.out).at k hkl
        subst e1
        have hk0 : (0 : Int) ≤ (k : Int) := by omega
        have HY := Lib.hid yr
        obtain ⟨ua, uc, rfl⟩ := yr.shape
        have HZk := Lib.hid (HZ.out _ (List.getElem_mem hkl))
        have HC := Lib.hid (folO (fi := false) (f := L[k].1) (g := F) (w := wr.drew) (HY.out : OpRow wr _ _) HZk.out (HRW.out.row : OpRow wr _ R) HSZ.out)
        have HAL := Lib.hid (And.intro (pastR_ok (c := L[k]) (L := L.drop (k + 1)) (f := F) (R := R)) (pastR_bad (c := L[k]) (L := L.drop (k + 1)) (f := F) (R := R)))
        have HCS := Lib.hid (folR_sized false L[k].1 F L[k].2 R)
        have hcr : folE false L[k].1 F L[k].2 R ≠ 0 → folR false L[k].1 F L[k].2 R = [] := folR_bad
        have HCR := Lib.hid hcr
        generalize L[k] = ck at *
        obtain ⟨g, C⟩ := ck
        simp only at *
        generalize folE false g F C R = E2 at *
        generalize folR false g F C R = R2 at *
        generalize hTN : toN g C = TN at *
        obtain ⟨F2, hF2⟩ : ∃ F2, F2 = if E2 = 0 then TN else 0 := ⟨_, rfl⟩
        rw [← hF2] at HC
        have HF2 := Lib.hid hF2
        clear hF2 hTN
        generalize hL2 : List.drop (k + 1) L = L2 at *
        have HL2 := Lib.hid hL2
        clear hL2
        clear hfn hbx hrow hsz hres hbel hk hcr yr
        go_wp2_with fail
        go_region_with (first
          | (go_at_call 13; (with_reducible refine HC.out.mono ?_); rintro e w2 ⟨a2, c2, rfl, O2, b2⟩; have B2 := Lib.hid ((Below.refl wr.heap.size wr).drew.trans b2); have HO2 := Lib.hid O2; obtain ⟨x0', x1', xl'⟩ := box_at (heap_up HBX.out B2.out); have f0' : w2.frozen? ⟨w.heap.size, 0, none⟩ = false := (cells2 (heap_up HBX.out B2.out)).2.2.1; have f1' : w2.frozen? ⟨w.heap.size, 1, none⟩ = false := (cells2 (heap_up HBX.out B2.out)).2.2.2; clear O2 b2))
        all_goals
          (obtain ⟨q1, q2, q3⟩ := agg_set (.int .i64 F2) (.slice a2 R2.length c2) (heap_up HBX.out B2.out)
           have hs2 := q2.below.size
           have FIN : _ ∧ _ ∧ _ ∧ _ := ⟨q1, (HO2.out.base (Nat.le_trans HBL.out.size (Nat.le_refl _))).keep7 q2 (by decide) (by decide), (q3 _ (by omega)).trans (heap_up HRS.out B2.out), (HBL.out.trans (B2.out.mono HBL.out.size)).trans (q2.below.mono (by omega))⟩
           have HFIN := Lib.hid FIN
           clear q1 q2 q3 FIN x0 x1 xl x0' x1' f0' f1' y0 y1
           go_wp2_with fail
           go_roundw
           case rel =>
             refine ⟨k + 1, E2, F2, R2, a2, c2, rfl, by go_num, by omega, HFIN.out.1, HFIN.out.2.1, HCS.out, ?_, HFIN.out.2.2.1, HFIN.out.2.2.2⟩
             rw [HF2.out]
             by_cases h0 : E2 = 0
             · rw [if_pos h0, if_pos h0, HL2.out, ← HFN.out]
               exact (HAL.out.1 h0).symm
             · rw [if_neg h0, if_neg h0, ← HFN.out, HCR.out h0]
               exact (HAL.out.2 h0).symm
           case measure => simp [intOf]; omega)
      · have c2 := not_int hE
        rw [if_neg hE] at hfn
        have HFN := Lib.hid hfn
        obtain ⟨z0, z1, zl⟩ := box_at HRS.out
        have g0 : wr.frozen? ⟨w.heap.size + 1, 0, none⟩ = false := (cells2 HRS.out).2.2.1
        have g1 : wr.frozen? ⟨w.heap.size + 1, 1, none⟩ = false := (cells2 HRS.out).2.2.2
        clear hfn hbx hrow hsz hres hbel hk
        go_wp2_with fail
        obtain ⟨q1, q2, q3⟩ := agg_set (.int .i64 F) (.slice ra R.length rc) HRS.out
        refine bodyPost_ret (results_all rfl rfl rfl (cells2 q1).1 (cells2 q1).2.1) rfl ?_
        have hfn := HFN.out
        simp only [Prod.mk.injEq] at hfn
        obtain ⟨rfl, rfl, rfl⟩ := hfn
        exact ⟨ra, rc, rfl, HRW.out.keep7 q2 (by decide) (by decide), HBL.out.trans (q2.below.mono (by omega))⟩
    · have c1 : ¬ (k : Int) < (L.length : Int) := by omega
      have hfn' : (E, F, R) = (E0, F0, R0) := by
        rw [← hfn, List.drop_of_length_le (by omega)]
        split
        · rename_i h0
          rw [h0]; rfl
        · rfl
      have HFN := Lib.hid hfn'
      clear hfn'
      obtain ⟨z0, z1, zl⟩ := box_at HRS.out
      have g0 : wr.frozen? ⟨w.heap.size + 1, 0, none⟩ = false := (cells2 HRS.out).2.2.1
      have g1 : wr.frozen? ⟨w.heap.size + 1, 1, none⟩ = false := (cells2 HRS.out).2.2.2
      clear hfn hbx hrow hsz hres hbel hk
      go_wp2_with fail
      obtain ⟨q1, q2, q3⟩ := agg_set (.int .i64 F) (.slice ra R.length rc) HRS.out
      refine bodyPost_ret (results_all rfl rfl rfl (cells2 q1).1 (cells2 q1).2.1) rfl ?_
      have hfn := HFN.out
      simp only [Prod.mk.injEq] at hfn
      obtain ⟨rfl, rfl, rfl⟩ := hfn
      exact ⟨ra, rc, rfl, HRW.out.keep7 q2 (by decide) (by decide), HBL.out.trans (q2.below.mono (by omega))⟩
theorem pastH_eq {f F E : Int} {v vb : Value} {L : List (Int × List OpD)} {B R : List OpD} {w : World} (hv : ChsRow w v L) (hz : CsSized L) (hu : OpRow w vb B) (hy : OSized B) (h : pastF f B L = (E, F, R)) :
    Calls Tryd.prog 14 #[v, chAgg f vb] w (ChOwn w F E R) := by
  have := past_any v L f vb B w hv hz hu hy
  rwa [h] at this
end Go.Proofs.YtlfodemmdfaeeaaDoor
