/- Texts of this seat, put together: Gc, Gd. -/
import Derived.Test.YtlgpihboojgpmaaGF6
/- The program's Past: one behind many. -/
namespace Go.Proofs.Ytlgpihboojgpmaa
open Go.RowKit Rn Ch
open At hiding put
open Cp (atms FolF folN sizF)

/-- One behind many: the error, the From, the operations. -/
def pastR : List (Int × List OpD) → Int → List OpD → Int × Int × List OpD
  | [], f, R => (0, f, R)
  | c :: L, f, R => if folE false c.1 f c.2 R = 0 then pastR L (toN c.1 c.2) (folR false c.1 f c.2 R) else (folE false c.1 f c.2 R, 0, [])
theorem pastR_ok {c : Int × List OpD} {L : List (Int × List OpD)} {f : Int} {R : List OpD} (h : folE false c.1 f c.2 R = 0) : pastR (c :: L) f R = pastR L (toN c.1 c.2) (folR false c.1 f c.2 R) := by rw [pastR, if_pos h]
theorem pastR_bad {c : Int × List OpD} {L : List (Int × List OpD)} {f : Int} {R : List OpD} (h : folE false c.1 f c.2 R ≠ 0) : pastR (c :: L) f R = (folE false c.1 f c.2 R, 0, []) := by rw [pastR, if_neg h]
def pastF (f : Int) (B : List OpD) (L : List (Int × List OpD)) : Int × Int × List OpD := if toE f B = 0 then pastR L f (norm B) else (toE f B, 0, [])
theorem folR_sized (fi : Bool) (f g : Int) (A C : List OpD) : OSized (folR fi f g A C) := by
  by_cases h : folE fi f g A C = 0
  · exact (fol_ok h).sized
  · rw [folR_bad h]
    exact nil_sized
set_option maxRecDepth 100000 in
set_option maxHeartbeats 4000000 in
theorem past_any (v : Value) (L : List (Int × List OpD)) (f : Int) (vb : Value) (B : List OpD) (w : World) (hv : ChsRow w v L) (hz : CsSized L) (hu : OpRow w vb B) (hy : OSized B) :
    Calls Try.prog 29 #[v, chAgg f vb] w (ChOwn w (pastF f B L).2.1 (pastF f B L).1 (pastF f B L).2.2) := by
  obtain ⟨E0, F0, R0, hfin⟩ : ∃ E0 F0 R0, pastF f B L = (E0, F0, R0) := ⟨_, _, _, rfl⟩
  rw [hfin]
  have HV := Lib.hid hv
  have HZ := Lib.hid hz
  obtain ⟨la, lc, rfl, l1, l2, _⟩ := hv
  obtain ⟨ub, tb, rfl⟩ := hu.shape
  obtain ⟨W, hW, k0, r0, bW⟩ : ∃ W, W = (w.alloc (.cells #[.int .i64 f, .slice ub B.length tb] 24)).alloc (.cells #[.int .i64 0, .slice none 0 0] 24) ∧ W.heap[w.heap.size]? = some (.cells #[.int .i64 f, .slice ub B.length tb] 24 (0, 0)) ∧ W.heap[w.heap.size + 1]? = some (.cells #[.int .i64 0, .slice none 0 0] 24 (0, 0)) ∧ Below w.heap.size w W := ⟨_, rfl, (box2 _ _ _).1, (box2 _ _ _).2.1, (box2 _ _ _).2.2⟩
  have HW := Lib.hid hW
  have HR0 := Lib.hid (And.intro k0 r0)
  have BW := Lib.hid bW
  have HNM := Lib.hid (normal_any f _ B W (hu.below bW) hy)
  have hL : L.length ≤ 9223372036854775807 := Nat.le_trans l1 l2
  clear hW k0 r0 bW hz l1 l2 hu hy
  go_enter Try.func29, Try.ntmps29
  go_wp2_with fail
  rw [← HW.out]
  refine HNM.out.mono ?_
  rintro e w1 he
  obtain ⟨E1, F1, R1, a1, c1, he1, ho1, hs1, hF1, b1⟩ : ∃ E1 F1 R1 a1 c1, e = .returned (.tuple #[chAgg F1 (.slice a1 (R1 : List OpD).length c1), .int .i64 E1]) ∧ OwnOps w1 w.heap.size (.slice a1 R1.length c1) R1 ∧ OSized R1 ∧ (if E1 = 0 then pastR L F1 R1 else (E1, F1, R1)) = (E0, F0, R0) ∧ Below W.heap.size W w1 := by
    rcases he with ⟨h1, h2, h3⟩ | ⟨h1, u, h2, h3, h4⟩
    · refine ⟨_, _, [], none, 0, h2, ownOps_nil _ _, nil_sized, ?_, h3⟩
      rw [if_neg h1, ← hfin]
      unfold pastF
      rw [if_neg h1]
    · obtain ⟨a, c, rfl⟩ := h3.row.shape
      refine ⟨_, _, norm B, a, c, h2, h3.base BW.out.size, okc_sized7 (norm_ok ((toE_iff _ _).1 h1)).1, ?_, h4⟩
      rw [if_pos rfl, ← hfin]
      unfold pastF
      rw [if_pos h1]
  subst he1
  have B1 := Lib.hid (BW.out.trans (b1.mono BW.out.size))
  have HF1 := Lib.hid hF1
  have z0 := heap_up HR0.out.1 b1
  have z1 := heap_up HR0.out.2 b1
  obtain ⟨p0, p1, pl⟩ := box_at z0
  have g0 := (cells2 z0).2.2.1
  have g1 := (cells2 z0).2.2.2
  obtain ⟨q0, q1, ql⟩ := box_at z1
  obtain ⟨Y, hY, y0, y1, yk⟩ : ∃ Y, Y = (w1.setCell ⟨w.heap.size, 0, none⟩ (.int .i64 F1)).setCell ⟨w.heap.size, 1, none⟩ (.slice a1 R1.length c1) ∧ Y.heap[w.heap.size]? = some (.cells #[.int .i64 F1, .slice a1 R1.length c1] 24 (0, 0)) ∧ Y.heap[w.heap.size + 1]? = some (.cells #[.int .i64 0, .slice none 0 0] 24 (0, 0)) ∧ Keep w.heap.size [24] w1 Y := by
    obtain ⟨u1, u2, u3⟩ := agg_set (.int .i64 F1) (.slice a1 R1.length c1) z0
    exact ⟨_, rfl, u1, (u3 _ (by omega)).trans z1, u2⟩
  have HYE := Lib.hid hY
  have HYS := Lib.hid (And.intro y0 y1)
  have HO1 := Lib.hid (ho1.keep7 yk (by decide) (by decide))
  have HS1 := Lib.hid hs1
  have BY := Lib.hid (B1.out.trans yk.below)
  clear b1 he hfin hF1 z0 z1 hY y0 y1 yk ho1 hs1
  go_wp2_with fail
  rw [← HYE.out]
  go_loopw [6, 7] (fun ev iv wr => ∃ (k : Nat) (E F : Int) (R : List OpD) (ra : Option Addr) (rc : Nat), ev = .int .i64 E ∧ iv = .int .i64 (k : Int) ∧ k ≤ L.length ∧ wr.heap[w.heap.size]? = some (.cells #[.int .i64 F, .slice ra R.length rc] 24 (0, 0)) ∧ OwnOps wr w.heap.size (.slice ra R.length rc) R ∧ OSized R ∧
    (if E = 0 then pastR (L.drop k) F R else (E, F, R)) = (E0, F0, R0) ∧ wr.heap[w.heap.size + 1]? = some (.cells #[.int .i64 0, .slice none 0 0] 24 (0, 0)) ∧ Below w.heap.size w wr) (fun _ iv _ => L.length - (intOf iv).toNat)
  case atStart => exact ⟨0, E1, F1, R1, a1, c1, rfl, rfl, Nat.zero_le _, HYS.out.1, HO1.out, HS1.out, by rw [List.drop_zero]; exact HF1.out, HYS.out.2, BY.out⟩
  case round =>
    obtain ⟨k, E, F, R, ra, rc, rfl, rfl, hk, hbx, hrow, hsz, hfn, hres, hbel⟩ := hrel
    obtain ⟨x0, x1, xl⟩ := box_at hbx
    have f0 : wr.frozen? ⟨w.heap.size, 0, none⟩ = false := (cells2 hbx).2.2.1
    have f1 : wr.frozen? ⟨w.heap.size, 1, none⟩ = false := (cells2 hbx).2.2.2
    have HBX := Lib.hid hbx
    have HRW := Lib.hid hrow
    have HSZ := Lib.hid hsz
    have HRS := Lib.hid hres
    have HBL := Lib.hid hbel
    by_cases hkl : k < L.length
    · have c1 : (k : Int) < (L.length : Int) := by omega
      by_cases hE : E = 0
      · subst hE
        rw [if_pos rfl, List.drop_eq_getElem_cons hkl] at hfn
        have HFN := Lib.hid hfn
        obtain ⟨b, off, u, e1, hlt, y0, y1, yr⟩ := (HV.out.below HBL.out).at k hkl
        subst e1
        have hk0 : (0 : Int) ≤ (k : Int) := by omega
        have HY := Lib.hid yr
        obtain ⟨ua, uc, rfl⟩ := yr.shape
        have HZk := Lib.hid (HZ.out _ (List.getElem_mem hkl))
        have HC := Lib.hid (folO (fi := false) (f := L[k].1) (g := F) (w := wr.drew) (HY.out : OpRow wr _ _) HZk.out (HRW.out.row : OpRow wr _ R) HSZ.out)
        have HAL := Lib.hid (And.intro (pastR_ok (c := L[k]) (L := L.drop (k + 1)) (f := F) (R := R)) (pastR_bad (c := L[k]) (L := L.drop (k + 1)) (f := F) (R := R)))
        have HCS := Lib.hid (folR_sized false L[k].1 F L[k].2 R)
        have hcr : folE false L[k].1 F L[k].2 R ≠ 0 → folR false L[k].1 F L[k].2 R = [] := folR_bad
        have HCR := Lib.hid hcr
        generalize L[k] = ck at *
        obtain ⟨g, C⟩ := ck
        simp only at *
        generalize folE false g F C R = E2 at *
        generalize folR false g F C R = R2 at *
        generalize hTN : toN g C = TN at *
        obtain ⟨F2, hF2⟩ : ∃ F2, F2 = if E2 = 0 then TN else 0 := ⟨_, rfl⟩
        rw [← hF2] at HC
        have HF2 := Lib.hid hF2
        clear hF2 hTN
        generalize hL2 : List.drop (k + 1) L = L2 at *
        have HL2 := Lib.hid hL2
        clear hL2
        clear hfn hbx hrow hsz hres hbel hk hcr yr
        go_wp2_with fail
        go_region_with (first
          | (go_at_call 27; (with_reducible refine HC.out.mono ?_); rintro e w2 ⟨a2, c2, rfl, O2, b2⟩; have B2 := Lib.hid ((Below.refl wr.heap.size wr).drew.trans b2); have HO2 := Lib.hid O2; obtain ⟨x0', x1', xl'⟩ := box_at (heap_up HBX.out B2.out); have f0' : w2.frozen? ⟨w.heap.size, 0, none⟩ = false := (cells2 (heap_up HBX.out B2.out)).2.2.1; have f1' : w2.frozen? ⟨w.heap.size, 1, none⟩ = false := (cells2 (heap_up HBX.out B2.out)).2.2.2; clear O2 b2))
        all_goals
          (obtain ⟨q1, q2, q3⟩ := agg_set (.int .i64 F2) (.slice a2 R2.length c2) (heap_up HBX.out B2.out)
           have hs2 := q2.below.size
           have FIN : _ ∧ _ ∧ _ ∧ _ := ⟨q1, (HO2.out.base (Nat.le_trans HBL.out.size (Nat.le_refl _))).keep7 q2 (by decide) (by decide), (q3 _ (by omega)).trans (heap_up HRS.out B2.out), (HBL.out.trans (B2.out.mono HBL.out.size)).trans (q2.below.mono (by omega))⟩
           have HFIN := Lib.hid FIN
           clear q1 q2 q3 FIN x0 x1 xl x0' x1' f0' f1' y0 y1
           go_wp2_with fail
           go_roundw
           case rel =>
             refine ⟨k + 1, E2, F2, R2, a2, c2, rfl, by go_num, by omega, HFIN.out.1, HFIN.out.2.1, HCS.out, ?_, HFIN.out.2.2.1, HFIN.out.2.2.2⟩
             rw [HF2.out]
             by_cases h0 : E2 = 0
             · rw [if_pos h0, if_pos h0, HL2.out, ← HFN.out]
               exact (HAL.out.1 h0).symm
             · rw [if_neg h0, if_neg h0, ← HFN.out, HCR.out h0]
               exact (HAL.out.2 h0).symm
           case measure => simp [intOf]; omega)
      · have c2 := not_int hE
        rw [if_neg hE] at hfn
        have HFN := Lib.hid hfn
        obtain ⟨z0, z1, zl⟩ := box_at HRS.out
        have g0 : wr.frozen? ⟨w.heap.size + 1, 0, none⟩ = false := (cells2 HRS.out).2.2.1
        have g1 : wr.frozen? ⟨w.heap.size + 1, 1, none⟩ = false := (cells2 HRS.out).2.2.2
        clear hfn hbx hrow hsz hres hbel hk
        go_wp2_with fail
        obtain ⟨q1, q2, q3⟩ := agg_set (.int .i64 F) (.slice ra R.length rc) HRS.out
        refine bodyPost_ret (results_all rfl rfl rfl (cells2 q1).1 (cells2 q1).2.1) rfl ?_
        have hfn := HFN.out
        simp only [Prod.mk.injEq] at hfn
        obtain ⟨rfl, rfl, rfl⟩ := hfn
        exact ⟨ra, rc, rfl, HRW.out.keep7 q2 (by decide) (by decide), HBL.out.trans (q2.below.mono (by omega))⟩
    · have c1 : ¬ (k : Int) < (L.length : Int) := by omega
      have hfn' : (E, F, R) = (E0, F0, R0) := by
        rw [← hfn, List.drop_of_length_le (by omega)]
        split
        · rename_i h0
          rw [h0]; rfl
        · rfl
      have HFN := Lib.hid hfn'
      clear hfn'
      obtain ⟨z0, z1, zl⟩ := box_at HRS.out
      have g0 : wr.frozen? ⟨w.heap.size + 1, 0, none⟩ = false := (cells2 HRS.out).2.2.1
      have g1 : wr.frozen? ⟨w.heap.size + 1, 1, none⟩ = false := (cells2 HRS.out).2.2.2
      clear hfn hbx hrow hsz hres hbel hk
      go_wp2_with fail
      obtain ⟨q1, q2, q3⟩ := agg_set (.int .i64 F) (.slice ra R.length rc) HRS.out
      refine bodyPost_ret (results_all rfl rfl rfl (cells2 q1).1 (cells2 q1).2.1) rfl ?_
      have hfn := HFN.out
      simp only [Prod.mk.injEq] at hfn
      obtain ⟨rfl, rfl, rfl⟩ := hfn
      exact ⟨ra, rc, rfl, HRW.out.keep7 q2 (by decide) (by decide), HBL.out.trans (q2.below.mono (by omega))⟩
theorem pastH_eq {f F E : Int} {v vb : Value} {L : List (Int × List OpD)} {B R : List OpD} {w : World} (hv : ChsRow w v L) (hz : CsSized L) (hu : OpRow w vb B) (hy : OSized B) (h : pastF f B L = (E, F, R)) :
    Calls Try.prog 29 #[v, chAgg f vb] w (ChOwn w F E R) := by
  have := past_any v L f vb B w hv hz hu hy
  rwa [h] at this
end Go.Proofs.Ytlgpihboojgpmaa

/- The law FollowNothing, walked. -/
namespace Go.Proofs.Ytlgpihboojgpmaa
open Go.RowKit Rn Ch
open At hiding put
open Cp (atms FolF folN sizF)

theorem fol_nothl (fi : Bool) {f : Int} {A : List OpD} (h : toE f A = 0) : folE fi f f [] A = 0 ∧ folR fi f f [] A = norm A ∧ toN f [] = f := by
  obtain ⟨a1, a2, a3, a4, a5, a6, a7, a8⟩ := ok_lims h
  obtain ⟨n1, n2⟩ := toE_nil7 a1 a2
  have e : folN fi (norm []) (norm A) = norm A := by
    rw [norm_nil7, Cp.folN_nill fi _ (norm_sums a5 a6).1, a8]
  obtain ⟨hF, hn⟩ := folF_of n1 h
  have hs : sizF fi f (norm []) (norm A) = toN f A := by
    have h7 := (hF.all fi).2.2.2.2.2.2.1
    rw [e] at h7
    rw [← h7, norm_nil7]
    obtain ⟨m1, m2⟩ := norm_to h
    rw [← m2, toN_ok m1]
    simp [dl, Ch.ins]
  have h0 : folE fi f f [] A = 0 := by
    unfold folE
    rw [if_neg (by unfold nrmF; rw [if_neg (by rw [n1]; simp), if_neg (by rw [h]; simp), if_neg (by simp)]; simp), hs, if_neg (by omega), e, if_neg (by omega)]
  exact ⟨h0, by unfold folR; rw [if_pos h0, e], n2⟩
theorem fol_nothr (fi : Bool) {f : Int} {A : List OpD} (h : toE f A = 0) : folE fi f f A [] = 0 ∧ folR fi f f A [] = [] := by
  obtain ⟨a1, a2, a3, a4, a5, a6, a7, a8⟩ := ok_lims h
  obtain ⟨n1, n2⟩ := toE_nil7 a1 a2
  have e : folN fi (norm A) (norm []) = [] := by rw [norm_nil7, Cp.folN_nilr]
  obtain ⟨hF, hn⟩ := folF_of h n1
  have hs : sizF fi f (norm A) (norm []) = toN f A := by
    have h7 := (hF.all fi).2.2.2.2.2.2.1
    rw [e] at h7
    rw [← h7, hn]
    simp [dl, Ch.ins]
  have h0 : folE fi f f A [] = 0 := by
    unfold folE
    rw [if_neg (by unfold nrmF; rw [if_neg (by rw [h]; simp), if_neg (by rw [n1]; simp), if_neg (by simp)]; simp), hs, if_neg (by omega), e, if_neg (by simp)]
  exact ⟨h0, by unfold folR; rw [if_pos h0, e]⟩
theorem past_none {f : Int} {A : List OpD} (h : toE f A = 0) : pastF f A [] = (0, f, norm A) := by
  unfold pastF
  rw [if_pos h]; rfl
theorem chsRow_nil (w : World) : ChsRow w (.slice none 0 0) [] := ⟨none, 0, rfl, Nat.le_refl _, Nat.zero_le _, fun _i hi => absurd hi (Nat.not_lt_zero _)⟩
set_option maxRecDepth 100000 in
set_option maxHeartbeats 8000000 in
theorem fnoth_walk (f : Int) (va : Value) (A : List OpD) (fi : Bool) (w : World) (hva : OpRow w va A) (hza : OSized A) :
    Calls Try.prog 9 #[chAgg f va, .bool fi] w (OutB w true) := by
  obtain ⟨ua, ta, rfl⟩ := hva.shape
  obtain ⟨W, hW, ka, bW⟩ : ∃ W, W = (w.alloc (.cells #[.int .i64 f, .slice ua A.length ta] 24)) ∧ W.heap[w.heap.size]? = some (.cells #[.int .i64 f, .slice ua A.length ta] 24 (0, 0)) ∧ Below w.heap.size w W := ⟨_, rfl, heap_new _ _, below_box _ _⟩
  have Ra := Lib.hid (hva.below bW)
  have Za := Lib.hid hza
  have Ha := Lib.hid ka
  have Ja := Lib.hid (Below.refl W.heap.size W)
  have J0 := Lib.hid (Below.refl W.heap.size W)
  have BW := Lib.hid bW
  have HW := Lib.hid hW
  clear hva hza ka bW hW
  go_enter Try.func9, Try.ntmps9
  go_wp2_with fail
  rw [← HW.out]
  refine (awake7_any _).mono ?_
  rintro e y1 ⟨rfl, d1⟩
  have Ja := Lib.hid (Ja.out.trans (d1.mono Ja.out.size))
  have J0 := Lib.hid (J0.out.trans (d1.mono J0.out.size))
  obtain ⟨c0a, c1a, cla⟩ := box_at (heap_up Ha.out Ja.out)
  clear d1
  go_wp2_with fail
  refine (toH2 (Ra.out.below Ja.out) Za.out).mono ?_
  rintro e y2 ⟨rfl, d2⟩
  have Ja := Lib.hid (Ja.out.trans (d2.mono Ja.out.size))
  have J0 := Lib.hid (J0.out.trans (d2.mono J0.out.size))
  clear c0a c1a cla
  obtain ⟨c0a, c1a, cla⟩ := box_at (heap_up Ha.out Ja.out)
  clear d2
  go_wp2_with fail
  by_cases hE : toE f A = 0
  · obtain ⟨m0, m1, m2, m3, _⟩ := ok_lims hE
    have HL := Lib.hid (fol_nothl fi hE)
    have HR := Lib.hid (fol_nothr fi hE)
    have HA := Lib.hid (past_none hE)
    have HE := Lib.hid hE
    have HM := Lib.hid (And.intro m0 (And.intro m1 (And.intro m2 m3)))
    rw [hE]
    obtain ⟨n, hn⟩ : ∃ n, n = toN f A := ⟨_, rfl⟩
    rw [← hn] at HM ⊢
    have HTn := Lib.hid hn
    clear hE m0 m1 m2 m3 hn
    refine (normH (Ra.out.below Ja.out) Za.out HE.out).mono ?_
    rintro e y3 ⟨a3, n3, rfl, r3, d3⟩
    have Ja := Lib.hid (Ja.out.trans (d3.mono Ja.out.size))
    have J0 := Lib.hid (J0.out.trans (d3.mono J0.out.size))
    clear c0a c1a cla
    obtain ⟨c0a, c1a, cla⟩ := box_at (heap_up Ha.out Ja.out)
    obtain ⟨Xn, hX, x, bX⟩ : ∃ X, X = y3.alloc (.cells #[.int .i64 (f), .slice a3 (norm A).length n3] 24) ∧ X.heap[y3.heap.size]? = some (.cells #[.int .i64 (f), .slice a3 (norm A).length n3] 24 (0, 0)) ∧ Below y3.heap.size y3 X := ⟨_, rfl, heap_new _ _, below_box _ _⟩
    have En := Lib.hid hX
    have Hn := Lib.hid x
    have Rn := Lib.hid (show OpRow Xn (.slice a3 (norm A).length n3) (norm A) from r3.row.below bX)
    have Ja := Lib.hid (Ja.out.trans (bX.mono Ja.out.size))
    have J0 := Lib.hid (J0.out.trans (bX.mono J0.out.size))
    have Jn := Lib.hid (Below.refl Xn.heap.size Xn)
    clear d3 hX x bX r3
    go_wp2_with fail
    rw [← En.out]
    refine (nothH HM.out.1 HM.out.2.1).mono ?_
    rintro e y4 ⟨rfl, d4⟩
    have Ja := Lib.hid (Ja.out.trans (d4.mono Ja.out.size))
    have Jn := Lib.hid (Jn.out.trans (d4.mono Jn.out.size))
    have J0 := Lib.hid (J0.out.trans (d4.mono J0.out.size))
    clear c0a c1a cla
    obtain ⟨c0a, c1a, cla⟩ := box_at (heap_up Ha.out Ja.out)
    obtain ⟨c0n, c1n, cln⟩ := box_at (heap_up Hn.out Jn.out)
    obtain ⟨Xp, hX, x, bX⟩ : ∃ X, X = y4.alloc (.cells #[.int .i64 (f), .slice none 0 0] 24) ∧ X.heap[y4.heap.size]? = some (.cells #[.int .i64 (f), .slice none 0 0] 24 (0, 0)) ∧ Below y4.heap.size y4 X := ⟨_, rfl, heap_new _ _, below_box _ _⟩
    have Ep := Lib.hid hX
    have Hp := Lib.hid x
    have Rp := Lib.hid (show OpRow Xp (.slice none 0 0) ([]) from OpRow.nil _)
    have Ja := Lib.hid (Ja.out.trans (bX.mono Ja.out.size))
    have Jn := Lib.hid (Jn.out.trans (bX.mono Jn.out.size))
    have J0 := Lib.hid (J0.out.trans (bX.mono J0.out.size))
    have Jp := Lib.hid (Below.refl Xp.heap.size Xp)
    clear d4 hX x bX
    go_wp2_with fail
    rw [← Ep.out]
    refine (nothH HM.out.2.2.1 HM.out.2.2.2).mono ?_
    rintro e y5 ⟨rfl, d5⟩
    have Ja := Lib.hid (Ja.out.trans (d5.mono Ja.out.size))
    have Jn := Lib.hid (Jn.out.trans (d5.mono Jn.out.size))
    have Jp := Lib.hid (Jp.out.trans (d5.mono Jp.out.size))
    have J0 := Lib.hid (J0.out.trans (d5.mono J0.out.size))
    clear c0a c1a cla c0n c1n cln
    obtain ⟨c0a, c1a, cla⟩ := box_at (heap_up Ha.out Ja.out)
    obtain ⟨c0n, c1n, cln⟩ := box_at (heap_up Hn.out Jn.out)
    obtain ⟨c0p, c1p, clp⟩ := box_at (heap_up Hp.out Jp.out)
    obtain ⟨Xq, hX, x, bX⟩ : ∃ X, X = y5.alloc (.cells #[.int .i64 (n), .slice none 0 0] 24) ∧ X.heap[y5.heap.size]? = some (.cells #[.int .i64 (n), .slice none 0 0] 24 (0, 0)) ∧ Below y5.heap.size y5 X := ⟨_, rfl, heap_new _ _, below_box _ _⟩
    have Eq := Lib.hid hX
    have Hq := Lib.hid x
    have Rq := Lib.hid (show OpRow Xq (.slice none 0 0) ([]) from OpRow.nil _)
    have Ja := Lib.hid (Ja.out.trans (bX.mono Ja.out.size))
    have Jn := Lib.hid (Jn.out.trans (bX.mono Jn.out.size))
    have Jp := Lib.hid (Jp.out.trans (bX.mono Jp.out.size))
    have J0 := Lib.hid (J0.out.trans (bX.mono J0.out.size))
    have Jq := Lib.hid (Below.refl Xq.heap.size Xq)
    clear d5 hX x bX
    go_wp2_with fail
    rw [← Eq.out]
    refine (folH_okR (Rp.out.below Jp.out) nil_sized (Ra.out.below Ja.out) Za.out HL.out.1 HL.out.2.2 HL.out.2.1).mono ?_
    rintro e y6 ⟨a6, n6, rfl, r6, d6⟩
    have Ja := Lib.hid (Ja.out.trans (d6.mono Ja.out.size))
    have Jn := Lib.hid (Jn.out.trans (d6.mono Jn.out.size))
    have Jp := Lib.hid (Jp.out.trans (d6.mono Jp.out.size))
    have Jq := Lib.hid (Jq.out.trans (d6.mono Jq.out.size))
    have J0 := Lib.hid (J0.out.trans (d6.mono J0.out.size))
    clear c0a c1a cla c0n c1n cln c0p c1p clp
    obtain ⟨c0a, c1a, cla⟩ := box_at (heap_up Ha.out Ja.out)
    obtain ⟨c0n, c1n, cln⟩ := box_at (heap_up Hn.out Jn.out)
    obtain ⟨c0p, c1p, clp⟩ := box_at (heap_up Hp.out Jp.out)
    obtain ⟨c0q, c1q, clq⟩ := box_at (heap_up Hq.out Jq.out)
    obtain ⟨Xx, hX, x, bX⟩ : ∃ X, X = y6.alloc (.cells #[.int .i64 (f), .slice a6 (norm A).length n6] 24) ∧ X.heap[y6.heap.size]? = some (.cells #[.int .i64 (f), .slice a6 (norm A).length n6] 24 (0, 0)) ∧ Below y6.heap.size y6 X := ⟨_, rfl, heap_new _ _, below_box _ _⟩
    have Ex := Lib.hid hX
    have Hx := Lib.hid x
    have Rx := Lib.hid (show OpRow Xx (.slice a6 (norm A).length n6) (norm A) from r6.row.below bX)
    have Ja := Lib.hid (Ja.out.trans (bX.mono Ja.out.size))
    have Jn := Lib.hid (Jn.out.trans (bX.mono Jn.out.size))
    have Jp := Lib.hid (Jp.out.trans (bX.mono Jp.out.size))
    have Jq := Lib.hid (Jq.out.trans (bX.mono Jq.out.size))
    have J0 := Lib.hid (J0.out.trans (bX.mono J0.out.size))
    have Jx := Lib.hid (Below.refl Xx.heap.size Xx)
    clear d6 hX x bX r6
    go_wp2_with fail
    rw [← Ex.out]
    refine (folH_okR (Ra.out.below Ja.out) Za.out (Rp.out.below Jp.out) nil_sized HR.out.1 HTn.out.symm HR.out.2).mono ?_
    rintro e y7 ⟨a7, n7, rfl, r7, d7⟩
    have Ja := Lib.hid (Ja.out.trans (d7.mono Ja.out.size))
    have Jn := Lib.hid (Jn.out.trans (d7.mono Jn.out.size))
    have Jp := Lib.hid (Jp.out.trans (d7.mono Jp.out.size))
    have Jq := Lib.hid (Jq.out.trans (d7.mono Jq.out.size))
    have Jx := Lib.hid (Jx.out.trans (d7.mono Jx.out.size))
    have J0 := Lib.hid (J0.out.trans (d7.mono J0.out.size))
    clear c0a c1a cla c0n c1n cln c0p c1p clp c0q c1q clq
    obtain ⟨c0a, c1a, cla⟩ := box_at (heap_up Ha.out Ja.out)
    obtain ⟨c0n, c1n, cln⟩ := box_at (heap_up Hn.out Jn.out)
    obtain ⟨c0p, c1p, clp⟩ := box_at (heap_up Hp.out Jp.out)
    obtain ⟨c0q, c1q, clq⟩ := box_at (heap_up Hq.out Jq.out)
    obtain ⟨c0x, c1x, clx⟩ := box_at (heap_up Hx.out Jx.out)
    obtain ⟨Xy, hX, x, bX⟩ : ∃ X, X = y7.alloc (.cells #[.int .i64 (n), .slice a7 0 n7] 24) ∧ X.heap[y7.heap.size]? = some (.cells #[.int .i64 (n), .slice a7 0 n7] 24 (0, 0)) ∧ Below y7.heap.size y7 X := ⟨_, rfl, heap_new _ _, below_box _ _⟩
    have Ey := Lib.hid hX
    have Hy := Lib.hid x
    have Ry := Lib.hid (show OpRow Xy (.slice a7 0 n7) (([] : List OpD)) from r7.row.below bX)
    have Ja := Lib.hid (Ja.out.trans (bX.mono Ja.out.size))
    have Jn := Lib.hid (Jn.out.trans (bX.mono Jn.out.size))
    have Jp := Lib.hid (Jp.out.trans (bX.mono Jp.out.size))
    have Jq := Lib.hid (Jq.out.trans (bX.mono Jq.out.size))
    have Jx := Lib.hid (Jx.out.trans (bX.mono Jx.out.size))
    have J0 := Lib.hid (J0.out.trans (bX.mono J0.out.size))
    have Jy := Lib.hid (Below.refl Xy.heap.size Xy)
    clear d7 hX x bX r7
    go_wp2_with fail
    rw [← Ey.out]
    refine (pastH_eq (chsRow_nil _) (fun c hc => by cases hc) (Ra.out.below Ja.out) Za.out HA.out).mono ?_
    rintro e y8 ⟨a8, n8, rfl, r8, d8⟩
    have Ja := Lib.hid (Ja.out.trans (d8.mono Ja.out.size))
    have Jn := Lib.hid (Jn.out.trans (d8.mono Jn.out.size))
    have Jp := Lib.hid (Jp.out.trans (d8.mono Jp.out.size))
    have Jq := Lib.hid (Jq.out.trans (d8.mono Jq.out.size))
    have Jx := Lib.hid (Jx.out.trans (d8.mono Jx.out.size))
    have Jy := Lib.hid (Jy.out.trans (d8.mono Jy.out.size))
    have J0 := Lib.hid (J0.out.trans (d8.mono J0.out.size))
    clear c0a c1a cla c0n c1n cln c0p c1p clp c0q c1q clq c0x c1x clx
    obtain ⟨c0a, c1a, cla⟩ := box_at (heap_up Ha.out Ja.out)
    obtain ⟨c0n, c1n, cln⟩ := box_at (heap_up Hn.out Jn.out)
    obtain ⟨c0p, c1p, clp⟩ := box_at (heap_up Hp.out Jp.out)
    obtain ⟨c0q, c1q, clq⟩ := box_at (heap_up Hq.out Jq.out)
    obtain ⟨c0x, c1x, clx⟩ := box_at (heap_up Hx.out Jx.out)
    obtain ⟨c0y, c1y, cly⟩ := box_at (heap_up Hy.out Jy.out)
    obtain ⟨Xz, hX, x, bX⟩ : ∃ X, X = y8.alloc (.cells #[.int .i64 (f), .slice a8 (norm A).length n8] 24) ∧ X.heap[y8.heap.size]? = some (.cells #[.int .i64 (f), .slice a8 (norm A).length n8] 24 (0, 0)) ∧ Below y8.heap.size y8 X := ⟨_, rfl, heap_new _ _, below_box _ _⟩
    have Ez := Lib.hid hX
    have Hz := Lib.hid x
    have Rz := Lib.hid (show OpRow Xz (.slice a8 (norm A).length n8) (norm A) from r8.row.below bX)
    have Ja := Lib.hid (Ja.out.trans (bX.mono Ja.out.size))
    have Jn := Lib.hid (Jn.out.trans (bX.mono Jn.out.size))
    have Jp := Lib.hid (Jp.out.trans (bX.mono Jp.out.size))
    have Jq := Lib.hid (Jq.out.trans (bX.mono Jq.out.size))
    have Jx := Lib.hid (Jx.out.trans (bX.mono Jx.out.size))
    have Jy := Lib.hid (Jy.out.trans (bX.mono Jy.out.size))
    have J0 := Lib.hid (J0.out.trans (bX.mono J0.out.size))
    have Jz := Lib.hid (Below.refl Xz.heap.size Xz)
    clear d8 hX x bX r8
    go_wp2_with fail
    rw [← Ez.out]
    refine (sameH (Rx.out.below Jx.out) (Rn.out.below Jn.out)).mono ?_
    rintro e y9 ⟨rfl, d9⟩
    have Ja := Lib.hid (Ja.out.trans (d9.mono Ja.out.size))
    have Jn := Lib.hid (Jn.out.trans (d9.mono Jn.out.size))
    have Jp := Lib.hid (Jp.out.trans (d9.mono Jp.out.size))
    have Jq := Lib.hid (Jq.out.trans (d9.mono Jq.out.size))
    have Jx := Lib.hid (Jx.out.trans (d9.mono Jx.out.size))
    have Jy := Lib.hid (Jy.out.trans (d9.mono Jy.out.size))
    have Jz := Lib.hid (Jz.out.trans (d9.mono Jz.out.size))
    have J0 := Lib.hid (J0.out.trans (d9.mono J0.out.size))
    clear c0a c1a cla c0n c1n cln c0p c1p clp c0q c1q clq c0x c1x clx c0y c1y cly
    obtain ⟨c0a, c1a, cla⟩ := box_at (heap_up Ha.out Ja.out)
    obtain ⟨c0n, c1n, cln⟩ := box_at (heap_up Hn.out Jn.out)
    obtain ⟨c0p, c1p, clp⟩ := box_at (heap_up Hp.out Jp.out)
    obtain ⟨c0q, c1q, clq⟩ := box_at (heap_up Hq.out Jq.out)
    obtain ⟨c0x, c1x, clx⟩ := box_at (heap_up Hx.out Jx.out)
    obtain ⟨c0y, c1y, cly⟩ := box_at (heap_up Hy.out Jy.out)
    obtain ⟨c0z, c1z, clz⟩ := box_at (heap_up Hz.out Jz.out)
    clear d9
    go_wp2_with fail
    refine (sameH (Ry.out.below Jy.out) (Rq.out.below Jq.out)).mono ?_
    rintro e y10 ⟨rfl, d10⟩
    have Ja := Lib.hid (Ja.out.trans (d10.mono Ja.out.size))
    have Jn := Lib.hid (Jn.out.trans (d10.mono Jn.out.size))
    have Jp := Lib.hid (Jp.out.trans (d10.mono Jp.out.size))
    have Jq := Lib.hid (Jq.out.trans (d10.mono Jq.out.size))
    have Jx := Lib.hid (Jx.out.trans (d10.mono Jx.out.size))
    have Jy := Lib.hid (Jy.out.trans (d10.mono Jy.out.size))
    have Jz := Lib.hid (Jz.out.trans (d10.mono Jz.out.size))
    have J0 := Lib.hid (J0.out.trans (d10.mono J0.out.size))
    clear c0a c1a cla c0n c1n cln c0p c1p clp c0q c1q clq c0x c1x clx c0y c1y cly c0z c1z clz
    obtain ⟨c0a, c1a, cla⟩ := box_at (heap_up Ha.out Ja.out)
    obtain ⟨c0n, c1n, cln⟩ := box_at (heap_up Hn.out Jn.out)
    obtain ⟨c0p, c1p, clp⟩ := box_at (heap_up Hp.out Jp.out)
    obtain ⟨c0q, c1q, clq⟩ := box_at (heap_up Hq.out Jq.out)
    obtain ⟨c0x, c1x, clx⟩ := box_at (heap_up Hx.out Jx.out)
    obtain ⟨c0y, c1y, cly⟩ := box_at (heap_up Hy.out Jy.out)
    obtain ⟨c0z, c1z, clz⟩ := box_at (heap_up Hz.out Jz.out)
    clear d10
    go_wp2_with fail
    refine (sameH (Rz.out.below Jz.out) (Rn.out.below Jn.out)).mono ?_
    rintro e y11 ⟨rfl, d11⟩
    have Ja := Lib.hid (Ja.out.trans (d11.mono Ja.out.size))
    have Jn := Lib.hid (Jn.out.trans (d11.mono Jn.out.size))
    have Jp := Lib.hid (Jp.out.trans (d11.mono Jp.out.size))
    have Jq := Lib.hid (Jq.out.trans (d11.mono Jq.out.size))
    have Jx := Lib.hid (Jx.out.trans (d11.mono Jx.out.size))
    have Jy := Lib.hid (Jy.out.trans (d11.mono Jy.out.size))
    have Jz := Lib.hid (Jz.out.trans (d11.mono Jz.out.size))
    have J0 := Lib.hid (J0.out.trans (d11.mono J0.out.size))
    clear c0a c1a cla c0n c1n cln c0p c1p clp c0q c1q clq c0x c1x clx c0y c1y cly c0z c1z clz
    obtain ⟨c0a, c1a, cla⟩ := box_at (heap_up Ha.out Ja.out)
    obtain ⟨c0n, c1n, cln⟩ := box_at (heap_up Hn.out Jn.out)
    obtain ⟨c0p, c1p, clp⟩ := box_at (heap_up Hp.out Jp.out)
    obtain ⟨c0q, c1q, clq⟩ := box_at (heap_up Hq.out Jq.out)
    obtain ⟨c0x, c1x, clx⟩ := box_at (heap_up Hx.out Jx.out)
    obtain ⟨c0y, c1y, cly⟩ := box_at (heap_up Hy.out Jy.out)
    obtain ⟨c0z, c1z, clz⟩ := box_at (heap_up Hz.out Jz.out)
    clear d11
    have BF := BW.out.trans (J0.out.mono BW.out.size)
    have BG := Lib.hid BF
    clear BF
    go_wp2_with fail
    go_ret
    exact ⟨rfl, BG.out⟩
  · have HE := Lib.hid hE
    have tb : (toE f A != 0) = true := by rw [bne_iff_ne]; exact hE
    have tr : (toE f A == toE f A) = true := by simp
    clear hE
    refine (normH_bad (Ra.out.below Ja.out) Za.out HE.out).mono ?_
    rintro e y3 ⟨rfl, d3⟩
    have Ja := Lib.hid (Ja.out.trans (d3.mono Ja.out.size))
    have J0 := Lib.hid (J0.out.trans (d3.mono J0.out.size))
    clear c0a c1a cla
    obtain ⟨c0a, c1a, cla⟩ := box_at (heap_up Ha.out Ja.out)
    clear d3
    generalize toE f A = E at *
    have BF := BW.out.trans (J0.out.mono BW.out.size)
    have BG := Lib.hid BF
    clear BF
    go_wp2_with fail
    go_ret
    exact ⟨rfl, BG.out.alloc BG.out.size _⟩
end Go.Proofs.Ytlgpihboojgpmaa
