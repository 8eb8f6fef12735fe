/- Texts of this seat, put together: Ld, Le. -/
import Derived.Test.YtlgpihboojgpmaaGM7
import Derived.StillTailTactics
/- The program's All: one for many. -/
namespace Go.Proofs.Ytlgpihboojgpmaa
open Go.RowKit Rn Ch
open At hiding put
open Cp (atms)

/-- A row of changesets. -/
def ChsRow (w : World) (v : Value) (L : List (Int × List OpD)) : Prop :=
  ∃ a cap, v = .slice a L.length cap ∧ L.length ≤ cap ∧ cap ≤ maxLen ∧ ∀ i (h : i < L.length), ∃ b off u, a = some ⟨b, off, none⟩ ∧ b < w.heap.size ∧ w.cell? ⟨b, off + i * 2, none⟩ = some (.int .i64 L[i].1) ∧ w.cell? ⟨b, off + i * 2 + 1, none⟩ = some u ∧ OpRow w u L[i].2
theorem ChsRow.below {w w' : World} {v : Value} {L : List (Int × List OpD)} (h : ChsRow w v L) (hb : Below w.heap.size w w') : ChsRow w' v L := by
  obtain ⟨a, c, h0, h1, h2, h3⟩ := h
  refine ⟨a, c, h0, h1, h2, fun i hi => ?_⟩
  obtain ⟨b, off, u, e, hl, x0, x1, x2⟩ := h3 i hi
  exact ⟨b, off, u, e, Nat.lt_of_lt_of_le hl hb.size, (hb.cell (by exact hl)).trans x0, (hb.cell (by exact hl)).trans x1, x2.below hb⟩
theorem ChsRow.at {w : World} {a : Option Addr} {n c : Nat} {L : List (Int × List OpD)} (h : ChsRow w (.slice a n c) L) (k : Nat) (hk : k < L.length) :
    ∃ b off u, a = some ⟨b, off, none⟩ ∧ b < w.heap.size ∧ w.cell? ⟨b, off + k * 2, none⟩ = some (.int .i64 L[k].1) ∧ w.cell? ⟨b, off + k * 2 + 1, none⟩ = some u ∧ OpRow w u L[k].2 := by
  obtain ⟨a', c', h0, _, _, h3⟩ := h
  injection h0 with e1 _ _
  subst e1
  exact h3 k hk
def CsSized (L : List (Int × List OpD)) : Prop := ∀ c ∈ L, OSized c.2
/-- One for many: the error, the From, the operations. -/
noncomputable def allR : List (Int × List OpD) → Int → List OpD → Int × Int × List OpD
  | [], f, R => (0, f, R)
  | c :: L, f, R => if cmpE f c.1 R c.2 = 0 then allR L f (cmpR f c.1 R c.2) else (cmpE f c.1 R c.2, 0, [])
theorem allR_ok {c : Int × List OpD} {L : List (Int × List OpD)} {f : Int} {R : List OpD} (h : cmpE f c.1 R c.2 = 0) : allR (c :: L) f R = allR L f (cmpR f c.1 R c.2) := by rw [allR, if_pos h]
theorem allR_bad {c : Int × List OpD} {L : List (Int × List OpD)} {f : Int} {R : List OpD} (h : cmpE f c.1 R c.2 ≠ 0) : allR (c :: L) f R = (cmpE f c.1 R c.2, 0, []) := by rw [allR, if_neg h]
noncomputable def allF (n : Int) (L : List (Int × List OpD)) : Int × Int × List OpD := if n < 0 ∨ 20000 < n then (31, 0, []) else allR L n []
theorem cmpR_sized (f g : Int) (A C : List OpD) : OSized (cmpR f g A C) := by
  by_cases h : cmpE f g A C = 0
  · exact (cmpR_ok h).sized
  · unfold cmpR
    rw [if_neg h]
    exact nil_sized
theorem results_all {fn : Func} {i j : Nat} (h : fn.results = #[.cell i 24, .tmp j]) {tmps : Array Value} {w : World} {b4 : Nat} {v x y : Value} (h4 : tmps.getD i undef = .pointer (some ⟨b4, 0, none⟩)) (h5 : tmps.getD j undef = v)
    (z4 : w.cell? ⟨b4, 0, none⟩ = some x) (z5 : w.cell? ⟨b4, 1, none⟩ = some y) : (results fn tmps).run Try.prog w = .ok (.tuple #[.agg #[x, y], v]) w := by
  rw [Array.getD_eq_getD_getElem?] at h4 h5
  simp [results, h, h4, h5, go_sem, z4, z5]
theorem not_int {E : Int} (h : ¬ E = 0) : (E == 0) = false := by rw [beq_eq_false_iff_ne]; exact h
set_option maxRecDepth 100000 in
set_option maxHeartbeats 4000000 in
theorem all_any (n : Int) (v : Value) (L : List (Int × List OpD)) (w : World) (hv : ChsRow w v L) (hz : CsSized L) :
    Calls Try.prog 19 #[.int .i64 n, v] w (ChOwn w (allF n L).2.1 (allF n L).1 (allF n L).2.2) := by
  obtain ⟨E0, F0, R0, hfin⟩ : ∃ E0 F0 R0, allF n L = (E0, F0, R0) := ⟨_, _, _, rfl⟩
  rw [hfin]
  have HV := Lib.hid hv
  have HZ := Lib.hid hz
  obtain ⟨la, lc, rfl, l1, l2, _⟩ := hv
  obtain ⟨W, hW, r0, bW⟩ : ∃ W, W = w.alloc (.cells #[.int .i64 0, .slice none 0 0] 24) ∧ W.heap[w.heap.size]? = some (.cells #[.int .i64 0, .slice none 0 0] 24 (0, 0)) ∧ Below w.heap.size w W := ⟨_, rfl, heap_new _ _, below_box _ _⟩
  have HW := Lib.hid hW
  have HR0 := Lib.hid r0
  have BW := Lib.hid bW
  have hL : L.length ≤ 9223372036854775807 := Nat.le_trans l1 l2
  clear hW r0 bW hz l1 l2
  go_enter Try.func19, Try.ntmps19
  go_wp2_with fail
  rw [← HW.out]
  refine (nothing_any n W).mono ?_
  rintro e w1 ⟨he, b1⟩
  obtain ⟨E1, F1, hE1, hF1⟩ : ∃ E1 F1, e = .returned (.tuple #[chAgg F1 (.slice none 0 0), .int .i64 E1]) ∧ (if E1 = 0 then allR L F1 [] else (E1, F1, [])) = (E0, F0, R0) := by
    rcases he with ⟨h1, h2⟩ | ⟨h1, h2⟩
    · refine ⟨31, 0, h2, ?_⟩
      rw [if_neg (by decide), ← hfin]
      unfold allF
      rw [if_pos h1]
    · refine ⟨0, n, h2, ?_⟩
      rw [if_pos rfl, ← hfin]
      unfold allF
      rw [if_neg (by omega)]
  subst hE1
  have B1 := Lib.hid (BW.out.trans (b1.mono BW.out.size))
  have HF1 := Lib.hid hF1
  have R1 := Lib.hid (heap_up HR0.out b1)
  have s1 : w.heap.size < w1.heap.size := lt_of_heap R1.out
  clear b1 he hfin hF1
  go_wp2_with fail
  go_loopw [7, 8] (fun ev iv wr => ∃ (k : Nat) (E F : Int) (R : List OpD) (ra : Option Addr) (rc : Nat), ev = .int .i64 E ∧ iv = .int .i64 (k : Int) ∧ k ≤ L.length ∧ wr.heap[w1.heap.size]? = some (.cells #[.int .i64 F, .slice ra R.length rc] 24 (0, 0)) ∧ OwnOps wr w.heap.size (.slice ra R.length rc) R ∧ OSized R ∧
    (if E = 0 then allR (L.drop k) F R else (E, F, R)) = (E0, F0, R0) ∧ wr.heap[w.heap.size]? = some (.cells #[.int .i64 0, .slice none 0 0] 24 (0, 0)) ∧ Below w.heap.size w wr) (fun _ iv _ => L.length - (intOf iv).toNat)
  case atStart => exact ⟨0, E1, F1, [], none, 0, rfl, rfl, Nat.zero_le _, heap_new _ _, ownOps_nil _ _, nil_sized, by rw [List.drop_zero]; exact HF1.out, heap_up R1.out (below_box _ _), B1.out.alloc B1.out.size _⟩
  case round =>
    obtain ⟨k, E, F, R, ra, rc, rfl, rfl, hk, hbx, hrow, hsz, hfn, hres, hbel⟩ := hrel
    obtain ⟨x0, x1, xl⟩ := box_at hbx
    have f0 : wr.frozen? ⟨w1.heap.size, 0, none⟩ = false := (cells2 hbx).2.2.1
    have f1 : wr.frozen? ⟨w1.heap.size, 1, none⟩ = false := (cells2 hbx).2.2.2
    have HBX := Lib.hid hbx
    have HRW := Lib.hid hrow
    have HSZ := Lib.hid hsz
    have HRS := Lib.hid hres
    have HBL := Lib.hid hbel
    by_cases hkl : k < L.length
    · have c1 : (k : Int) < (L.length : Int) := by omega
      by_cases hE : E = 0
      · subst hE
        rw [if_pos rfl, List.drop_eq_getElem_cons hkl] at hfn
        have HFN := Lib.hid hfn
        obtain ⟨b, off, u, e1, hlt, y0, y1, yr⟩ := (HV.out.below HBL.out).at k hkl
        subst e1
        have hk0 : (0 : Int) ≤ (k : Int) := by omega
        have HY := Lib.hid yr
        obtain ⟨ua, uc, rfl⟩ := yr.shape
        have HZk := Lib.hid (HZ.out _ (List.getElem_mem hkl))
        have HC := Lib.hid (cmpO (f := F) (g := L[k].1) (w := wr.drew) (HRW.out.row : OpRow wr _ R) HSZ.out (HY.out : OpRow wr _ _) HZk.out)
        have HAL := Lib.hid (And.intro (allR_ok (c := L[k]) (L := L.drop (k + 1)) (f := F) (R := R)) (allR_bad (c := L[k]) (L := L.drop (k + 1)) (f := F) (R := R)))
        have HCS := Lib.hid (cmpR_sized F L[k].1 R L[k].2)
        have hcr : cmpE F L[k].1 R L[k].2 ≠ 0 → cmpR F L[k].1 R L[k].2 = [] := fun h => by unfold cmpR; rw [if_neg h]
        have HCR := Lib.hid hcr
        generalize L[k] = ck at *
        obtain ⟨g, C⟩ := ck
        simp only at *
        generalize cmpE F g R C = E2 at *
        generalize cmpR F g R C = R2 at *
        obtain ⟨F2, hF2⟩ : ∃ F2, F2 = if E2 = 0 then F else 0 := ⟨_, rfl⟩
        rw [← hF2] at HC
        have HF2 := Lib.hid hF2
        clear hF2
        generalize hL2 : List.drop (k + 1) L = L2 at *
        have HL2 := Lib.hid hL2
        clear hL2
        clear hfn hbx hrow hsz hres hbel hk hcr yr
        go_wp2_with fail
        go_region_with (first
          | (go_at_call 14; (with_reducible refine HC.out.mono ?_); rintro e w2 ⟨a2, c2, rfl, O2, b2⟩; have B2 := Lib.hid ((Below.refl wr.heap.size wr).drew.trans b2); have HO2 := Lib.hid O2; obtain ⟨x0', x1', xl'⟩ := box_at (heap_up HBX.out B2.out); have f0' : w2.frozen? ⟨w1.heap.size, 0, none⟩ = false := (cells2 (heap_up HBX.out B2.out)).2.2.1; have f1' : w2.frozen? ⟨w1.heap.size, 1, none⟩ = false := (cells2 (heap_up HBX.out B2.out)).2.2.2; clear O2 b2))
        all_goals
          (obtain ⟨q1, q2, q3⟩ := agg_set (.int .i64 F2) (.slice a2 R2.length c2) (heap_up HBX.out B2.out)
           have hs2 := q2.below.size
           have FIN : _ ∧ _ ∧ _ ∧ _ := ⟨q1, (HO2.out.base (Nat.le_trans HBL.out.size (Nat.le_refl _))).keep7 q2 (by decide) (by decide), (q3 _ (by omega)).trans (heap_up HRS.out B2.out), (HBL.out.trans (B2.out.mono HBL.out.size)).trans (q2.below.mono (by omega))⟩
           have HFIN := Lib.hid FIN
           clear q1 q2 q3 FIN x0 x1 xl x0' x1' f0' f1' y0 y1
           go_wp2_with fail
           go_roundw
           case rel =>
             refine ⟨k + 1, E2, F2, R2, a2, c2, rfl, by go_num, by omega, HFIN.out.1, HFIN.out.2.1, HCS.out, ?_, HFIN.out.2.2.1, HFIN.out.2.2.2⟩
             rw [HF2.out]
             by_cases h0 : E2 = 0
             · rw [if_pos h0, if_pos h0, HL2.out, ← HFN.out]
               exact (HAL.out.1 h0).symm
             · rw [if_neg h0, if_neg h0, ← HFN.out, HCR.out h0]
               exact (HAL.out.2 h0).symm
           case measure => simp [intOf]; omega)
      · have c2 := not_int hE
        rw [if_neg hE] at hfn
        have HFN := Lib.hid hfn
        obtain ⟨z0, z1, zl⟩ := box_at HRS.out
        have g0 : wr.frozen? ⟨w.heap.size, 0, none⟩ = false := (cells2 HRS.out).2.2.1
        have g1 : wr.frozen? ⟨w.heap.size, 1, none⟩ = false := (cells2 HRS.out).2.2.2
        clear hfn hbx hrow hsz hres hbel hk
        go_wp2_with fail
        obtain ⟨q1, q2, q3⟩ := agg_set (.int .i64 F) (.slice ra R.length rc) HRS.out
        refine bodyPost_ret (results_all rfl rfl rfl (cells2 q1).1 (cells2 q1).2.1) rfl ?_
        have hfn := HFN.out
        simp only [Prod.mk.injEq] at hfn
        obtain ⟨rfl, rfl, rfl⟩ := hfn
        exact ⟨ra, rc, rfl, HRW.out.keep7 q2 (by decide) (by decide), HBL.out.trans q2.below⟩
    · have c1 : ¬ (k : Int) < (L.length : Int) := by omega
      have hfn' : (E, F, R) = (E0, F0, R0) := by
        rw [← hfn, List.drop_of_length_le (by omega)]
        split
        · rename_i h0
          rw [h0]; rfl
        · rfl
      have HFN := Lib.hid hfn'
      clear hfn'
      obtain ⟨z0, z1, zl⟩ := box_at HRS.out
      have g0 : wr.frozen? ⟨w.heap.size, 0, none⟩ = false := (cells2 HRS.out).2.2.1
      have g1 : wr.frozen? ⟨w.heap.size, 1, none⟩ = false := (cells2 HRS.out).2.2.2
      clear hfn hbx hrow hsz hres hbel hk
      go_wp2_with fail
      obtain ⟨q1, q2, q3⟩ := agg_set (.int .i64 F) (.slice ra R.length rc) HRS.out
      refine bodyPost_ret (results_all rfl rfl rfl (cells2 q1).1 (cells2 q1).2.1) rfl ?_
      have hfn := HFN.out
      simp only [Prod.mk.injEq] at hfn
      obtain ⟨rfl, rfl, rfl⟩ := hfn
      exact ⟨ra, rc, rfl, HRW.out.keep7 q2 (by decide) (by decide), HBL.out.trans q2.below⟩
end Go.Proofs.Ytlgpihboojgpmaa

/- The law ComposeNothing, walked. -/
namespace Go.Proofs.Ytlgpihboojgpmaa
open Go.RowKit Rn Ch
open At hiding put
open Cp (atms)

theorem toE_nil7 {n : Int} (h0 : 0 ≤ n) (h1 : n ≤ 20000) : toE n [] = 0 ∧ toN n [] = n := by
  have h : toE n [] = 0 := (toE_iff _ _).2 ⟨h0, h1, by simp, fun o ho => (by cases ho), h0, by simpa [dl, ins] using h1⟩
  exact ⟨h, by rw [toN_ok h]; simp [dl, ins]⟩
theorem norm_nil7 : norm [] = [] := rfl
theorem ok_lims {f : Int} {A : List OpD} (h : toE f A = 0) : 0 ≤ f ∧ f ≤ 20000 ∧ 0 ≤ toN f A ∧ toN f A ≤ 20000 ∧ allE A ∧ Ch.ins A ≤ 20000 ∧ (norm A).length ≤ 2000 ∧ norm (norm A) = norm A := by
  have ho := (toE_iff f A).1 h
  obtain ⟨hn, _, _⟩ := norm_ok ho
  obtain ⟨a1, a2, a3, a4, a5, a6⟩ := ho
  have hd : dl A ≤ kd A := by
    obtain ⟨s1, s2, _⟩ := Cp.sums_atms a4
    have key : ∀ X : List Cp.Atm, Cp.dA X ≤ Cp.kA X := by
      intro X
      induction X with
      | nil => exact Nat.le_refl _
      | cons x r ih => cases x <;> simp only [Cp.dA, Cp.kA] <;> omega
    have := key (atms A)
    omega
  have hi : 0 ≤ Ch.ins A := ins_nonneg A
  rw [toN_ok h]
  exact ⟨a1, a2, by omega, a6, a4, by omega, hn.2.2.1, norm_once a4 (by omega)⟩
theorem cmp_nothl {f : Int} {A : List OpD} (h : toE f A = 0) : cmpE f f [] A = 0 ∧ cmpR f f [] A = norm A := by
  obtain ⟨a1, a2, _, _, a5, a6, a7, a8⟩ := ok_lims h
  obtain ⟨n1, n2⟩ := toE_nil7 a1 a2
  have e : Cp.cmpN (norm []) (norm A) = norm A := by
    rw [norm_nil7, Cp.cmpN_nill _ (norm_sums a5 a6).1, a8]
  have h0 : cmpE f f [] A = 0 := by
    rw [cmpE_fit (nrmE_mk n1 h n2) (Cp.fit_nil _), e, if_neg (by omega)]
  exact ⟨h0, by unfold cmpR; rw [if_pos h0, e]⟩
theorem cmp_nothr {f : Int} {A : List OpD} (h : toE f A = 0) : cmpE f (toN f A) A [] = 0 ∧ cmpR f (toN f A) A [] = norm A := by
  obtain ⟨_, _, a3, a4, a5, a6, a7, a8⟩ := ok_lims h
  obtain ⟨n1, n2⟩ := toE_nil7 a3 a4
  have e : Cp.cmpN (norm A) (norm []) = norm A := by
    rw [norm_nil7, Cp.cmpN_nilr _ (norm_sums a5 a6).1, a8]
  have h0 : cmpE f (toN f A) A [] = 0 := by
    rw [cmpE_fit (nrmE_mk h n1 rfl) (Cp.fit_nilr _), e, if_neg (by omega)]
  exact ⟨h0, by unfold cmpR; rw [if_pos h0, e]⟩
theorem cmpE_first {f g : Int} {A C : List OpD} (h : toE f A ≠ 0) : cmpE f g A C = toE f A := by
  unfold cmpE nrmE
  rw [if_pos h, if_pos h]
theorem allF_one {f : Int} {A : List OpD} (h : toE f A = 0) : allF f [(f, A)] = (0, f, norm A) := by
  obtain ⟨a1, a2, _⟩ := ok_lims h
  obtain ⟨c1, c2⟩ := cmp_nothl h
  unfold allF
  rw [if_neg (by omega), allR_ok c1]
  show (0, f, cmpR f f [] A) = _
  rw [c2]
theorem sameH {f : Int} {v u : Value} {l : List OpD} {w : World} (hv : OpRow w v l) (hu : OpRow w u l) : Calls Try.prog 24 #[chAgg f v, chAgg f u] w (OutB w true) := by
  have := changeSame_any f f v u l l w hv hu
  rwa [show sameCh f f l l = true from decide_eq_true ⟨rfl, rfl⟩] at this
theorem nothH {n : Int} {w : World} (h0 : 0 ≤ n) (h1 : n ≤ 20000) : Calls Try.prog 23 #[.int .i64 n] w fun e w' => e = .returned (.tuple #[chAgg n (.slice none 0 0), .int .i64 0]) ∧ Below w.heap.size w w' :=
  (nothing_any n w).mono fun e w' ⟨h, hb⟩ => by
    rcases h with ⟨h, _⟩ | ⟨_, h⟩
    · omega
    · exact ⟨h, hb⟩
theorem normH {f : Int} {v : Value} {ops : List OpD} {w : World} (hv : OpRow w v ops) (hz : OSized ops) (he : toE f ops = 0) :
    Calls Try.prog 22 #[chAgg f v] w (ChOwn w f 0 (norm ops)) :=
  (normal_ok f v ops w hv hz he).mono fun e w' ⟨u, h1, h2, h3⟩ => by
    obtain ⟨a, c, rfl⟩ := h2.row.shape
    exact ⟨a, c, h1, h2, h3⟩
theorem toH2 {f : Int} {v : Value} {ops : List OpD} {w : World} (hv : OpRow w v ops) (hz : OSized ops) :
    Calls Try.prog 21 #[chAgg f v] w fun e w' => e = .returned (.tuple #[.int .i64 (toN f ops), .int .i64 (toE f ops)]) ∧ Below w.heap.size w w' :=
  (to_any f v ops w hv hz).mono fun _e _w' ⟨h1, h2⟩ => ⟨h1, h2⟩
/-- A row of one changeset, made. -/
theorem chsRow_one {w : World} {f : Int} {u : Value} {A : List OpD} (h : OpRow w u A) : ChsRow (w.alloc (.cells #[.int .i64 f, u] 24)) (.slice (some ⟨w.heap.size, 0, none⟩) 1 1) [(f, A)] := by
  refine ⟨some ⟨w.heap.size, 0, none⟩, 1, rfl, Nat.le_refl _, by decide, fun i hi => ?_⟩
  obtain rfl : i = 0 := by simp at hi; exact hi
  obtain ⟨c0, c1, cl⟩ := box_at (heap_new w (.cells #[.int .i64 f, u] 24))
  exact ⟨w.heap.size, 0, u, rfl, cl, c0, c1, h.below (below_box _ _)⟩
theorem cmpH_okR {f g : Int} {va vb : Value} {A C R : List OpD} {w : World} (hv : OpRow w va A) (hz : OSized A) (hu : OpRow w vb C) (hy : OSized C) (h : cmpE f g A C = 0) (hr : cmpR f g A C = R) :
    Calls Try.prog 14 #[chAgg f va, chAgg g vb] w (ChHas w f 0 R) := by
  rw [← hr]
  exact cmpH_ok hv hz hu hy h
theorem cmpH_badE {f g E : Int} {va vb : Value} {A C : List OpD} {w : World} (hv : OpRow w va A) (hz : OSized A) (hu : OpRow w vb C) (hy : OSized C) (h : cmpE f g A C ≠ 0) (he : cmpE f g A C = E) :
    Calls Try.prog 14 #[chAgg f va, chAgg g vb] w (ChHas w 0 E []) := by
  rw [← he]
  exact cmpH_bad hv hz hu hy h
theorem allH_ok {n F : Int} {v : Value} {L : List (Int × List OpD)} {R : List OpD} {w : World} (hv : ChsRow w v L) (hz : CsSized L) (h : allF n L = (0, F, R)) :
    Calls Try.prog 19 #[.int .i64 n, v] w (ChOwn w F 0 R) := by
  have := all_any n v L w hv hz
  rwa [h] at this
theorem normH_bad {f : Int} {v : Value} {ops : List OpD} {w : World} (hv : OpRow w v ops) (hz : OSized ops) (he : toE f ops ≠ 0) :
    Calls Try.prog 22 #[chAgg f v] w fun e w' => e = .returned (.tuple #[chAgg 0 (.slice none 0 0), .int .i64 (toE f ops)]) ∧ Below w.heap.size w w' := normal_bad f v ops w hv hz he
theorem box3 (w : World) (o1 o2 o3 : Obj) : (((w.alloc o1).alloc o2).alloc o3).heap[w.heap.size]? = some o1 ∧ (((w.alloc o1).alloc o2).alloc o3).heap[w.heap.size + 1]? = some o2 ∧ (((w.alloc o1).alloc o2).alloc o3).heap[w.heap.size + 1 + 1]? = some o3 ∧ Below w.heap.size w (((w.alloc o1).alloc o2).alloc o3) := by
  obtain ⟨h1, h2, h3⟩ := box2 w o1 o2
  have := heap_new ((w.alloc o1).alloc o2) o3
  rw [World.size_alloc, World.size_alloc] at this
  exact ⟨heap_up h1 (below_box _ _), heap_up h2 (below_box _ _), this, h3.alloc (by simp; omega) _⟩
set_option maxRecDepth 100000 in
set_option maxHeartbeats 8000000 in
theorem cnoth_walk (f : Int) (va : Value) (A : List OpD) (w : World) (hva : OpRow w va A) (hza : OSized A) :
    Calls Try.prog 4 #[chAgg f va] w (OutB w true) := by
  obtain ⟨ua, ta, rfl⟩ := hva.shape
  obtain ⟨W, hW, ka, bW⟩ : ∃ W, W = (w.alloc (.cells #[.int .i64 f, .slice ua A.length ta] 24)) ∧ W.heap[w.heap.size]? = some (.cells #[.int .i64 f, .slice ua A.length ta] 24 (0, 0)) ∧ Below w.heap.size w W := ⟨_, rfl, heap_new _ _, below_box _ _⟩
  have Ra := Lib.hid (hva.below bW)
  have Za := Lib.hid hza
  have Ha := Lib.hid ka
  have Ja := Lib.hid (Below.refl W.heap.size W)
  have J0 := Lib.hid (Below.refl W.heap.size W)
  have BW := Lib.hid bW
  have HW := Lib.hid hW
  clear hva hza ka bW hW
  go_enter Try.func4, Try.ntmps4
  go_wp2_with fail
  rw [← HW.out]
  refine (awake6_any _).mono ?_
  rintro e y1 ⟨rfl, d1⟩
  have Ja := Lib.hid (Ja.out.trans (d1.mono Ja.out.size))
  have J0 := Lib.hid (J0.out.trans (d1.mono J0.out.size))
  obtain ⟨c0a, c1a, cla⟩ := box_at (heap_up Ha.out Ja.out)
  clear d1
  go_wp2_with fail
  refine (toH2 (Ra.out.below Ja.out) Za.out).mono ?_
  rintro e y2 ⟨rfl, d2⟩
  have Ja := Lib.hid (Ja.out.trans (d2.mono Ja.out.size))
  have J0 := Lib.hid (J0.out.trans (d2.mono J0.out.size))
  clear c0a c1a cla
  obtain ⟨c0a, c1a, cla⟩ := box_at (heap_up Ha.out Ja.out)
  clear d2
  go_wp2_with fail
  by_cases hE : toE f A = 0
  · obtain ⟨m0, m1, m2, m3, _⟩ := ok_lims hE
    have HL := Lib.hid (cmp_nothl hE)
    have HR := Lib.hid (cmp_nothr hE)
    have HA := Lib.hid (allF_one hE)
    have HE := Lib.hid hE
    have HM := Lib.hid (And.intro m0 (And.intro m1 (And.intro m2 m3)))
    have NZ := Lib.hid (okc_sized7 (norm_ok ((toE_iff f A).1 hE)).1)
    rw [hE]
    generalize toN f A = n at *
    clear hE m0 m1 m2 m3
    refine (normH (Ra.out.below Ja.out) Za.out HE.out).mono ?_
    rintro e y3 ⟨a3, n3, rfl, r3, d3⟩
    have Ja := Lib.hid (Ja.out.trans (d3.mono Ja.out.size))
    have J0 := Lib.hid (J0.out.trans (d3.mono J0.out.size))
    clear c0a c1a cla
    obtain ⟨c0a, c1a, cla⟩ := box_at (heap_up Ha.out Ja.out)
    obtain ⟨Xn, hX, x, bX⟩ : ∃ X, X = y3.alloc (.cells #[.int .i64 f, .slice a3 (norm A).length n3] 24) ∧ X.heap[y3.heap.size]? = some (.cells #[.int .i64 f, .slice a3 (norm A).length n3] 24 (0, 0)) ∧ Below y3.heap.size y3 X := ⟨_, rfl, heap_new _ _, below_box _ _⟩
    have En := Lib.hid hX
    have Hn := Lib.hid x
    have Rn := Lib.hid (show OpRow Xn (.slice a3 (norm A).length n3) (norm A) from r3.row.below bX)
    have Ja := Lib.hid (Ja.out.trans (bX.mono Ja.out.size))
    have J0 := Lib.hid (J0.out.trans (bX.mono J0.out.size))
    have Jn := Lib.hid (Below.refl Xn.heap.size Xn)
    clear d3 hX x bX r3
    go_wp2_with fail
    rw [← En.out]
    refine (nothH HM.out.1 HM.out.2.1).mono ?_
    rintro e y4 ⟨rfl, d4⟩
    have Ja := Lib.hid (Ja.out.trans (d4.mono Ja.out.size))
    have Jn := Lib.hid (Jn.out.trans (d4.mono Jn.out.size))
    have J0 := Lib.hid (J0.out.trans (d4.mono J0.out.size))
    clear c0a c1a cla
    obtain ⟨c0a, c1a, cla⟩ := box_at (heap_up Ha.out Ja.out)
    obtain ⟨c0n, c1n, cln⟩ := box_at (heap_up Hn.out Jn.out)
    obtain ⟨Xp, hX, x, bX⟩ : ∃ X, X = y4.alloc (.cells #[.int .i64 f, .slice none 0 0] 24) ∧ X.heap[y4.heap.size]? = some (.cells #[.int .i64 f, .slice none 0 0] 24 (0, 0)) ∧ Below y4.heap.size y4 X := ⟨_, rfl, heap_new _ _, below_box _ _⟩
    have Ep := Lib.hid hX
    have Hp := Lib.hid x
    have Rp := Lib.hid (show OpRow Xp (.slice none 0 0) ([]) from OpRow.nil _)
    have Ja := Lib.hid (Ja.out.trans (bX.mono Ja.out.size))
    have Jn := Lib.hid (Jn.out.trans (bX.mono Jn.out.size))
    have J0 := Lib.hid (J0.out.trans (bX.mono J0.out.size))
    have Jp := Lib.hid (Below.refl Xp.heap.size Xp)
    clear d4 hX x bX
    go_wp2_with fail
    rw [← Ep.out]
    refine (nothH HM.out.2.2.1 HM.out.2.2.2).mono ?_
    rintro e y5 ⟨rfl, d5⟩
    have Ja := Lib.hid (Ja.out.trans (d5.mono Ja.out.size))
    have Jn := Lib.hid (Jn.out.trans (d5.mono Jn.out.size))
    have Jp := Lib.hid (Jp.out.trans (d5.mono Jp.out.size))
    have J0 := Lib.hid (J0.out.trans (d5.mono J0.out.size))
    clear c0a c1a cla c0n c1n cln
    obtain ⟨c0a, c1a, cla⟩ := box_at (heap_up Ha.out Ja.out)
    obtain ⟨c0n, c1n, cln⟩ := box_at (heap_up Hn.out Jn.out)
    obtain ⟨c0p, c1p, clp⟩ := box_at (heap_up Hp.out Jp.out)
    obtain ⟨Xq, hX, x, bX⟩ : ∃ X, X = y5.alloc (.cells #[.int .i64 n, .slice none 0 0] 24) ∧ X.heap[y5.heap.size]? = some (.cells #[.int .i64 n, .slice none 0 0] 24 (0, 0)) ∧ Below y5.heap.size y5 X := ⟨_, rfl, heap_new _ _, below_box _ _⟩
    have Eq := Lib.hid hX
    have Hq := Lib.hid x
    have Rq := Lib.hid (show OpRow Xq (.slice none 0 0) ([]) from OpRow.nil _)
    have Ja := Lib.hid (Ja.out.trans (bX.mono Ja.out.size))
    have Jn := Lib.hid (Jn.out.trans (bX.mono Jn.out.size))
    have Jp := Lib.hid (Jp.out.trans (bX.mono Jp.out.size))
    have J0 := Lib.hid (J0.out.trans (bX.mono J0.out.size))
    have Jq := Lib.hid (Below.refl Xq.heap.size Xq)
    clear d5 hX x bX
    go_wp2_with fail
    rw [← Eq.out]
    refine (cmpH_okR (Rp.out.below Jp.out) nil_sized (Ra.out.below Ja.out) Za.out HL.out.1 HL.out.2).mono ?_
    rintro e y6 ⟨a6, n6, rfl, r6, d6⟩
    have Ja := Lib.hid (Ja.out.trans (d6.mono Ja.out.size))
    have Jn := Lib.hid (Jn.out.trans (d6.mono Jn.out.size))
    have Jp := Lib.hid (Jp.out.trans (d6.mono Jp.out.size))
    have Jq := Lib.hid (Jq.out.trans (d6.mono Jq.out.size))
    have J0 := Lib.hid (J0.out.trans (d6.mono J0.out.size))
    clear c0a c1a cla c0n c1n cln c0p c1p clp
    obtain ⟨c0a, c1a, cla⟩ := box_at (heap_up Ha.out Ja.out)
    obtain ⟨c0n, c1n, cln⟩ := box_at (heap_up Hn.out Jn.out)
    obtain ⟨c0p, c1p, clp⟩ := box_at (heap_up Hp.out Jp.out)
    obtain ⟨c0q, c1q, clq⟩ := box_at (heap_up Hq.out Jq.out)
    obtain ⟨Xx, hX, x, bX⟩ : ∃ X, X = y6.alloc (.cells #[.int .i64 f, .slice a6 (norm A).length n6] 24) ∧ X.heap[y6.heap.size]? = some (.cells #[.int .i64 f, .slice a6 (norm A).length n6] 24 (0, 0)) ∧ Below y6.heap.size y6 X := ⟨_, rfl, heap_new _ _, below_box _ _⟩
    have Ex := Lib.hid hX
    have Hx := Lib.hid x
    have Rx := Lib.hid (show OpRow Xx (.slice a6 (norm A).length n6) (norm A) from r6.below bX)
    have Ja := Lib.hid (Ja.out.trans (bX.mono Ja.out.size))
    have Jn := Lib.hid (Jn.out.trans (bX.mono Jn.out.size))
    have Jp := Lib.hid (Jp.out.trans (bX.mono Jp.out.size))
    have Jq := Lib.hid (Jq.out.trans (bX.mono Jq.out.size))
    have J0 := Lib.hid (J0.out.trans (bX.mono J0.out.size))
    have Jx := Lib.hid (Below.refl Xx.heap.size Xx)
    clear d6 hX x bX r6
    go_wp2_with fail
    rw [← Ex.out]
    refine (cmpH_okR (Ra.out.below Ja.out) Za.out (Rq.out.below Jq.out) nil_sized HR.out.1 HR.out.2).mono ?_
    rintro e y7 ⟨a7, n7, rfl, r7, d7⟩
    have Ja := Lib.hid (Ja.out.trans (d7.mono Ja.out.size))
    have Jn := Lib.hid (Jn.out.trans (d7.mono Jn.out.size))
    have Jp := Lib.hid (Jp.out.trans (d7.mono Jp.out.size))
    have Jq := Lib.hid (Jq.out.trans (d7.mono Jq.out.size))
    have Jx := Lib.hid (Jx.out.trans (d7.mono Jx.out.size))
    have J0 := Lib.hid (J0.out.trans (d7.mono J0.out.size))
    clear c0a c1a cla c0n c1n cln c0p c1p clp c0q c1q clq
    obtain ⟨c0a, c1a, cla⟩ := box_at (heap_up Ha.out Ja.out)
    obtain ⟨c0n, c1n, cln⟩ := box_at (heap_up Hn.out Jn.out)
    obtain ⟨c0p, c1p, clp⟩ := box_at (heap_up Hp.out Jp.out)
    obtain ⟨c0q, c1q, clq⟩ := box_at (heap_up Hq.out Jq.out)
    obtain ⟨c0x, c1x, clx⟩ := box_at (heap_up Hx.out Jx.out)
    obtain ⟨Xy, hX, x, bX⟩ : ∃ X, X = y7.alloc (.cells #[.int .i64 f, .slice a7 (norm A).length n7] 24) ∧ X.heap[y7.heap.size]? = some (.cells #[.int .i64 f, .slice a7 (norm A).length n7] 24 (0, 0)) ∧ Below y7.heap.size y7 X := ⟨_, rfl, heap_new _ _, below_box _ _⟩
    have Ey := Lib.hid hX
    have Hy := Lib.hid x
    have Ry := Lib.hid (show OpRow Xy (.slice a7 (norm A).length n7) (norm A) from r7.below bX)
    have Ja := Lib.hid (Ja.out.trans (bX.mono Ja.out.size))
    have Jn := Lib.hid (Jn.out.trans (bX.mono Jn.out.size))
    have Jp := Lib.hid (Jp.out.trans (bX.mono Jp.out.size))
    have Jq := Lib.hid (Jq.out.trans (bX.mono Jq.out.size))
    have Jx := Lib.hid (Jx.out.trans (bX.mono Jx.out.size))
    have J0 := Lib.hid (J0.out.trans (bX.mono J0.out.size))
    have Jy := Lib.hid (Below.refl Xy.heap.size Xy)
    clear d7 hX x bX r7
    have eY : Xy.heap.size = y7.heap.size + 1 := by rw [Ey.out]; simp
    obtain ⟨V, hV, v0, bV⟩ : ∃ V, V = Xy.alloc (.cells #[.int .i64 f, .slice ua A.length ta] 24) ∧ ChsRow V (.slice (some ⟨y7.heap.size + 1, 0, none⟩) 1 1) [(f, A)] ∧ Below Xy.heap.size Xy V := ⟨_, rfl, by rw [← eY]; exact chsRow_one (Ra.out.below Ja.out), below_box _ _⟩
    have hV2 := hV
    rw [Ey.out] at hV2
    have EV := Lib.hid hV2
    have VR := Lib.hid v0
    have Ja := Lib.hid (Ja.out.trans (bV.mono Ja.out.size))
    have Jn := Lib.hid (Jn.out.trans (bV.mono Jn.out.size))
    have Jp := Lib.hid (Jp.out.trans (bV.mono Jp.out.size))
    have Jq := Lib.hid (Jq.out.trans (bV.mono Jq.out.size))
    have Jx := Lib.hid (Jx.out.trans (bV.mono Jx.out.size))
    have Jy := Lib.hid (Jy.out.trans (bV.mono Jy.out.size))
    have J0 := Lib.hid (J0.out.trans (bV.mono J0.out.size))
    clear hV hV2 v0 bV eY
    go_wp2_with fail
    rw [← EV.out]
    refine (allH_ok VR.out (fun c hc => by rw [List.mem_singleton.1 hc]; exact Za.out) HA.out).mono ?_
    rintro e y8 ⟨a8, n8, rfl, r8, d8⟩
    have Ja := Lib.hid (Ja.out.trans (d8.mono Ja.out.size))
    have Jn := Lib.hid (Jn.out.trans (d8.mono Jn.out.size))
    have Jp := Lib.hid (Jp.out.trans (d8.mono Jp.out.size))
    have Jq := Lib.hid (Jq.out.trans (d8.mono Jq.out.size))
    have Jx := Lib.hid (Jx.out.trans (d8.mono Jx.out.size))
    have Jy := Lib.hid (Jy.out.trans (d8.mono Jy.out.size))
    have J0 := Lib.hid (J0.out.trans (d8.mono J0.out.size))
    clear c0a c1a cla c0n c1n cln c0p c1p clp c0q c1q clq c0x c1x clx
    obtain ⟨c0a, c1a, cla⟩ := box_at (heap_up Ha.out Ja.out)
    obtain ⟨c0n, c1n, cln⟩ := box_at (heap_up Hn.out Jn.out)
    obtain ⟨c0p, c1p, clp⟩ := box_at (heap_up Hp.out Jp.out)
    obtain ⟨c0q, c1q, clq⟩ := box_at (heap_up Hq.out Jq.out)
    obtain ⟨c0x, c1x, clx⟩ := box_at (heap_up Hx.out Jx.out)
    obtain ⟨c0y, c1y, cly⟩ := box_at (heap_up Hy.out Jy.out)
    obtain ⟨Xz, hX, x, bX⟩ : ∃ X, X = y8.alloc (.cells #[.int .i64 f, .slice a8 (norm A).length n8] 24) ∧ X.heap[y8.heap.size]? = some (.cells #[.int .i64 f, .slice a8 (norm A).length n8] 24 (0, 0)) ∧ Below y8.heap.size y8 X := ⟨_, rfl, heap_new _ _, below_box _ _⟩
    have Ez := Lib.hid hX
    have Hz := Lib.hid x
    have Rz := Lib.hid (show OpRow Xz (.slice a8 (norm A).length n8) (norm A) from r8.row.below bX)
    have Ja := Lib.hid (Ja.out.trans (bX.mono Ja.out.size))
    have Jn := Lib.hid (Jn.out.trans (bX.mono Jn.out.size))
    have Jp := Lib.hid (Jp.out.trans (bX.mono Jp.out.size))
    have Jq := Lib.hid (Jq.out.trans (bX.mono Jq.out.size))
    have Jx := Lib.hid (Jx.out.trans (bX.mono Jx.out.size))
    have Jy := Lib.hid (Jy.out.trans (bX.mono Jy.out.size))
    have J0 := Lib.hid (J0.out.trans (bX.mono J0.out.size))
    have Jz := Lib.hid (Below.refl Xz.heap.size Xz)
    clear d8 hX x bX r8
    go_wp2_with fail
    rw [← Ez.out]
    refine (sameH (Rx.out.below Jx.out) (Rn.out.below Jn.out)).mono ?_
    rintro e y9 ⟨rfl, d9⟩
    have Ja := Lib.hid (Ja.out.trans (d9.mono Ja.out.size))
    have Jn := Lib.hid (Jn.out.trans (d9.mono Jn.out.size))
    have Jp := Lib.hid (Jp.out.trans (d9.mono Jp.out.size))
    have Jq := Lib.hid (Jq.out.trans (d9.mono Jq.out.size))
    have Jx := Lib.hid (Jx.out.trans (d9.mono Jx.out.size))
    have Jy := Lib.hid (Jy.out.trans (d9.mono Jy.out.size))
    have Jz := Lib.hid (Jz.out.trans (d9.mono Jz.out.size))
    have J0 := Lib.hid (J0.out.trans (d9.mono J0.out.size))
    clear c0a c1a cla c0n c1n cln c0p c1p clp c0q c1q clq c0x c1x clx c0y c1y cly
    obtain ⟨c0a, c1a, cla⟩ := box_at (heap_up Ha.out Ja.out)
    obtain ⟨c0n, c1n, cln⟩ := box_at (heap_up Hn.out Jn.out)
    obtain ⟨c0p, c1p, clp⟩ := box_at (heap_up Hp.out Jp.out)
    obtain ⟨c0q, c1q, clq⟩ := box_at (heap_up Hq.out Jq.out)
    obtain ⟨c0x, c1x, clx⟩ := box_at (heap_up Hx.out Jx.out)
    obtain ⟨c0y, c1y, cly⟩ := box_at (heap_up Hy.out Jy.out)
    obtain ⟨c0z, c1z, clz⟩ := box_at (heap_up Hz.out Jz.out)
    clear d9
    go_wp2_with fail
    refine (sameH (Ry.out.below Jy.out) (Rn.out.below Jn.out)).mono ?_
    rintro e y10 ⟨rfl, d10⟩
    have Ja := Lib.hid (Ja.out.trans (d10.mono Ja.out.size))
    have Jn := Lib.hid (Jn.out.trans (d10.mono Jn.out.size))
    have Jp := Lib.hid (Jp.out.trans (d10.mono Jp.out.size))
    have Jq := Lib.hid (Jq.out.trans (d10.mono Jq.out.size))
    have Jx := Lib.hid (Jx.out.trans (d10.mono Jx.out.size))
    have Jy := Lib.hid (Jy.out.trans (d10.mono Jy.out.size))
    have Jz := Lib.hid (Jz.out.trans (d10.mono Jz.out.size))
    have J0 := Lib.hid (J0.out.trans (d10.mono J0.out.size))
    clear c0a c1a cla c0n c1n cln c0p c1p clp c0q c1q clq c0x c1x clx c0y c1y cly c0z c1z clz
    obtain ⟨c0a, c1a, cla⟩ := box_at (heap_up Ha.out Ja.out)
    obtain ⟨c0n, c1n, cln⟩ := box_at (heap_up Hn.out Jn.out)
    obtain ⟨c0p, c1p, clp⟩ := box_at (heap_up Hp.out Jp.out)
    obtain ⟨c0q, c1q, clq⟩ := box_at (heap_up Hq.out Jq.out)
    obtain ⟨c0x, c1x, clx⟩ := box_at (heap_up Hx.out Jx.out)
    obtain ⟨c0y, c1y, cly⟩ := box_at (heap_up Hy.out Jy.out)
    obtain ⟨c0z, c1z, clz⟩ := box_at (heap_up Hz.out Jz.out)
    clear d10
    go_wp2_with fail
    refine (sameH (Rz.out.below Jz.out) (Rn.out.below Jn.out)).mono ?_
    rintro e y11 ⟨rfl, d11⟩
    have Ja := Lib.hid (Ja.out.trans (d11.mono Ja.out.size))
    have Jn := Lib.hid (Jn.out.trans (d11.mono Jn.out.size))
    have Jp := Lib.hid (Jp.out.trans (d11.mono Jp.out.size))
    have Jq := Lib.hid (Jq.out.trans (d11.mono Jq.out.size))
    have Jx := Lib.hid (Jx.out.trans (d11.mono Jx.out.size))
    have Jy := Lib.hid (Jy.out.trans (d11.mono Jy.out.size))
    have Jz := Lib.hid (Jz.out.trans (d11.mono Jz.out.size))
    have J0 := Lib.hid (J0.out.trans (d11.mono J0.out.size))
    clear c0a c1a cla c0n c1n cln c0p c1p clp c0q c1q clq c0x c1x clx c0y c1y cly c0z c1z clz
    obtain ⟨c0a, c1a, cla⟩ := box_at (heap_up Ha.out Ja.out)
    obtain ⟨c0n, c1n, cln⟩ := box_at (heap_up Hn.out Jn.out)
    obtain ⟨c0p, c1p, clp⟩ := box_at (heap_up Hp.out Jp.out)
    obtain ⟨c0q, c1q, clq⟩ := box_at (heap_up Hq.out Jq.out)
    obtain ⟨c0x, c1x, clx⟩ := box_at (heap_up Hx.out Jx.out)
    obtain ⟨c0y, c1y, cly⟩ := box_at (heap_up Hy.out Jy.out)
    obtain ⟨c0z, c1z, clz⟩ := box_at (heap_up Hz.out Jz.out)
    clear d11
    have BF := BW.out.trans (J0.out.mono BW.out.size)
    have BG := Lib.hid BF
    clear BF
    go_wp2_with fail
    go_ret
    exact ⟨rfl, BG.out⟩
  · have HE := Lib.hid hE
    have HF := Lib.hid (cmpE_first (f := f) (g := 0) (C := []) hE)
    have tb : (toE f A != 0) = true := by rw [bne_iff_ne]; exact hE
    have hc : cmpE f 0 A [] ≠ 0 := by rw [HF.out]; exact hE
    have HC := Lib.hid hc
    have tq : (toE f A != toE f A) = false := by simp
    have tr : (toE f A == toE f A) = true := by simp
    clear hE hc
    refine (normH_bad (Ra.out.below Ja.out) Za.out HE.out).mono ?_
    rintro e y3 ⟨rfl, d3⟩
    have Ja := Lib.hid (Ja.out.trans (d3.mono Ja.out.size))
    have J0 := Lib.hid (J0.out.trans (d3.mono J0.out.size))
    clear c0a c1a cla
    obtain ⟨c0a, c1a, cla⟩ := box_at (heap_up Ha.out Ja.out)
    obtain ⟨Xn, hX, x, bX⟩ : ∃ X, X = y3.alloc (.cells #[.int .i64 0, .slice none 0 0] 24) ∧ X.heap[y3.heap.size]? = some (.cells #[.int .i64 0, .slice none 0 0] 24 (0, 0)) ∧ Below y3.heap.size y3 X := ⟨_, rfl, heap_new _ _, below_box _ _⟩
    have En := Lib.hid hX
    have Hn := Lib.hid x
    have Rn := Lib.hid (show OpRow Xn (.slice none 0 0) ([]) from OpRow.nil _)
    have Ja := Lib.hid (Ja.out.trans (bX.mono Ja.out.size))
    have J0 := Lib.hid (J0.out.trans (bX.mono J0.out.size))
    have Jn := Lib.hid (Below.refl Xn.heap.size Xn)
    clear d3 hX x bX
    go_wp2_with fail
    rw [← En.out]
    refine (cmpH_badE (Ra.out.below Ja.out) Za.out (OpRow.nil _) nil_sized HC.out HF.out).mono ?_
    rintro e y4 ⟨a4, n4, rfl, r4, d4⟩
    have Ja := Lib.hid (Ja.out.trans (d4.mono Ja.out.size))
    have Jn := Lib.hid (Jn.out.trans (d4.mono Jn.out.size))
    have J0 := Lib.hid (J0.out.trans (d4.mono J0.out.size))
    clear c0a c1a cla
    obtain ⟨c0a, c1a, cla⟩ := box_at (heap_up Ha.out Ja.out)
    obtain ⟨c0n, c1n, cln⟩ := box_at (heap_up Hn.out Jn.out)
    clear d4 r4
    generalize toE f A = E at *
    have BF := BW.out.trans (J0.out.mono BW.out.size)
    have BG := Lib.hid BF
    clear BF
    go_wp2_with fail
    go_ret
    exact ⟨rfl, BG.out.alloc BG.out.size _⟩
end Go.Proofs.Ytlgpihboojgpmaa
