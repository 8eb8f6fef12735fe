/- Texts of this seat, put together: Ld. -/
import Derived.Test.YtchceolbbkhnnaaGM7
import Derived.StillTailTactics
/- The program's All: one for many. -/
namespace Go.Proofs.Ytchceolbbkhnnaa
open Go.RowKit Rn Ch
open At hiding put
open Cp (atms)

/-- A row of changesets. -/
def ChsRow (w : World) (v : Value) (L : List (Int × List OpD)) : Prop :=
 ∃ a cap, v = .slice a L.length cap ∧ L.length ≤ cap ∧ cap ≤ maxLen ∧ ∀ i (h : i < L.length), ∃ b off u, a = some ⟨b, off, none⟩ ∧ b < w.heap.size ∧ w.cell? ⟨b, off + i * 2, none⟩ = some (.int .i64 L[i].1) ∧ w.cell? ⟨b, off + i * 2 + 1, none⟩ = some u ∧ OpRow w u L[i].2
theorem ChsRow.below {w w' : World} {v : Value} {L : List (Int × List OpD)} (h : ChsRow w v L) (hb : Below w.heap.size w w') : ChsRow w' v L := by
 obtain ⟨a, c, h0, h1, h2, h3⟩ := h
 refine ⟨a, c, h0, h1, h2, fun i hi => ?_⟩
 obtain ⟨b, off, u, e, hl, x0, x1, x2⟩ := h3 i hi
 exact ⟨b, off, u, e, Nat.lt_of_lt_of_le hl hb.size, (hb.cell (by exact hl)).trans x0, (hb.cell (by exact hl)).trans x1, x2.below hb⟩
theorem ChsRow.at {w : World} {a : Option Addr} {n c : Nat} {L : List (Int × List OpD)} (h : ChsRow w (.slice a n c) L) (k : Nat) (hk : k < L.length) :
 ∃ b off u, a = some ⟨b, off, none⟩ ∧ b < w.heap.size ∧ w.cell? ⟨b, off + k * 2, none⟩ = some (.int .i64 L[k].1) ∧ w.cell? ⟨b, off + k * 2 + 1, none⟩ = some u ∧ OpRow w u L[k].2 := by
 obtain ⟨a', c', h0, _, _, h3⟩ := h
 injection h0 with e1 _ _
 subst e1
 exact h3 k hk
def CsSized (L : List (Int × List OpD)) : Prop := ∀ c ∈ L, OSized c.2
/-- One for many: the error, the From, the operations. -/
noncomputable def allR : List (Int × List OpD) → Int → List OpD → Int × Int × List OpD
 | [], f, R => (0, f, R)
 | c :: L, f, R => if cmpE f c.1 R c.2 = 0 then allR L f (cmpR f c.1 R c.2) else (cmpE f c.1 R c.2, 0, [])
theorem allR_ok {c : Int × List OpD} {L : List (Int × List OpD)} {f : Int} {R : List OpD} (h : cmpE f c.1 R c.2 = 0) : allR (c :: L) f R = allR L f (cmpR f c.1 R c.2) := by rw [allR, if_pos h]
theorem allR_bad {c : Int × List OpD} {L : List (Int × List OpD)} {f : Int} {R : List OpD} (h : cmpE f c.1 R c.2 ≠ 0) : allR (c :: L) f R = (cmpE f c.1 R c.2, 0, []) := by rw [allR, if_neg h]
noncomputable def allF (n : Int) (L : List (Int × List OpD)) : Int × Int × List OpD := if n < 0 ∨ 20000 < n then (31, 0, []) else allR L n []
theorem cmpR_sized (f g : Int) (A C : List OpD) : OSized (cmpR f g A C) := by
 by_cases h : cmpE f g A C = 0
 ·exact (cmpR_ok h).sized
 ·unfold cmpR
  rw [if_neg h]
  exact nil_sized
theorem results_all {fn : Func} {i j : Nat} (h : fn.results = #[.cell i 24, .tmp j]) {tmps : Array Value} {w : World} {b4 : Nat} {v x y : Value} (h4 : tmps.getD i undef = .pointer (some ⟨b4, 0, none⟩)) (h5 : tmps.getD j undef = v)
 (z4 : w.cell? ⟨b4, 0, none⟩ = some x) (z5 : w.cell? ⟨b4, 1, none⟩ = some y) : (results fn tmps).run Try.prog w = .ok (.tuple #[.agg #[x, y], v]) w := by
 rw [Array.getD_eq_getD_getElem?] at h4 h5
 simp [results, h, h4, h5, go_sem, z4, z5]
theorem not_int {E : Int} (h : ¬ E = 0) : (E == 0) = false := by rw [beq_eq_false_iff_ne]; exact h
set_option maxRecDepth 100000 in
set_option maxHeartbeats 4000000 in
theorem all_any (n : Int) (v : Value) (L : List (Int × List OpD)) (w : World) (hv : ChsRow w v L) (hz : CsSized L) :
 Calls Try.prog 12 #[.int .i64 n, v] w (ChOwn w (allF n L).2.1 (allF n L).1 (allF n L).2.2) := by
 obtain ⟨E0, F0, R0, hfin⟩ : ∃ E0 F0 R0, allF n L = (E0, F0, R0) := ⟨_, _, _, rfl⟩
 rw [hfin]
 have HV := Lib.hid hv
 have HZ := Lib.hid hz
 obtain ⟨la, lc, rfl, l1, l2, _⟩ := hv
 obtain ⟨W, hW, r0, bW⟩ : ∃ W, W = w.alloc (.cells #[.int .i64 0, .slice none 0 0] 24) ∧ W.heap[w.heap.size]? = some (.cells #[.int .i64 0, .slice none 0 0] 24 (0, 0)) ∧ Below w.heap.size w W := ⟨_, rfl, heap_new _ _, below_box _ _⟩
 have HW := Lib.hid hW
 have HR0 := Lib.hid r0
 have BW := Lib.hid bW
 have hL : L.length ≤ 9223372036854775807 := Nat.le_trans l1 l2
 clear hW r0 bW hz l1 l2
 go_enter Try.func12, Try.ntmps12
 go_wp2_with fail
 rw [← HW.out]
 refine (nothing_any n W).mono ?_
 rintro e w1 ⟨he, b1⟩
 obtain ⟨E1, F1, hE1, hF1⟩ : ∃ E1 F1, e = .returned (.tuple #[chAgg F1 (.slice none 0 0), .int .i64 E1]) ∧ (if E1 = 0 then allR L F1 [] else (E1, F1, [])) = (E0, F0, R0) := by
  rcases he with ⟨h1, h2⟩ | ⟨h1, h2⟩
  ·refine ⟨31, 0, h2, ?_⟩
   rw [if_neg (by decide), ← hfin]
   unfold allF
   rw [if_pos h1]
  ·refine ⟨0, n, h2, ?_⟩
   rw [if_pos rfl, ← hfin]
   unfold allF
   rw [if_neg (by omega)]
 subst hE1
 have B1 := Lib.hid (BW.out.trans (b1.mono BW.out.size))
 have HF1 := Lib.hid hF1
 have R1 := Lib.hid (heap_up HR0.out b1)
 have s1 : w.heap.size < w1.heap.size := lt_of_heap R1.out
 clear b1 he hfin hF1
 go_wp2_with fail
 go_loopw [7, 8] (fun ev iv wr => ∃ (k : Nat) (E F : Int) (R : List OpD) (ra : Option Addr) (rc : Nat), ev = .int .i64 E ∧ iv = .int .i64 (k : Int) ∧ k ≤ L.length ∧ wr.heap[w1.heap.size]? = some (.cells #[.int .i64 F, .slice ra R.length rc] 24 (0, 0)) ∧ OwnOps wr w.heap.size (.slice ra R.length rc) R ∧ OSized R ∧
  (if E = 0 then allR (L.drop k) F R else (E, F, R)) = (E0, F0, R0) ∧ wr.heap[w.heap.size]? = some (.cells #[.int .i64 0, .slice none 0 0] 24 (0, 0)) ∧ Below w.heap.size w wr) (fun _ iv _ => L.length - (intOf iv).toNat)
 case atStart => exact ⟨0, E1, F1, [], none, 0, rfl, rfl, Nat.zero_le _, heap_new _ _, ownOps_nil _ _, nil_sized, by rw [List.drop_zero]; exact HF1.out, heap_up R1.out (below_box _ _), B1.out.alloc B1.out.size _⟩
 case round =>
  obtain ⟨k, E, F, R, ra, rc, rfl, rfl, hk, hbx, hrow, hsz, hfn, hres, hbel⟩ := hrel
  obtain ⟨x0, x1, xl⟩ := box_at hbx
  have f0 : wr.frozen? ⟨w1.heap.size, 0, none⟩ = false := (cells2 hbx).2.2.1
  have f1 : wr.frozen? ⟨w1.heap.size, 1, none⟩ = false := (cells2 hbx).2.2.2
  have HBX := Lib.hid hbx
  have HRW := Lib.hid hrow
  have HSZ := Lib.hid hsz
  have HRS := Lib.hid hres
  have HBL := Lib.hid hbel
  by_cases hkl : k < L.length
  ·have c1 : (k : Int) < (L.length : Int) := by omega
   by_cases hE : E = 0
   ·subst hE
    rw [if_pos rfl, List.drop_eq_getElem_cons hkl] at hfn
    have HFN := Lib.hid hfn
    obtain ⟨b, off, u, e1, hlt, y0, y1, yr⟩ := (HV.out.below HBL.out).at k hkl
    subst e1
    have hk0 : (0 : Int) ≤ (k : Int) := by omega
    have HY := Lib.hid yr
    obtain ⟨ua, uc, rfl⟩ := yr.shape
    have HZk := Lib.hid (HZ.out _ (List.getElem_mem hkl))
    have HC := Lib.hid (cmpO (f := F) (g := L[k].1) (w := wr.drew) (HRW.out.row : OpRow wr _ R) HSZ.out (HY.out : OpRow wr _ _) HZk.out)
    have HAL := Lib.hid (And.intro (allR_ok (c := L[k]) (L := L.drop (k + 1)) (f := F) (R := R)) (allR_bad (c := L[k]) (L := L.drop (k + 1)) (f := F) (R := R)))
    have HCS := Lib.hid (cmpR_sized F L[k].1 R L[k].2)
    have hcr : cmpE F L[k].1 R L[k].2 ≠ 0 → cmpR F L[k].1 R L[k].2 = [] := fun h => by unfold cmpR; rw [if_neg h]
    have HCR := Lib.hid hcr
    generalize L[k] = ck at *
    obtain ⟨g, C⟩ := ck
    simp only at *
    generalize cmpE F g R C = E2 at *
    generalize cmpR F g R C = R2 at *
    obtain ⟨F2, hF2⟩ : ∃ F2, F2 = if E2 = 0 then F else 0 := ⟨_, rfl⟩
    rw [← hF2] at HC
    have HF2 := Lib.hid hF2
    clear hF2
    generalize hL2 : List.drop (k + 1) L = L2 at *
    have HL2 := Lib.hid hL2
    clear hL2
    clear hfn hbx hrow hsz hres hbel hk hcr yr
    go_wp2_with fail
    go_region_with (first
     | (go_at_call 7; (with_reducible refine HC.out.mono ?_); rintro e w2 ⟨a2, c2, rfl, O2, b2⟩; have B2 := Lib.hid ((Below.refl wr.heap.size wr).drew.trans b2); have HO2 := Lib.hid O2; obtain ⟨x0', x1', xl'⟩ := box_at (heap_up HBX.out B2.out); have f0' : w2.frozen? ⟨w1.heap.size, 0, none⟩ = false := (cells2 (heap_up HBX.out B2.out)).2.2.1; have f1' : w2.frozen? ⟨w1.heap.size, 1, none⟩ = false := (cells2 (heap_up HBX.out B2.out)).2.2.2; clear O2 b2))
    all_goals
     (obtain ⟨q1, q2, q3⟩ := agg_set (.int .i64 F2) (.slice a2 R2.length c2) (heap_up HBX.out B2.out)
      have hs2 := q2.below.size
      have FIN : _ ∧ _ ∧ _ ∧ _ := ⟨q1, (HO2.out.base (Nat.le_trans HBL.out.size (Nat.le_refl _))).keep7 q2 (by decide) (by decide), (q3 _ (by omega)).trans (heap_up HRS.out B2.out), (HBL.out.trans (B2.out.mono HBL.out.size)).trans (q2.below.mono (by omega))⟩
      have HFIN := Lib.hid FIN
      clear q1 q2 q3 FIN x0 x1 xl x0' x1' f0' f1' y0 y1
      go_wp2_with fail
      go_roundw
      case rel =>
       refine ⟨k + 1, E2, F2, R2, a2, c2, rfl, by go_num, by omega, HFIN.out.1, HFIN.out.2.1, HCS.out, ?_, HFIN.out.2.2.1, HFIN.out.2.2.2⟩
       rw [HF2.out]
       by_cases h0 : E2 = 0
       ·rw [if_pos h0, if_pos h0, HL2.out, ← HFN.out]
        exact (HAL.out.1 h0).symm
       ·rw [if_neg h0, if_neg h0, ← HFN.out, HCR.out h0]
        exact (HAL.out.2 h0).symm
      case measure => simp [intOf]; omega)
   ·have c2 := not_int hE
    rw [if_neg hE] at hfn
    have HFN := Lib.hid hfn
    obtain ⟨z0, z1, zl⟩ := box_at HRS.out
    have g0 : wr.frozen? ⟨w.heap.size, 0, none⟩ = false := (cells2 HRS.out).2.2.1
    have g1 : wr.frozen? ⟨w.heap.size, 1, none⟩ = false := (cells2 HRS.out).2.2.2
    clear hfn hbx hrow hsz hres hbel hk
    go_wp2_with fail
    obtain ⟨q1, q2, q3⟩ := agg_set (.int .i64 F) (.slice ra R.length rc) HRS.out
    refine bodyPost_ret (results_all rfl rfl rfl (cells2 q1).1 (cells2 q1).2.1) rfl ?_
    have hfn := HFN.out
    simp only [Prod.mk.injEq] at hfn
    obtain ⟨rfl, rfl, rfl⟩ := hfn
    exact ⟨ra, rc, rfl, HRW.out.keep7 q2 (by decide) (by decide), HBL.out.trans q2.below⟩
  ·have c1 : ¬ (k : Int) < (L.length : Int) := by omega
   have hfn' : (E, F, R) = (E0, F0, R0) := by
    rw [← hfn, List.drop_of_length_le (by omega)]
    split
    ·rename_i h0
     rw [h0]; rfl
    ·rfl
   have HFN := Lib.hid hfn'
   clear hfn'
   obtain ⟨z0, z1, zl⟩ := box_at HRS.out
   have g0 : wr.frozen? ⟨w.heap.size, 0, none⟩ = false := (cells2 HRS.out).2.2.1
   have g1 : wr.frozen? ⟨w.heap.size, 1, none⟩ = false := (cells2 HRS.out).2.2.2
   clear hfn hbx hrow hsz hres hbel hk
   go_wp2_with fail
   obtain ⟨q1, q2, q3⟩ := agg_set (.int .i64 F) (.slice ra R.length rc) HRS.out
   refine bodyPost_ret (results_all rfl rfl rfl (cells2 q1).1 (cells2 q1).2.1) rfl ?_
   have hfn := HFN.out
   simp only [Prod.mk.injEq] at hfn
   obtain ⟨rfl, rfl, rfl⟩ := hfn
   exact ⟨ra, rc, rfl, HRW.out.keep7 q2 (by decide) (by decide), HBL.out.trans q2.below⟩
end Go.Proofs.Ytchceolbbkhnnaa
