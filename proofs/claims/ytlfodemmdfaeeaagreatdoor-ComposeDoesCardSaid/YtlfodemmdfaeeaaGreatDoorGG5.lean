/- Texts of this seat, put together: Dq. -/
import Derived.Test.YtlfodemmdfaeeaaGreatDoorGD1
import Derived.Test.YtlfodemmdfaeeaaGreatDoorGC1
/- Are two documents the same: the program's Same. -/
namespace Go.Proofs.YtlfodemmdfaeeaaGreatDoor
open Go.RowKit Ch

instance : DecidableEq RunD := fun a b => if h : a.text = b.text ∧ a.attrs = b.attrs then .isTrue (by cases a; cases b; simp_all) else .isFalse (fun e => h (by subst e; exact ⟨rfl, rfl⟩))
def sameRun (x y : RunD) : Bool := decide (x = y)
def sameRuns (l m : List RunD) : Bool := decide (l = m)
theorem sameRuns_len {l m : List RunD} (h : l.length ≠ m.length) : sameRuns l m = false := decide_eq_false fun e => h (by rw [e])
theorem sameRuns_at {l m : List RunD} {n : Nat} (h1 : n < l.length) (h2 : n < m.length) (h : l[n] ≠ m[n]) : sameRuns l m = false := decide_eq_false fun e => by
 subst e; exact h rfl
theorem sameRuns_all {l m : List RunD} (hl : l.length = m.length) (h : ∀ j (h1 : j < l.length) (h2 : j < m.length), l[j] = m[j]) : sameRuns l m = true := decide_eq_true (List.ext_getElem hl h)
abbrev runAgg (x : RunD) (v : Value) : Value := .agg #[.string x.text, v]

set_option maxRecDepth 100000 in
set_option maxHeartbeats 2000000 in
theorem sameD1_any (x y : RunD) (xv yv : Value) (w : World) (hx : AtRow w xv x.attrs) (hy : AtRow w yv y.attrs) :
 Calls Tryz.prog 27 #[runAgg x xv, runAgg y yv] w (OutB w (sameRun x y)) := by
 have Hx := Lib.hid hx
 have Hy := Lib.hid hy
 obtain ⟨a, c, rfl⟩ := hx.shape
 obtain ⟨b, d, rfl⟩ := hy.shape
 obtain ⟨W, hW⟩ : ∃ W, W = (w.alloc (.cells #[.string x.text, .slice a x.attrs.length c] 77)).alloc (.cells #[.string y.text, .slice b y.attrs.length d] 77) := ⟨_, rfl⟩
 have BW := Lib.hid (show Below w.heap.size w W by rw [hW]; exact ((Below.refl _ _).alloc (Nat.le_refl _) _).alloc (by simp) _)
 have c2 : W.cell? ⟨w.heap.size, 0, none⟩ = some (.string x.text) := by rw [hW]; go_simp
 have c3 : W.cell? ⟨w.heap.size, 1, none⟩ = some (.slice a x.attrs.length c) := by rw [hW]; go_simp
 have d2 : W.cell? ⟨w.heap.size + 1, 0, none⟩ = some (.string y.text) := by rw [hW]; go_simp
 have d3 : W.cell? ⟨w.heap.size + 1, 1, none⟩ = some (.slice b y.attrs.length d) := by rw [hW]; go_simp
 have hs : w.heap.size + 1 < W.heap.size := by rw [hW]; simp
 have hs' : w.heap.size < W.heap.size := by omega
 have HW := Lib.hid hW
 have Hx := Lib.hid (hx.below BW.out)
 have Hy := Lib.hid (hy.below BW.out)
 clear hx hy hW
 by_cases ht : x.text = y.text
 ·have t2 : (x.text.toList == y.text.toList) = true := by rw [ht]; simp
  have hR := Lib.hid (show sameRun x y = sameB x.attrs y.attrs by unfold sameRun sameB; exact decide_eq_decide.2 ⟨fun e => by rw [e], fun e => by cases x; cases y; simp_all⟩)
  clear ht
  go_enter Tryz.func27, Tryz.ntmps27
  go_wp2_with fail
  rw [← HW.out]
  go_wp2_with fail
  refine (same_any _ _ x.attrs y.attrs _ Hx.out Hy.out).mono ?_
  rintro e w1 ⟨rfl, k, rfl⟩
  go_wp2_with fail
  go_ret
  exact outB_mk hR.out (below_drewN BW.out _)
 ·have t2 : (x.text.toList == y.text.toList) = false := by rw [beq_text]; exact decide_eq_false ht
  have hR := Lib.hid (show sameRun x y = false from decide_eq_false fun e => ht (by rw [e]))
  clear ht
  go_enter Tryz.func27, Tryz.ntmps27
  go_wp2_with fail
  rw [← HW.out]
  go_wp2_with fail
  go_ret
  exact outB_mk hR.out BW.out

set_option maxRecDepth 100000 in
set_option maxHeartbeats 4000000 in
theorem eqRuns_any (v u : Value) (lp mp : List RP) (w : World) (hv : RunRow w v lp) (hu : RunRow w u mp) :
 Calls Tryz.prog 26 #[v, u, .func (.func 27) #[] #[]] w (OutB w (sameRuns (lp.map (·.1)) (mp.map (·.1)))) := by
 obtain ⟨⟨a, cap, rfl, h1, h2, h3⟩, h4⟩ := hv
 obtain ⟨⟨a', cap', rfl, h1', h2', h3'⟩, h4'⟩ := hu
 have hn : lp.length ≤ 9223372036854775807 := Nat.le_trans h1 h2
 have hn' : mp.length ≤ 9223372036854775807 := Nat.le_trans h1' h2'
 have hL : (lp.map (·.1)).length = lp.length := List.length_map ..
 have hM : (mp.map (·.1)).length = mp.length := List.length_map ..
 have H3 := Lib.hid h3
 have H3' := Lib.hid h3'
 have H4 := Lib.hid h4
 have H4' := Lib.hid h4'
 clear h1 h2 h3 h1' h2' h3' h4 h4'
 by_cases hlen : lp.length = mp.length
 ·have Hlen := Lib.hid hlen
  have hle2 : ((lp.length : Int) == (mp.length : Int)) = true := by rw [hlen]; simp
  have hle3 : ((lp.length : Int) != (mp.length : Int)) = false := by rw [hlen]; simp
  have HL := Lib.hid (And.intro hL hM)
  clear hlen hL hM
  go_enter Tryz.func26, Tryz.ntmps26
  go_wp2_with fail
  go_loopw [17] (fun i wr => ∃ n : Nat, i = .int .i64 (n : Int) ∧ n ≤ lp.length ∧ (∀ j (h1 : j < lp.length) (h2 : j < mp.length), j < n → lp[j].1 = mp[j].1) ∧ Below w.heap.size w wr) (fun i _ => lp.length - (intOf i).toNat)
  case atStart => exact ⟨0, rfl, by omega, fun j _ _ h => by omega, Below.refl _ _⟩
  case round =>
   obtain ⟨n, rfl, hk, hall, hb⟩ := hrel
   have Hall := Lib.hid hall
   have HB := Lib.hid hb
   clear hall
   by_cases hlt : n < lp.length
   ·have hlt2 : n < mp.length := by have := Hlen.out; omega
    have hlt' : (n : Int) < (lp.length : Int) := by omega
    have hlt2' : (n : Int) < (mp.length : Int) := by omega
    obtain ⟨b, off, rfl, hbl, x2, x3⟩ := H3.out n hlt
    obtain ⟨b', off', rfl, hbl', y2, y3⟩ := H3'.out n hlt2
    have r0 := H4.out lp[n] (List.getElem_mem hlt)
    have q0 := H4'.out mp[n] (List.getElem_mem hlt2)
    have step : lp[n].1 = mp[n].1 → ∀ j (h1 : j < lp.length) (h2 : j < mp.length), j < n + 1 → lp[j].1 = mp[j].1 := fun hh j hj1 hj2 hjk => by
     by_cases e : j = n
     ·subst e; exact hh
     ·exact Hall.out j hj1 hj2 (by omega)
    have Step := Lib.hid step
    have Bad := Lib.hid (show lp[n].1 ≠ mp[n].1 → sameRuns (lp.map (·.1)) (mp.map (·.1)) = false from fun hne => sameRuns_at (n := n) (by rw [HL.out.1]; exact hlt) (by rw [HL.out.2]; exact hlt2) (by rw [List.getElem_map, List.getElem_map]; exact hne))
    have hab : sameRun lp[n].1 mp[n].1 = decide (lp[n].1 = mp[n].1) := rfl
    obtain ⟨px, hx⟩ : ∃ x, x = lp[n] := ⟨_, rfl⟩
    obtain ⟨py, hy⟩ : ∃ y, y = mp[n] := ⟨_, rfl⟩
    rw [← hx] at r0 x2 x3 Step Bad hab
    rw [← hy] at q0 y2 y3 Step Bad hab
    obtain ⟨x, xv⟩ := px
    obtain ⟨y, yv⟩ := py
    obtain ⟨ar, cr, hxv⟩ := r0.shape
    obtain ⟨at2, cs, hyv⟩ := q0.shape
    simp only at hxv hyv x2 x3 y2 y3 Step Bad hab
    subst hxv
    subst hyv
    have x2' := (hb.cell (p := ⟨b, off + n * 2, none⟩) (by exact hbl)).trans x2
    have x3' := (hb.cell (p := ⟨b, off + n * 2 + 1, none⟩) (by exact hbl)).trans x3
    have y2' := (hb.cell (p := ⟨b', off' + n * 2, none⟩) (by exact hbl')).trans y2
    have y3' := (hb.cell (p := ⟨b', off' + n * 2 + 1, none⟩) (by exact hbl')).trans y3
    have g1 := Nat.lt_of_lt_of_le hbl' hb.size
    have hs0 := hb.size
    obtain ⟨X, hX⟩ : ∃ X, X = (wr.alloc (.cells #[.string x.text, .slice ar x.attrs.length cr] 77)).alloc (.cells #[.string y.text, .slice at2 y.attrs.length cs] 77) := ⟨_, rfl⟩
    have BX := Lib.hid (show Below w.heap.size w X by rw [hX]; exact (hb.alloc hs0 _).alloc (by simp; omega) _)
    have e2 : X.cell? ⟨wr.heap.size, 0, none⟩ = some (.string x.text) := by rw [hX]; go_simp
    have e3 : X.cell? ⟨wr.heap.size, 1, none⟩ = some (.slice ar x.attrs.length cr) := by rw [hX]; go_simp
    have f2 : X.cell? ⟨wr.heap.size + 1, 0, none⟩ = some (.string y.text) := by rw [hX]; go_simp
    have f3 : X.cell? ⟨wr.heap.size + 1, 1, none⟩ = some (.slice at2 y.attrs.length cs) := by rw [hX]; go_simp
    have HX := Lib.hid hX
    have HC := Lib.hid (sameD1_any x y _ _ X (r0.below BX.out) (q0.below BX.out))
    clear hx hy r0 q0 x2 x3 y2 y3 hb hX step Hall
    by_cases hxy : x = y
    ·rw [decide_eq_true hxy] at hab
     rw [hab] at HC
     have S := Lib.hid (Step.out hxy)
     clear hab hxy Step Bad
     go_wp2_with fail
     rw [← HX.out]
     go_wp2_with fail
     refine HC.out.mono ?_
     rintro e w2 ⟨rfl, b2⟩
     have B2 := Lib.hid (BX.out.trans (b2.mono BX.out.size))
     clear b2
     go_wp2_with fail
     go_roundw
     case rel => exact ⟨n + 1, by go_num, by omega, S.out, B2.out⟩
     case measure => simp [intOf]; omega
    ·rw [decide_eq_false hxy] at hab
     rw [hab] at HC
     have S := Lib.hid (Bad.out hxy)
     clear hab hxy Step Bad
     go_wp2_with fail
     rw [← HX.out]
     go_wp2_with fail
     refine HC.out.mono ?_
     rintro e w2 ⟨rfl, b2⟩
     have B2 := Lib.hid (BX.out.trans (b2.mono BX.out.size))
     clear b2
     go_wp2_with fail
     go_ret
     exact outB_mk S.out (B2.out)
   ·have hkn : n = lp.length := by omega
    have hs := Lib.hid (show sameRuns (lp.map (·.1)) (mp.map (·.1)) = true from sameRuns_all (by rw [HL.out.1, HL.out.2]; exact Hlen.out) fun j h1 h2 => by
     rw [HL.out.1] at h1
     rw [HL.out.2] at h2
     rw [List.getElem_map, List.getElem_map]
     exact Hall.out j h1 h2 (by omega))
    subst hkn
    clear Hall hb
    go_wp2_with fail
    go_ret
    exact outB_mk hs.out (HB.out)
 ·have hs := Lib.hid (sameRuns_len (l := lp.map (·.1)) (m := mp.map (·.1)) (by rw [hL, hM]; exact hlen))
  have hle2 : ((lp.length : Int) == (mp.length : Int)) = false := by rw [beq_eq_false_iff_ne]; omega
  have hle3 : ((lp.length : Int) != (mp.length : Int)) = true := by rw [bne_iff_ne]; omega
  clear hlen hL hM
  go_enter Tryz.func26, Tryz.ntmps26
  go_wp2_with fail
  go_ret
  exact outB_mk hs.out (Below.refl _ _)
set_option maxRecDepth 100000 in
theorem sameDoc_any (v u : Value) (lp mp : List RP) (w : World) (hv : RunRow w v lp) (hu : RunRow w u mp) :
 Calls Tryz.prog 8 #[v, u] w (OutB w (sameRuns (lp.map (·.1)) (mp.map (·.1)))) := by
 have HC := Lib.hid (eqRuns_any v u lp mp w hv hu)
 clear hv hu
 go_enter Tryz.func8, Tryz.ntmps8
 go_wp2_with fail
 refine HC.out.mono ?_
 rintro e w1 ⟨rfl, hb⟩
 go_wp2_with fail
 go_ret
 exact outB_mk rfl hb
end Go.Proofs.YtlfodemmdfaeeaaGreatDoor
