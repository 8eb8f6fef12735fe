/- Texts of this seat, put together: RfTo, RfSame, RfNorm. -/
import Derived.Test.YtlfodemmdfaeeaaGreatDoorGC1
import Derived.Test.YtlfodemmdfaeeaaGreatDoorGR1
import Derived.Test.YtlfodemmdfaeeaaGreatDoorGC2
/- The document's own formed, measure, Right, To. -/
namespace Go.Proofs.YtlfodemmdfaeeaaGreatDoor
open Go.RowKit Ch

/-- Is an operation made as its kind asks? -/
def fmB (o : OpD) : Bool := decide ((o.kind = 1 ∧ 1 ≤ o.n ∧ o.text.size = 0) ∨ (o.kind = 2 ∧ o.n = 0 ∧ o.text.size ≠ 0) ∨ (o.kind = 3 ∧ 1 ≤ o.n ∧ o.text.size = 0 ∧ o.attrs.length = 0))
theorem fm_bad {o : OpD} (h : fmB o = false) : opE o = 30 := by
 have h := of_decide_eq_false h
 unfold opE
 split
 ·rw [if_pos (by omega)]
 ·split
  ·rw [if_pos (by omega)]
  ·split
   ·rw [if_pos (by omega)]
   ·rfl
theorem fm_put {o : OpD} (h : fmB o = true) (hk : o.kind = 2) : opE o = if er o.text.data.toList ≠ 0 then er o.text.data.toList else rgtE o.attrs := by
 have h := of_decide_eq_true h
 unfold opE
 rw [if_neg (by omega), if_pos hk, if_neg (by omega)]
theorem fm_rest {o : OpD} (h : fmB o = true) (hk : o.kind ≠ 2) : opE o = chgE o.attrs := by
 have h := of_decide_eq_true h
 unfold opE
 split
 ·rw [if_neg (by omega)]
 ·rw [if_pos (by omega), if_neg (by omega)]
  have : o.attrs = [] := List.length_eq_zero_iff.1 (by omega)
  rw [this]; rfl

set_option maxRecDepth 100000 in
set_option maxHeartbeats 2000000 in
theorem formed_any (o : OpD) (av : Value) (w : World) (hv : AtRow w av o.attrs) :
 Calls Tryz.prog 93 #[opAgg o av] w (OutB w (fmB o)) := by
 have hal : o.attrs.length ≤ 9223372036854775807 := by
  obtain ⟨_, _, _, h1, h2, _⟩ := hv
  unfold maxLen at h2; omega
 obtain ⟨aa, acap, rfl, _⟩ := hv
 obtain ⟨W, hW⟩ : ∃ W, W = w.alloc (.cells #[.int .i64 o.kind, .int .i64 o.n, .string o.text, .slice aa o.attrs.length acap] 37) := ⟨_, rfl⟩
 have BW := Lib.hid (show Below w.heap.size w W by rw [hW]; exact (Below.refl _ _).alloc (Nat.le_refl _) _)
 have c0 : W.cell? ⟨w.heap.size, 0, none⟩ = some (.int .i64 o.kind) := by rw [hW]; go_simp
 have c1 : W.cell? ⟨w.heap.size, 1, none⟩ = some (.int .i64 o.n) := by rw [hW]; go_simp
 have c2 : W.cell? ⟨w.heap.size, 2, none⟩ = some (.string o.text) := by rw [hW]; go_simp
 have c3 : W.cell? ⟨w.heap.size, 3, none⟩ = some (.slice aa o.attrs.length acap) := by rw [hW]; go_simp
 have HW := Lib.hid hW
 clear hW
 by_cases hk1 : o.kind = 1
 ·skip
  have k1 : (o.kind == 1) = true := by rw [hk1]; rfl
  by_cases hn : o.n < 1
  ·skip
   have hR := Lib.hid (show fmB o = false from decide_eq_false (by omega))
   clear hk1
   go_enter Tryz.func93, Tryz.ntmps93
   go_wp2_with fail
   rw [← HW.out]
   go_wp2_with fail
   go_ret
   exact outB_mk hR.out BW.out
  ·have hn1 : 1 ≤ o.n := by omega
   by_cases ht0 : o.text.size = 0
   ·obtain ⟨t1, t2⟩ := text_empty ht0
    have hR := Lib.hid (show fmB o = true from decide_eq_true (by omega))
    clear hk1 hn ht0
    go_enter Tryz.func93, Tryz.ntmps93
    go_wp2_with fail
    rw [← HW.out]
    go_wp2_with fail
    go_ret
    exact outB_mk hR.out BW.out
   ·have t1 := text_full ht0
    have hR := Lib.hid (show fmB o = false from decide_eq_false (by omega))
    clear hk1 hn ht0
    go_enter Tryz.func93, Tryz.ntmps93
    go_wp2_with fail
    rw [← HW.out]
    go_wp2_with fail
    go_ret
    exact outB_mk hR.out BW.out
 ·by_cases hk2 : o.kind = 2
  ·skip
   have k1 : (o.kind == 1) = false := by rw [beq_eq_false_iff_ne]; exact hk1
   have k2 : (o.kind == 2) = true := by rw [hk2]; rfl
   by_cases hn : o.n = 0
   ·have n0 : (o.n == 0) = true := by rw [hn]; rfl
    by_cases ht0 : o.text.size = 0
    ·obtain ⟨t1, t2⟩ := text_empty ht0
     have hR := Lib.hid (show fmB o = false from decide_eq_false (by omega))
     clear hk1 hk2 hn ht0
     go_enter Tryz.func93, Tryz.ntmps93
     go_wp2_with fail
     rw [← HW.out]
     go_wp2_with fail
     go_ret
     exact outB_mk hR.out BW.out
    ·have t1 := text_full ht0
     have hR := Lib.hid (show fmB o = true from decide_eq_true (by omega))
     clear hk1 hk2 hn ht0
     go_enter Tryz.func93, Tryz.ntmps93
     go_wp2_with fail
     rw [← HW.out]
     go_wp2_with fail
     go_ret
     exact outB_mk hR.out BW.out
   ·have n0 : (o.n == 0) = false := by rw [beq_eq_false_iff_ne]; exact hn
    have hR := Lib.hid (show fmB o = false from decide_eq_false (by omega))
    clear hk1 hk2 hn
    go_enter Tryz.func93, Tryz.ntmps93
    go_wp2_with fail
    rw [← HW.out]
    go_wp2_with fail
    go_ret
    exact outB_mk hR.out BW.out
  ·by_cases hk3 : o.kind = 3
   ·skip
    have k1 : (o.kind == 1) = false := by rw [beq_eq_false_iff_ne]; exact hk1
    have k2 : (o.kind == 2) = false := by rw [beq_eq_false_iff_ne]; exact hk2
    have k3 : (o.kind == 3) = true := by rw [hk3]; rfl
    by_cases hn : o.n < 1
    ·skip
     have hR := Lib.hid (show fmB o = false from decide_eq_false (by omega))
     clear hk1 hk2 hk3
     go_enter Tryz.func93, Tryz.ntmps93
     go_wp2_with fail
     rw [← HW.out]
     go_wp2_with fail
     go_ret
     exact outB_mk hR.out BW.out
    ·have hn1 : 1 ≤ o.n := by omega
     by_cases ht0 : o.text.size = 0
     ·obtain ⟨t1, t2⟩ := text_empty ht0
      by_cases ha : o.attrs.length = 0
      ·have ha1 : ((o.attrs.length : Int) == 0) = true := by rw [ha]; rfl
       have ha2 : (o.attrs.length == 0) = true := by rw [ha]; rfl
       have hR := Lib.hid (show fmB o = true from decide_eq_true (by omega))
       clear hk1 hk2 hk3 hn ht0 ha
       go_enter Tryz.func93, Tryz.ntmps93
       go_wp2_with fail
       rw [← HW.out]
       go_wp2_with fail
       go_ret
       exact outB_mk hR.out BW.out
      ·have ha1 : ((o.attrs.length : Int) == 0) = false := by rw [beq_eq_false_iff_ne]; omega
       have ha2 : (o.attrs.length == 0) = false := by rw [beq_eq_false_iff_ne]; omega
       have hR := Lib.hid (show fmB o = false from decide_eq_false (by omega))
       clear hk1 hk2 hk3 hn ht0 ha
       go_enter Tryz.func93, Tryz.ntmps93
       go_wp2_with fail
       rw [← HW.out]
       go_wp2_with fail
       go_ret
       exact outB_mk hR.out BW.out
     ·have t1 := text_full ht0
      have hR := Lib.hid (show fmB o = false from decide_eq_false (by omega))
      clear hk1 hk2 hk3 hn ht0
      go_enter Tryz.func93, Tryz.ntmps93
      go_wp2_with fail
      rw [← HW.out]
      go_wp2_with fail
      go_ret
      exact outB_mk hR.out BW.out
   ·skip
    have k1 : (o.kind == 1) = false := by rw [beq_eq_false_iff_ne]; exact hk1
    have k2 : (o.kind == 2) = false := by rw [beq_eq_false_iff_ne]; exact hk2
    have k3 : (o.kind == 3) = false := by rw [beq_eq_false_iff_ne]; exact hk3
    have hR := Lib.hid (show fmB o = false from decide_eq_false (by omega))
    clear hk1 hk2 hk3
    go_enter Tryz.func93, Tryz.ntmps93
    go_wp2_with fail
    rw [← HW.out]
    go_wp2_with fail
    go_ret
    exact outB_mk hR.out BW.out

theorem rightB_any (v : Value) (l : List (ByteArray × ByteArray)) (w : World) (h : AtRow w v l) (hsz : Sized l) :
 Calls Tryz.prog 95 #[v] w fun e w' => e = .returned (.int .i64 (rgtE l)) ∧ Below w.heap.size w w' :=
 (right_any v l w h hsz).mono fun _ _ ⟨h1, m, h2⟩ => ⟨h1, by rw [h2]; exact below_drewN (Below.refl _ _) m⟩
theorem changeB_any (v : Value) (l : List (ByteArray × ByteArray)) (w : World) (h : AtRow w v l) (hsz : Sized l) :
 Calls Tryz.prog 96 #[v] w fun e w' => e = .returned (.int .i64 (chgE l)) ∧ Below w.heap.size w w' :=
 (change_any v l w h hsz).mono fun _ _ ⟨h1, m, h2⟩ => ⟨h1, by rw [h2]; exact below_drewN (Below.refl _ _) m⟩
/-- Each text is such as the document's reading takes. -/
def TSmall (ops : List OpD) : Prop := ∀ o ∈ ops, o.text.size ≤ 1048576
theorem scan_cut' {o : OpD} {r : List OpD} {left f gone inn : Int} (h : opE o = 0) (hk : o.kind = 3) (hl : ¬ left < o.n) : scan left (f - gone + inn) (o :: r) = scan (left - o.n) (f - (gone + o.n) + inn) r := by
 rw [scan_cut h hk hl]
 have : f - gone + inn - o.n = f - (gone + o.n) + inn := by omega
 rw [this]
theorem scan_put' {o : OpD} {r : List OpD} {left f gone inn : Int} (h : opE o = 0) (hk : o.kind = 2) : scan left (f - gone + inn) (o :: r) = scan left (f - gone + (inn + cnt o.text.data.toList)) r := by
 have e : opSz o = cnt o.text.data.toList := by unfold opSz; rw [if_pos hk]
 rw [scan_put h hk, e]
 have : f - gone + inn + cnt o.text.data.toList = f - gone + (inn + cnt o.text.data.toList) := by omega
 rw [this]

set_option maxRecDepth 100000 in
set_option maxHeartbeats 4000000 in
theorem measure_any (f : Int) (v : Value) (ops : List OpD) (w : World) (hv : OpRow w v ops) (hz : OSized ops) (hts : TSmall ops) :
 Calls Tryz.prog 82 #[chAgg f v] w (ToOut w f ops) := by
 have Hv := Lib.hid hv
 have Hz := Lib.hid hz
 have Hts := Lib.hid hts
 obtain ⟨aa, acap, rfl, v1, v2, v3⟩ := hv
 have V3 := Lib.hid v3
 have hn : ops.length ≤ 9223372036854775807 := Nat.le_trans v1 v2
 obtain ⟨W, hW⟩ : ∃ W, W = w.alloc (.cells #[.int .i64 f, .slice aa ops.length acap] 25) := ⟨_, rfl⟩
 have BW := Lib.hid (show Below w.heap.size w W by rw [hW]; exact (Below.refl _ _).alloc (Nat.le_refl _) _)
 have c0 : W.cell? ⟨w.heap.size, 0, none⟩ = some (.int .i64 f) := by rw [hW]; go_simp
 have c1 : W.cell? ⟨w.heap.size, 1, none⟩ = some (.slice aa ops.length acap) := by rw [hW]; go_simp
 have hWs : w.heap.size < W.heap.size := by rw [hW]; simp
 have HW := Lib.hid hW
 clear hz hts hW v1 v2 v3
 by_cases hf : f < 0
 ·have e31 := Lib.hid (show toE f ops = 31 by unfold toE; rw [if_pos (.inl hf)])
  go_enter Tryz.func82, Tryz.ntmps82
  go_wp2_with fail
  rw [← HW.out]
  go_wp2_with fail
  go_ret2
  exact toOut_bad e31.out (by decide) BW.out
 ·by_cases hf2 : 20000 < f
  ·have e31 := Lib.hid (show toE f ops = 31 by unfold toE; rw [if_pos (.inr hf2)])
   have hf0 : 0 ≤ f := by omega
   clear hf
   go_enter Tryz.func82, Tryz.ntmps82
   go_wp2_with fail
   rw [← HW.out]
   go_wp2_with fail
   go_ret2
   exact toOut_bad e31.out (by decide) BW.out
  ·have hf0 : 0 ≤ f := by omega
   have hf3 : f ≤ 20000 := by omega
   by_cases hl : 2000 < ops.length
   ·have e2 := Lib.hid (show toE f ops = 2 by unfold toE; rw [if_neg (by omega), if_pos hl])
    have l0 : decide ((2000 : Int) < (ops.length : Int)) = true := decide_eq_true (by omega)
    have l1 : decide (2000 < ops.length) = true := decide_eq_true (by omega)
    clear hf hf2
    go_enter Tryz.func82, Tryz.ntmps82
    go_wp2_with fail
    rw [← HW.out]
    go_wp2_with fail
    go_ret2
    exact toOut_bad e2.out (by decide) BW.out
   ·have hl2 : ops.length ≤ 2000 := by omega
    have l0 : decide ((2000 : Int) < (ops.length : Int)) = false := decide_eq_false (by omega)
    have l1 : decide (2000 < ops.length) = false := decide_eq_false (by omega)
    clear hf hf2 hl
    go_enter Tryz.func82, Tryz.ntmps82
    go_wp2_with fail
    rw [← HW.out]
    go_wp2_with fail
    go_loopw [4, 5, 6, 7] (fun x y z i wr => ∃ (left gone inn : Int) (k : Nat), x = .int .i64 left ∧ y = .int .i64 gone ∧ z = .int .i64 inn ∧ i = .int .i64 (k : Int) ∧ k ≤ ops.length ∧ scan f f ops = scan left (f - gone + inn) (ops.drop k) ∧ 0 ≤ left ∧ left ≤ 20000 ∧ 0 ≤ gone ∧ gone + left ≤ f ∧ 0 ≤ inn ∧ inn ≤ 20000 * k ∧ Below W.heap.size W wr) (fun _ _ _ i _ => ops.length - (intOf i).toNat)
    case atStart => exact ⟨f, 0, 0, 0, rfl, rfl, rfl, rfl, Nat.zero_le _, by simp, hf0, hf3, Int.le_refl _, by omega, Int.le_refl _, by omega, Below.refl _ _⟩
    case round =>
     obtain ⟨left, gone, inn, k, rfl, rfl, rfl, rfl, hk, hs, g1, g2, g3, g4, g5, g6, hb⟩ := hrel
     have HB := Lib.hid hb
     have q0 : wr.cell? ⟨w.heap.size, 0, none⟩ = some (.int .i64 f) := (hb.cell (by exact hWs)).trans c0
     have q1 : wr.cell? ⟨w.heap.size, 1, none⟩ = some (.slice aa ops.length acap) := (hb.cell (by exact hWs)).trans c1
     by_cases hlt : k < ops.length
     ·have hlt' : (k : Int) < (ops.length : Int) := by omega
      obtain ⟨b, off, rfl, hbl, av, r0, _, x0, x1, x2, x3⟩ := V3.out k hlt
      have z := Hz.out _ (List.getElem_mem hlt)
      have zt := Hts.out _ (List.getElem_mem hlt)
      rw [drop_at hlt] at hs
      obtain ⟨o, ho⟩ : ∃ o, o = ops[k] := ⟨_, rfl⟩
      rw [← ho] at r0 x0 x1 x2 z zt hs
      obtain ⟨ar, cr, rfl⟩ := r0.shape
      have bb := BW.out.trans (hb.mono BW.out.size)
      have y0 : wr.cell? ⟨b, off + k * 4, none⟩ = some (.int .i64 o.kind) := (bb.cell (by exact hbl)).trans x0
      have y1 : wr.cell? ⟨b, off + k * 4 + 1, none⟩ = some (.int .i64 o.n) := (bb.cell (by exact hbl)).trans x1
      have y2 : wr.cell? ⟨b, off + k * 4 + 2, none⟩ = some (.string o.text) := (bb.cell (by exact hbl)).trans x2
      have y3 : wr.cell? ⟨b, off + k * 4 + 3, none⟩ = some (.slice ar o.attrs.length cr) := (bb.cell (by exact hbl)).trans x3
      have hs0 : w.heap.size ≤ wr.heap.size := bb.size
      have hs1 : W.heap.size ≤ wr.heap.size := hb.size
      obtain ⟨X, hX⟩ : ∃ X, X = wr.alloc (.cells #[.int .i64 o.kind, .int .i64 o.n, .string o.text, .slice ar o.attrs.length cr] 37) := ⟨_, rfl⟩
      have BX := Lib.hid (show Below W.heap.size W X by rw [hX]; exact hb.alloc hs1 _)
      have R0 := Lib.hid (r0.below (BW.out.trans (BX.out.mono BW.out.size)))
      have Z := Lib.hid z
      have Zt := Lib.hid zt
      have d0 : X.cell? ⟨wr.heap.size, 0, none⟩ = some (.int .i64 o.kind) := by rw [hX]; go_simp
      have d1 : X.cell? ⟨wr.heap.size, 1, none⟩ = some (.int .i64 o.n) := by rw [hX]; go_simp
      have d2 : X.cell? ⟨wr.heap.size, 2, none⟩ = some (.string o.text) := by rw [hX]; go_simp
      have d3 : X.cell? ⟨wr.heap.size, 3, none⟩ = some (.slice ar o.attrs.length cr) := by rw [hX]; go_simp
      have hXs : wr.heap.size < X.heap.size := by rw [hX]; simp
      have HX := Lib.hid hX
      have HS := Lib.hid hs
      have HF := Lib.hid (formed_any o _ X R0.out)
      clear ho r0 x0 x1 x2 x3 z zt hb bb hX hs q0
      cases hfm : fmB o with
      | false =>
        rw [hfm] at HF
        have E := Lib.hid (fm_bad hfm)
        clear hfm
        go_wp2_with fail
        rw [← HX.out]
        go_wp2_with fail
        refine HF.out.mono ?_
        rintro e w2 ⟨rfl, b2⟩
        have e0 : w2.cell? ⟨wr.heap.size, 0, none⟩ = some (.int .i64 o.kind) := (b2.cell (by exact hXs)).trans d0
        have e1 : w2.cell? ⟨wr.heap.size, 1, none⟩ = some (.int .i64 o.n) := (b2.cell (by exact hXs)).trans d1
        have e2 : w2.cell? ⟨wr.heap.size, 2, none⟩ = some (.string o.text) := (b2.cell (by exact hXs)).trans d2
        have e3 : w2.cell? ⟨wr.heap.size, 3, none⟩ = some (.slice ar o.attrs.length cr) := (b2.cell (by exact hXs)).trans d3
        have hs2 : X.heap.size ≤ w2.heap.size := b2.size
        have B2 := Lib.hid (BX.out.trans (b2.mono BX.out.size))
        have R2 := Lib.hid (R0.out.below b2)
        clear b2
        go_wp2_with fail
        go_ret2
        exact toOut_bad (toE_scan hf0 hf3 hl2 (HS.out.trans ((scan_bad (by rw [E.out]; decide)).trans (by rw [E.out]))) (by decide)) (by decide) (BW.out.trans (B2.out.mono BW.out.size))
      | true =>
        rw [hfm] at HF
        by_cases hk2 : o.kind = 2
        ·have k2 : (o.kind == 2) = true := by rw [hk2]; rfl
         have E0 := Lib.hid (fm_put hfm hk2)
         have K2 := Lib.hid hk2
         clear hfm hk2
         have hcn := cnt_nonneg o.text.data.toList
         by_cases he : er o.text.data.toList = 0
         ·have HC := Lib.hid (fun W : World => (refCount_any o.text W Zt.out))
          rw [he] at HC
          by_cases hr : rgtE o.attrs = 0
          ·have E := Lib.hid (show opE o = 0 by rw [E0.out, if_neg (by simpa using he), hr])
           have r0 : (rgtE o.attrs != 0) = false := by rw [hr]; rfl
           clear he hr
           obtain ⟨hc1, hc2⟩ := hcn
           go_wp2_with fail
           rw [← HX.out]
           go_wp2_with fail
           refine HF.out.mono ?_
           rintro e w2 ⟨rfl, b2⟩
           have e0 : w2.cell? ⟨wr.heap.size, 0, none⟩ = some (.int .i64 o.kind) := (b2.cell (by exact hXs)).trans d0
           have e1 : w2.cell? ⟨wr.heap.size, 1, none⟩ = some (.int .i64 o.n) := (b2.cell (by exact hXs)).trans d1
           have e2 : w2.cell? ⟨wr.heap.size, 2, none⟩ = some (.string o.text) := (b2.cell (by exact hXs)).trans d2
           have e3 : w2.cell? ⟨wr.heap.size, 3, none⟩ = some (.slice ar o.attrs.length cr) := (b2.cell (by exact hXs)).trans d3
           have hs2 : X.heap.size ≤ w2.heap.size := b2.size
           have B2 := Lib.hid (BX.out.trans (b2.mono BX.out.size))
           have R2 := Lib.hid (R0.out.below b2)
           clear b2
           go_wp2_with fail
           refine (HC.out _).mono ?_
           rintro e w3 ⟨rfl, b3⟩
           have hX2 : wr.heap.size < w2.heap.size := by omega
           have f3 : w3.cell? ⟨wr.heap.size, 3, none⟩ = some (.slice ar o.attrs.length cr) := (b3.cell (by exact hX2)).trans e3
           have B3 := Lib.hid (B2.out.trans (b3.mono B2.out.size))
           have R3 := Lib.hid (R2.out.below b3)
           clear b3
           go_wp2_with fail
           refine (rightB_any _ o.attrs _ R3.out Z.out.2).mono ?_
           rintro e w4 ⟨rfl, b4⟩
           have B4 := Lib.hid (B3.out.trans (b4.mono B3.out.size))
           clear b4
           go_wp2_with fail
           go_roundw
           case rel => exact ⟨left, gone, inn + cnt o.text.data.toList, k + 1, rfl, rfl, rfl, by go_num, by omega, HS.out.trans (scan_put' E.out K2.out), g1, g2, g3, g4, by omega, by omega, B4.out⟩
           case measure => simp [intOf]; omega
          ·have h20 := (rgtE_cases o.attrs).resolve_left hr
           have E := Lib.hid (show opE o = 20 by rw [E0.out, if_neg (by simpa using he), h20])
           have r0 : (rgtE o.attrs != 0) = true := by rw [bne_iff_ne]; exact hr
           clear he hr h20 hcn
           go_wp2_with fail
           rw [← HX.out]
           go_wp2_with fail
           refine HF.out.mono ?_
           rintro e w2 ⟨rfl, b2⟩
           have e0 : w2.cell? ⟨wr.heap.size, 0, none⟩ = some (.int .i64 o.kind) := (b2.cell (by exact hXs)).trans d0
           have e1 : w2.cell? ⟨wr.heap.size, 1, none⟩ = some (.int .i64 o.n) := (b2.cell (by exact hXs)).trans d1
           have e2 : w2.cell? ⟨wr.heap.size, 2, none⟩ = some (.string o.text) := (b2.cell (by exact hXs)).trans d2
           have e3 : w2.cell? ⟨wr.heap.size, 3, none⟩ = some (.slice ar o.attrs.length cr) := (b2.cell (by exact hXs)).trans d3
           have hs2 : X.heap.size ≤ w2.heap.size := b2.size
           have B2 := Lib.hid (BX.out.trans (b2.mono BX.out.size))
           have R2 := Lib.hid (R0.out.below b2)
           clear b2
           go_wp2_with fail
           refine (HC.out _).mono ?_
           rintro e w3 ⟨rfl, b3⟩
           have hX2 : wr.heap.size < w2.heap.size := by omega
           have f3 : w3.cell? ⟨wr.heap.size, 3, none⟩ = some (.slice ar o.attrs.length cr) := (b3.cell (by exact hX2)).trans e3
           have B3 := Lib.hid (B2.out.trans (b3.mono B2.out.size))
           have R3 := Lib.hid (R2.out.below b3)
           clear b3
           go_wp2_with fail
           refine (rightB_any _ o.attrs _ R3.out Z.out.2).mono ?_
           rintro e w4 ⟨rfl, b4⟩
           have B4 := Lib.hid (B3.out.trans (b4.mono B3.out.size))
           clear b4
           go_wp2_with fail
           go_ret2
           exact toOut_bad (toE_scan hf0 hf3 hl2 (HS.out.trans ((scan_bad (by rw [E.out]; decide)).trans (by rw [E.out]))) (by decide)) (by decide) (BW.out.trans (B4.out.mono BW.out.size))
         ·have h10 := (er_cases o.text.data.toList).resolve_left he
          have HC := Lib.hid (fun W : World => (refCount_any o.text W Zt.out))
          rw [h10] at HC
          have E := Lib.hid (show opE o = 10 by rw [E0.out, if_pos (by simpa using he), h10])
          clear he h10 hcn
          go_wp2_with fail
          rw [← HX.out]
          go_wp2_with fail
          refine HF.out.mono ?_
          rintro e w2 ⟨rfl, b2⟩
          have e0 : w2.cell? ⟨wr.heap.size, 0, none⟩ = some (.int .i64 o.kind) := (b2.cell (by exact hXs)).trans d0
          have e1 : w2.cell? ⟨wr.heap.size, 1, none⟩ = some (.int .i64 o.n) := (b2.cell (by exact hXs)).trans d1
          have e2 : w2.cell? ⟨wr.heap.size, 2, none⟩ = some (.string o.text) := (b2.cell (by exact hXs)).trans d2
          have e3 : w2.cell? ⟨wr.heap.size, 3, none⟩ = some (.slice ar o.attrs.length cr) := (b2.cell (by exact hXs)).trans d3
          have hs2 : X.heap.size ≤ w2.heap.size := b2.size
          have B2 := Lib.hid (BX.out.trans (b2.mono BX.out.size))
          have R2 := Lib.hid (R0.out.below b2)
          clear b2
          go_wp2_with fail
          refine (HC.out _).mono ?_
          rintro e w3 ⟨rfl, b3⟩
          have hX2 : wr.heap.size < w2.heap.size := by omega
          have f3 : w3.cell? ⟨wr.heap.size, 3, none⟩ = some (.slice ar o.attrs.length cr) := (b3.cell (by exact hX2)).trans e3
          have B3 := Lib.hid (B2.out.trans (b3.mono B2.out.size))
          have R3 := Lib.hid (R2.out.below b3)
          clear b3
          go_wp2_with fail
          go_ret2
          exact toOut_bad (toE_scan hf0 hf3 hl2 (HS.out.trans ((scan_bad (by rw [E.out]; decide)).trans (by rw [E.out]))) (by decide)) (by decide) (BW.out.trans (B3.out.mono BW.out.size))
        ·have k2 : (o.kind == 2) = false := by rw [beq_eq_false_iff_ne]; exact hk2
         have E0 := Lib.hid (fm_rest hfm hk2)
         have K2 := Lib.hid hk2
         clear hfm
         by_cases hr : chgE o.attrs = 0
         ·have E := Lib.hid (show opE o = 0 by rw [E0.out, hr])
          have hn1 := opE_n E.out hk2
          have r0 : (chgE o.attrs != 0) = false := by rw [hr]; rfl
          by_cases hl3 : left < o.n
          ·clear hr hk2
           go_wp2_with fail
           rw [← HX.out]
           go_wp2_with fail
           refine HF.out.mono ?_
           rintro e w2 ⟨rfl, b2⟩
           have e0 : w2.cell? ⟨wr.heap.size, 0, none⟩ = some (.int .i64 o.kind) := (b2.cell (by exact hXs)).trans d0
           have e1 : w2.cell? ⟨wr.heap.size, 1, none⟩ = some (.int .i64 o.n) := (b2.cell (by exact hXs)).trans d1
           have e2 : w2.cell? ⟨wr.heap.size, 2, none⟩ = some (.string o.text) := (b2.cell (by exact hXs)).trans d2
           have e3 : w2.cell? ⟨wr.heap.size, 3, none⟩ = some (.slice ar o.attrs.length cr) := (b2.cell (by exact hXs)).trans d3
           have hs2 : X.heap.size ≤ w2.heap.size := b2.size
           have B2 := Lib.hid (BX.out.trans (b2.mono BX.out.size))
           have R2 := Lib.hid (R0.out.below b2)
           clear b2
           go_wp2_with fail
           refine (changeB_any _ o.attrs _ R2.out Z.out.2).mono ?_
           rintro e w3 ⟨rfl, b3⟩
           have hX2 : wr.heap.size < w2.heap.size := by omega
           have f0 : w3.cell? ⟨wr.heap.size, 0, none⟩ = some (.int .i64 o.kind) := (b3.cell (by exact hX2)).trans e0
           have f1 : w3.cell? ⟨wr.heap.size, 1, none⟩ = some (.int .i64 o.n) := (b3.cell (by exact hX2)).trans e1
           have B3 := Lib.hid (B2.out.trans (b3.mono B2.out.size))
           clear b3
           go_wp2_with fail
           go_ret2
           exact toOut_bad (toE_scan hf0 hf3 hl2 (HS.out.trans (scan_over E.out K2.out hl3)) (by decide)) (by decide) (BW.out.trans (B3.out.mono BW.out.size))
          ·have hl4 : o.n ≤ left := by omega
           by_cases hk3 : o.kind = 3
           ·have k3 : (o.kind == 3) = true := by rw [hk3]; rfl
            have HS2 := Lib.hid (HS.out.trans (scan_cut' E.out hk3 hl3))
            clear hr hk2 hk3 hl3
            go_wp2_with fail
            rw [← HX.out]
            go_wp2_with fail
            refine HF.out.mono ?_
            rintro e w2 ⟨rfl, b2⟩
            have e0 : w2.cell? ⟨wr.heap.size, 0, none⟩ = some (.int .i64 o.kind) := (b2.cell (by exact hXs)).trans d0
            have e1 : w2.cell? ⟨wr.heap.size, 1, none⟩ = some (.int .i64 o.n) := (b2.cell (by exact hXs)).trans d1
            have e2 : w2.cell? ⟨wr.heap.size, 2, none⟩ = some (.string o.text) := (b2.cell (by exact hXs)).trans d2
            have e3 : w2.cell? ⟨wr.heap.size, 3, none⟩ = some (.slice ar o.attrs.length cr) := (b2.cell (by exact hXs)).trans d3
            have hs2 : X.heap.size ≤ w2.heap.size := b2.size
            have B2 := Lib.hid (BX.out.trans (b2.mono BX.out.size))
            have R2 := Lib.hid (R0.out.below b2)
            clear b2
            go_wp2_with fail
            refine (changeB_any _ o.attrs _ R2.out Z.out.2).mono ?_
            rintro e w3 ⟨rfl, b3⟩
            have hX2 : wr.heap.size < w2.heap.size := by omega
            have f0 : w3.cell? ⟨wr.heap.size, 0, none⟩ = some (.int .i64 o.kind) := (b3.cell (by exact hX2)).trans e0
            have f1 : w3.cell? ⟨wr.heap.size, 1, none⟩ = some (.int .i64 o.n) := (b3.cell (by exact hX2)).trans e1
            have B3 := Lib.hid (B2.out.trans (b3.mono B2.out.size))
            clear b3
            go_wp2_with fail
            go_roundw
            case rel => exact ⟨left - o.n, gone + o.n, inn, k + 1, rfl, rfl, rfl, by go_num, by omega, HS2.out, by omega, by omega, by omega, by omega, g5, by omega, B3.out⟩
            case measure => simp [intOf]; omega
           ·have k3 : (o.kind == 3) = false := by rw [beq_eq_false_iff_ne]; exact hk3
            have HS2 := Lib.hid (HS.out.trans (scan_keep E.out K2.out hk3 hl3))
            clear hr hk2 hk3 hl3
            go_wp2_with fail
            rw [← HX.out]
            go_wp2_with fail
            refine HF.out.mono ?_
            rintro e w2 ⟨rfl, b2⟩
            have e0 : w2.cell? ⟨wr.heap.size, 0, none⟩ = some (.int .i64 o.kind) := (b2.cell (by exact hXs)).trans d0
            have e1 : w2.cell? ⟨wr.heap.size, 1, none⟩ = some (.int .i64 o.n) := (b2.cell (by exact hXs)).trans d1
            have e2 : w2.cell? ⟨wr.heap.size, 2, none⟩ = some (.string o.text) := (b2.cell (by exact hXs)).trans d2
            have e3 : w2.cell? ⟨wr.heap.size, 3, none⟩ = some (.slice ar o.attrs.length cr) := (b2.cell (by exact hXs)).trans d3
            have hs2 : X.heap.size ≤ w2.heap.size := b2.size
            have B2 := Lib.hid (BX.out.trans (b2.mono BX.out.size))
            have R2 := Lib.hid (R0.out.below b2)
            clear b2
            go_wp2_with fail
            refine (changeB_any _ o.attrs _ R2.out Z.out.2).mono ?_
            rintro e w3 ⟨rfl, b3⟩
            have hX2 : wr.heap.size < w2.heap.size := by omega
            have f0 : w3.cell? ⟨wr.heap.size, 0, none⟩ = some (.int .i64 o.kind) := (b3.cell (by exact hX2)).trans e0
            have f1 : w3.cell? ⟨wr.heap.size, 1, none⟩ = some (.int .i64 o.n) := (b3.cell (by exact hX2)).trans e1
            have B3 := Lib.hid (B2.out.trans (b3.mono B2.out.size))
            clear b3
            go_wp2_with fail
            go_roundw
            case rel => exact ⟨left - o.n, gone, inn, k + 1, rfl, rfl, rfl, by go_num, by omega, HS2.out, by omega, by omega, g3, by omega, g5, by omega, B3.out⟩
            case measure => simp [intOf]; omega
         ·have h20 := (chgE_cases o.attrs).resolve_left hr
          have E := Lib.hid (show opE o = 20 by rw [E0.out, h20])
          have r0 : (chgE o.attrs != 0) = true := by rw [bne_iff_ne]; exact hr
          clear hr h20 hk2
          go_wp2_with fail
          rw [← HX.out]
          go_wp2_with fail
          refine HF.out.mono ?_
          rintro e w2 ⟨rfl, b2⟩
          have e0 : w2.cell? ⟨wr.heap.size, 0, none⟩ = some (.int .i64 o.kind) := (b2.cell (by exact hXs)).trans d0
          have e1 : w2.cell? ⟨wr.heap.size, 1, none⟩ = some (.int .i64 o.n) := (b2.cell (by exact hXs)).trans d1
          have e2 : w2.cell? ⟨wr.heap.size, 2, none⟩ = some (.string o.text) := (b2.cell (by exact hXs)).trans d2
          have e3 : w2.cell? ⟨wr.heap.size, 3, none⟩ = some (.slice ar o.attrs.length cr) := (b2.cell (by exact hXs)).trans d3
          have hs2 : X.heap.size ≤ w2.heap.size := b2.size
          have B2 := Lib.hid (BX.out.trans (b2.mono BX.out.size))
          have R2 := Lib.hid (R0.out.below b2)
          clear b2
          go_wp2_with fail
          refine (changeB_any _ o.attrs _ R2.out Z.out.2).mono ?_
          rintro e w3 ⟨rfl, b3⟩
          have hX2 : wr.heap.size < w2.heap.size := by omega
          have f0 : w3.cell? ⟨wr.heap.size, 0, none⟩ = some (.int .i64 o.kind) := (b3.cell (by exact hX2)).trans e0
          have f1 : w3.cell? ⟨wr.heap.size, 1, none⟩ = some (.int .i64 o.n) := (b3.cell (by exact hX2)).trans e1
          have B3 := Lib.hid (B2.out.trans (b3.mono B2.out.size))
          clear b3
          go_wp2_with fail
          go_ret2
          exact toOut_bad (toE_scan hf0 hf3 hl2 (HS.out.trans ((scan_bad (by rw [E.out]; decide)).trans (by rw [E.out]))) (by decide)) (by decide) (BW.out.trans (B3.out.mono BW.out.size))
     ·have hkn : k = ops.length := by omega
      subst hkn
      rw [List.drop_length] at hs
      obtain ⟨q3, q4⟩ := toE_end hf0 hf3 hl2 (hs.trans rfl)
      by_cases hu : 20000 < f - gone + inn
      ·rw [if_pos hu] at q3
       have Q1 := Lib.hid q3
       clear q3 q4 hs hb
       go_wp2_with fail
       go_ret2
       exact toOut_bad Q1.out (by decide) (BW.out.trans (HB.out.mono BW.out.size))
      ·rw [if_neg hu] at q3
       have Q1 := Lib.hid (And.intro q3 (q4 hu))
       have hu2 : f - gone + inn ≤ 20000 := by omega
       clear q3 q4 hs hb
       go_wp2_with fail
       go_ret2
       exact toOut_mk Q1.out.1 Q1.out.2 (BW.out.trans (HB.out.mono BW.out.size))

theorem refRight_any (f : Int) (v : Value) (ops : List OpD) (w : World) (hv : OpRow w v ops) (hz : OSized ops) (hts : TSmall ops) :
 Calls Tryz.prog 55 #[chAgg f v] w fun e w' => e = .returned (.int .i64 (toE f ops)) ∧ Below w.heap.size w w' := by
 have HC := Lib.hid (measure_any f v ops _ (hv.below (below_box w (.cells #[.int .i64 f, v] 25))) hz hts)
 obtain ⟨aa, acap, rfl⟩ := hv.shape
 clear hv hz hts
 go_enter Tryz.func55, Tryz.ntmps55
 go_wp2_with fail
 refine HC.out.mono ?_
 rintro e w1 ⟨rfl, hb⟩
 go_wp2_with fail
 go_ret
 exact ⟨rfl, (below_box w _).trans (hb.mono (by simp))⟩
end Go.Proofs.YtlfodemmdfaeeaaGreatDoor

/- The document's own Same, of changesets. -/
namespace Go.Proofs.YtlfodemmdfaeeaaGreatDoor
open Go.RowKit Ch

theorem refSameB_any (v u : Value) (l m : List (ByteArray × ByteArray)) (w : World) (hv : AtRow w v l) (hu : AtRow w u m) :
 Calls Tryz.prog 57 #[v, u] w (OutB w (sameB l m)) :=
 (refSame_any v u l m w hv hu).mono fun _ _ ⟨h1, k, h2⟩ => ⟨h1, by rw [h2]; exact below_drewN (Below.refl _ _) k⟩

set_option maxRecDepth 100000 in
set_option maxHeartbeats 4000000 in
theorem refSameCh_any (f g : Int) (v u : Value) (l m : List OpD) (w : World) (hv : OpRow w v l) (hu : OpRow w u m) :
 Calls Tryz.prog 25 #[chAgg f v, chAgg g u] w (OutB w (sameCh f g l m)) := by
 obtain ⟨a, cap, rfl, h1, h2, h3⟩ := hv
 obtain ⟨a', cap', rfl, h1', h2', h3'⟩ := hu
 have hn : l.length ≤ 9223372036854775807 := Nat.le_trans h1 h2
 have hn' : m.length ≤ 9223372036854775807 := Nat.le_trans h1' h2'
 have H3 := Lib.hid h3
 have H3' := Lib.hid h3'
 clear h1 h2 h3 h1' h2' h3'
 obtain ⟨W, hW⟩ : ∃ W, W = (w.alloc (.cells #[.int .i64 f, .slice a l.length cap] 25)).alloc (.cells #[.int .i64 g, .slice a' m.length cap'] 25) := ⟨_, rfl⟩
 have BW := Lib.hid (show Below w.heap.size w W by rw [hW]; exact ((Below.refl _ _).alloc (Nat.le_refl _) _).alloc (by simp) _)
 have c0 : W.cell? ⟨w.heap.size, 0, none⟩ = some (.int .i64 f) := by rw [hW]; go_simp
 have c1 : W.cell? ⟨w.heap.size, 1, none⟩ = some (.slice a l.length cap) := by rw [hW]; go_simp
 have d0 : W.cell? ⟨w.heap.size + 1, 0, none⟩ = some (.int .i64 g) := by rw [hW]; go_simp
 have d1 : W.cell? ⟨w.heap.size + 1, 1, none⟩ = some (.slice a' m.length cap') := by rw [hW]; go_simp
 have hWs : w.heap.size + 1 < W.heap.size := by rw [hW]; simp
 have hWs' : w.heap.size < W.heap.size := by omega
 have HW := Lib.hid hW
 clear hW
 by_cases hf : f = g
 ·have k1 : (f == g) = true := by rw [beq_iff_eq]; exact hf
  have k2 : (f != g) = false := by rw [hf]; simp
  have HRf := Lib.hid (show sameCh f g l m = sameOps l m by unfold sameCh sameOps; simp [hf])
  clear hf
  by_cases hlen : l.length = m.length
  ·have Hlen := Lib.hid hlen
   have hle2 : ((l.length : Int) == (m.length : Int)) = true := by rw [hlen]; simp
   have hle3 : ((l.length : Int) != (m.length : Int)) = false := by rw [hlen]; simp
   clear hlen
   go_enter Tryz.func25, Tryz.ntmps25
   go_wp2_with fail
   rw [← HW.out]
   go_wp2_with fail
   go_loopw [5] (fun i wr => ∃ n : Nat, i = .int .i64 (n : Int) ∧ n ≤ l.length ∧ (∀ j (h1 : j < l.length) (h2 : j < m.length), j < n → l[j] = m[j]) ∧ Below W.heap.size W wr) (fun i _ => l.length - (intOf i).toNat)
   case atStart => exact ⟨0, rfl, by omega, fun j _ _ h => by omega, Below.refl _ _⟩
   case round =>
    obtain ⟨n, rfl, hk, hall, hb⟩ := hrel
    have Hall := Lib.hid hall
    have HB := Lib.hid (BW.out.trans (hb.mono BW.out.size))
    have q1 : wr.cell? ⟨w.heap.size, 1, none⟩ = some (.slice a l.length cap) := (hb.cell (by exact hWs')).trans c1
    have q2 : wr.cell? ⟨w.heap.size + 1, 1, none⟩ = some (.slice a' m.length cap') := (hb.cell (by exact hWs)).trans d1
    clear hall
    by_cases hlt : n < l.length
    ·have hlt2 : n < m.length := by have := Hlen.out; omega
     have hlt' : (n : Int) < (l.length : Int) := by omega
     have hlt2' : (n : Int) < (m.length : Int) := by omega
     obtain ⟨b, off, rfl, hbl, xv, r0, _, x0, x1, x2, x3⟩ := H3.out n hlt
     obtain ⟨b', off', rfl, hbl', yv, q0, _, y0, y1, y2, y3⟩ := H3'.out n hlt2
     have step : l[n] = m[n] → ∀ j (h1 : j < l.length) (h2 : j < m.length), j < n + 1 → l[j] = m[j] := fun hh j hj1 hj2 hjk => by
      by_cases e : j = n
      ·subst e; exact hh
      ·exact Hall.out j hj1 hj2 (by omega)
     have Step := Lib.hid step
     have Bad := Lib.hid (sameOps_at hlt hlt2)
     obtain ⟨x, hx⟩ : ∃ x, x = l[n] := ⟨_, rfl⟩
     obtain ⟨y, hy⟩ : ∃ y, y = m[n] := ⟨_, rfl⟩
     rw [← hx] at r0 x0 x1 x2 Step Bad
     rw [← hy] at q0 y0 y1 y2 Step Bad
     obtain ⟨ar, cr, rfl⟩ := r0.shape
     obtain ⟨at2, cs, rfl⟩ := q0.shape
     have hbw := HB.out
     have x0' := (hbw.cell (p := ⟨b, off + n * 4, none⟩) (by exact hbl)).trans x0
     have x1' := (hbw.cell (p := ⟨b, off + n * 4 + 1, none⟩) (by exact hbl)).trans x1
     have x2' := (hbw.cell (p := ⟨b, off + n * 4 + 2, none⟩) (by exact hbl)).trans x2
     have x3' := (hbw.cell (p := ⟨b, off + n * 4 + 3, none⟩) (by exact hbl)).trans x3
     have y0' := (hbw.cell (p := ⟨b', off' + n * 4, none⟩) (by exact hbl')).trans y0
     have y1' := (hbw.cell (p := ⟨b', off' + n * 4 + 1, none⟩) (by exact hbl')).trans y1
     have y2' := (hbw.cell (p := ⟨b', off' + n * 4 + 2, none⟩) (by exact hbl')).trans y2
     have y3' := (hbw.cell (p := ⟨b', off' + n * 4 + 3, none⟩) (by exact hbl')).trans y3
     have g1 := Nat.lt_of_lt_of_le hbl' hbw.size
     have gq := Nat.lt_of_lt_of_le hWs hb.size
     have hs0 := hbw.size
     have hs1 := hb.size
     obtain ⟨X, hX⟩ : ∃ X, X = (wr.alloc (.cells #[.int .i64 x.kind, .int .i64 x.n, .string x.text, .slice ar x.attrs.length cr] 37)).alloc (.cells #[.int .i64 y.kind, .int .i64 y.n, .string y.text, .slice at2 y.attrs.length cs] 37) := ⟨_, rfl⟩
     have BX := Lib.hid (show Below W.heap.size W X by rw [hX]; exact (hb.alloc hs1 _).alloc (by simp; omega) _)
     have e0 : X.cell? ⟨wr.heap.size, 0, none⟩ = some (.int .i64 x.kind) := by rw [hX]; go_simp
     have e1 : X.cell? ⟨wr.heap.size, 1, none⟩ = some (.int .i64 x.n) := by rw [hX]; go_simp
     have e2 : X.cell? ⟨wr.heap.size, 2, none⟩ = some (.string x.text) := by rw [hX]; go_simp
     have e3 : X.cell? ⟨wr.heap.size, 3, none⟩ = some (.slice ar x.attrs.length cr) := by rw [hX]; go_simp
     have f0 : X.cell? ⟨wr.heap.size + 1, 0, none⟩ = some (.int .i64 y.kind) := by rw [hX]; go_simp
     have f1 : X.cell? ⟨wr.heap.size + 1, 1, none⟩ = some (.int .i64 y.n) := by rw [hX]; go_simp
     have f2 : X.cell? ⟨wr.heap.size + 1, 2, none⟩ = some (.string y.text) := by rw [hX]; go_simp
     have f3 : X.cell? ⟨wr.heap.size + 1, 3, none⟩ = some (.slice at2 y.attrs.length cs) := by rw [hX]; go_simp
     have hXs : wr.heap.size + 1 < X.heap.size := by rw [hX]; simp
     have hXs' : wr.heap.size < X.heap.size := by omega
     have HX := Lib.hid hX
     have bx := BW.out.trans (BX.out.mono BW.out.size)
     have HC := Lib.hid (refSameB_any _ _ x.attrs y.attrs X (r0.below bx) (q0.below bx))
     clear hx hy r0 q0 x0 x1 x2 x3 y0 y1 y2 y3 hb hbw hX step Hall bx
     by_cases hkk : x.kind = y.kind
     ·have ka : (x.kind == y.kind) = true := by rw [beq_iff_eq]; exact hkk
      have kb : (x.kind != y.kind) = false := by rw [hkk]; simp
      by_cases hnn : x.n = y.n
      ·have na : (x.n == y.n) = true := by rw [beq_iff_eq]; exact hnn
       have nb : (x.n != y.n) = false := by rw [hnn]; simp
       by_cases htt : x.text = y.text
       ·have ta : (x.text.toList == y.text.toList) = true := by rw [htt]; simp
        have tb : (x.text.toList != y.text.toList) = false := by rw [htt]; simp
        cases hsb : sameB x.attrs y.attrs with
        | true =>
          rw [hsb] at HC
          have S := Lib.hid (Step.out (by have := of_decide_eq_true hsb; cases x; cases y; simp_all))
          clear hkk hnn htt hsb Step Bad
          go_wp2_with fail
          rw [← HX.out]
          go_wp2_with fail
          refine HC.out.mono ?_
          rintro e w2 ⟨rfl, b2⟩
          have e0' : w2.cell? ⟨wr.heap.size, 0, none⟩ = some (.int .i64 x.kind) := (b2.cell (by exact hXs')).trans e0
          have e1' : w2.cell? ⟨wr.heap.size, 1, none⟩ = some (.int .i64 x.n) := (b2.cell (by exact hXs')).trans e1
          have e2' : w2.cell? ⟨wr.heap.size, 2, none⟩ = some (.string x.text) := (b2.cell (by exact hXs')).trans e2
          have f0' : w2.cell? ⟨wr.heap.size + 1, 0, none⟩ = some (.int .i64 y.kind) := (b2.cell (by exact hXs)).trans f0
          have f1' : w2.cell? ⟨wr.heap.size + 1, 1, none⟩ = some (.int .i64 y.n) := (b2.cell (by exact hXs)).trans f1
          have f2' : w2.cell? ⟨wr.heap.size + 1, 2, none⟩ = some (.string y.text) := (b2.cell (by exact hXs)).trans f2
          have B2 := Lib.hid (BX.out.trans (b2.mono BX.out.size))
          clear b2 e0 e1 e2 e3 f0 f1 f2 f3
          go_wp2_with fail
          go_roundw
          case rel => exact ⟨n + 1, by go_num, by omega, S.out, B2.out⟩
          case measure => simp [intOf]; omega
        | false =>
          rw [hsb] at HC
          have S := Lib.hid (Bad.out fun e => by rw [e] at hsb; exact absurd (show sameB y.attrs y.attrs = true from decide_eq_true rfl) (by rw [hsb]; decide))
          clear hkk hnn htt hsb Step Bad
          go_wp2_with fail
          rw [← HX.out]
          go_wp2_with fail
          refine HC.out.mono ?_
          rintro e w2 ⟨rfl, b2⟩
          have e0' : w2.cell? ⟨wr.heap.size, 0, none⟩ = some (.int .i64 x.kind) := (b2.cell (by exact hXs')).trans e0
          have e1' : w2.cell? ⟨wr.heap.size, 1, none⟩ = some (.int .i64 x.n) := (b2.cell (by exact hXs')).trans e1
          have e2' : w2.cell? ⟨wr.heap.size, 2, none⟩ = some (.string x.text) := (b2.cell (by exact hXs')).trans e2
          have f0' : w2.cell? ⟨wr.heap.size + 1, 0, none⟩ = some (.int .i64 y.kind) := (b2.cell (by exact hXs)).trans f0
          have f1' : w2.cell? ⟨wr.heap.size + 1, 1, none⟩ = some (.int .i64 y.n) := (b2.cell (by exact hXs)).trans f1
          have f2' : w2.cell? ⟨wr.heap.size + 1, 2, none⟩ = some (.string y.text) := (b2.cell (by exact hXs)).trans f2
          have B2 := Lib.hid (BX.out.trans (b2.mono BX.out.size))
          clear b2 e0 e1 e2 e3 f0 f1 f2 f3
          go_wp2_with fail
          go_ret
          exact outB_mk (HRf.out.trans S.out) (BW.out.trans (B2.out.mono BW.out.size))
       ·have ta : (x.text.toList == y.text.toList) = false := by rw [beq_text]; exact decide_eq_false htt
        have tb : (x.text.toList != y.text.toList) = true := by rw [bne, ta]; rfl
        have S := Lib.hid (Bad.out fun e => htt (by rw [e]))
        clear hkk hnn htt Step Bad
        go_wp2_with fail
        rw [← HX.out]
        go_wp2_with fail
        refine HC.out.mono ?_
        rintro e w2 ⟨rfl, b2⟩
        have e0' : w2.cell? ⟨wr.heap.size, 0, none⟩ = some (.int .i64 x.kind) := (b2.cell (by exact hXs')).trans e0
        have e1' : w2.cell? ⟨wr.heap.size, 1, none⟩ = some (.int .i64 x.n) := (b2.cell (by exact hXs')).trans e1
        have e2' : w2.cell? ⟨wr.heap.size, 2, none⟩ = some (.string x.text) := (b2.cell (by exact hXs')).trans e2
        have f0' : w2.cell? ⟨wr.heap.size + 1, 0, none⟩ = some (.int .i64 y.kind) := (b2.cell (by exact hXs)).trans f0
        have f1' : w2.cell? ⟨wr.heap.size + 1, 1, none⟩ = some (.int .i64 y.n) := (b2.cell (by exact hXs)).trans f1
        have f2' : w2.cell? ⟨wr.heap.size + 1, 2, none⟩ = some (.string y.text) := (b2.cell (by exact hXs)).trans f2
        have B2 := Lib.hid (BX.out.trans (b2.mono BX.out.size))
        clear b2 e0 e1 e2 e3 f0 f1 f2 f3
        go_wp2_with fail
        go_ret
        exact outB_mk (HRf.out.trans S.out) (BW.out.trans (B2.out.mono BW.out.size))
      ·have na : (x.n == y.n) = false := by rw [beq_eq_false_iff_ne]; exact hnn
       have nb : (x.n != y.n) = true := by rw [bne_iff_ne]; exact hnn
       have S := Lib.hid (Bad.out fun e => hnn (by rw [e]))
       clear hkk hnn Step Bad
       go_wp2_with fail
       rw [← HX.out]
       go_wp2_with fail
       refine HC.out.mono ?_
       rintro e w2 ⟨rfl, b2⟩
       have e0' : w2.cell? ⟨wr.heap.size, 0, none⟩ = some (.int .i64 x.kind) := (b2.cell (by exact hXs')).trans e0
       have e1' : w2.cell? ⟨wr.heap.size, 1, none⟩ = some (.int .i64 x.n) := (b2.cell (by exact hXs')).trans e1
       have e2' : w2.cell? ⟨wr.heap.size, 2, none⟩ = some (.string x.text) := (b2.cell (by exact hXs')).trans e2
       have f0' : w2.cell? ⟨wr.heap.size + 1, 0, none⟩ = some (.int .i64 y.kind) := (b2.cell (by exact hXs)).trans f0
       have f1' : w2.cell? ⟨wr.heap.size + 1, 1, none⟩ = some (.int .i64 y.n) := (b2.cell (by exact hXs)).trans f1
       have f2' : w2.cell? ⟨wr.heap.size + 1, 2, none⟩ = some (.string y.text) := (b2.cell (by exact hXs)).trans f2
       have B2 := Lib.hid (BX.out.trans (b2.mono BX.out.size))
       clear b2 e0 e1 e2 e3 f0 f1 f2 f3
       go_wp2_with fail
       go_ret
       exact outB_mk (HRf.out.trans S.out) (BW.out.trans (B2.out.mono BW.out.size))
     ·have ka : (x.kind == y.kind) = false := by rw [beq_eq_false_iff_ne]; exact hkk
      have kb : (x.kind != y.kind) = true := by rw [bne_iff_ne]; exact hkk
      have S := Lib.hid (Bad.out fun e => hkk (by rw [e]))
      clear hkk Step Bad
      go_wp2_with fail
      rw [← HX.out]
      go_wp2_with fail
      refine HC.out.mono ?_
      rintro e w2 ⟨rfl, b2⟩
      have e0' : w2.cell? ⟨wr.heap.size, 0, none⟩ = some (.int .i64 x.kind) := (b2.cell (by exact hXs')).trans e0
      have e1' : w2.cell? ⟨wr.heap.size, 1, none⟩ = some (.int .i64 x.n) := (b2.cell (by exact hXs')).trans e1
      have e2' : w2.cell? ⟨wr.heap.size, 2, none⟩ = some (.string x.text) := (b2.cell (by exact hXs')).trans e2
      have f0' : w2.cell? ⟨wr.heap.size + 1, 0, none⟩ = some (.int .i64 y.kind) := (b2.cell (by exact hXs)).trans f0
      have f1' : w2.cell? ⟨wr.heap.size + 1, 1, none⟩ = some (.int .i64 y.n) := (b2.cell (by exact hXs)).trans f1
      have f2' : w2.cell? ⟨wr.heap.size + 1, 2, none⟩ = some (.string y.text) := (b2.cell (by exact hXs)).trans f2
      have B2 := Lib.hid (BX.out.trans (b2.mono BX.out.size))
      clear b2 e0 e1 e2 e3 f0 f1 f2 f3
      go_wp2_with fail
      go_ret
      exact outB_mk (HRf.out.trans S.out) (BW.out.trans (B2.out.mono BW.out.size))
    ·have hkn : n = l.length := by omega
     have hs := Lib.hid (sameOps_all Hlen.out fun j h1 h2 => Hall.out j h1 h2 (by omega))
     subst hkn
     clear Hall hb
     go_wp2_with fail
     go_ret
     exact outB_mk (HRf.out.trans hs.out) HB.out
  ·have hs := Lib.hid (sameOps_len hlen)
   have hle2 : ((l.length : Int) == (m.length : Int)) = false := by rw [beq_eq_false_iff_ne]; omega
   have hle3 : ((l.length : Int) != (m.length : Int)) = true := by rw [bne_iff_ne]; omega
   clear hlen
   go_enter Tryz.func25, Tryz.ntmps25
   go_wp2_with fail
   rw [← HW.out]
   go_wp2_with fail
   go_ret
   exact outB_mk (HRf.out.trans hs.out) BW.out
 ·have k1 : (f == g) = false := by rw [beq_eq_false_iff_ne]; exact hf
  have k2 : (f != g) = true := by rw [bne_iff_ne]; exact hf
  have hR := Lib.hid (show sameCh f g l m = false from decide_eq_false fun e => hf e.1)
  clear hf
  go_enter Tryz.func25, Tryz.ntmps25
  go_wp2_with fail
  rw [← HW.out]
  go_wp2_with fail
  go_ret
  exact outB_mk hR.out BW.out
end Go.Proofs.YtlfodemmdfaeeaaGreatDoor

/- The document's own normal form, by groups, plain: it is the one normal form. -/
namespace Go.Proofs.YtlfodemmdfaeeaaGreatDoor
open Go.RowKit Ch

abbrev PA := OpD × Value
structure Grp where
 v : Value
 l : List PA
 g : Int
def dels (g : Int) : List PA := if 0 < g then [(delO g, .slice none 0 0)] else []
def rend : List Grp → List PA → List PA
 | G :: r, k :: ks => G.l ++ dels G.g ++ k :: rend r ks
 | _, _ => []
def fsts (l : List PA) : List OpD := l.map (·.1)
theorem fsts_len (l : List PA) : (fsts l).length = l.length := by simp [fsts]
theorem fsts_append (l m : List PA) : fsts (l ++ m) = fsts l ++ fsts m := by simp [fsts]
theorem fsts_snoc_rev (a l : List PA) (x : PA) : (fsts (a ++ (l ++ [x]))).reverse = x.1 :: (fsts (a ++ l)).reverse := by
 rw [← List.append_assoc, fsts_append, List.reverse_append]; rfl
theorem rend_snoc {init : List Grp} {ks : List PA} (h : init.length = ks.length) (G : Grp) (k : PA) : rend (init ++ [G]) (ks ++ [k]) = rend init ks ++ (G.l ++ dels G.g ++ [k]) := by
 induction init generalizing ks with
 | nil => cases ks with
   | nil => simp [rend]
   | cons _ _ => simp at h
 | cons x r ih => cases ks with
   | nil => simp at h
   | cons y s => simp only [List.cons_append, rend, ih (by simpa using h)]; simp
theorem nil_or_snoc {α : Type} (l : List α) : l = [] ∨ ∃ r x, l = r ++ [x] := by
 rcases List.eq_nil_or_concat l with h | ⟨r, x, h⟩
 ·exact .inl h
 ·exact .inr ⟨r, x, by simpa using h⟩

/-- The groups on the way stand for the state on the way. -/
structure Rel (init : List Grp) (ks cur : List PA) (g : Int) (s : List OpD × Int) : Prop where
 len : init.length = ks.length
 row : s.1 = (fsts (rend init ks ++ cur)).reverse
 gone : s.2 = g
 g0 : 0 ≤ g
 keep : ∀ k ∈ ks, k.1.kind = 1
 ins : ∀ x ∈ cur, x.1.kind = 2
theorem rel_start : Rel [] [] [] 0 ([], 0) := ⟨rfl, rfl, rfl, Int.le_refl _, (fun _ h => by cases h), (fun _ h => by cases h)⟩
/-- The row's head is the last of the inserts, or the keep ahead of them. -/
theorem Rel.head {init : List Grp} {ks cur : List PA} {g : Int} {s : List OpD × Int} (h : Rel init ks cur g s) :
 (cur = [] ∧ ks = [] ∧ s.1 = []) ∨ (cur = [] ∧ ∃ i0 G k0 k, init = i0 ++ [G] ∧ ks = k0 ++ [k] ∧ s.1 = k.1 :: (fsts (rend i0 k0 ++ (G.l ++ dels G.g))).reverse) ∨
  ∃ c0 x, cur = c0 ++ [x] ∧ s.1 = x.1 :: (fsts (rend init ks ++ c0)).reverse := by
 obtain ⟨h1, h2, _, _, _⟩ := h
 rcases nil_or_snoc cur with rfl | ⟨c0, x, rfl⟩
 ·rcases nil_or_snoc ks with rfl | ⟨k0, k, rfl⟩
  ·left
   have : init = [] := List.length_eq_zero_iff.1 h1
   subst this
   exact ⟨rfl, rfl, h2⟩
  ·rcases nil_or_snoc init with rfl | ⟨i0, G, rfl⟩
   ·simp at h1
   ·have hl : i0.length = k0.length := by simpa using h1
    right; left
    refine ⟨rfl, i0, G, k0, k, rfl, rfl, ?_⟩
    rw [h2, List.append_nil, rend_snoc hl]
    have := fsts_snoc_rev (rend i0 k0) (G.l ++ dels G.g) k
    simpa [List.append_assoc] using this
 ·right; right
  exact ⟨c0, x, rfl, by rw [h2, fsts_snoc_rev]⟩
theorem Rel.ins_new {init : List Grp} {ks cur : List PA} {g : Int} {s : List OpD × Int} (h : Rel init ks cur g s) {o : OpD} (hk : o.kind = 2) (ha : ∀ c0 x, cur = c0 ++ [x] → x.1.attrs ≠ o.attrs) (v : Value) :
 Rel init ks (cur ++ [(o, v)]) g (add s o) := by
 have e : add s o = (put s.1 o, s.2) := by unfold add; rw [if_neg (by omega), if_neg (by omega)]
 have hp : put s.1 o = o :: s.1 := put_fresh fun x r hx hh => by
  rcases h.head with ⟨_, _, h0⟩ | ⟨_, i0, G, k0, k, _, hks, h0⟩ | ⟨c0, y, hc, h0⟩
  ·rw [h0] at hx; cases hx
  ·rw [h0] at hx
   simp only [List.cons.injEq] at hx
   have := h.keep k (by rw [hks]; simp)
   rw [hx.1] at this
   omega
  ·rw [h0] at hx
   simp only [List.cons.injEq] at hx
   exact ha c0 y hc (by rw [hx.1]; exact hh.2)
 rw [e, hp]
 exact ⟨h.len, by rw [fsts_snoc_rev, ← h.row], h.gone, h.g0, h.keep, fun x hx => by
  rcases List.mem_append.1 hx with hx | hx
  ·exact h.ins x hx
  ·simp only [List.mem_singleton] at hx; subst hx; exact hk⟩
theorem Rel.ins_join {init : List Grp} {ks c0 : List PA} {x : PA} {g : Int} {s : List OpD × Int} (h : Rel init ks (c0 ++ [x]) g s) {o : OpD} (hk : o.kind = 2) (hn : o.n = 0) (ha : x.1.attrs = o.attrs) :
 Rel init ks (c0 ++ [({ x.1 with text := cat x.1.text o.text }, x.2)]) g (add s o) := by
 have e : add s o = (put s.1 o, s.2) := by unfold add; rw [if_neg (by omega), if_neg (by omega)]
 have h2 : x.1.kind = 2 := h.ins x (by simp)
 have hr := h.row
 rw [fsts_snoc_rev] at hr
 have hp : put s.1 o = { x.1 with text := cat x.1.text o.text } :: (fsts (rend init ks ++ c0)).reverse := by
  rw [hr, put, if_pos ⟨by omega, ha⟩]
  have : x.1.n + o.n = x.1.n := by omega
  rw [this]
 rw [e, hp]
 exact ⟨h.len, by rw [fsts_snoc_rev], h.gone, h.g0, h.keep, fun y hy => by
  rcases List.mem_append.1 hy with hy | hy
  ·exact h.ins y (List.mem_append_left _ hy)
  ·simp only [List.mem_singleton] at hy; subst hy; exact h2⟩
theorem Rel.del {init : List Grp} {ks cur : List PA} {g : Int} {s : List OpD × Int} (h : Rel init ks cur g s) {o : OpD} (hk : o.kind = 3) (hn : 0 ≤ o.n) : Rel init ks cur (g + o.n) (add s o) := by
 have e : add s o = (s.1, s.2 + o.n) := by unfold add; rw [if_pos hk]
 rw [e]
 exact ⟨h.len, h.row, by rw [← h.gone], by have := h.g0; omega, h.keep, h.ins⟩
theorem Rel.flush {init : List Grp} {ks cur : List PA} {g : Int} {s : List OpD × Int} (h : Rel init ks cur g s) (hs : St s) : Ch.flush s = (fsts (rend init ks ++ (cur ++ dels g))).reverse := by
 unfold Ch.flush dels
 rw [h.gone]
 split
 ·rw [put_fresh fun x r e h3 => hs.2 x r e h3.1, h.row, fsts_snoc_rev]
 ·rw [h.row, List.append_nil]
theorem Rel.keep_join {init : List Grp} {k0 : List PA} {x : PA} {s : List OpD × Int} (h : Rel init (k0 ++ [x]) [] 0 s) (_hs : St s) {o : OpD} (hk : o.kind = 1) (ht : o.text.size = 0) (ha : x.1.attrs = o.attrs) :
 Rel init (k0 ++ [({ x.1 with n := x.1.n + o.n }, x.2)]) [] 0 (add s o) := by
 have h1 : x.1.kind = 1 := h.keep x (by simp)
 rcases nil_or_snoc init with rfl | ⟨i0, G, rfl⟩
 ·have := h.len; simp at this
 have hl : i0.length = k0.length := by simpa using h.len
 have e : add s o = (put (Ch.flush s) o, 0) := by unfold add; rw [if_neg (by omega), if_pos hk]
 have hf : Ch.flush s = s.1 := by unfold Ch.flush; rw [if_neg (by rw [h.gone]; omega)]
 have hr : s.1 = x.1 :: (fsts (rend i0 k0 ++ (G.l ++ dels G.g))).reverse := by
  rw [h.row, List.append_nil, rend_snoc hl]
  have := fsts_snoc_rev (rend i0 k0) (G.l ++ dels G.g) x
  simpa [List.append_assoc] using this
 have hp : put (Ch.flush s) o = { x.1 with n := x.1.n + o.n } :: (fsts (rend i0 k0 ++ (G.l ++ dels G.g))).reverse := by
  rw [hf, hr, put, if_pos ⟨by omega, ha⟩, cat_nil ht]
 rw [e, hp]
 refine ⟨by simpa using h.len, ?_, rfl, Int.le_refl _, fun k hk' => ?_, fun y hy => by cases hy⟩
 ·show _ = (fsts (rend (i0 ++ [G]) _ ++ [])).reverse
  rw [List.append_nil, rend_snoc hl]
  have := fsts_snoc_rev (rend i0 k0) (G.l ++ dels G.g) ({ x.1 with n := x.1.n + o.n }, x.2)
  simpa [List.append_assoc] using this.symm
 ·rcases List.mem_append.1 hk' with hk' | hk'
  ·exact h.keep k (List.mem_append_left _ hk')
  ·simp only [List.mem_singleton] at hk'; subst hk'; exact h1
theorem Rel.keep_new {init : List Grp} {ks cur : List PA} {g : Int} {s : List OpD × Int} (h : Rel init ks cur g s) (hs : St s) {o : OpD} (hk : o.kind = 1)
 (ha : cur = [] → g = 0 → ∀ k0 x, ks = k0 ++ [x] → x.1.attrs ≠ o.attrs) (v v' : Value) : Rel (init ++ [⟨v, cur, g⟩]) (ks ++ [(o, v')]) [] 0 (add s o) := by
 have e : add s o = (put (Ch.flush s) o, 0) := by unfold add; rw [if_neg (by omega), if_pos hk]
 have hf := h.flush hs
 have hp : put (Ch.flush s) o = o :: Ch.flush s := put_fresh fun x r hx hh => by
  rw [hf] at hx
  by_cases hg : 0 < g
  ·unfold dels at hx
   rw [if_pos hg, fsts_snoc_rev] at hx
   simp only [List.cons.injEq] at hx
   have h3 : (delO g).kind = 3 := rfl
   rw [hx.1] at h3
   omega
  ·have hg0 : g = 0 := by have := h.g0; omega
   unfold dels at hx
   rw [if_neg hg, List.append_nil, ← h.row] at hx
   rcases h.head with ⟨_, _, h0⟩ | ⟨hc, i0, G, k0, k, _, hks, h0⟩ | ⟨c0, y, hc, h0⟩
   ·rw [h0] at hx; cases hx
   ·rw [h0] at hx
    simp only [List.cons.injEq] at hx
    exact ha hc hg0 k0 k hks (by rw [hx.1]; exact hh.2)
   ·rw [h0] at hx
    simp only [List.cons.injEq] at hx
    have := h.ins y (by rw [hc]; simp)
    rw [hx.1] at this
    omega
 rw [e, hp, hf]
 refine ⟨by simp [h.len], ?_, rfl, Int.le_refl _, fun k hk' => ?_, fun y hy => by cases hy⟩
 ·rw [List.append_nil, rend_snoc h.len]
  have := fsts_snoc_rev (rend init ks) (cur ++ dels g) (o, v')
  simpa [List.append_assoc] using this.symm
 ·rcases List.mem_append.1 hk' with hk' | hk'
  ·exact h.keep k hk'
  ·simp only [List.mem_singleton] at hk'; subst hk'; exact hk
/-- What is put together in the end. -/
def trimF (l : List PA) : List PA := match l.getLast? with
 | some x => if x.1.kind = 1 ∧ x.1.attrs.length = 0 then l.dropLast else l
 | none => l
theorem trimF_snoc (l : List PA) (x : PA) : trimF (l ++ [x]) = if x.1.kind = 1 ∧ x.1.attrs.length = 0 then l else l ++ [x] := by
 unfold trimF
 simp
theorem norm_of {init : List Grp} {ks cur : List PA} {g : Int} {ops : List OpD} (h : Rel init ks cur g (fold ops)) (hs : St (fold ops)) : norm ops = fsts (trimF (rend init ks ++ (cur ++ dels g))) := by
 unfold norm
 rw [h.flush hs]
 rcases nil_or_snoc (rend init ks ++ (cur ++ dels g)) with h0 | ⟨r, x, h0⟩
 ·rw [h0]; rfl
 ·rw [h0, trimF_snoc]
  have e : (fsts (r ++ [x])).reverse = x.1 :: (fsts r).reverse := by simp [fsts]
  rw [e, trim]
  split
  ·rw [List.reverse_reverse]
  ·rw [List.reverse_cons, List.reverse_reverse]; simp [fsts]
/-- How many there are on the way, and how large. -/
theorem Rel.lim {init : List Grp} {ks cur : List PA} {g : Int} {s : List OpD × Int} (h : Rel init ks cur g s) {k : Nat} (hl : Lim k s) (hk : k ≤ 2000) :
 cur.length ≤ 2000 ∧ ks.length ≤ 2000 ∧ g ≤ 40000000 ∧ (∀ x ∈ cur, x.1.text.size ≤ 160000000) ∧ (∀ x ∈ ks, 0 ≤ x.1.n ∧ x.1.n ≤ 40000000) := by
 have h1 : s.1.length ≤ 2000 := by have := hl.siz; unfold siz at this; omega
 have h2 : s.1.length = (rend init ks).length + cur.length := by rw [h.row]; simp [fsts_len]
 have hr : ∀ (i : List Grp) (l : List PA), i.length = l.length → l.length ≤ (rend i l).length ∧ ∀ x ∈ l, x ∈ rend i l := by
  intro i
  induction i with
  | nil => intro l hl; cases l with
    | nil => exact ⟨Nat.le_refl _, fun x hx => by cases hx⟩
    | cons _ _ => simp at hl
  | cons a r ih => intro l hl; cases l with
    | nil => simp at hl
    | cons y t =>
      obtain ⟨i1, i2⟩ := ih t (by simpa using hl)
      rw [rend]
      refine ⟨by simp; omega, fun x hx => ?_⟩
      rcases List.mem_cons.1 hx with rfl | hx
      ·simp
      ·exact List.mem_append_right _ (List.mem_cons_of_mem _ (i2 x hx))
 obtain ⟨r1, r2⟩ := hr init ks h.len
 have mem : ∀ x : PA, x ∈ rend init ks ++ cur → x.1 ∈ s.1 := fun x hx => by
  rw [h.row, List.mem_reverse]
  exact List.mem_map.2 ⟨x, hx, rfl⟩
 refine ⟨by omega, by omega, by have := hl.g1; rw [h.gone] at this; omega, fun x hx => ?_, fun x hx => ?_⟩
 ·have := hl.ops x.1 (mem x (List.mem_append_right _ hx)); omega
 ·have := hl.ops x.1 (mem x (List.mem_append_left _ (r2 x hx))); omega
end Go.Proofs.YtlfodemmdfaeeaaGreatDoor
