import Derived.Test.YtadookafnfnaoaaGreatDoorGS4
import Derived.Test.YtadookafnfnaoaaGreatDoorGS3
import Derived.Test.YtadookafnfnaoaaGreatDoorGS17
/- The document's own formed, measure, Right, To. -/
namespace Go.Proofs.YtadookafnfnaoaaGreatDoor
open Go.RowKit Ch

/-- Is an operation made as its kind asks? -/
def fmB (o : OpD) : Bool := decide ((o.kind = 1 ∧ 1 ≤ o.n ∧ o.text.size = 0) ∨ (o.kind = 2 ∧ o.n = 0 ∧ o.text.size ≠ 0) ∨ (o.kind = 3 ∧ 1 ≤ o.n ∧ o.text.size = 0 ∧ o.attrs.length = 0))
theorem fm_bad {o : OpD} (h : fmB o = false) : opE o = 30 := by
  have h := of_decide_eq_false h
  unfold opE
  split
  · rw [if_pos (by omega)]
  · split
    · rw [if_pos (by omega)]
    · split
      · rw [if_pos (by omega)]
      · rfl
theorem fm_put {o : OpD} (h : fmB o = true) (hk : o.kind = 2) : opE o = if er o.text.data.toList ≠ 0 then er o.text.data.toList else rgtE o.attrs := by
  have h := of_decide_eq_true h
  unfold opE
  rw [if_neg (by omega), if_pos hk, if_neg (by omega)]
theorem fm_rest {o : OpD} (h : fmB o = true) (hk : o.kind ≠ 2) : opE o = chgE o.attrs := by
  have h := of_decide_eq_true h
  unfold opE
  split
  · rw [if_neg (by omega)]
  · rw [if_pos (by omega), if_neg (by omega)]
    have : o.attrs = [] := List.length_eq_zero_iff.1 (by omega)
    rw [this]; rfl

set_option maxRecDepth 100000 in
set_option maxHeartbeats 2000000 in
theorem formed_any (o : OpD) (av : Value) (w : World) (hv : AtRow w av o.attrs) :
    Calls Tryz.prog 80 #[opAgg o av] w (OutB w (fmB o)) := by
  have hal : o.attrs.length ≤ 9223372036854775807 := by
    obtain ⟨_, _, _, h1, h2, _⟩ := hv
    unfold maxLen at h2; omega
  obtain ⟨aa, acap, rfl, _⟩ := hv
  obtain ⟨W, hW⟩ : ∃ W, W = w.alloc (.cells #[.int .i64 o.kind, .int .i64 o.n, .string o.text, .slice aa o.attrs.length acap] 48) := ⟨_, rfl⟩
  have BW := Lib.hid (show Below w.heap.size w W by rw [hW]; exact (Below.refl _ _).alloc (Nat.le_refl _) _)
  have c0 : W.cell? ⟨w.heap.size, 0, none⟩ = some (.int .i64 o.kind) := by rw [hW]; go_simp
  have c1 : W.cell? ⟨w.heap.size, 1, none⟩ = some (.int .i64 o.n) := by rw [hW]; go_simp
  have c2 : W.cell? ⟨w.heap.size, 2, none⟩ = some (.string o.text) := by rw [hW]; go_simp
  have c3 : W.cell? ⟨w.heap.size, 3, none⟩ = some (.slice aa o.attrs.length acap) := by rw [hW]; go_simp
  have HW := Lib.hid hW
  clear hW
  by_cases hk1 : o.kind = 1
  · skip
    have k1 : (o.kind == 1) = true := by rw [hk1]; rfl
    by_cases hn : o.n < 1
    · skip
      have hR := Lib.hid (show fmB o = false from decide_eq_false (by omega))
      clear hk1
      go_enter Tryz.func80, Tryz.ntmps80
      go_wp2_with fail
      rw [← HW.out]
      go_wp2_with fail
      go_ret
      exact outB_mk hR.out BW.out
    · have hn1 : 1 ≤ o.n := by omega
      by_cases ht0 : o.text.size = 0
      · obtain ⟨t1, t2⟩ := text_empty ht0
        have hR := Lib.hid (show fmB o = true from decide_eq_true (by omega))
        clear hk1 hn ht0
        go_enter Tryz.func80, Tryz.ntmps80
        go_wp2_with fail
        rw [← HW.out]
        go_wp2_with fail
        go_ret
        exact outB_mk hR.out BW.out
      · have t1 := text_full ht0
        have hR := Lib.hid (show fmB o = false from decide_eq_false (by omega))
        clear hk1 hn ht0
        go_enter Tryz.func80, Tryz.ntmps80
        go_wp2_with fail
        rw [← HW.out]
        go_wp2_with fail
        go_ret
        exact outB_mk hR.out BW.out
  · by_cases hk2 : o.kind = 2
    · skip
      have k1 : (o.kind == 1) = false := by rw [beq_eq_false_iff_ne]; exact hk1
      have k2 : (o.kind == 2) = true := by rw [hk2]; rfl
      by_cases hn : o.n = 0
      · have n0 : (o.n == 0) = true := by rw [hn]; rfl
        by_cases ht0 : o.text.size = 0
        · obtain ⟨t1, t2⟩ := text_empty ht0
          have hR := Lib.hid (show fmB o = false from decide_eq_false (by omega))
          clear hk1 hk2 hn ht0
          go_enter Tryz.func80, Tryz.ntmps80
          go_wp2_with fail
          rw [← HW.out]
          go_wp2_with fail
          go_ret
          exact outB_mk hR.out BW.out
        · have t1 := text_full ht0
          have hR := Lib.hid (show fmB o = true from decide_eq_true (by omega))
          clear hk1 hk2 hn ht0
          go_enter Tryz.func80, Tryz.ntmps80
          go_wp2_with fail
          rw [← HW.out]
          go_wp2_with fail
          go_ret
          exact outB_mk hR.out BW.out
      · have n0 : (o.n == 0) = false := by rw [beq_eq_false_iff_ne]; exact hn
        have hR := Lib.hid (show fmB o = false from decide_eq_false (by omega))
        clear hk1 hk2 hn
        go_enter Tryz.func80, Tryz.ntmps80
        go_wp2_with fail
        rw [← HW.out]
        go_wp2_with fail
        go_ret
        exact outB_mk hR.out BW.out
    · by_cases hk3 : o.kind = 3
      · skip
        have k1 : (o.kind == 1) = false := by rw [beq_eq_false_iff_ne]; exact hk1
        have k2 : (o.kind == 2) = false := by rw [beq_eq_false_iff_ne]; exact hk2
        have k3 : (o.kind == 3) = true := by rw [hk3]; rfl
        by_cases hn : o.n < 1
        · skip
          have hR := Lib.hid (show fmB o = false from decide_eq_false (by omega))
          clear hk1 hk2 hk3
          go_enter Tryz.func80, Tryz.ntmps80
          go_wp2_with fail
          rw [← HW.out]
          go_wp2_with fail
          go_ret
          exact outB_mk hR.out BW.out
        · have hn1 : 1 ≤ o.n := by omega
          by_cases ht0 : o.text.size = 0
          · obtain ⟨t1, t2⟩ := text_empty ht0
            by_cases ha : o.attrs.length = 0
            · have ha1 : ((o.attrs.length : Int) == 0) = true := by rw [ha]; rfl
              have ha2 : (o.attrs.length == 0) = true := by rw [ha]; rfl
              have hR := Lib.hid (show fmB o = true from decide_eq_true (by omega))
              clear hk1 hk2 hk3 hn ht0 ha
              go_enter Tryz.func80, Tryz.ntmps80
              go_wp2_with fail
              rw [← HW.out]
              go_wp2_with fail
              go_ret
              exact outB_mk hR.out BW.out
            · have ha1 : ((o.attrs.length : Int) == 0) = false := by rw [beq_eq_false_iff_ne]; omega
              have ha2 : (o.attrs.length == 0) = false := by rw [beq_eq_false_iff_ne]; omega
              have hR := Lib.hid (show fmB o = false from decide_eq_false (by omega))
              clear hk1 hk2 hk3 hn ht0 ha
              go_enter Tryz.func80, Tryz.ntmps80
              go_wp2_with fail
              rw [← HW.out]
              go_wp2_with fail
              go_ret
              exact outB_mk hR.out BW.out
          · have t1 := text_full ht0
            have hR := Lib.hid (show fmB o = false from decide_eq_false (by omega))
            clear hk1 hk2 hk3 hn ht0
            go_enter Tryz.func80, Tryz.ntmps80
            go_wp2_with fail
            rw [← HW.out]
            go_wp2_with fail
            go_ret
            exact outB_mk hR.out BW.out
      · skip
        have k1 : (o.kind == 1) = false := by rw [beq_eq_false_iff_ne]; exact hk1
        have k2 : (o.kind == 2) = false := by rw [beq_eq_false_iff_ne]; exact hk2
        have k3 : (o.kind == 3) = false := by rw [beq_eq_false_iff_ne]; exact hk3
        have hR := Lib.hid (show fmB o = false from decide_eq_false (by omega))
        clear hk1 hk2 hk3
        go_enter Tryz.func80, Tryz.ntmps80
        go_wp2_with fail
        rw [← HW.out]
        go_wp2_with fail
        go_ret
        exact outB_mk hR.out BW.out

theorem rightB_any (v : Value) (l : List (ByteArray × ByteArray)) (w : World) (h : AtRow w v l) (hsz : Sized l) :
    Calls Tryz.prog 82 #[v] w fun e w' => e = .returned (.int .i64 (rgtE l)) ∧ Below w.heap.size w w' :=
  (right_any v l w h hsz).mono fun _ _ ⟨h1, m, h2⟩ => ⟨h1, by rw [h2]; exact below_drewN (Below.refl _ _) m⟩
theorem changeB_any (v : Value) (l : List (ByteArray × ByteArray)) (w : World) (h : AtRow w v l) (hsz : Sized l) :
    Calls Tryz.prog 83 #[v] w fun e w' => e = .returned (.int .i64 (chgE l)) ∧ Below w.heap.size w w' :=
  (change_any v l w h hsz).mono fun _ _ ⟨h1, m, h2⟩ => ⟨h1, by rw [h2]; exact below_drewN (Below.refl _ _) m⟩
/-- Each text is such as the document's reading takes. -/
def TSmall (ops : List OpD) : Prop := ∀ o ∈ ops, o.text.size ≤ 1048576
theorem scan_cut' {o : OpD} {r : List OpD} {left f gone inn : Int} (h : opE o = 0) (hk : o.kind = 3) (hl : ¬ left < o.n) : scan left (f - gone + inn) (o :: r) = scan (left - o.n) (f - (gone + o.n) + inn) r := by
  rw [scan_cut h hk hl]
  have : f - gone + inn - o.n = f - (gone + o.n) + inn := by omega
  rw [this]
theorem scan_put' {o : OpD} {r : List OpD} {left f gone inn : Int} (h : opE o = 0) (hk : o.kind = 2) : scan left (f - gone + inn) (o :: r) = scan left (f - gone + (inn + cnt o.text.data.toList)) r := by
  have e : opSz o = cnt o.text.data.toList := by unfold opSz; rw [if_pos hk]
  rw [scan_put h hk, e]
  have : f - gone + inn + cnt o.text.data.toList = f - gone + (inn + cnt o.text.data.toList) := by omega
  rw [this]

set_option maxRecDepth 100000 in
set_option maxHeartbeats 4000000 in
theorem measure_any (f : Int) (v : Value) (ops : List OpD) (w : World) (hv : OpRow w v ops) (hz : OSized ops) (hts : TSmall ops) :
    Calls Tryz.prog 55 #[chAgg f v] w (ToOut w f ops) := by
  have Hv := Lib.hid hv
  have Hz := Lib.hid hz
  have Hts := Lib.hid hts
  obtain ⟨aa, acap, rfl, v1, v2, v3⟩ := hv
  have V3 := Lib.hid v3
  have hn : ops.length ≤ 9223372036854775807 := Nat.le_trans v1 v2
  obtain ⟨W, hW⟩ : ∃ W, W = w.alloc (.cells #[.int .i64 f, .slice aa ops.length acap] 24) := ⟨_, rfl⟩
  have BW := Lib.hid (show Below w.heap.size w W by rw [hW]; exact (Below.refl _ _).alloc (Nat.le_refl _) _)
  have c0 : W.cell? ⟨w.heap.size, 0, none⟩ = some (.int .i64 f) := by rw [hW]; go_simp
  have c1 : W.cell? ⟨w.heap.size, 1, none⟩ = some (.slice aa ops.length acap) := by rw [hW]; go_simp
  have hWs : w.heap.size < W.heap.size := by rw [hW]; simp
  have HW := Lib.hid hW
  clear hz hts hW v1 v2 v3
  by_cases hf : f < 0
  · have e31 := Lib.hid (show toE f ops = 31 by unfold toE; rw [if_pos (.inl hf)])
    go_enter Tryz.func55, Tryz.ntmps55
    go_wp2_with fail
    rw [← HW.out]
    go_wp2_with fail
    go_ret2
    exact toOut_bad e31.out (by decide) BW.out
  · by_cases hf2 : 20000 < f
    · have e31 := Lib.hid (show toE f ops = 31 by unfold toE; rw [if_pos (.inr hf2)])
      have hf0 : 0 ≤ f := by omega
      clear hf
      go_enter Tryz.func55, Tryz.ntmps55
      go_wp2_with fail
      rw [← HW.out]
      go_wp2_with fail
      go_ret2
      exact toOut_bad e31.out (by decide) BW.out
    · have hf0 : 0 ≤ f := by omega
      have hf3 : f ≤ 20000 := by omega
      by_cases hl : 2000 < ops.length
      · have e2 := Lib.hid (show toE f ops = 2 by unfold toE; rw [if_neg (by omega), if_pos hl])
        have l0 : decide ((2000 : Int) < (ops.length : Int)) = true := decide_eq_true (by omega)
        have l1 : decide (2000 < ops.length) = true := decide_eq_true (by omega)
        clear hf hf2
        go_enter Tryz.func55, Tryz.ntmps55
        go_wp2_with fail
        rw [← HW.out]
        go_wp2_with fail
        go_ret2
        exact toOut_bad e2.out (by decide) BW.out
      · have hl2 : ops.length ≤ 2000 := by omega
        have l0 : decide ((2000 : Int) < (ops.length : Int)) = false := decide_eq_false (by omega)
        have l1 : decide (2000 < ops.length) = false := decide_eq_false (by omega)
        clear hf hf2 hl
        go_enter Tryz.func55, Tryz.ntmps55
        go_wp2_with fail
        rw [← HW.out]
        go_wp2_with fail
        go_loopw [4, 5, 6, 7] (fun x y z i wr => ∃ (left gone inn : Int) (k : Nat), x = .int .i64 left ∧ y = .int .i64 gone ∧ z = .int .i64 inn ∧ i = .int .i64 (k : Int) ∧ k ≤ ops.length ∧ scan f f ops = scan left (f - gone + inn) (ops.drop k) ∧ 0 ≤ left ∧ left ≤ 20000 ∧ 0 ≤ gone ∧ gone + left ≤ f ∧ 0 ≤ inn ∧ inn ≤ 20000 * k ∧ Below W.heap.size W wr) (fun _ _ _ i _ => ops.length - (intOf i).toNat)
        case atStart => exact ⟨f, 0, 0, 0, rfl, rfl, rfl, rfl, Nat.zero_le _, by simp, hf0, hf3, Int.le_refl _, by omega, Int.le_refl _, by omega, Below.refl _ _⟩
        case round =>
          obtain ⟨left, gone, inn, k, rfl, rfl, rfl, rfl, hk, hs, g1, g2, g3, g4, g5, g6, hb⟩ := hrel
          have HB := Lib.hid hb
          have q0 : wr.cell? ⟨w.heap.size, 0, none⟩ = some (.int .i64 f) := (hb.cell (by exact hWs)).trans c0
          have q1 : wr.cell? ⟨w.heap.size, 1, none⟩ = some (.slice aa ops.length acap) := (hb.cell (by exact hWs)).trans c1
          by_cases hlt : k < ops.length
          · have hlt' : (k : Int) < (ops.length : Int) := by omega
            obtain ⟨b, off, rfl, hbl, av, r0, _, x0, x1, x2, x3⟩ := V3.out k hlt
            have z := Hz.out _ (List.getElem_mem hlt)
            have zt := Hts.out _ (List.getElem_mem hlt)
            rw [drop_at hlt] at hs
            obtain ⟨o, ho⟩ : ∃ o, o = ops[k] := ⟨_, rfl⟩
            rw [← ho] at r0 x0 x1 x2 z zt hs
            obtain ⟨ar, cr, rfl⟩ := r0.shape
            have bb := BW.out.trans (hb.mono BW.out.size)
            have y0 : wr.cell? ⟨b, off + k * 4, none⟩ = some (.int .i64 o.kind) := (bb.cell (by exact hbl)).trans x0
            have y1 : wr.cell? ⟨b, off + k * 4 + 1, none⟩ = some (.int .i64 o.n) := (bb.cell (by exact hbl)).trans x1
            have y2 : wr.cell? ⟨b, off + k * 4 + 2, none⟩ = some (.string o.text) := (bb.cell (by exact hbl)).trans x2
            have y3 : wr.cell? ⟨b, off + k * 4 + 3, none⟩ = some (.slice ar o.attrs.length cr) := (bb.cell (by exact hbl)).trans x3
            have hs0 : w.heap.size ≤ wr.heap.size := bb.size
            have hs1 : W.heap.size ≤ wr.heap.size := hb.size
            obtain ⟨X, hX⟩ : ∃ X, X = wr.alloc (.cells #[.int .i64 o.kind, .int .i64 o.n, .string o.text, .slice ar o.attrs.length cr] 48) := ⟨_, rfl⟩
            have BX := Lib.hid (show Below W.heap.size W X by rw [hX]; exact hb.alloc hs1 _)
            have R0 := Lib.hid (r0.below (BW.out.trans (BX.out.mono BW.out.size)))
            have Z := Lib.hid z
            have Zt := Lib.hid zt
            have d0 : X.cell? ⟨wr.heap.size, 0, none⟩ = some (.int .i64 o.kind) := by rw [hX]; go_simp
            have d1 : X.cell? ⟨wr.heap.size, 1, none⟩ = some (.int .i64 o.n) := by rw [hX]; go_simp
            have d2 : X.cell? ⟨wr.heap.size, 2, none⟩ = some (.string o.text) := by rw [hX]; go_simp
            have d3 : X.cell? ⟨wr.heap.size, 3, none⟩ = some (.slice ar o.attrs.length cr) := by rw [hX]; go_simp
            have hXs : wr.heap.size < X.heap.size := by rw [hX]; simp
            have HX := Lib.hid hX
            have HS := Lib.hid hs
            have HF := Lib.hid (formed_any o _ X R0.out)
            clear ho r0 x0 x1 x2 x3 z zt hb bb hX hs q0
            cases hfm : fmB o with
            | false =>
              rw [hfm] at HF
              have E := Lib.hid (fm_bad hfm)
              clear hfm
              go_wp2_with fail
              rw [← HX.out]
              go_wp2_with fail
              refine HF.out.mono ?_
              rintro e w2 ⟨rfl, b2⟩
              have e0 : w2.cell? ⟨wr.heap.size, 0, none⟩ = some (.int .i64 o.kind) := (b2.cell (by exact hXs)).trans d0
              have e1 : w2.cell? ⟨wr.heap.size, 1, none⟩ = some (.int .i64 o.n) := (b2.cell (by exact hXs)).trans d1
              have e2 : w2.cell? ⟨wr.heap.size, 2, none⟩ = some (.string o.text) := (b2.cell (by exact hXs)).trans d2
              have e3 : w2.cell? ⟨wr.heap.size, 3, none⟩ = some (.slice ar o.attrs.length cr) := (b2.cell (by exact hXs)).trans d3
              have hs2 : X.heap.size ≤ w2.heap.size := b2.size
              have B2 := Lib.hid (BX.out.trans (b2.mono BX.out.size))
              have R2 := Lib.hid (R0.out.below b2)
              clear b2
              go_wp2_with fail
              go_ret2
              exact toOut_bad (toE_scan hf0 hf3 hl2 (HS.out.trans ((scan_bad (by rw [E.out]; decide)).trans (by rw [E.out]))) (by decide)) (by decide) (BW.out.trans (B2.out.mono BW.out.size))
            | true =>
              rw [hfm] at HF
              by_cases hk2 : o.kind = 2
              · have k2 : (o.kind == 2) = true := by rw [hk2]; rfl
                have E0 := Lib.hid (fm_put hfm hk2)
                have K2 := Lib.hid hk2
                clear hfm hk2
                have hcn := cnt_nonneg o.text.data.toList
                by_cases he : er o.text.data.toList = 0
                · have HC := Lib.hid (fun W : World => (refCount_any o.text W Zt.out))
                  rw [he] at HC
                  by_cases hr : rgtE o.attrs = 0
                  · have E := Lib.hid (show opE o = 0 by rw [E0.out, if_neg (by simpa using he), hr])
                    have r0 : (rgtE o.attrs != 0) = false := by rw [hr]; rfl
                    clear he hr
                    obtain ⟨hc1, hc2⟩ := hcn
                    go_wp2_with fail
                    rw [← HX.out]
                    go_wp2_with fail
                    refine HF.out.mono ?_
                    rintro e w2 ⟨rfl, b2⟩
                    have e0 : w2.cell? ⟨wr.heap.size, 0, none⟩ = some (.int .i64 o.kind) := (b2.cell (by exact hXs)).trans d0
                    have e1 : w2.cell? ⟨wr.heap.size, 1, none⟩ = some (.int .i64 o.n) := (b2.cell (by exact hXs)).trans d1
                    have e2 : w2.cell? ⟨wr.heap.size, 2, none⟩ = some (.string o.text) := (b2.cell (by exact hXs)).trans d2
                    have e3 : w2.cell? ⟨wr.heap.size, 3, none⟩ = some (.slice ar o.attrs.length cr) := (b2.cell (by exact hXs)).trans d3
                    have hs2 : X.heap.size ≤ w2.heap.size := b2.size
                    have B2 := Lib.hid (BX.out.trans (b2.mono BX.out.size))
                    have R2 := Lib.hid (R0.out.below b2)
                    clear b2
                    go_wp2_with fail
                    refine (HC.out _).mono ?_
                    rintro e w3 ⟨rfl, b3⟩
                    have hX2 : wr.heap.size < w2.heap.size := by omega
                    have f3 : w3.cell? ⟨wr.heap.size, 3, none⟩ = some (.slice ar o.attrs.length cr) := (b3.cell (by exact hX2)).trans e3
                    have B3 := Lib.hid (B2.out.trans (b3.mono B2.out.size))
                    have R3 := Lib.hid (R2.out.below b3)
                    clear b3
                    go_wp2_with fail
                    refine (rightB_any _ o.attrs _ R3.out Z.out.2).mono ?_
                    rintro e w4 ⟨rfl, b4⟩
                    have B4 := Lib.hid (B3.out.trans (b4.mono B3.out.size))
                    clear b4
                    go_wp2_with fail
                    go_roundw
                    case rel => exact ⟨left, gone, inn + cnt o.text.data.toList, k + 1, rfl, rfl, rfl, by go_num, by omega, HS.out.trans (scan_put' E.out K2.out), g1, g2, g3, g4, by omega, by omega, B4.out⟩
                    case measure => simp [intOf]; omega
                  · have h20 := (rgtE_cases o.attrs).resolve_left hr
                    have E := Lib.hid (show opE o = 20 by rw [E0.out, if_neg (by simpa using he), h20])
                    have r0 : (rgtE o.attrs != 0) = true := by rw [bne_iff_ne]; exact hr
                    clear he hr h20 hcn
                    go_wp2_with fail
                    rw [← HX.out]
                    go_wp2_with fail
                    refine HF.out.mono ?_
                    rintro e w2 ⟨rfl, b2⟩
                    have e0 : w2.cell? ⟨wr.heap.size, 0, none⟩ = some (.int .i64 o.kind) := (b2.cell (by exact hXs)).trans d0
                    have e1 : w2.cell? ⟨wr.heap.size, 1, none⟩ = some (.int .i64 o.n) := (b2.cell (by exact hXs)).trans d1
                    have e2 : w2.cell? ⟨wr.heap.size, 2, none⟩ = some (.string o.text) := (b2.cell (by exact hXs)).trans d2
                    have e3 : w2.cell? ⟨wr.heap.size, 3, none⟩ = some (.slice ar o.attrs.length cr) := (b2.cell (by exact hXs)).trans d3
                    have hs2 : X.heap.size ≤ w2.heap.size := b2.size
                    have B2 := Lib.hid (BX.out.trans (b2.mono BX.out.size))
                    have R2 := Lib.hid (R0.out.below b2)
                    clear b2
                    go_wp2_with fail
                    refine (HC.out _).mono ?_
                    rintro e w3 ⟨rfl, b3⟩
                    have hX2 : wr.heap.size < w2.heap.size := by omega
                    have f3 : w3.cell? ⟨wr.heap.size, 3, none⟩ = some (.slice ar o.attrs.length cr) := (b3.cell (by exact hX2)).trans e3
                    have B3 := Lib.hid (B2.out.trans (b3.mono B2.out.size))
                    have R3 := Lib.hid (R2.out.below b3)
                    clear b3
                    go_wp2_with fail
                    refine (rightB_any _ o.attrs _ R3.out Z.out.2).mono ?_
                    rintro e w4 ⟨rfl, b4⟩
                    have B4 := Lib.hid (B3.out.trans (b4.mono B3.out.size))
                    clear b4
                    go_wp2_with fail
                    go_ret2
                    exact toOut_bad (toE_scan hf0 hf3 hl2 (HS.out.trans ((scan_bad (by rw [E.out]; decide)).trans (by rw [E.out]))) (by decide)) (by decide) (BW.out.trans (B4.out.mono BW.out.size))
                · have h10 := (er_cases o.text.data.toList).resolve_left he
                  have HC := Lib.hid (fun W : World => (refCount_any o.text W Zt.out))
                  rw [h10] at HC
                  have E := Lib.hid (show opE o = 10 by rw [E0.out, if_pos (by simpa using he), h10])
                  clear he h10 hcn
                  go_wp2_with fail
                  rw [← HX.out]
                  go_wp2_with fail
                  refine HF.out.mono ?_
                  rintro e w2 ⟨rfl, b2⟩
                  have e0 : w2.cell? ⟨wr.heap.size, 0, none⟩ = some (.int .i64 o.kind) := (b2.cell (by exact hXs)).trans d0
                  have e1 : w2.cell? ⟨wr.heap.size, 1, none⟩ = some (.int .i64 o.n) := (b2.cell (by exact hXs)).trans d1
                  have e2 : w2.cell? ⟨wr.heap.size, 2, none⟩ = some (.string o.text) := (b2.cell (by exact hXs)).trans d2
                  have e3 : w2.cell? ⟨wr.heap.size, 3, none⟩ = some (.slice ar o.attrs.length cr) := (b2.cell (by exact hXs)).trans d3
                  have hs2 : X.heap.size ≤ w2.heap.size := b2.size
                  have B2 := Lib.hid (BX.out.trans (b2.mono BX.out.size))
                  have R2 := Lib.hid (R0.out.below b2)
                  clear b2
                  go_wp2_with fail
                  refine (HC.out _).mono ?_
                  rintro e w3 ⟨rfl, b3⟩
                  have hX2 : wr.heap.size < w2.heap.size := by omega
                  have f3 : w3.cell? ⟨wr.heap.size, 3, none⟩ = some (.slice ar o.attrs.length cr) := (b3.cell (by exact hX2)).trans e3
                  have B3 := Lib.hid (B2.out.trans (b3.mono B2.out.size))
                  have R3 := Lib.hid (R2.out.below b3)
                  clear b3
                  go_wp2_with fail
                  go_ret2
                  exact toOut_bad (toE_scan hf0 hf3 hl2 (HS.out.trans ((scan_bad (by rw [E.out]; decide)).trans (by rw [E.out]))) (by decide)) (by decide) (BW.out.trans (B3.out.mono BW.out.size))
              · have k2 : (o.kind == 2) = false := by rw [beq_eq_false_iff_ne]; exact hk2
                have E0 := Lib.hid (fm_rest hfm hk2)
                have K2 := Lib.hid hk2
                clear hfm
                by_cases hr : chgE o.attrs = 0
                · have E := Lib.hid (show opE o = 0 by rw [E0.out, hr])
                  have hn1 := opE_n E.out hk2
                  have r0 : (chgE o.attrs != 0) = false := by rw [hr]; rfl
                  by_cases hl3 : left < o.n
                  · clear hr hk2
                    go_wp2_with fail
                    rw [← HX.out]
                    go_wp2_with fail
                    refine HF.out.mono ?_
                    rintro e w2 ⟨rfl, b2⟩
                    have e0 : w2.cell? ⟨wr.heap.size, 0, none⟩ = some (.int .i64 o.kind) := (b2.cell (by exact hXs)).trans d0
                    have e1 : w2.cell? ⟨wr.heap.size, 1, none⟩ = some (.int .i64 o.n) := (b2.cell (by exact hXs)).trans d1
                    have e2 : w2.cell? ⟨wr.heap.size, 2, none⟩ = some (.string o.text) := (b2.cell (by exact hXs)).trans d2
                    have e3 : w2.cell? ⟨wr.heap.size, 3, none⟩ = some (.slice ar o.attrs.length cr) := (b2.cell (by exact hXs)).trans d3
                    have hs2 : X.heap.size ≤ w2.heap.size := b2.size
                    have B2 := Lib.hid (BX.out.trans (b2.mono BX.out.size))
                    have R2 := Lib.hid (R0.out.below b2)
                    clear b2
                    go_wp2_with fail
                    refine (changeB_any _ o.attrs _ R2.out Z.out.2).mono ?_
                    rintro e w3 ⟨rfl, b3⟩
                    have hX2 : wr.heap.size < w2.heap.size := by omega
                    have f0 : w3.cell? ⟨wr.heap.size, 0, none⟩ = some (.int .i64 o.kind) := (b3.cell (by exact hX2)).trans e0
                    have f1 : w3.cell? ⟨wr.heap.size, 1, none⟩ = some (.int .i64 o.n) := (b3.cell (by exact hX2)).trans e1
                    have B3 := Lib.hid (B2.out.trans (b3.mono B2.out.size))
                    clear b3
                    go_wp2_with fail
                    go_ret2
                    exact toOut_bad (toE_scan hf0 hf3 hl2 (HS.out.trans (scan_over E.out K2.out hl3)) (by decide)) (by decide) (BW.out.trans (B3.out.mono BW.out.size))
                  · have hl4 : o.n ≤ left := by omega
                    by_cases hk3 : o.kind = 3
                    · have k3 : (o.kind == 3) = true := by rw [hk3]; rfl
                      have HS2 := Lib.hid (HS.out.trans (scan_cut' E.out hk3 hl3))
                      clear hr hk2 hk3 hl3
                      go_wp2_with fail
                      rw [← HX.out]
                      go_wp2_with fail
                      refine HF.out.mono ?_
                      rintro e w2 ⟨rfl, b2⟩
                      have e0 : w2.cell? ⟨wr.heap.size, 0, none⟩ = some (.int .i64 o.kind) := (b2.cell (by exact hXs)).trans d0
                      have e1 : w2.cell? ⟨wr.heap.size, 1, none⟩ = some (.int .i64 o.n) := (b2.cell (by exact hXs)).trans d1
                      have e2 : w2.cell? ⟨wr.heap.size, 2, none⟩ = some (.string o.text) := (b2.cell (by exact hXs)).trans d2
                      have e3 : w2.cell? ⟨wr.heap.size, 3, none⟩ = some (.slice ar o.attrs.length cr) := (b2.cell (by exact hXs)).trans d3
                      have hs2 : X.heap.size ≤ w2.heap.size := b2.size
                      have B2 := Lib.hid (BX.out.trans (b2.mono BX.out.size))
                      have R2 := Lib.hid (R0.out.below b2)
                      clear b2
                      go_wp2_with fail
                      refine (changeB_any _ o.attrs _ R2.out Z.out.2).mono ?_
                      rintro e w3 ⟨rfl, b3⟩
                      have hX2 : wr.heap.size < w2.heap.size := by omega
                      have f0 : w3.cell? ⟨wr.heap.size, 0, none⟩ = some (.int .i64 o.kind) := (b3.cell (by exact hX2)).trans e0
                      have f1 : w3.cell? ⟨wr.heap.size, 1, none⟩ = some (.int .i64 o.n) := (b3.cell (by exact hX2)).trans e1
                      have B3 := Lib.hid (B2.out.trans (b3.mono B2.out.size))
                      clear b3
                      go_wp2_with fail
                      go_roundw
                      case rel => exact ⟨left - o.n, gone + o.n, inn, k + 1, rfl, rfl, rfl, by go_num, by omega, HS2.out, by omega, by omega, by omega, by omega, g5, by omega, B3.out⟩
                      case measure => simp [intOf]; omega
                    · have k3 : (o.kind == 3) = false := by rw [beq_eq_false_iff_ne]; exact hk3
                      have HS2 := Lib.hid (HS.out.trans (scan_keep E.out K2.out hk3 hl3))
                      clear hr hk2 hk3 hl3
                      go_wp2_with fail
                      rw [← HX.out]
                      go_wp2_with fail
                      refine HF.out.mono ?_
                      rintro e w2 ⟨rfl, b2⟩
                      have e0 : w2.cell? ⟨wr.heap.size, 0, none⟩ = some (.int .i64 o.kind) := (b2.cell (by exact hXs)).trans d0
                      have e1 : w2.cell? ⟨wr.heap.size, 1, none⟩ = some (.int .i64 o.n) := (b2.cell (by exact hXs)).trans d1
                      have e2 : w2.cell? ⟨wr.heap.size, 2, none⟩ = some (.string o.text) := (b2.cell (by exact hXs)).trans d2
                      have e3 : w2.cell? ⟨wr.heap.size, 3, none⟩ = some (.slice ar o.attrs.length cr) := (b2.cell (by exact hXs)).trans d3
                      have hs2 : X.heap.size ≤ w2.heap.size := b2.size
                      have B2 := Lib.hid (BX.out.trans (b2.mono BX.out.size))
                      have R2 := Lib.hid (R0.out.below b2)
                      clear b2
                      go_wp2_with fail
                      refine (changeB_any _ o.attrs _ R2.out Z.out.2).mono ?_
                      rintro e w3 ⟨rfl, b3⟩
                      have hX2 : wr.heap.size < w2.heap.size := by omega
                      have f0 : w3.cell? ⟨wr.heap.size, 0, none⟩ = some (.int .i64 o.kind) := (b3.cell (by exact hX2)).trans e0
                      have f1 : w3.cell? ⟨wr.heap.size, 1, none⟩ = some (.int .i64 o.n) := (b3.cell (by exact hX2)).trans e1
                      have B3 := Lib.hid (B2.out.trans (b3.mono B2.out.size))
                      clear b3
                      go_wp2_with fail
                      go_roundw
                      case rel => exact ⟨left - o.n, gone, inn, k + 1, rfl, rfl, rfl, by go_num, by omega, HS2.out, by omega, by omega, g3, by omega, g5, by omega, B3.out⟩
                      case measure => simp [intOf]; omega
                · have h20 := (chgE_cases o.attrs).resolve_left hr
                  have E := Lib.hid (show opE o = 20 by rw [E0.out, h20])
                  have r0 : (chgE o.attrs != 0) = true := by rw [bne_iff_ne]; exact hr
                  clear hr h20 hk2
                  go_wp2_with fail
                  rw [← HX.out]
                  go_wp2_with fail
                  refine HF.out.mono ?_
                  rintro e w2 ⟨rfl, b2⟩
                  have e0 : w2.cell? ⟨wr.heap.size, 0, none⟩ = some (.int .i64 o.kind) := (b2.cell (by exact hXs)).trans d0
                  have e1 : w2.cell? ⟨wr.heap.size, 1, none⟩ = some (.int .i64 o.n) := (b2.cell (by exact hXs)).trans d1
                  have e2 : w2.cell? ⟨wr.heap.size, 2, none⟩ = some (.string o.text) := (b2.cell (by exact hXs)).trans d2
                  have e3 : w2.cell? ⟨wr.heap.size, 3, none⟩ = some (.slice ar o.attrs.length cr) := (b2.cell (by exact hXs)).trans d3
                  have hs2 : X.heap.size ≤ w2.heap.size := b2.size
                  have B2 := Lib.hid (BX.out.trans (b2.mono BX.out.size))
                  have R2 := Lib.hid (R0.out.below b2)
                  clear b2
                  go_wp2_with fail
                  refine (changeB_any _ o.attrs _ R2.out Z.out.2).mono ?_
                  rintro e w3 ⟨rfl, b3⟩
                  have hX2 : wr.heap.size < w2.heap.size := by omega
                  have f0 : w3.cell? ⟨wr.heap.size, 0, none⟩ = some (.int .i64 o.kind) := (b3.cell (by exact hX2)).trans e0
                  have f1 : w3.cell? ⟨wr.heap.size, 1, none⟩ = some (.int .i64 o.n) := (b3.cell (by exact hX2)).trans e1
                  have B3 := Lib.hid (B2.out.trans (b3.mono B2.out.size))
                  clear b3
                  go_wp2_with fail
                  go_ret2
                  exact toOut_bad (toE_scan hf0 hf3 hl2 (HS.out.trans ((scan_bad (by rw [E.out]; decide)).trans (by rw [E.out]))) (by decide)) (by decide) (BW.out.trans (B3.out.mono BW.out.size))
          · have hkn : k = ops.length := by omega
            subst hkn
            rw [List.drop_length] at hs
            obtain ⟨q3, q4⟩ := toE_end hf0 hf3 hl2 (hs.trans rfl)
            by_cases hu : 20000 < f - gone + inn
            · rw [if_pos hu] at q3
              have Q1 := Lib.hid q3
              clear q3 q4 hs hb
              go_wp2_with fail
              go_ret2
              exact toOut_bad Q1.out (by decide) (BW.out.trans (HB.out.mono BW.out.size))
            · rw [if_neg hu] at q3
              have Q1 := Lib.hid (And.intro q3 (q4 hu))
              have hu2 : f - gone + inn ≤ 20000 := by omega
              clear q3 q4 hs hb
              go_wp2_with fail
              go_ret2
              exact toOut_mk Q1.out.1 Q1.out.2 (BW.out.trans (HB.out.mono BW.out.size))

theorem refRight_any (f : Int) (v : Value) (ops : List OpD) (w : World) (hv : OpRow w v ops) (hz : OSized ops) (hts : TSmall ops) :
    Calls Tryz.prog 25 #[chAgg f v] w fun e w' => e = .returned (.int .i64 (toE f ops)) ∧ Below w.heap.size w w' := by
  have HC := Lib.hid (measure_any f v ops _ (hv.below (below_box w (.cells #[.int .i64 f, v] 24))) hz hts)
  obtain ⟨aa, acap, rfl⟩ := hv.shape
  clear hv hz hts
  go_enter Tryz.func25, Tryz.ntmps25
  go_wp2_with fail
  refine HC.out.mono ?_
  rintro e w1 ⟨rfl, hb⟩
  go_wp2_with fail
  go_ret
  exact ⟨rfl, (below_box w _).trans (hb.mono (by simp))⟩
end Go.Proofs.YtadookafnfnaoaaGreatDoor
