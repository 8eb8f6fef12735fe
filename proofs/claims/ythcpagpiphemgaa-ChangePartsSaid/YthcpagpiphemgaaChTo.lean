/- The program's To and Right. -/
import Derived.Test.YthcpagpiphemgaaChSize
namespace Go.Proofs.Ythcpagpiphemgaa
open Go.RowKit Ch

theorem size_ok (o : OpD) (av : Value) (w : World) (hv : AtRow w av o.attrs) (ht : o.text.size ≤ maxLen) (hz : Sized o.attrs) (he : opE o = 0) :
    Calls Try.prog 28 #[opAgg o av] w fun e w' => e = .returned (.tuple #[.int .i64 (opSz o), .int .i64 0]) ∧ Below w.heap.size w w' :=
  (size_any o av w hv ht hz).mono fun e w' ⟨n, h1, h2, h3⟩ => ⟨by rw [h1, he, h2 he], h3⟩
theorem size_bad (o : OpD) (av : Value) (w : World) (hv : AtRow w av o.attrs) (ht : o.text.size ≤ maxLen) (hz : Sized o.attrs) :
    Calls Try.prog 28 #[opAgg o av] w fun e w' => ∃ n, e = .returned (.tuple #[.int .i64 n, .int .i64 (opE o)]) ∧ Below w.heap.size w w' :=
  (size_any o av w hv ht hz).mono fun e w' ⟨n, h1, _, h3⟩ => ⟨n, h1, h3⟩

theorem opSz_lim {o : OpD} (he : opE o = 0) (hk : o.kind = 2) : 0 ≤ opSz o ∧ opSz o ≤ 20000 := by
  unfold opSz
  rw [if_pos hk]
  exact cnt_nonneg _
theorem opSz_n {o : OpD} (hk : o.kind ≠ 2) : opSz o = o.n := by
  unfold opSz
  rw [if_neg hk]
theorem drop_at {ops : List OpD} {k : Nat} (h : k < ops.length) : ops.drop k = ops[k] :: ops.drop (k + 1) := List.drop_eq_getElem_cons h
theorem scan_bad {o : OpD} {r : List OpD} {left u : Int} (h : opE o ≠ 0) : scan left u (o :: r) = (0, 0, opE o) := by rw [scan, if_pos h]
theorem scan_put {o : OpD} {r : List OpD} {left u : Int} (h : opE o = 0) (hk : o.kind = 2) : scan left u (o :: r) = scan left (u + opSz o) r := by rw [scan, if_neg (by simpa using h), if_pos hk]
theorem scan_over {o : OpD} {r : List OpD} {left u : Int} (h : opE o = 0) (hk : o.kind ≠ 2) (hl : left < o.n) : scan left u (o :: r) = (0, 0, 31) := by rw [scan, if_neg (by simpa using h), if_neg hk, if_pos hl]
theorem scan_cut {o : OpD} {r : List OpD} {left u : Int} (h : opE o = 0) (hk : o.kind = 3) (hl : ¬ left < o.n) : scan left u (o :: r) = scan (left - o.n) (u - o.n) r := by rw [scan, if_neg (by simpa using h), if_neg (by omega), if_neg hl, if_pos hk]
theorem scan_keep {o : OpD} {r : List OpD} {left u : Int} (h : opE o = 0) (hk : o.kind ≠ 2) (hk3 : o.kind ≠ 3) (hl : ¬ left < o.n) : scan left u (o :: r) = scan (left - o.n) u r := by rw [scan, if_neg (by simpa using h), if_neg hk, if_neg hl, if_neg hk3]

def ToOut (w : World) (f : Int) (ops : List OpD) (e : Ending) (w' : World) : Prop := e = .returned (.tuple #[.int .i64 (toN f ops), .int .i64 (toE f ops)]) ∧ Below w.heap.size w w'
theorem toOut_mk {w w' : World} {f n E : Int} {ops : List OpD} (h : toE f ops = E) (hn : toN f ops = n) (hb : Below w.heap.size w w') : ToOut w f ops (.returned (.tuple #[.int .i64 n, .int .i64 E])) w' := ⟨by rw [h, hn], hb⟩
theorem toOut_bad {w w' : World} {f E : Int} {ops : List OpD} (h : toE f ops = E) (hE : E ≠ 0) (hb : Below w.heap.size w w') : ToOut w f ops (.returned (.tuple #[.int .i64 0, .int .i64 E])) w' :=
  toOut_mk h (toN_bad (by rw [h]; exact hE)) hb
theorem toE_scan {f E : Int} {ops : List OpD} {l u : Int} (h0 : 0 ≤ f) (h1 : f ≤ 20000) (h2 : ops.length ≤ 2000) (h : scan f f ops = (l, u, E)) (hE : E ≠ 0) : toE f ops = E := by
  unfold toE
  rw [if_neg (by omega), if_neg (by omega), h, if_pos hE]
theorem toE_end {f : Int} {ops : List OpD} {l u : Int} (h0 : 0 ≤ f) (h1 : f ≤ 20000) (h2 : ops.length ≤ 2000) (h : scan f f ops = (l, u, 0)) : toE f ops = (if 20000 < u then 3 else 0) ∧ (¬ 20000 < u → toN f ops = u) := by
  have e : toE f ops = (if 20000 < u then 3 else 0) := by
    unfold toE
    rw [if_neg (by omega), if_neg (by omega), h, if_neg (by simp)]
  refine ⟨e, fun hu => ?_⟩
  rw [if_neg hu] at e
  unfold toN
  rw [if_pos e, h]

set_option maxRecDepth 100000 in
set_option maxHeartbeats 4000000 in
theorem to_any (f : Int) (v : Value) (ops : List OpD) (w : World) (hv : OpRow w v ops) (hz : OSized ops) :
    Calls Try.prog 12 #[chAgg f v] w (ToOut w f ops) := by
  have Hv := Lib.hid hv
  have Hz := Lib.hid hz
  obtain ⟨aa, acap, rfl, v1, v2, v3⟩ := hv
  have V3 := Lib.hid v3
  have hn : ops.length ≤ 9223372036854775807 := Nat.le_trans v1 v2
  obtain ⟨W, hW⟩ : ∃ W, W = w.alloc (.cells #[.int .i64 f, .slice aa ops.length acap] 24) := ⟨_, rfl⟩
  have BW := Lib.hid (show Below w.heap.size w W by rw [hW]; exact (Below.refl _ _).alloc (Nat.le_refl _) _)
  have c0 : W.cell? ⟨w.heap.size, 0, none⟩ = some (.int .i64 f) := by rw [hW]; go_simp
  have c1 : W.cell? ⟨w.heap.size, 1, none⟩ = some (.slice aa ops.length acap) := by rw [hW]; go_simp
  have HW := Lib.hid hW
  clear hz hW v1 v2 v3
  by_cases hf : f < 0
  · have e31 := Lib.hid (show toE f ops = 31 by unfold toE; rw [if_pos (.inl hf)])
    go_enter Try.func12, Try.ntmps12
    go_wp2_with fail
    rw [← HW.out]
    go_wp2_with fail
    go_ret2
    exact toOut_bad e31.out (by decide) BW.out
  · by_cases hf2 : 20000 < f
    · have e31 := Lib.hid (show toE f ops = 31 by unfold toE; rw [if_pos (.inr hf2)])
      have hf0 : 0 ≤ f := by omega
      clear hf
      go_enter Try.func12, Try.ntmps12
      go_wp2_with fail
      rw [← HW.out]
      go_wp2_with fail
      go_ret2
      exact toOut_bad e31.out (by decide) BW.out
    · have hf0 : 0 ≤ f := by omega
      have hf3 : f ≤ 20000 := by omega
      by_cases hl : 2000 < ops.length
      · have e2 := Lib.hid (show toE f ops = 2 by unfold toE; rw [if_neg (by omega), if_pos hl])
        have l0 : decide ((2000 : Int) < (ops.length : Int)) = true := decide_eq_true (by omega)
        have l1 : decide (2000 < ops.length) = true := decide_eq_true (by omega)
        clear hf hf2
        go_enter Try.func12, Try.ntmps12
        go_wp2_with fail
        rw [← HW.out]
        go_wp2_with fail
        go_ret2
        exact toOut_bad e2.out (by decide) BW.out
      · have hl2 : ops.length ≤ 2000 := by omega
        have l0 : decide ((2000 : Int) < (ops.length : Int)) = false := decide_eq_false (by omega)
        have l1 : decide (2000 < ops.length) = false := decide_eq_false (by omega)
        clear hf hf2 hl
        go_enter Try.func12, Try.ntmps12
        go_wp2_with fail
        rw [← HW.out]
        go_wp2_with fail
        go_quiet (fail)
        go_wp2_with fail
        go_loopw [4, 5, 29] (fun x y i wr => ∃ (left u : Int) (k : Nat), x = .int .i64 left ∧ y = .int .i64 u ∧ i = .int .i64 (k : Int) ∧ k ≤ ops.length ∧ scan f f ops = scan left u (ops.drop k) ∧ 0 ≤ left ∧ left ≤ 20000 ∧ left ≤ u ∧ u ≤ 20000 + 20000 * k ∧ Below w.heap.size w wr) (fun _ _ i _ => ops.length - (intOf i).toNat)
        case atStart => exact ⟨f, f, 0, rfl, rfl, rfl, Nat.zero_le _, rfl, hf0, hf3, Int.le_refl _, by omega, below_drewN BW.out _⟩
        case round =>
          obtain ⟨left, u, k, rfl, rfl, rfl, hk, hs, g1, g2, g3, g4, hb⟩ := hrel
          have HB := Lib.hid hb
          by_cases hlt : k < ops.length
          · have hlt' : (k : Int) < (ops.length : Int) := by omega
            obtain ⟨b, off, rfl, hbl, av, r0, _, x0, x1, x2, x3⟩ := V3.out k hlt
            have z := Hz.out _ (List.getElem_mem hlt)
            rw [drop_at hlt] at hs
            obtain ⟨o, ho⟩ : ∃ o, o = ops[k] := ⟨_, rfl⟩
            rw [← ho] at r0 x0 x1 x2 z hs
            obtain ⟨ar, cr, rfl⟩ := r0.shape
            have y0 : wr.cell? ⟨b, off + k * 4, none⟩ = some (.int .i64 o.kind) := (hb.cell (by exact hbl)).trans x0
            have y1 : wr.cell? ⟨b, off + k * 4 + 1, none⟩ = some (.int .i64 o.n) := (hb.cell (by exact hbl)).trans x1
            have y2 : wr.cell? ⟨b, off + k * 4 + 2, none⟩ = some (.string o.text) := (hb.cell (by exact hbl)).trans x2
            have y3 : wr.cell? ⟨b, off + k * 4 + 3, none⟩ = some (.slice ar o.attrs.length cr) := (hb.cell (by exact hbl)).trans x3
            have hs0 : w.heap.size ≤ wr.heap.size := hb.size
            obtain ⟨X, hX⟩ : ∃ X, X = wr.alloc (.cells #[.int .i64 o.kind, .int .i64 o.n, .string o.text, .slice ar o.attrs.length cr] 40) := ⟨_, rfl⟩
            have BX := Lib.hid (show Below w.heap.size w X by rw [hX]; exact hb.alloc hs0 _)
            have R0 := Lib.hid (r0.below BX.out)
            have Z := Lib.hid z
            have d0 : X.cell? ⟨wr.heap.size, 0, none⟩ = some (.int .i64 o.kind) := by rw [hX]; go_simp
            have d1 : X.cell? ⟨wr.heap.size, 1, none⟩ = some (.int .i64 o.n) := by rw [hX]; go_simp
            have d2 : X.cell? ⟨wr.heap.size, 2, none⟩ = some (.string o.text) := by rw [hX]; go_simp
            have d3 : X.cell? ⟨wr.heap.size, 3, none⟩ = some (.slice ar o.attrs.length cr) := by rw [hX]; go_simp
            have hXs : wr.heap.size < X.heap.size := by rw [hX]; simp
            have HX := Lib.hid hX
            have HS := Lib.hid hs
            clear ho r0 x0 x1 x2 x3 z hb hX hs
            by_cases he : opE o = 0
            · have He := Lib.hid he
              by_cases hk2 : o.kind = 2
              · have k2 : (o.kind == 2) = true := by rw [hk2]; rfl
                obtain ⟨s0, s1⟩ := opSz_lim he hk2
                have HS2 := Lib.hid (HS.out.trans (scan_put he hk2))
                have HC := Lib.hid (size_ok o _ X R0.out Z.out.1 Z.out.2 he)
                have w1' : IntKind.i64.wrap (u + opSz o) = u + opSz o := IntWalk.i64_in _ (by omega)
                clear he hk2
                go_wp2_with fail
                rw [← HX.out]
                go_wp2_with fail
                refine HC.out.mono ?_
                rintro e w2 ⟨rfl, b2⟩
                have e0 : w2.cell? ⟨wr.heap.size, 0, none⟩ = some (.int .i64 o.kind) := (b2.cell (by exact hXs)).trans d0
                have B2 := Lib.hid (BX.out.trans (b2.mono BX.out.size))
                clear b2
                go_wp2_with fail
                go_roundw
                case rel => exact ⟨left, u + opSz o, k + 1, rfl, rfl, by go_num, by omega, HS2.out, g1, g2, by omega, by omega, B2.out⟩
                case measure => simp [intOf]; omega
              · have k2 : (o.kind == 2) = false := by rw [beq_eq_false_iff_ne]; exact hk2
                have hn1 := opE_n he hk2
                have hsz := opSz_n hk2
                have HC := size_ok o _ X R0.out Z.out.1 Z.out.2 he
                rw [hsz] at HC
                have HC := Lib.hid HC
                by_cases hl3 : left < o.n
                · have HS2 := Lib.hid (toE_scan hf0 hf3 hl2 (HS.out.trans (scan_over he hk2 hl3)) (by decide))
                  clear he hk2 hsz
                  go_wp2_with fail
                  rw [← HX.out]
                  go_wp2_with fail
                  refine HC.out.mono ?_
                  rintro e w2 ⟨rfl, b2⟩
                  have e0 : w2.cell? ⟨wr.heap.size, 0, none⟩ = some (.int .i64 o.kind) := (b2.cell (by exact hXs)).trans d0
                  have B2 := Lib.hid (BX.out.trans (b2.mono BX.out.size))
                  clear b2
                  go_wp2_with fail
                  go_ret2
                  exact toOut_bad HS2.out (by decide) B2.out
                · have hl4 : o.n ≤ left := by omega
                  by_cases hk3 : o.kind = 3
                  · have k3 : (o.kind == 3) = true := by rw [hk3]; rfl
                    have HS2 := Lib.hid (HS.out.trans (scan_cut he hk3 hl3))
                    clear he hk2 hsz hk3 hl3
                    go_wp2_with fail
                    rw [← HX.out]
                    go_wp2_with fail
                    refine HC.out.mono ?_
                    rintro e w2 ⟨rfl, b2⟩
                    have e0 : w2.cell? ⟨wr.heap.size, 0, none⟩ = some (.int .i64 o.kind) := (b2.cell (by exact hXs)).trans d0
                    have B2 := Lib.hid (BX.out.trans (b2.mono BX.out.size))
                    clear b2
                    go_wp2_with fail
                    go_roundw
                    case rel => exact ⟨left - o.n, u - o.n, k + 1, rfl, rfl, by go_num, by omega, HS2.out, by omega, by omega, by omega, by omega, B2.out⟩
                    case measure => simp [intOf]; omega
                  · have k3 : (o.kind == 3) = false := by rw [beq_eq_false_iff_ne]; exact hk3
                    have HS2 := Lib.hid (HS.out.trans (scan_keep he hk2 hk3 hl3))
                    clear he hk2 hsz hk3 hl3
                    go_wp2_with fail
                    rw [← HX.out]
                    go_wp2_with fail
                    refine HC.out.mono ?_
                    rintro e w2 ⟨rfl, b2⟩
                    have e0 : w2.cell? ⟨wr.heap.size, 0, none⟩ = some (.int .i64 o.kind) := (b2.cell (by exact hXs)).trans d0
                    have B2 := Lib.hid (BX.out.trans (b2.mono BX.out.size))
                    clear b2
                    go_wp2_with fail
                    go_roundw
                    case rel => exact ⟨left - o.n, u, k + 1, rfl, rfl, by go_num, by omega, HS2.out, by omega, by omega, by omega, by omega, B2.out⟩
                    case measure => simp [intOf]; omega
            · have t1 : (opE o != 0) = true := by rw [bne_iff_ne]; exact he
              have HS2 := Lib.hid (toE_scan hf0 hf3 hl2 (HS.out.trans (scan_bad he)) he)
              have HC := Lib.hid (size_bad o _ X R0.out Z.out.1 Z.out.2)
              have He := Lib.hid he
              clear he
              go_wp2_with fail
              rw [← HX.out]
              go_wp2_with fail
              refine HC.out.mono ?_
              rintro e w2 ⟨n2, rfl, b2⟩
              have B2 := Lib.hid (BX.out.trans (b2.mono BX.out.size))
              clear b2
              go_wp2_with fail
              go_ret2
              exact toOut_bad HS2.out He.out B2.out
          · have hkn : k = ops.length := by omega
            subst hkn
            rw [List.drop_length] at hs
            obtain ⟨q1, q2⟩ := toE_end hf0 hf3 hl2 (hs.trans rfl)
            by_cases hu : 20000 < u
            · rw [if_pos hu] at q1
              have Q1 := Lib.hid q1
              clear q1 q2 hs hb
              go_wp2_with fail
              go_ret2
              exact toOut_bad Q1.out (by decide) HB.out
            · rw [if_neg hu] at q1
              have Q1 := Lib.hid (And.intro q1 (q2 hu))
              have hu2 : u ≤ 20000 := by omega
              clear q1 q2 hs hb
              go_wp2_with fail
              go_ret2
              exact toOut_mk Q1.out.1 Q1.out.2 HB.out

theorem changeRight_any (f : Int) (v : Value) (ops : List OpD) (w : World) (hv : OpRow w v ops) (hz : OSized ops) :
    Calls Try.prog 11 #[chAgg f v] w fun e w' => e = .returned (.int .i64 (toE f ops)) ∧ Below w.heap.size w w' := by
  have HC := Lib.hid (to_any f v ops _ (hv.below (below_box w (.cells #[.int .i64 f, v] 24))) hz)
  obtain ⟨aa, acap, rfl⟩ := hv.shape
  clear hv hz
  go_enter Try.func11, Try.ntmps11
  go_wp2_with fail
  refine HC.out.mono ?_
  rintro e w1 ⟨rfl, hb⟩
  go_wp2_with fail
  go_ret
  exact ⟨rfl, (below_box w _).trans (hb.mono (by simp))⟩
end Go.Proofs.Ythcpagpiphemgaa
