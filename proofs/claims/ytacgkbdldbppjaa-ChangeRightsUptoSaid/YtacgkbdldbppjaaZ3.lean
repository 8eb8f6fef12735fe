/- Texts of this seat, put together in build order: RfSame, RfNorm, RfIns, ChSpan, ChLent, ChKept, ChNormOk, ChNoth, ChLaw, ChIs, ChAwake, RfSt, ShelfW. -/
import Derived.Test.YtacgkbdldbppjaaZ2
import Derived.BigRegion
/- The document's own Same, of changesets. -/
namespace Go.Proofs.Ytacgkbdldbppjaa
open Go.RowKit Ch

theorem refSameB_any (v u : Value) (l m : List (ByteArray × ByteArray)) (w : World) (hv : AtRow w v l) (hu : AtRow w u m) :
    Calls Try.prog 30 #[v, u] w (OutB w (sameB l m)) :=
  (refSame_any v u l m w hv hu).mono fun _ _ ⟨h1, k, h2⟩ => ⟨h1, by rw [h2]; exact below_drewN (Below.refl _ _) k⟩

set_option maxRecDepth 100000 in
set_option maxHeartbeats 4000000 in
theorem refSameCh_any (f g : Int) (v u : Value) (l m : List OpD) (w : World) (hv : OpRow w v l) (hu : OpRow w u m) :
    Calls Try.prog 15 #[chAgg f v, chAgg g u] w (OutB w (sameCh f g l m)) := by
  obtain ⟨a, cap, rfl, h1, h2, h3⟩ := hv
  obtain ⟨a', cap', rfl, h1', h2', h3'⟩ := hu
  have hn : l.length ≤ 9223372036854775807 := Nat.le_trans h1 h2
  have hn' : m.length ≤ 9223372036854775807 := Nat.le_trans h1' h2'
  have H3 := Lib.hid h3
  have H3' := Lib.hid h3'
  clear h1 h2 h3 h1' h2' h3'
  obtain ⟨W, hW⟩ : ∃ W, W = (w.alloc (.cells #[.int .i64 f, .slice a l.length cap] 24)).alloc (.cells #[.int .i64 g, .slice a' m.length cap'] 24) := ⟨_, rfl⟩
  have BW := Lib.hid (show Below w.heap.size w W by rw [hW]; exact ((Below.refl _ _).alloc (Nat.le_refl _) _).alloc (by simp) _)
  have c0 : W.cell? ⟨w.heap.size, 0, none⟩ = some (.int .i64 f) := by rw [hW]; go_simp
  have c1 : W.cell? ⟨w.heap.size, 1, none⟩ = some (.slice a l.length cap) := by rw [hW]; go_simp
  have d0 : W.cell? ⟨w.heap.size + 1, 0, none⟩ = some (.int .i64 g) := by rw [hW]; go_simp
  have d1 : W.cell? ⟨w.heap.size + 1, 1, none⟩ = some (.slice a' m.length cap') := by rw [hW]; go_simp
  have hWs : w.heap.size + 1 < W.heap.size := by rw [hW]; simp
  have hWs' : w.heap.size < W.heap.size := by omega
  have HW := Lib.hid hW
  clear hW
  by_cases hf : f = g
  · have k1 : (f == g) = true := by rw [beq_iff_eq]; exact hf
    have k2 : (f != g) = false := by rw [hf]; simp
    have HRf := Lib.hid (show sameCh f g l m = sameOps l m by unfold sameCh sameOps; simp [hf])
    clear hf
    by_cases hlen : l.length = m.length
    · have Hlen := Lib.hid hlen
      have hle2 : ((l.length : Int) == (m.length : Int)) = true := by rw [hlen]; simp
      have hle3 : ((l.length : Int) != (m.length : Int)) = false := by rw [hlen]; simp
      clear hlen
      go_enter Try.func15, Try.ntmps15
      go_wp2_with fail
      rw [← HW.out]
      go_wp2_with fail
      go_loopw [5] (fun i wr => ∃ n : Nat, i = .int .i64 (n : Int) ∧ n ≤ l.length ∧ (∀ j (h1 : j < l.length) (h2 : j < m.length), j < n → l[j] = m[j]) ∧ Below W.heap.size W wr) (fun i _ => l.length - (intOf i).toNat)
      case atStart => exact ⟨0, rfl, by omega, fun j _ _ h => by omega, Below.refl _ _⟩
      case round =>
        obtain ⟨n, rfl, hk, hall, hb⟩ := hrel
        have Hall := Lib.hid hall
        have HB := Lib.hid (BW.out.trans (hb.mono BW.out.size))
        have q1 : wr.cell? ⟨w.heap.size, 1, none⟩ = some (.slice a l.length cap) := (hb.cell (by exact hWs')).trans c1
        have q2 : wr.cell? ⟨w.heap.size + 1, 1, none⟩ = some (.slice a' m.length cap') := (hb.cell (by exact hWs)).trans d1
        clear hall
        by_cases hlt : n < l.length
        · have hlt2 : n < m.length := by have := Hlen.out; omega
          have hlt' : (n : Int) < (l.length : Int) := by omega
          have hlt2' : (n : Int) < (m.length : Int) := by omega
          obtain ⟨b, off, rfl, hbl, xv, r0, _, x0, x1, x2, x3⟩ := H3.out n hlt
          obtain ⟨b', off', rfl, hbl', yv, q0, _, y0, y1, y2, y3⟩ := H3'.out n hlt2
          have step : l[n] = m[n] → ∀ j (h1 : j < l.length) (h2 : j < m.length), j < n + 1 → l[j] = m[j] := fun hh j hj1 hj2 hjk => by
            by_cases e : j = n
            · subst e; exact hh
            · exact Hall.out j hj1 hj2 (by omega)
          have Step := Lib.hid step
          have Bad := Lib.hid (sameOps_at hlt hlt2)
          obtain ⟨x, hx⟩ : ∃ x, x = l[n] := ⟨_, rfl⟩
          obtain ⟨y, hy⟩ : ∃ y, y = m[n] := ⟨_, rfl⟩
          rw [← hx] at r0 x0 x1 x2 Step Bad
          rw [← hy] at q0 y0 y1 y2 Step Bad
          obtain ⟨ar, cr, rfl⟩ := r0.shape
          obtain ⟨at2, cs, rfl⟩ := q0.shape
          have hbw := HB.out
          have x0' := (hbw.cell (p := ⟨b, off + n * 4, none⟩) (by exact hbl)).trans x0
          have x1' := (hbw.cell (p := ⟨b, off + n * 4 + 1, none⟩) (by exact hbl)).trans x1
          have x2' := (hbw.cell (p := ⟨b, off + n * 4 + 2, none⟩) (by exact hbl)).trans x2
          have x3' := (hbw.cell (p := ⟨b, off + n * 4 + 3, none⟩) (by exact hbl)).trans x3
          have y0' := (hbw.cell (p := ⟨b', off' + n * 4, none⟩) (by exact hbl')).trans y0
          have y1' := (hbw.cell (p := ⟨b', off' + n * 4 + 1, none⟩) (by exact hbl')).trans y1
          have y2' := (hbw.cell (p := ⟨b', off' + n * 4 + 2, none⟩) (by exact hbl')).trans y2
          have y3' := (hbw.cell (p := ⟨b', off' + n * 4 + 3, none⟩) (by exact hbl')).trans y3
          have g1 := Nat.lt_of_lt_of_le hbl' hbw.size
          have gq := Nat.lt_of_lt_of_le hWs hb.size
          have hs0 := hbw.size
          have hs1 := hb.size
          obtain ⟨X, hX⟩ : ∃ X, X = (wr.alloc (.cells #[.int .i64 x.kind, .int .i64 x.n, .string x.text, .slice ar x.attrs.length cr] 40)).alloc (.cells #[.int .i64 y.kind, .int .i64 y.n, .string y.text, .slice at2 y.attrs.length cs] 40) := ⟨_, rfl⟩
          have BX := Lib.hid (show Below W.heap.size W X by rw [hX]; exact (hb.alloc hs1 _).alloc (by simp; omega) _)
          have e0 : X.cell? ⟨wr.heap.size, 0, none⟩ = some (.int .i64 x.kind) := by rw [hX]; go_simp
          have e1 : X.cell? ⟨wr.heap.size, 1, none⟩ = some (.int .i64 x.n) := by rw [hX]; go_simp
          have e2 : X.cell? ⟨wr.heap.size, 2, none⟩ = some (.string x.text) := by rw [hX]; go_simp
          have e3 : X.cell? ⟨wr.heap.size, 3, none⟩ = some (.slice ar x.attrs.length cr) := by rw [hX]; go_simp
          have f0 : X.cell? ⟨wr.heap.size + 1, 0, none⟩ = some (.int .i64 y.kind) := by rw [hX]; go_simp
          have f1 : X.cell? ⟨wr.heap.size + 1, 1, none⟩ = some (.int .i64 y.n) := by rw [hX]; go_simp
          have f2 : X.cell? ⟨wr.heap.size + 1, 2, none⟩ = some (.string y.text) := by rw [hX]; go_simp
          have f3 : X.cell? ⟨wr.heap.size + 1, 3, none⟩ = some (.slice at2 y.attrs.length cs) := by rw [hX]; go_simp
          have hXs : wr.heap.size + 1 < X.heap.size := by rw [hX]; simp
          have hXs' : wr.heap.size < X.heap.size := by omega
          have HX := Lib.hid hX
          have bx := BW.out.trans (BX.out.mono BW.out.size)
          have HC := Lib.hid (refSameB_any _ _ x.attrs y.attrs X (r0.below bx) (q0.below bx))
          clear hx hy r0 q0 x0 x1 x2 x3 y0 y1 y2 y3 hb hbw hX step Hall bx
          by_cases hkk : x.kind = y.kind
          · have ka : (x.kind == y.kind) = true := by rw [beq_iff_eq]; exact hkk
            have kb : (x.kind != y.kind) = false := by rw [hkk]; simp
            by_cases hnn : x.n = y.n
            · have na : (x.n == y.n) = true := by rw [beq_iff_eq]; exact hnn
              have nb : (x.n != y.n) = false := by rw [hnn]; simp
              by_cases htt : x.text = y.text
              · have ta : (x.text.toList == y.text.toList) = true := by rw [htt]; simp
                have tb : (x.text.toList != y.text.toList) = false := by rw [htt]; simp
                cases hsb : sameB x.attrs y.attrs with
                | true =>
                  rw [hsb] at HC
                  have S := Lib.hid (Step.out (by have := of_decide_eq_true hsb; cases x; cases y; simp_all))
                  clear hkk hnn htt hsb Step Bad
                  go_wp2_with fail
                  rw [← HX.out]
                  go_wp2_with fail
                  refine HC.out.mono ?_
                  rintro e w2 ⟨rfl, b2⟩
                  have e0' : w2.cell? ⟨wr.heap.size, 0, none⟩ = some (.int .i64 x.kind) := (b2.cell (by exact hXs')).trans e0
                  have e1' : w2.cell? ⟨wr.heap.size, 1, none⟩ = some (.int .i64 x.n) := (b2.cell (by exact hXs')).trans e1
                  have e2' : w2.cell? ⟨wr.heap.size, 2, none⟩ = some (.string x.text) := (b2.cell (by exact hXs')).trans e2
                  have f0' : w2.cell? ⟨wr.heap.size + 1, 0, none⟩ = some (.int .i64 y.kind) := (b2.cell (by exact hXs)).trans f0
                  have f1' : w2.cell? ⟨wr.heap.size + 1, 1, none⟩ = some (.int .i64 y.n) := (b2.cell (by exact hXs)).trans f1
                  have f2' : w2.cell? ⟨wr.heap.size + 1, 2, none⟩ = some (.string y.text) := (b2.cell (by exact hXs)).trans f2
                  have B2 := Lib.hid (BX.out.trans (b2.mono BX.out.size))
                  clear b2 e0 e1 e2 e3 f0 f1 f2 f3
                  go_wp2_with fail
                  go_roundw
                  case rel => exact ⟨n + 1, by go_num, by omega, S.out, B2.out⟩
                  case measure => simp [intOf]; omega
                | false =>
                  rw [hsb] at HC
                  have S := Lib.hid (Bad.out fun e => by rw [e] at hsb; exact absurd (show sameB y.attrs y.attrs = true from decide_eq_true rfl) (by rw [hsb]; decide))
                  clear hkk hnn htt hsb Step Bad
                  go_wp2_with fail
                  rw [← HX.out]
                  go_wp2_with fail
                  refine HC.out.mono ?_
                  rintro e w2 ⟨rfl, b2⟩
                  have e0' : w2.cell? ⟨wr.heap.size, 0, none⟩ = some (.int .i64 x.kind) := (b2.cell (by exact hXs')).trans e0
                  have e1' : w2.cell? ⟨wr.heap.size, 1, none⟩ = some (.int .i64 x.n) := (b2.cell (by exact hXs')).trans e1
                  have e2' : w2.cell? ⟨wr.heap.size, 2, none⟩ = some (.string x.text) := (b2.cell (by exact hXs')).trans e2
                  have f0' : w2.cell? ⟨wr.heap.size + 1, 0, none⟩ = some (.int .i64 y.kind) := (b2.cell (by exact hXs)).trans f0
                  have f1' : w2.cell? ⟨wr.heap.size + 1, 1, none⟩ = some (.int .i64 y.n) := (b2.cell (by exact hXs)).trans f1
                  have f2' : w2.cell? ⟨wr.heap.size + 1, 2, none⟩ = some (.string y.text) := (b2.cell (by exact hXs)).trans f2
                  have B2 := Lib.hid (BX.out.trans (b2.mono BX.out.size))
                  clear b2 e0 e1 e2 e3 f0 f1 f2 f3
                  go_wp2_with fail
                  go_ret
                  exact outB_mk (HRf.out.trans S.out) (BW.out.trans (B2.out.mono BW.out.size))
              · have ta : (x.text.toList == y.text.toList) = false := by rw [beq_text]; exact decide_eq_false htt
                have tb : (x.text.toList != y.text.toList) = true := by rw [bne, ta]; rfl
                have S := Lib.hid (Bad.out fun e => htt (by rw [e]))
                clear hkk hnn htt Step Bad
                go_wp2_with fail
                rw [← HX.out]
                go_wp2_with fail
                refine HC.out.mono ?_
                rintro e w2 ⟨rfl, b2⟩
                have e0' : w2.cell? ⟨wr.heap.size, 0, none⟩ = some (.int .i64 x.kind) := (b2.cell (by exact hXs')).trans e0
                have e1' : w2.cell? ⟨wr.heap.size, 1, none⟩ = some (.int .i64 x.n) := (b2.cell (by exact hXs')).trans e1
                have e2' : w2.cell? ⟨wr.heap.size, 2, none⟩ = some (.string x.text) := (b2.cell (by exact hXs')).trans e2
                have f0' : w2.cell? ⟨wr.heap.size + 1, 0, none⟩ = some (.int .i64 y.kind) := (b2.cell (by exact hXs)).trans f0
                have f1' : w2.cell? ⟨wr.heap.size + 1, 1, none⟩ = some (.int .i64 y.n) := (b2.cell (by exact hXs)).trans f1
                have f2' : w2.cell? ⟨wr.heap.size + 1, 2, none⟩ = some (.string y.text) := (b2.cell (by exact hXs)).trans f2
                have B2 := Lib.hid (BX.out.trans (b2.mono BX.out.size))
                clear b2 e0 e1 e2 e3 f0 f1 f2 f3
                go_wp2_with fail
                go_ret
                exact outB_mk (HRf.out.trans S.out) (BW.out.trans (B2.out.mono BW.out.size))
            · have na : (x.n == y.n) = false := by rw [beq_eq_false_iff_ne]; exact hnn
              have nb : (x.n != y.n) = true := by rw [bne_iff_ne]; exact hnn
              have S := Lib.hid (Bad.out fun e => hnn (by rw [e]))
              clear hkk hnn Step Bad
              go_wp2_with fail
              rw [← HX.out]
              go_wp2_with fail
              refine HC.out.mono ?_
              rintro e w2 ⟨rfl, b2⟩
              have e0' : w2.cell? ⟨wr.heap.size, 0, none⟩ = some (.int .i64 x.kind) := (b2.cell (by exact hXs')).trans e0
              have e1' : w2.cell? ⟨wr.heap.size, 1, none⟩ = some (.int .i64 x.n) := (b2.cell (by exact hXs')).trans e1
              have e2' : w2.cell? ⟨wr.heap.size, 2, none⟩ = some (.string x.text) := (b2.cell (by exact hXs')).trans e2
              have f0' : w2.cell? ⟨wr.heap.size + 1, 0, none⟩ = some (.int .i64 y.kind) := (b2.cell (by exact hXs)).trans f0
              have f1' : w2.cell? ⟨wr.heap.size + 1, 1, none⟩ = some (.int .i64 y.n) := (b2.cell (by exact hXs)).trans f1
              have f2' : w2.cell? ⟨wr.heap.size + 1, 2, none⟩ = some (.string y.text) := (b2.cell (by exact hXs)).trans f2
              have B2 := Lib.hid (BX.out.trans (b2.mono BX.out.size))
              clear b2 e0 e1 e2 e3 f0 f1 f2 f3
              go_wp2_with fail
              go_ret
              exact outB_mk (HRf.out.trans S.out) (BW.out.trans (B2.out.mono BW.out.size))
          · have ka : (x.kind == y.kind) = false := by rw [beq_eq_false_iff_ne]; exact hkk
            have kb : (x.kind != y.kind) = true := by rw [bne_iff_ne]; exact hkk
            have S := Lib.hid (Bad.out fun e => hkk (by rw [e]))
            clear hkk Step Bad
            go_wp2_with fail
            rw [← HX.out]
            go_wp2_with fail
            refine HC.out.mono ?_
            rintro e w2 ⟨rfl, b2⟩
            have e0' : w2.cell? ⟨wr.heap.size, 0, none⟩ = some (.int .i64 x.kind) := (b2.cell (by exact hXs')).trans e0
            have e1' : w2.cell? ⟨wr.heap.size, 1, none⟩ = some (.int .i64 x.n) := (b2.cell (by exact hXs')).trans e1
            have e2' : w2.cell? ⟨wr.heap.size, 2, none⟩ = some (.string x.text) := (b2.cell (by exact hXs')).trans e2
            have f0' : w2.cell? ⟨wr.heap.size + 1, 0, none⟩ = some (.int .i64 y.kind) := (b2.cell (by exact hXs)).trans f0
            have f1' : w2.cell? ⟨wr.heap.size + 1, 1, none⟩ = some (.int .i64 y.n) := (b2.cell (by exact hXs)).trans f1
            have f2' : w2.cell? ⟨wr.heap.size + 1, 2, none⟩ = some (.string y.text) := (b2.cell (by exact hXs)).trans f2
            have B2 := Lib.hid (BX.out.trans (b2.mono BX.out.size))
            clear b2 e0 e1 e2 e3 f0 f1 f2 f3
            go_wp2_with fail
            go_ret
            exact outB_mk (HRf.out.trans S.out) (BW.out.trans (B2.out.mono BW.out.size))
        · have hkn : n = l.length := by omega
          have hs := Lib.hid (sameOps_all Hlen.out fun j h1 h2 => Hall.out j h1 h2 (by omega))
          subst hkn
          clear Hall hb
          go_wp2_with fail
          go_ret
          exact outB_mk (HRf.out.trans hs.out) HB.out
    · have hs := Lib.hid (sameOps_len hlen)
      have hle2 : ((l.length : Int) == (m.length : Int)) = false := by rw [beq_eq_false_iff_ne]; omega
      have hle3 : ((l.length : Int) != (m.length : Int)) = true := by rw [bne_iff_ne]; omega
      clear hlen
      go_enter Try.func15, Try.ntmps15
      go_wp2_with fail
      rw [← HW.out]
      go_wp2_with fail
      go_ret
      exact outB_mk (HRf.out.trans hs.out) BW.out
  · have k1 : (f == g) = false := by rw [beq_eq_false_iff_ne]; exact hf
    have k2 : (f != g) = true := by rw [bne_iff_ne]; exact hf
    have hR := Lib.hid (show sameCh f g l m = false from decide_eq_false fun e => hf e.1)
    clear hf
    go_enter Try.func15, Try.ntmps15
    go_wp2_with fail
    rw [← HW.out]
    go_wp2_with fail
    go_ret
    exact outB_mk hR.out BW.out
end Go.Proofs.Ytacgkbdldbppjaa

/- The document's own normal form, by groups, plain: it is the one normal form. -/
namespace Go.Proofs.Ytacgkbdldbppjaa
open Go.RowKit Ch

abbrev PA := OpD × Value
structure Grp where
  v : Value
  l : List PA
  g : Int
def dels (g : Int) : List PA := if 0 < g then [(delO g, .slice none 0 0)] else []
def rend : List Grp → List PA → List PA
  | G :: r, k :: ks => G.l ++ dels G.g ++ k :: rend r ks
  | _, _ => []
def fsts (l : List PA) : List OpD := l.map (·.1)
theorem fsts_len (l : List PA) : (fsts l).length = l.length := by simp [fsts]
theorem fsts_append (l m : List PA) : fsts (l ++ m) = fsts l ++ fsts m := by simp [fsts]
theorem fsts_snoc_rev (a l : List PA) (x : PA) : (fsts (a ++ (l ++ [x]))).reverse = x.1 :: (fsts (a ++ l)).reverse := by
  rw [← List.append_assoc, fsts_append, List.reverse_append]; rfl
theorem rend_snoc {init : List Grp} {ks : List PA} (h : init.length = ks.length) (G : Grp) (k : PA) : rend (init ++ [G]) (ks ++ [k]) = rend init ks ++ (G.l ++ dels G.g ++ [k]) := by
  induction init generalizing ks with
  | nil => cases ks with
    | nil => simp [rend]
    | cons _ _ => simp at h
  | cons x r ih => cases ks with
    | nil => simp at h
    | cons y s => simp only [List.cons_append, rend, ih (by simpa using h)]; simp
theorem nil_or_snoc {α : Type} (l : List α) : l = [] ∨ ∃ r x, l = r ++ [x] := by
  rcases List.eq_nil_or_concat l with h | ⟨r, x, h⟩
  · exact .inl h
  · exact .inr ⟨r, x, by simpa using h⟩

/-- The groups on the way stand for the state on the way. -/
structure Rel (init : List Grp) (ks cur : List PA) (g : Int) (s : List OpD × Int) : Prop where
  len : init.length = ks.length
  row : s.1 = (fsts (rend init ks ++ cur)).reverse
  gone : s.2 = g
  g0 : 0 ≤ g
  keep : ∀ k ∈ ks, k.1.kind = 1
  ins : ∀ x ∈ cur, x.1.kind = 2
theorem rel_start : Rel [] [] [] 0 ([], 0) := ⟨rfl, rfl, rfl, Int.le_refl _, (fun _ h => by cases h), (fun _ h => by cases h)⟩
/-- The row's head is the last of the inserts, or the keep ahead of them. -/
theorem Rel.head {init : List Grp} {ks cur : List PA} {g : Int} {s : List OpD × Int} (h : Rel init ks cur g s) :
    (cur = [] ∧ ks = [] ∧ s.1 = []) ∨ (cur = [] ∧ ∃ i0 G k0 k, init = i0 ++ [G] ∧ ks = k0 ++ [k] ∧ s.1 = k.1 :: (fsts (rend i0 k0 ++ (G.l ++ dels G.g))).reverse) ∨
      ∃ c0 x, cur = c0 ++ [x] ∧ s.1 = x.1 :: (fsts (rend init ks ++ c0)).reverse := by
  obtain ⟨h1, h2, _, _, _⟩ := h
  rcases nil_or_snoc cur with rfl | ⟨c0, x, rfl⟩
  · rcases nil_or_snoc ks with rfl | ⟨k0, k, rfl⟩
    · left
      have : init = [] := List.length_eq_zero_iff.1 h1
      subst this
      exact ⟨rfl, rfl, h2⟩
    · rcases nil_or_snoc init with rfl | ⟨i0, G, rfl⟩
      · simp at h1
      · have hl : i0.length = k0.length := by simpa using h1
        right; left
        refine ⟨rfl, i0, G, k0, k, rfl, rfl, ?_⟩
        rw [h2, List.append_nil, rend_snoc hl]
        have := fsts_snoc_rev (rend i0 k0) (G.l ++ dels G.g) k
        simpa [List.append_assoc] using this
  · right; right
    exact ⟨c0, x, rfl, by rw [h2, fsts_snoc_rev]⟩
theorem Rel.ins_new {init : List Grp} {ks cur : List PA} {g : Int} {s : List OpD × Int} (h : Rel init ks cur g s) {o : OpD} (hk : o.kind = 2) (ha : ∀ c0 x, cur = c0 ++ [x] → x.1.attrs ≠ o.attrs) (v : Value) :
    Rel init ks (cur ++ [(o, v)]) g (add s o) := by
  have e : add s o = (put s.1 o, s.2) := by unfold add; rw [if_neg (by omega), if_neg (by omega)]
  have hp : put s.1 o = o :: s.1 := put_fresh fun x r hx hh => by
    rcases h.head with ⟨_, _, h0⟩ | ⟨_, i0, G, k0, k, _, hks, h0⟩ | ⟨c0, y, hc, h0⟩
    · rw [h0] at hx; cases hx
    · rw [h0] at hx
      simp only [List.cons.injEq] at hx
      have := h.keep k (by rw [hks]; simp)
      rw [hx.1] at this
      omega
    · rw [h0] at hx
      simp only [List.cons.injEq] at hx
      exact ha c0 y hc (by rw [hx.1]; exact hh.2)
  rw [e, hp]
  exact ⟨h.len, by rw [fsts_snoc_rev, ← h.row], h.gone, h.g0, h.keep, fun x hx => by
    rcases List.mem_append.1 hx with hx | hx
    · exact h.ins x hx
    · simp only [List.mem_singleton] at hx; subst hx; exact hk⟩
theorem Rel.ins_join {init : List Grp} {ks c0 : List PA} {x : PA} {g : Int} {s : List OpD × Int} (h : Rel init ks (c0 ++ [x]) g s) {o : OpD} (hk : o.kind = 2) (hn : o.n = 0) (ha : x.1.attrs = o.attrs) :
    Rel init ks (c0 ++ [({ x.1 with text := cat x.1.text o.text }, x.2)]) g (add s o) := by
  have e : add s o = (put s.1 o, s.2) := by unfold add; rw [if_neg (by omega), if_neg (by omega)]
  have h2 : x.1.kind = 2 := h.ins x (by simp)
  have hr := h.row
  rw [fsts_snoc_rev] at hr
  have hp : put s.1 o = { x.1 with text := cat x.1.text o.text } :: (fsts (rend init ks ++ c0)).reverse := by
    rw [hr, put, if_pos ⟨by omega, ha⟩]
    have : x.1.n + o.n = x.1.n := by omega
    rw [this]
  rw [e, hp]
  exact ⟨h.len, by rw [fsts_snoc_rev], h.gone, h.g0, h.keep, fun y hy => by
    rcases List.mem_append.1 hy with hy | hy
    · exact h.ins y (List.mem_append_left _ hy)
    · simp only [List.mem_singleton] at hy; subst hy; exact h2⟩
theorem Rel.del {init : List Grp} {ks cur : List PA} {g : Int} {s : List OpD × Int} (h : Rel init ks cur g s) {o : OpD} (hk : o.kind = 3) (hn : 0 ≤ o.n) : Rel init ks cur (g + o.n) (add s o) := by
  have e : add s o = (s.1, s.2 + o.n) := by unfold add; rw [if_pos hk]
  rw [e]
  exact ⟨h.len, h.row, by rw [← h.gone], by have := h.g0; omega, h.keep, h.ins⟩
theorem Rel.flush {init : List Grp} {ks cur : List PA} {g : Int} {s : List OpD × Int} (h : Rel init ks cur g s) (hs : St s) : Ch.flush s = (fsts (rend init ks ++ (cur ++ dels g))).reverse := by
  unfold Ch.flush dels
  rw [h.gone]
  split
  · rw [put_fresh fun x r e h3 => hs.2 x r e h3.1, h.row, fsts_snoc_rev]
  · rw [h.row, List.append_nil]
theorem Rel.keep_join {init : List Grp} {k0 : List PA} {x : PA} {s : List OpD × Int} (h : Rel init (k0 ++ [x]) [] 0 s) (hs : St s) {o : OpD} (hk : o.kind = 1) (ht : o.text.size = 0) (ha : x.1.attrs = o.attrs) :
    Rel init (k0 ++ [({ x.1 with n := x.1.n + o.n }, x.2)]) [] 0 (add s o) := by
  have h1 : x.1.kind = 1 := h.keep x (by simp)
  rcases nil_or_snoc init with rfl | ⟨i0, G, rfl⟩
  · have := h.len; simp at this
  have hl : i0.length = k0.length := by simpa using h.len
  have e : add s o = (put (Ch.flush s) o, 0) := by unfold add; rw [if_neg (by omega), if_pos hk]
  have hf : Ch.flush s = s.1 := by unfold Ch.flush; rw [if_neg (by rw [h.gone]; omega)]
  have hr : s.1 = x.1 :: (fsts (rend i0 k0 ++ (G.l ++ dels G.g))).reverse := by
    rw [h.row, List.append_nil, rend_snoc hl]
    have := fsts_snoc_rev (rend i0 k0) (G.l ++ dels G.g) x
    simpa [List.append_assoc] using this
  have hp : put (Ch.flush s) o = { x.1 with n := x.1.n + o.n } :: (fsts (rend i0 k0 ++ (G.l ++ dels G.g))).reverse := by
    rw [hf, hr, put, if_pos ⟨by omega, ha⟩, cat_nil ht]
  rw [e, hp]
  refine ⟨by simpa using h.len, ?_, rfl, Int.le_refl _, fun k hk' => ?_, fun y hy => by cases hy⟩
  · show _ = (fsts (rend (i0 ++ [G]) _ ++ [])).reverse
    rw [List.append_nil, rend_snoc hl]
    have := fsts_snoc_rev (rend i0 k0) (G.l ++ dels G.g) ({ x.1 with n := x.1.n + o.n }, x.2)
    simpa [List.append_assoc] using this.symm
  · rcases List.mem_append.1 hk' with hk' | hk'
    · exact h.keep k (List.mem_append_left _ hk')
    · simp only [List.mem_singleton] at hk'; subst hk'; exact h1
theorem Rel.keep_new {init : List Grp} {ks cur : List PA} {g : Int} {s : List OpD × Int} (h : Rel init ks cur g s) (hs : St s) {o : OpD} (hk : o.kind = 1)
    (ha : cur = [] → g = 0 → ∀ k0 x, ks = k0 ++ [x] → x.1.attrs ≠ o.attrs) (v v' : Value) : Rel (init ++ [⟨v, cur, g⟩]) (ks ++ [(o, v')]) [] 0 (add s o) := by
  have e : add s o = (put (Ch.flush s) o, 0) := by unfold add; rw [if_neg (by omega), if_pos hk]
  have hf := h.flush hs
  have hp : put (Ch.flush s) o = o :: Ch.flush s := put_fresh fun x r hx hh => by
    rw [hf] at hx
    by_cases hg : 0 < g
    · unfold dels at hx
      rw [if_pos hg, fsts_snoc_rev] at hx
      simp only [List.cons.injEq] at hx
      have h3 : (delO g).kind = 3 := rfl
      rw [hx.1] at h3
      omega
    · have hg0 : g = 0 := by have := h.g0; omega
      unfold dels at hx
      rw [if_neg hg, List.append_nil, ← h.row] at hx
      rcases h.head with ⟨_, _, h0⟩ | ⟨hc, i0, G, k0, k, _, hks, h0⟩ | ⟨c0, y, hc, h0⟩
      · rw [h0] at hx; cases hx
      · rw [h0] at hx
        simp only [List.cons.injEq] at hx
        exact ha hc hg0 k0 k hks (by rw [hx.1]; exact hh.2)
      · rw [h0] at hx
        simp only [List.cons.injEq] at hx
        have := h.ins y (by rw [hc]; simp)
        rw [hx.1] at this
        omega
  rw [e, hp, hf]
  refine ⟨by simp [h.len], ?_, rfl, Int.le_refl _, fun k hk' => ?_, fun y hy => by cases hy⟩
  · rw [List.append_nil, rend_snoc h.len]
    have := fsts_snoc_rev (rend init ks) (cur ++ dels g) (o, v')
    simpa [List.append_assoc] using this.symm
  · rcases List.mem_append.1 hk' with hk' | hk'
    · exact h.keep k hk'
    · simp only [List.mem_singleton] at hk'; subst hk'; exact hk
/-- What is put together in the end. -/
def trimF (l : List PA) : List PA := match l.getLast? with
  | some x => if x.1.kind = 1 ∧ x.1.attrs.length = 0 then l.dropLast else l
  | none => l
theorem trimF_nil : trimF [] = [] := rfl
theorem trimF_snoc (l : List PA) (x : PA) : trimF (l ++ [x]) = if x.1.kind = 1 ∧ x.1.attrs.length = 0 then l else l ++ [x] := by
  unfold trimF
  simp
theorem norm_of {init : List Grp} {ks cur : List PA} {g : Int} {ops : List OpD} (h : Rel init ks cur g (fold ops)) (hs : St (fold ops)) : norm ops = fsts (trimF (rend init ks ++ (cur ++ dels g))) := by
  unfold norm
  rw [h.flush hs]
  rcases nil_or_snoc (rend init ks ++ (cur ++ dels g)) with h0 | ⟨r, x, h0⟩
  · rw [h0]; rfl
  · rw [h0, trimF_snoc]
    have e : (fsts (r ++ [x])).reverse = x.1 :: (fsts r).reverse := by simp [fsts]
    rw [e, trim]
    split
    · rw [List.reverse_reverse]
    · rw [List.reverse_cons, List.reverse_reverse]; simp [fsts]
/-- How many there are on the way, and how large. -/
theorem Rel.lim {init : List Grp} {ks cur : List PA} {g : Int} {s : List OpD × Int} (h : Rel init ks cur g s) {k : Nat} (hl : Lim k s) (hk : k ≤ 2000) :
    cur.length ≤ 2000 ∧ ks.length ≤ 2000 ∧ g ≤ 40000000 ∧ (∀ x ∈ cur, x.1.text.size ≤ 160000000) ∧ (∀ x ∈ ks, 0 ≤ x.1.n ∧ x.1.n ≤ 40000000) := by
  have h1 : s.1.length ≤ 2000 := by have := hl.siz; unfold siz at this; omega
  have h2 : s.1.length = (rend init ks).length + cur.length := by rw [h.row]; simp [fsts_len]
  have hr : ∀ (i : List Grp) (l : List PA), i.length = l.length → l.length ≤ (rend i l).length ∧ ∀ x ∈ l, x ∈ rend i l := by
    intro i
    induction i with
    | nil => intro l hl; cases l with
      | nil => exact ⟨Nat.le_refl _, fun x hx => by cases hx⟩
      | cons _ _ => simp at hl
    | cons a r ih => intro l hl; cases l with
      | nil => simp at hl
      | cons y t =>
        obtain ⟨i1, i2⟩ := ih t (by simpa using hl)
        rw [rend]
        refine ⟨by simp; omega, fun x hx => ?_⟩
        rcases List.mem_cons.1 hx with rfl | hx
        · simp
        · exact List.mem_append_right _ (List.mem_cons_of_mem _ (i2 x hx))
  obtain ⟨r1, r2⟩ := hr init ks h.len
  have mem : ∀ x : PA, x ∈ rend init ks ++ cur → x.1 ∈ s.1 := fun x hx => by
    rw [h.row, List.mem_reverse]
    exact List.mem_map.2 ⟨x, hx, rfl⟩
  refine ⟨by omega, by omega, by have := hl.g1; rw [h.gone] at this; omega, fun x hx => ?_, fun x hx => ?_⟩
  · have := hl.ops x.1 (mem x (List.mem_append_right _ hx)); omega
  · have := hl.ops x.1 (mem x (List.mem_append_left _ (r2 x hx))); omega
end Go.Proofs.Ytacgkbdldbppjaa

/- The document's copied and group.insert. -/
namespace Go.Proofs.Ytacgkbdldbppjaa
open Go.RowKit Ch

/-- Two rows that do not lie in one block. -/
def Apart (u v : Value) : Prop := ∀ j, u.ownBlock = some j → v.ownBlock ≠ some j
theorem OwnP.keepO {w w' : World} {B C : Nat} {v ov ov' : Value} {l : List PA} (h : OwnP w B v l) (hk : KeepO C w w' ov ov') (ha : Apart v ov) : OwnP w' B v l ∧ Apart v ov' := by
  have ht : ∀ q ∈ l, w'.ownsRow B 67 2 q.2 q.1.attrs.length (flat q.1.attrs) := fun q hq => hk.keep.own (h.2 q hq) (by decide)
  rcases h.1.2 with ⟨hv, h0⟩ | ⟨g, cap, cur, hv, hb, hg, hr⟩
  · exact ⟨⟨⟨h.1.1, .inl ⟨hv, h0⟩⟩, ht⟩, fun j hj => by rw [hv] at hj; simp [Value.ownBlock] at hj⟩
  · have hne : ov.ownBlock ≠ some g := fun e => ha g (by rw [hv]; rfl) e
    obtain ⟨k1, k2⟩ := hk.ops g cur (0, 0) hg hne
    exact ⟨⟨⟨h.1.1, .inr ⟨g, cap, cur, hv, hb, k1, hr⟩⟩, ht⟩, fun j hj => by
      rw [hv] at hj
      simp only [Value.ownBlock, Option.some.injEq] at hj
      subst hj
      exact k2⟩
/-- 'append(own, one)' of operations, as a step of a region that draws. -/
theorem step_app_op {ops : Array Oper} {o : Oper} {a : Act} {w : World} {K : Act → World → Prop} {Q : Exit → Act → World → Prop} {E : Prop}
    (hg : o.guard = none) (s x : Operand) (hop : o.op = Op.call { callee := Callee.builtin Builtin.append, args := #[s, x], argTypes := #[22, 22] })
    (B : Nat) (v : Value) (ps : List PA) (hs : a.eval s = v) (H : OwnP w B v ps) (q : PA) (ad : Addr) (c : Nat) (hx : a.eval x = .slice (some ad) 1 c) (hc : ∀ j u, (opCells q)[j]? = some u → w.cell? (ad.add j) = some u)
    (hq : w.ownsRow B 67 2 q.2 q.1.attrs.length (flat q.1.attrs)) (hl : ps.length ≤ 100000) (hB : B ≤ w.heap.size)
    (hK : ∀ v' w', OwnP w' B v' (ps ++ [q]) → KeepO B w w' v v' → K (a.put o.dst v') w') :
    if Region.wanted o (yielded ops a.tmps) = true then Oper.wp Try.prog o a w K Q else E := by
  obtain ⟨i0, hi, hz0, hz1, hz2⟩ := info_parts infoOp
  refine step_append_new hg s x 22 hop 40 i0 (.agg #[.int .i64 0, .int .i64 0, .string ⟨#[]⟩, .slice none 0 0]) 4 56 Try.underlying22 hi hz0 hz1 hz2 rfl (by decide) B v ps.length (flatO ps) hs H.1 ad 1 c (opCells q) hx rfl hc ?_ (by unfold maxLen; omega) (by omega) hB fun v' w' o1 g1 n1 => ?_
  · intro u hu
    simp [opCells] at hu
    rcases hu with rfl | rfl | rfl | rfl
    · rfl
    · rfl
    · rfl
    · exact own_one hq
  · have kr := keep_row H.1 g1 (ts := [40]) (by simp) hB
    refine hK v' w' (ownP_mk (by rw [flatO_snoc]; exact o1) (fun y hy => kr.own (H.2 y hy) (by decide)) (kr.own hq (by decide))) (keepO_grown H.1 g1 hB n1)

set_option maxHeartbeats 1000000 in
theorem copied_any (v : Value) (l : List (ByteArray × ByteArray)) (w : World) (hv : AtRow w v l) (hp : Proper v) (hl : l.length ≤ 4096) :
    Calls Try.prog 37 #[v] w fun e w' => ∃ u, e = .returned u ∧ w'.ownsRow w.heap.size 67 2 u l.length (flat l) ∧ Below w.heap.size w w' := by
  have HV := Lib.hid hv
  obtain ⟨a, c, rfl⟩ := hv.shape
  have HP := Lib.hid hp
  have HL := Lib.hid hl
  clear hv hp hl
  have O0 := Lib.hid (show (w.alloc (.cells #[] 67)).ownsRow w.heap.size 67 2 (.slice (some ⟨w.heap.size, 0, none⟩) 0 0) 0 [] from World.ownsRow_lit w #[] 0 (Nat.le_refl _) (Nat.zero_le _) rfl)
  have B0 := Lib.hid (below_box w (.cells #[] 67))
  go_enter Try.func37, Try.ntmps37
  go_wp2_with (at_builtin; refine wpList_append_row rfl (.tmp 3) (.tmp 4) rfl w.heap.size (.slice (some ⟨w.heap.size, 0, none⟩) 0 0) (.slice a l.length c) 0 [] l rfl rfl O0.out (HV.out.below B0.out) HP.out l.length (flat l) (Nat.zero_add _) rfl HL.out B0.out.size ?_; intro u1 w1 o1 g1; obtain ⟨u2, u3, rfl⟩ := own_slice o1; have O1 := Lib.hid o1; have B1 := Lib.hid (B0.out.grown g1 B0.out.size (own_ge O0.out)); clear o1 g1)
  go_ret
  exact ⟨_, rfl, O1.out, B1.out⟩

def insO (t : ByteArray) (l : List (ByteArray × ByteArray)) : OpD := ⟨2, 0, t, l⟩
def JoinOut (w : World) (B : Nat) (cv : Value) (fr : List PA) (x : OpD) (xv : Value) (t : ByteArray) (e : Ending) (w' : World) : Prop :=
  e = .returned (.tuple #[]) ∧ KeepO B w w' cv cv ∧ OwnP w' B cv (fr ++ [({ x with text := cat x.text t }, xv)])
def InsOut (w : World) (B gb q : Nat) (cv : Value) (cur : List PA) (t : ByteArray) (l : List (ByteArray × ByteArray)) (e : Ending) (w' : World) : Prop :=
  e = .returned (.tuple #[]) ∧ ∃ w1 cv' av, w' = w1.setCell ⟨gb, q, none⟩ cv' ∧ KeepO B w w1 cv cv' ∧ OwnP w1 B cv' (cur ++ [(insO t l, av)])

set_option maxRecDepth 100000 in
set_option maxHeartbeats 4000000 in
theorem insert_join (B gb q : Nat) (cs : Array Value) (cv : Value) (fr : List PA) (x : OpD) (xv : Value) (t : ByteArray) (av : Value) (l : List (ByteArray × ByteArray)) (w : World) (hB : B ≤ gb) (hg : w.heap[gb]? = some (.cells cs 61 (0, 0))) (hc : cs[q]? = some cv)
    (hP : OwnP w B cv (fr ++ [(x, xv)])) (hv : AtRow w av l) (hl : fr.length ≤ 4000) (ht1 : x.text.size ≤ 1073741824) (ht2 : t.size ≤ 1073741824) (ha : x.attrs = l) :
    Calls Try.prog 36 #[.pointer (some ⟨gb, q, none⟩), .string t, av] w (JoinOut w B cv fr x xv t) := by
  have hBw : B ≤ w.heap.size := Nat.le_trans hB (Nat.le_of_lt (lt_of_heap hg))
  obtain ⟨gg, cap, hov⟩ := ownsRow_open hP.len (Nat.succ_pos _)
  subst hov
  obtain ⟨xa, xc, hxv⟩ : ∃ a c, xv = .slice a x.attrs.length c := own_slice (hP.2 (x, xv) (by simp))
  subst hxv
  obtain ⟨va, vc, rfl⟩ := hv.shape
  have HC := Lib.hid (refSameB_any (.slice xa x.attrs.length xc) (.slice va l.length vc) x.attrs l w (row_of_own (hP.2 (x, .slice xa x.attrs.length xc) (by simp))) hv)
  rw [show sameB x.attrs l = true from decide_eq_true ha] at HC
  have k0 : w.cell? ⟨gb, q, none⟩ = some (.slice (some ⟨gg, 0, none⟩) (fr.length + 1) cap) := by rw [Lib.cell_of_heap hg]; exact hc
  obtain ⟨q0, q1, q2, q3⟩ := last_cells hP.len
  have i1 : (0 : Int) ≤ (fr.length : Int) := by omega
  have i2 : (fr.length : Int) < (fr.length : Int) + 1 := by omega
  have i3 : decide ((0 : Int) ≤ (fr.length : Int)) = true := decide_eq_true (by omega)
  have hgw : gg < w.heap.size := by obtain ⟨_, cs, hcs⟩ := own_heap hP.len; exact lt_of_heap hcs
  have hgb : gb < w.heap.size := lt_of_heap hg
  have HP := Lib.hid hP
  have HBw := Lib.hid hBw
  clear hP hv hg hc ha hBw q0 q1
  go_enter Try.func36, Try.ntmps36
  go_wp2_with fail
  refine HC.out.mono ?_
  rintro e wB ⟨rfl, hb⟩
  have kB : wB.cell? ⟨gb, q, none⟩ = some (.slice (some ⟨gg, 0, none⟩) (fr.length + 1) cap) := (hb.cell (by exact hgb)).trans k0
  have qB : wB.cell? ⟨gg, fr.length * 4 + 2, none⟩ = some (.string x.text) := (hb.cell (by exact hgw)).trans q2
  have PB := HP.out.keep (keep_below (ts := []) hb (Nat.le_refl _)) (by simp) (by simp)
  have fB : wB.frozen? ⟨gg, fr.length * 4 + 2, none⟩ = false := PB.len.frozenAt _
  have hwr : (9223372036854775807 < x.text.size + t.size) = False := eq_false (by omega)
  have HPB := Lib.hid PB
  have HB := Lib.hid hb
  clear PB hb k0 q2 q3
  go_wp2_with fail
  go_region
  obtain ⟨P1, K1⟩ := OwnP.setLast (y := { x with text := cat x.text t }) HPB.out 2 (.string (x.text ++ t)) (by rw [cat_eq]; rfl) rfl
  have HP1 := Lib.hid P1
  have HK1 := Lib.hid ((keepO_below HB.out HBw.out (.slice (some ⟨gg, 0, none⟩) (fr.length + 1) cap)).trans K1)
  clear P1 K1
  go_wp2_with fail
  go_end0
  exact ⟨rfl, ⟨HK1.out.keep.drew, HK1.out.ops⟩, HP1.out⟩

set_option maxRecDepth 100000 in
set_option maxHeartbeats 4000000 in
theorem insert_first (B gb q : Nat) (cs : Array Value) (cv : Value) (cur : List PA) (t : ByteArray) (av : Value) (l : List (ByteArray × ByteArray)) (w : World) (hB : B ≤ gb) (hg : w.heap[gb]? = some (.cells cs 61 (0, 0))) (hc : cs[q]? = some cv)
    (hP : OwnP w B cv cur) (hv : AtRow w av l) (hpr : Proper av) (hla : l.length ≤ 4096) (h0 : cur = []) :
    Calls Try.prog 36 #[.pointer (some ⟨gb, q, none⟩), .string t, av] w (InsOut w B gb q cv cur t l) := by
  have hBw : B ≤ w.heap.size := Nat.le_trans hB (Nat.le_of_lt (lt_of_heap hg))
  obtain ⟨va, vc, rfl⟩ := hv.shape
  have hl : cur.length ≤ 100000 := by rw [h0]; exact Nat.zero_le _
  obtain ⟨ca, cc, rfl⟩ := own_slice hP.1
  have hcl : cur.length = 0 := by rw [h0]; rfl
  have Sw : w.drew.cell? ⟨gb, q, none⟩ = some (.slice ca cur.length cc) := by show w.cell? _ = _; rw [Lib.cell_of_heap hg]; exact hc
  have k0 : w.cell? ⟨gb, q, none⟩ = some (.slice ca 0 cc) := by rw [← hcl]; exact Sw
  have HC0 := Lib.hid hc
  have Hgw := Lib.hid hg
  have HVw := Lib.hid hv
  have HPR := Lib.hid hpr
  have HLA := Lib.hid hla
  have HPw := Lib.hid hP
  have HKw := Lib.hid (show KeepO B w w (.slice ca cur.length cc) (.slice ca cur.length cc) from keepO_below (Below.refl _ _) hBw _)
  have hwg : gb < w.heap.size := lt_of_heap hg
  have HCL := Lib.hid hcl
  clear hP hv hpr hla hc hg h0 hcl
  go_enter Try.func36, Try.ntmps36
  go_wp2_with fail
  refine wp_region_B (fun w' => w'.cell? ⟨gb, q, none⟩ = some (.slice ca cur.length cc)) [13] (by kernel_rfl) (?_ : wpAnyB _ _ _ _ _ _ 14 (Array.replicate 14 false) _ _)
  refine wpAnyB_free (fuel := 13) (i := 0) (v := ?_) rfl (by kernel_rfl) (by kernel_rfl) (by kernel_rfl) (by kernel_rfl) (fun _ _ _ h => h) (.inr Sw) ?_ (by rfl) ?_
  rotate_left
  · intro w'; go_simp; (try with_reducible rfl)
  simp only [Act.put, List.setIfInBounds_toArray, List.set_cons_zero, List.set_cons_succ]
  refine wpAnyB_free (fuel := 12) (i := 1) (v := ?_) rfl (by kernel_rfl) (by kernel_rfl) (by kernel_rfl) (by kernel_rfl) (fun _ _ _ h => h) (.inr Sw) ?_ (by rfl) ?_
  rotate_left
  · intro w'; go_simp; (try with_reducible rfl)
  simp only [Act.put, List.setIfInBounds_toArray, List.set_cons_zero, List.set_cons_succ]
  refine wpAnyB_free (fuel := 11) (i := 2) (v := ?_) rfl (by kernel_rfl) (by kernel_rfl) (by kernel_rfl) (by kernel_rfl) (fun _ _ _ h => h) (.inr Sw) ?_ (by rfl) ?_
  rotate_left
  · intro w'; go_simp; (try with_reducible rfl)
  simp only [Act.put, List.setIfInBounds_toArray, List.set_cons_zero, List.set_cons_succ]
  refine wpAnyB_free (fuel := 10) (i := 3) (v := ?_) rfl (by kernel_rfl) (by kernel_rfl) (by kernel_rfl) (by kernel_rfl) (fun _ _ _ h => h) (.inr Sw) ?_ (by rfl) ?_
  rotate_left
  · intro w'; go_simp; (try with_reducible rfl)
  simp only [Act.put, List.setIfInBounds_toArray, List.set_cons_zero, List.set_cons_succ]
  refine wpAnyB_load [4,10,11,12,13] (fuel := 9) (i := 4) (v := ?_) rfl (by kernel_rfl) (by kernel_rfl) (by kernel_rfl) (by kernel_rfl) (by kernel_rfl) (fun _ _ _ h => h) (.inr Sw) ?_ (by rfl) ?_
  rotate_left
  · intro w' hw'; go_simp; (try with_reducible rfl)
  simp only [Act.put, List.setIfInBounds_toArray, List.set_cons_zero, List.set_cons_succ]
  refine wpAnyB_free (fuel := 8) (i := 5) (v := ?_) rfl (by kernel_rfl) (by kernel_rfl) (by kernel_rfl) (by kernel_rfl) (fun _ _ _ h => h) (.inr Sw) ?_ (by rfl) ?_
  rotate_left
  · intro w'; go_simp; (try with_reducible rfl)
  simp only [Act.put, List.setIfInBounds_toArray, List.set_cons_zero, List.set_cons_succ]
  refine wpAnyB_free (fuel := 7) (i := 6) (v := ?_) rfl (by kernel_rfl) (by kernel_rfl) (by kernel_rfl) (by kernel_rfl) (fun _ _ _ h => h) (.inr Sw) ?_ (by rfl) ?_
  rotate_left
  · intro w'; go_simp; (try with_reducible rfl)
  simp only [Act.put, List.setIfInBounds_toArray, List.set_cons_zero, List.set_cons_succ]
  refine wpAnyB_one (fuel := 6) (i := 7) rfl (by kernel_rfl) ?_
  intro KB hKB
  go_simp
  refine (copied_any (.slice va l.length vc) l _ (HVw.out.below (Below.refl _ _).drew) HPR.out HLA.out).mono ?_
  rintro e wA ⟨u, rfl, oA, bA⟩
  obtain ⟨ua, uc, rfl⟩ := own_slice oA
  have BA : Below w.heap.size w wA := of_drew bA
  have OA := Lib.hid (own_base oA (show B ≤ w.drew.heap.size from hBw))
  have PA' := Lib.hid (HPw.out.keep (keep_below (ts := []) BA (Nat.le_refl _)) (by simp) (by simp))
  have KA := Lib.hid (HKw.out.trans (keepO_below BA hBw (.slice ca cur.length cc)))
  have gA := Lib.hid ((BA.block _ hwg).trans Hgw.out)
  have hBA : B ≤ wA.heap.size := Nat.le_trans hBw BA.size
  have SA : wA.cell? ⟨gb, q, none⟩ = some (.slice ca cur.length cc) := (BA.cell (by exact hwg)).trans Sw
  have hgA : gb < wA.heap.size := Nat.lt_of_lt_of_le hwg BA.size
  clear oA bA BA
  refine hKB _ _ (.inr SA) ?_
  (try simp only [Act.put, List.setIfInBounds_toArray, List.set_cons_zero, List.set_cons_succ])
  refine wpAnyB_free (fuel := 5) (i := 8) (v := ?_) rfl (by kernel_rfl) (by kernel_rfl) (by kernel_rfl) (by kernel_rfl) (fun _ _ _ h => h) (.inr SA) ?_ (by rfl) ?_
  rotate_left
  · intro w'; go_simp; (try with_reducible rfl)
  simp only [Act.put, List.setIfInBounds_toArray, List.set_cons_zero, List.set_cons_succ]
  refine wpAnyB_one (fuel := 4) (i := 9) rfl (by kernel_rfl) ?_
  intro KB hKB
  go_simp
  have BC : Below wA.heap.size wA (wA.alloc (.cells #[.int .i64 2, .int .i64 0, .string t, .slice ua l.length uc] 40)) := below_box _ _
  have SB : (wA.alloc (.cells #[.int .i64 2, .int .i64 0, .string t, .slice ua l.length uc] 40)).cell? ⟨gb, q, none⟩ = some (.slice ca cur.length cc) := (BC.cell (by exact hgA)).trans SA
  have HBC := Lib.hid BC
  clear BC
  refine hKB _ _ (.inr SB) ?_
  (try simp only [Act.put, List.setIfInBounds_toArray, List.set_cons_zero, List.set_cons_succ])
  refine wpAnyB_one (fuel := 3) (i := 10) rfl (by kernel_rfl) ?_
  intro KB hKB
  refine step_app_op rfl (.tmp 48) (.tmp 53) rfl B (.slice ca cur.length cc) cur rfl (PA'.out.keep (keep_below (ts := []) HBC.out (Nat.le_refl _)) (by simp) (by simp)) (insO t l, .slice ua l.length uc) ⟨wA.heap.size, 0, none⟩ 1 rfl (new_at4 _ _ _ _ _ _) ((keep_below (B := B) (ts := []) HBC.out hBA).own OA.out (by simp)) (by omega) (Nat.le_trans hBA HBC.out.size) ?_
  intro v' wC PC KC
  have gC := KC.keep.kept gb _ _ _ ((HBC.out.block _ hgA).trans gA.out) (by decide)
  have fC : wC.frozen? ⟨gb, q, none⟩ = false := Lib.frozen_of_heap gC q
  have SC : wC.cell? ⟨gb, q, none⟩ = some (.slice ca cur.length cc) := by rw [Lib.cell_of_heap gC]; exact HC0.out
  obtain ⟨oa', oc', rfl⟩ : ∃ a c, v' = .slice a (cur.length + 1) c := by have := own_slice PC.1; rwa [List.length_append] at this
  have HPC := Lib.hid PC
  have HKC := Lib.hid (KA.out.trans ((keepO_below HBC.out hBA _).trans KC))
  clear PC KC gC
  refine hKB _ _ (.inr SC) ?_
  (try simp only [Act.put, List.setIfInBounds_toArray, List.set_cons_zero, List.set_cons_succ])
  refine wpAnyB_free (fuel := 2) (i := 11) (v := ?_) rfl (by kernel_rfl) (by kernel_rfl) (by kernel_rfl) (by kernel_rfl) (fun _ _ _ h => h) (.inr SC) ?_ (by rfl) ?_
  rotate_left
  · intro w'; go_simp; (try with_reducible rfl)
  simp only [Act.put, List.setIfInBounds_toArray, List.set_cons_zero, List.set_cons_succ]
  refine wpAnyB_free (fuel := 1) (i := 12) (v := ?_) rfl (by kernel_rfl) (by kernel_rfl) (by kernel_rfl) (by kernel_rfl) (fun _ _ _ h => h) (.inr SC) ?_ (by rfl) ?_
  rotate_left
  · intro w'; go_simp; (try with_reducible rfl)
  simp only [Act.put, List.setIfInBounds_toArray, List.set_cons_zero, List.set_cons_succ]
  refine wpAnyB_one (fuel := 0) (i := 13) rfl (by kernel_rfl) ?_
  intro KB hKB
  go_simp
  refine hKB _ _ (.inl (by kernel_rfl)) ?_
  (try simp only [Act.put, List.setIfInBounds_toArray, List.set_cons_zero, List.set_cons_succ])
  refine wpAnyB_done (by kernel_rfl) ?_
  go_wp2_with fail
  go_end0
  exact ⟨rfl, wC, _, _, rfl, HKC.out, HPC.out⟩

set_option maxRecDepth 100000 in
set_option maxHeartbeats 4000000 in
theorem insert_next (B gb q : Nat) (cs : Array Value) (cv : Value) (fr : List PA) (x : OpD) (xv : Value) (t : ByteArray) (av : Value) (l : List (ByteArray × ByteArray)) (w : World) (hB : B ≤ gb) (hg : w.heap[gb]? = some (.cells cs 61 (0, 0))) (hc : cs[q]? = some cv)
    (hP : OwnP w B cv (fr ++ [(x, xv)])) (hv : AtRow w av l) (hpr : Proper av) (hla : l.length ≤ 4096) (hl0 : fr.length ≤ 4000) (ha : x.attrs ≠ l) :
    Calls Try.prog 36 #[.pointer (some ⟨gb, q, none⟩), .string t, av] w (InsOut w B gb q cv (fr ++ [(x, xv)]) t l) := by
  have hBw : B ≤ w.heap.size := Nat.le_trans hB (Nat.le_of_lt (lt_of_heap hg))
  obtain ⟨va, vc, rfl⟩ := hv.shape
  obtain ⟨gg, cap, hov⟩ := ownsRow_open hP.len (Nat.succ_pos _)
  subst hov
  obtain ⟨xa, xc, hxv⟩ : ∃ a c, xv = .slice a x.attrs.length c := own_slice (hP.2 (x, xv) (by simp))
  subst hxv
  have HC := Lib.hid (refSameB_any (.slice xa x.attrs.length xc) (.slice va l.length vc) x.attrs l w (row_of_own (hP.2 (x, .slice xa x.attrs.length xc) (by simp))) hv)
  rw [show sameB x.attrs l = false from decide_eq_false ha] at HC
  have k0 : w.cell? ⟨gb, q, none⟩ = some (.slice (some ⟨gg, 0, none⟩) (fr.length + 1) cap) := by rw [Lib.cell_of_heap hg]; exact hc
  obtain ⟨q0, q1, q2, q3⟩ := last_cells hP.len
  have i1 : (0 : Int) ≤ (fr.length : Int) := by omega
  have i2 : (fr.length : Int) < (fr.length : Int) + 1 := by omega
  have i3 : decide ((0 : Int) ≤ (fr.length : Int)) = true := decide_eq_true (by omega)
  have hgb : gb < w.heap.size := lt_of_heap hg
  have HC0' := Lib.hid hc
  have Hgw := Lib.hid hg
  have HVw := Lib.hid hv
  have HPR := Lib.hid hpr
  have HLA := Lib.hid hla
  have HPw := Lib.hid hP
  have HBw := Lib.hid hBw
  clear hP hv hpr hla hc hg hBw ha q0 q1 q2
  go_enter Try.func36, Try.ntmps36
  go_wp2_with fail
  refine HC.out.mono ?_
  rintro e wB ⟨rfl, hb⟩
  obtain ⟨cur, hcur⟩ : ∃ cur, cur = fr ++ [(x, Value.slice xa x.attrs.length xc)] := ⟨_, rfl⟩
  have hlen : fr.length + 1 = cur.length := by rw [hcur]; simp
  have hl : cur.length ≤ 100000 := by omega
  rw [← hcur]
  rw [← hcur] at HPw
  rw [hlen] at k0 HPw HC0'
  have HC0 := HC0'
  obtain ⟨ca, hca⟩ : ∃ ca, ca = some (⟨gg, 0, none⟩ : Addr) := ⟨_, rfl⟩
  obtain ⟨cc, hcc⟩ : ∃ cc, cc = cap := ⟨_, rfl⟩
  rw [hlen, ← hca, ← hcc]
  rw [← hca, ← hcc] at k0 HPw HC0
  have SwB : wB.drew.cell? ⟨gb, q, none⟩ = some (.slice ca cur.length cc) := (hb.cell (by exact hgb)).trans k0
  have kB : wB.cell? ⟨gb, q, none⟩ = some (.slice ca cur.length cc) := SwB
  have HPwB := Lib.hid (HPw.out.keep (keep_below (ts := []) hb (Nat.le_refl _)) (by simp) (by simp))
  have HgwB := Lib.hid ((hb.block _ hgb).trans Hgw.out)
  have HVwB := Lib.hid (HVw.out.below hb)
  have hBwB : B ≤ wB.heap.size := Nat.le_trans HBw.out hb.size
  have hwBg : gb < wB.heap.size := Nat.lt_of_lt_of_le hgb hb.size
  have HKwB := Lib.hid (keepO_below hb HBw.out (.slice ca cur.length cc))
  have HX := Lib.hid (And.intro hcur (And.intro hlen (And.intro hca hcc)))
  clear hb k0 q3 hcur hlen hca hcc
  go_wp2_with fail
  refine wp_region_B (fun w' => w'.cell? ⟨gb, q, none⟩ = some (.slice ca cur.length cc)) [13] (by kernel_rfl) (?_ : wpAnyB _ _ _ _ _ _ 14 (Array.replicate 14 false) _ _)
  refine wpAnyB_free (fuel := 13) (i := 0) (v := ?_) rfl (by kernel_rfl) (by kernel_rfl) (by kernel_rfl) (by kernel_rfl) (fun _ _ _ h => h) (.inr SwB) ?_ (by rfl) ?_
  rotate_left
  · intro w'; go_simp; (try with_reducible rfl)
  simp only [Act.put, List.setIfInBounds_toArray, List.set_cons_zero, List.set_cons_succ]
  refine wpAnyB_free (fuel := 12) (i := 1) (v := ?_) rfl (by kernel_rfl) (by kernel_rfl) (by kernel_rfl) (by kernel_rfl) (fun _ _ _ h => h) (.inr SwB) ?_ (by rfl) ?_
  rotate_left
  · intro w'; go_simp; (try with_reducible rfl)
  simp only [Act.put, List.setIfInBounds_toArray, List.set_cons_zero, List.set_cons_succ]
  refine wpAnyB_free (fuel := 11) (i := 2) (v := ?_) rfl (by kernel_rfl) (by kernel_rfl) (by kernel_rfl) (by kernel_rfl) (fun _ _ _ h => h) (.inr SwB) ?_ (by rfl) ?_
  rotate_left
  · intro w'; go_simp; (try with_reducible rfl)
  simp only [Act.put, List.setIfInBounds_toArray, List.set_cons_zero, List.set_cons_succ]
  refine wpAnyB_free (fuel := 10) (i := 3) (v := ?_) rfl (by kernel_rfl) (by kernel_rfl) (by kernel_rfl) (by kernel_rfl) (fun _ _ _ h => h) (.inr SwB) ?_ (by rfl) ?_
  rotate_left
  · intro w'; go_simp; (try with_reducible rfl)
  simp only [Act.put, List.setIfInBounds_toArray, List.set_cons_zero, List.set_cons_succ]
  refine wpAnyB_load [4,10,11,12,13] (fuel := 9) (i := 4) (v := ?_) rfl (by kernel_rfl) (by kernel_rfl) (by kernel_rfl) (by kernel_rfl) (by kernel_rfl) (fun _ _ _ h => h) (.inr SwB) ?_ (by rfl) ?_
  rotate_left
  · intro w' hw'; go_simp; (try with_reducible rfl)
  simp only [Act.put, List.setIfInBounds_toArray, List.set_cons_zero, List.set_cons_succ]
  refine wpAnyB_free (fuel := 8) (i := 5) (v := ?_) rfl (by kernel_rfl) (by kernel_rfl) (by kernel_rfl) (by kernel_rfl) (fun _ _ _ h => h) (.inr SwB) ?_ (by rfl) ?_
  rotate_left
  · intro w'; go_simp; (try with_reducible rfl)
  simp only [Act.put, List.setIfInBounds_toArray, List.set_cons_zero, List.set_cons_succ]
  refine wpAnyB_free (fuel := 7) (i := 6) (v := ?_) rfl (by kernel_rfl) (by kernel_rfl) (by kernel_rfl) (by kernel_rfl) (fun _ _ _ h => h) (.inr SwB) ?_ (by rfl) ?_
  rotate_left
  · intro w'; go_simp; (try with_reducible rfl)
  simp only [Act.put, List.setIfInBounds_toArray, List.set_cons_zero, List.set_cons_succ]
  refine wpAnyB_one (fuel := 6) (i := 7) rfl (by kernel_rfl) ?_
  intro KB hKB
  go_simp
  refine (copied_any (.slice va l.length vc) l _ (HVwB.out.below (Below.refl _ _).drew) HPR.out HLA.out).mono ?_
  rintro e wA ⟨u, rfl, oA, bA⟩
  obtain ⟨ua, uc, rfl⟩ := own_slice oA
  have BA : Below wB.heap.size wB wA := of_drew bA
  have OA := Lib.hid (own_base oA (show B ≤ wB.drew.heap.size from hBwB))
  have PA' := Lib.hid (HPwB.out.keep (keep_below (ts := []) BA (Nat.le_refl _)) (by simp) (by simp))
  have KA := Lib.hid (HKwB.out.trans (keepO_below BA hBwB (.slice ca cur.length cc)))
  have gA := Lib.hid ((BA.block _ hwBg).trans HgwB.out)
  have hBA : B ≤ wA.heap.size := Nat.le_trans hBwB BA.size
  have SA : wA.cell? ⟨gb, q, none⟩ = some (.slice ca cur.length cc) := (BA.cell (by exact hwBg)).trans SwB
  have hgA : gb < wA.heap.size := Nat.lt_of_lt_of_le hwBg BA.size
  clear oA bA BA
  refine hKB _ _ (.inr SA) ?_
  (try simp only [Act.put, List.setIfInBounds_toArray, List.set_cons_zero, List.set_cons_succ])
  refine wpAnyB_free (fuel := 5) (i := 8) (v := ?_) rfl (by kernel_rfl) (by kernel_rfl) (by kernel_rfl) (by kernel_rfl) (fun _ _ _ h => h) (.inr SA) ?_ (by rfl) ?_
  rotate_left
  · intro w'; go_simp; (try with_reducible rfl)
  simp only [Act.put, List.setIfInBounds_toArray, List.set_cons_zero, List.set_cons_succ]
  refine wpAnyB_one (fuel := 4) (i := 9) rfl (by kernel_rfl) ?_
  intro KB hKB
  go_simp
  have BC : Below wA.heap.size wA (wA.alloc (.cells #[.int .i64 2, .int .i64 0, .string t, .slice ua l.length uc] 40)) := below_box _ _
  have SB : (wA.alloc (.cells #[.int .i64 2, .int .i64 0, .string t, .slice ua l.length uc] 40)).cell? ⟨gb, q, none⟩ = some (.slice ca cur.length cc) := (BC.cell (by exact hgA)).trans SA
  have HBC := Lib.hid BC
  clear BC
  refine hKB _ _ (.inr SB) ?_
  (try simp only [Act.put, List.setIfInBounds_toArray, List.set_cons_zero, List.set_cons_succ])
  refine wpAnyB_one (fuel := 3) (i := 10) rfl (by kernel_rfl) ?_
  intro KB hKB
  refine step_app_op rfl (.tmp 48) (.tmp 53) rfl B (.slice ca cur.length cc) cur rfl (PA'.out.keep (keep_below (ts := []) HBC.out (Nat.le_refl _)) (by simp) (by simp)) (insO t l, .slice ua l.length uc) ⟨wA.heap.size, 0, none⟩ 1 rfl (new_at4 _ _ _ _ _ _) ((keep_below (B := B) (ts := []) HBC.out hBA).own OA.out (by simp)) (by omega) (Nat.le_trans hBA HBC.out.size) ?_
  intro v' wC PC KC
  have gC := KC.keep.kept gb _ _ _ ((HBC.out.block _ hgA).trans gA.out) (by decide)
  have fC : wC.frozen? ⟨gb, q, none⟩ = false := Lib.frozen_of_heap gC q
  have SC : wC.cell? ⟨gb, q, none⟩ = some (.slice ca cur.length cc) := by rw [Lib.cell_of_heap gC]; exact HC0.out
  obtain ⟨oa', oc', rfl⟩ : ∃ a c, v' = .slice a (cur.length + 1) c := by have := own_slice PC.1; rwa [List.length_append] at this
  have HPC := Lib.hid PC
  have HKC := Lib.hid (KA.out.trans ((keepO_below HBC.out hBA _).trans KC))
  clear PC KC gC
  refine hKB _ _ (.inr SC) ?_
  (try simp only [Act.put, List.setIfInBounds_toArray, List.set_cons_zero, List.set_cons_succ])
  refine wpAnyB_free (fuel := 2) (i := 11) (v := ?_) rfl (by kernel_rfl) (by kernel_rfl) (by kernel_rfl) (by kernel_rfl) (fun _ _ _ h => h) (.inr SC) ?_ (by rfl) ?_
  rotate_left
  · intro w'; go_simp; (try with_reducible rfl)
  simp only [Act.put, List.setIfInBounds_toArray, List.set_cons_zero, List.set_cons_succ]
  refine wpAnyB_free (fuel := 1) (i := 12) (v := ?_) rfl (by kernel_rfl) (by kernel_rfl) (by kernel_rfl) (by kernel_rfl) (fun _ _ _ h => h) (.inr SC) ?_ (by rfl) ?_
  rotate_left
  · intro w'; go_simp; (try with_reducible rfl)
  simp only [Act.put, List.setIfInBounds_toArray, List.set_cons_zero, List.set_cons_succ]
  refine wpAnyB_one (fuel := 0) (i := 13) rfl (by kernel_rfl) ?_
  intro KB hKB
  go_simp
  refine hKB _ _ (.inl (by kernel_rfl)) ?_
  (try simp only [Act.put, List.setIfInBounds_toArray, List.set_cons_zero, List.set_cons_succ])
  refine wpAnyB_done (by kernel_rfl) ?_
  go_wp2_with fail
  go_end0
  obtain ⟨e1, e2, e3, e4⟩ := HX.out
  have kk := HKC.out
  have pk := HPC.out
  rw [e3, e4] at kk
  refine ⟨rfl, wC, .slice oa' (cur.length + 1) oc', .slice ua l.length uc, rfl, ?_, ?_⟩
  · rw [e2]; exact kk
  · rw [← e1]; exact pk
end Go.Proofs.Ytacgkbdldbppjaa

/- What a call keeps that writes over rows that it was given: a span of blocks; the blocks' shapes. -/
namespace Go.Proofs.Ytacgkbdldbppjaa
open Go.RowKit Ch At

/-- Below lo, and from hi on, all that was there stays. -/
structure Span (lo hi : Nat) (w w' : World) : Prop where
  below : Below lo w w'
  block : ∀ i, i < w.heap.size → hi ≤ i → w'.heap[i]? = w.heap[i]?
theorem Span.refl (lo hi : Nat) (w : World) : Span lo hi w w := ⟨Below.refl _ _, fun _ _ _ => rfl⟩
theorem Span.trans {lo hi : Nat} {a b c : World} (h : Span lo hi a b) (k : Span lo hi b c) : Span lo hi a c :=
  ⟨h.below.trans k.below, fun i hi' hh => (k.block i (Nat.lt_of_lt_of_le hi' h.below.size) hh).trans (h.block i hi' hh)⟩
theorem span_below {lo hi : Nat} {w w' : World} (h : Below w.heap.size w w') (hl : lo ≤ w.heap.size) : Span lo hi w w' := ⟨h.mono hl, fun i hi' _ => h.block i hi'⟩
theorem span_set {lo hi : Nat} {w : World} {p : Addr} (h1 : lo ≤ p.block) (h2 : p.block < hi) (u : Value) : Span lo hi w (w.setCell p u) :=
  ⟨(Below.refl _ _).setCell h1 u, fun i _ hh => Below.heap_setCell w p u i (by omega)⟩
theorem span_grown {lo hi : Nat} {w w' : World} {row : Option Nat} (hg : w.grownBy w' row) (hl : lo ≤ w.heap.size) (hr : ∀ k, row = some k → lo ≤ k ∧ k < hi) : Span lo hi w w' :=
  ⟨(Below.refl _ _).grown hg hl fun k hk => (hr k hk).1, fun i hi' hh => hg.block i hi' (fun e => by have := (hr i e.symm).2; omega)⟩
theorem Span.drew {lo hi : Nat} {a w : World} (h : Span lo hi a w) : Span lo hi a w.drew := ⟨h.below.drew, h.block⟩
theorem Span.own {lo hi B k n : Nat} {w w' : World} {e : TypeId} {v : Value} {xs : List Value} (hs : Span lo hi w w') (h : w.ownsRow B e k v n xs) (hb : hi ≤ B) : w'.ownsRow B e k v n xs :=
  ⟨h.1, h.2.imp id fun ⟨g, cap, cur, a, b, c, d⟩ => ⟨g, cap, cur, a, b, (hs.block g (lt_of_heap c) (Nat.le_trans hb b)).trans c, d⟩⟩
theorem OwnP.span {lo hi B : Nat} {w w' : World} {v : Value} {ps : List PA} (h : OwnP w B v ps) (hs : Span lo hi w w') (hb : hi ≤ B) : OwnP w' B v ps :=
  ⟨hs.own h.1 hb, fun p hp => hs.own (h.2 p hp) hb⟩
theorem OwnOps.span {lo hi B : Nat} {w w' : World} {v : Value} {l : List OpD} (h : OwnOps w B v l) (hs : Span lo hi w w') (hb : hi ≤ B) : OwnOps w' B v l := by
  obtain ⟨ps, e, h⟩ := h
  exact ⟨ps, e, h.span hs hb⟩

/-- Each block of cells stays one, of so many cells. -/
def Shape (w w' : World) : Prop := ∀ (i : Nat) (cs : Array Value) (e : TypeId) (fr : Nat × Nat), w.heap[i]? = some (.cells cs e fr) → ∃ cs' : Array Value, w'.heap[i]? = some (.cells cs' e fr) ∧ cs'.size = cs.size
theorem Shape.refl (w : World) : Shape w w := fun _ cs _ _ h => ⟨cs, h, rfl⟩
theorem Shape.trans {a b c : World} (h : Shape a b) (k : Shape b c) : Shape a c := fun i cs e fr hi => by
  obtain ⟨cs1, h1, s1⟩ := h i cs e fr hi
  obtain ⟨cs2, h2, s2⟩ := k i cs1 e fr h1
  exact ⟨cs2, h2, s2.trans s1⟩
theorem shape_below {w w' : World} (h : Below w.heap.size w w') : Shape w w' := fun i cs _ _ hi => ⟨cs, (h.block i (lt_of_heap hi)).trans hi, rfl⟩
theorem shape_set (w : World) (p : Addr) (u : Value) : Shape w (w.setCell p u) := fun i cs e fr hi => by
  by_cases h : i = p.block
  · subst h
    by_cases hsp : p.spot.isSome = true
    · exact ⟨cs, by simp [World.setCell, Array.getElem?_modify, hi, hsp], rfl⟩
    · exact ⟨cs.setIfInBounds p.off u, by simp [World.setCell, Array.getElem?_modify, hi, hsp], by simp⟩
  · exact ⟨cs, (Below.heap_setCell w p u i h).trans hi, rfl⟩
theorem shape_sets (b : Nat) (news : List Value) : ∀ (off : Nat) (w : World), Shape w (w.setCells b off news) := by
  induction news with
  | nil => intro off w; exact Shape.refl w
  | cons x r ih =>
    intro off w
    exact (shape_set w _ x).trans (ih _ _)
theorem shape_grown {w w' : World} (h : w.grownBy w' none) : Shape w w' := fun i cs _ _ hi => ⟨cs, (h.block i (lt_of_heap hi) (by simp)).trans hi, rfl⟩
theorem Shape.own {w w' : World} (hs : Shape w w') {B k n : Nat} {e : TypeId} {v : Value} {xs : List Value} (h : w.ownsRow B e k v n xs) : ∃ ys, w'.ownsRow B e k v n ys := by
  rcases h.2 with ⟨hv, h0⟩ | ⟨g, cap, cur, hv, hb, hg, h1, h2, h3, h4⟩
  · exact ⟨xs, h.1, .inl ⟨hv, h0⟩⟩
  · obtain ⟨cs', h', hs'⟩ := hs g cur e (0, 0) hg
    have hsz : cs'.size = cap * k := hs'.trans h3
    refine ⟨cs'.toList.take (n * k), ?_, .inr ⟨g, cap, cs', hv, hb, h', h1, h2, hsz, rfl⟩⟩
    rw [List.length_take, Array.length_toList, hsz]
    exact Nat.min_eq_left (Nat.mul_le_mul_right _ h1)

theorem run_append_shape {P : Program} (w : World) (base : Nat) (t ty e : TypeId) (i : TypeInfo) (z : Value) (size bytes : Nat) (ht : P.underlying t = some (.slice e)) (hi : P.info? e = some i) (hz : i.zero = some z)
    (hsize : i.size = size) (hby : i.bytes = bytes) (hzs : z.cells.size = size) (hsz : 0 < size)
    (v : Value) (n : Nat) (xs : List Value) (hown : w.ownsRow base e size v n xs)
    (a : Addr) (m c : Nat) (news : List Value) (hl : news.length = m * size) (hnews : ∀ j u, news[j]? = some u → w.cell? (a.add j) = some u) (h1 : ∀ u ∈ news, u.oneCell' = true)
    (h63 : n + m ≤ maxLen) (hbytes : (n + m) * bytes ≤ 140737488355328) (hbase : base ≤ w.heap.size) :
    ∃ v' w', (Builtin.append_ #[t, t] ty #[v, .slice (some a) m c]).run P w = .ok v' w' ∧ w'.ownsRow base e size v' (n + m) (xs ++ news) ∧ w.grownBy w' v.ownBlock ∧ Shape w w' := by
  obtain ⟨v', w', hrun, h2, h3, _⟩ := run_append_own (P := P) w base t ty e i z size bytes ht hi hz hsize hby hzs hsz v n xs hown a m c news hl hnews h1 h63 hbytes hbase
  refine ⟨v', w', hrun, h2, h3, ?_⟩
  rcases hown.2 with ⟨rfl, rfl⟩ | ⟨g, cap, cur, rfl, hb, hg, hn, hm, hc, ht2⟩
  · exact shape_grown h3
  · by_cases hroom : n + m ≤ cap
    · have hrr := run_append_room_cells (P := P) w t ty e i ht hi g 0 n cap a m c news (by rw [hsize]; exact hl) hnews h1 hroom
        (fun k hk => by
          have hk2 : n * i.size + k < cur.size := by
            rw [hc, hsize]
            have : n * size + m * size ≤ cap * size := by rw [← Nat.add_mul]; exact Nat.mul_le_mul_right _ hroom
            omega
          simp [World.cell?, hg, Array.getElem?_eq_getElem hk2])
        (fun k hk => by simp [World.frozen?, hg])
      rw [hrun] at hrr
      simp only [Result.ok.injEq] at hrr
      obtain ⟨_, rfl⟩ := hrr
      exact shape_sets _ _ _ _
    · obtain ⟨v2, w2, hrun2, k2, k3⟩ := run_append_arg_grows (P := P) w t ty e i z size bytes ht hi hz hsize hby hzs hsz ⟨g, 0, none⟩ n cap xs hown.1 (hown.cells (g := g) rfl) a m c news hl hnews (by omega) h63 hbytes
      rw [hrun] at hrun2
      simp only [Result.ok.injEq] at hrun2
      obtain ⟨rfl, rfl⟩ := hrun2
      exact shape_grown k3
theorem wpList_append_shape {P : Program} {ops : Array Oper} {rest : List Oper} {o : Oper} {a : Act} {w : World} {Q : Exit → Act → World → Prop}
    (hgd : o.guard = none) (s x : Operand) (t : TypeId) (hop : o.op = Op.call { callee := Callee.builtin Builtin.append, args := #[s, x], argTypes := #[t, t] })
    (e : TypeId) (i : TypeInfo) (z : Value) (size bytes : Nat) (h1 : P.underlying t = some (.slice e)) (h2 : P.info? e = some i) (h3 : i.zero = some z) (h4 : i.size = size) (h5 : i.bytes = bytes) (h6 : z.cells.size = size) (h7 : 0 < size)
    (base : Nat) (v : Value) (n : Nat) (xs : List Value) (hs : a.eval s = v) (hown : w.ownsRow base e size v n xs)
    (ad : Addr) (m c : Nat) (news : List Value) (hx : a.eval x = .slice (some ad) m c) (hn : news.length = m * size) (hc : ∀ j u, news[j]? = some u → w.cell? (ad.add j) = some u) (h1c : ∀ u ∈ news, u.oneCell' = true)
    (b1 : n + m ≤ maxLen) (b2 : (n + m) * bytes ≤ 140737488355328) (hbase : base ≤ w.heap.size)
    (h : ∀ v' w', w'.ownsRow base e size v' (n + m) (xs ++ news) → w.grownBy w' v.ownBlock → Shape w w' → wpList P ops Q rest (a.put o.dst v') w') : wpList P ops Q (o :: rest) a w := by
  refine wpList_plain hgd fun K hK => ?_
  obtain ⟨v', w', hr, r1, r2, r3⟩ := run_append_shape (P := P) w base t o.type e i z size bytes h1 h2 h3 h4 h5 h6 h7 v n xs hown ad m c news hn hc h1c b1 b2 hbase
  unfold Oper.wp execOp
  simp only [hop, resolve, invoke, builtin, Sem.run_bind, Sem.run_pure, Result.andThen_ok, List.map_toArray, List.map_cons, List.map_nil, hs, hx, hr]
  exact hK _ _ (h v' w' r1 r2 r3)

def SpoilOut2 (W : World) (v : Value) (n : Nat) (e : Ending) (w' : World) : Prop := e = .returned (.int .i64 ((n + 1 : Nat) : Int)) ∧ W.grownBy w' v.ownBlock ∧ Shape W w'
set_option maxHeartbeats 4000000 in
theorem spoil2_any (v : Value) (B n : Nat) (xs : List Value) (w : World) (h : w.ownsRow B 67 2 v n xs) (hn : n ≤ 1048576) (hB : B ≤ w.heap.size) :
    Calls Try.prog 38 #[v] w (SpoilOut2 w v n) := by
  have H := Lib.hid h
  obtain ⟨ao, cap, rfl⟩ := own_slice h
  have hn' : n ≤ 9223372036854775807 := by omega
  have h63 : n + 1 ≤ 1048577 := by omega
  have H63 := Lib.hid h63
  obtain ⟨i0, hi, hz0, hz1, hz2⟩ := info_parts infoAttr
  have Hi := Lib.hid (And.intro hi (And.intro hz0 (And.intro hz1 hz2)))
  clear h h63 hi hz0 hz1 hz2
  go_enter Try.func38, Try.ntmps38
  go_wp2_with fail
  go_loopw [3] (fun i wr => ∃ (k : Nat) (ys : List Value), i = .int .i64 (k : Int) ∧ k ≤ n ∧ wr.ownsRow B 67 2 (.slice ao n cap) n ys ∧ w.grownBy wr (Value.slice ao n cap).ownBlock ∧ Shape w wr) (fun i _ => n - (intOf i).toNat)
  case atStart => exact ⟨0, xs, rfl, Nat.zero_le _, H.out, grown_refl _ _, Shape.refl _⟩
  case round =>
    obtain ⟨k, ys, rfl, hk, hown, hg, hsh⟩ := hrel
    by_cases hlt : k < n
    · have hlt' : (k : Int) < (n : Int) := by omega
      obtain ⟨g, cap', he⟩ := ownsRow_open hown (by omega)
      simp only [Value.slice.injEq, true_and] at he
      obtain ⟨rfl, rfl⟩ := he
      obtain ⟨u1, c1⟩ := own_cell hown (j := k * 2) (by omega)
      obtain ⟨u2, c2⟩ := own_cell hown (j := k * 2 + 1) (by omega)
      have f1 : wr.frozen? ⟨g, k * 2, none⟩ = false := hown.frozenAt _
      have f2 : wr.frozen? ⟨g, k * 2 + 1, none⟩ = false := hown.frozenAt _
      obtain ⟨zs, hz⟩ := own_stored2 (j := k) hown (.string ⟨#[115, 112, 111, 105, 108, 116]⟩) (.string ⟨#[]⟩)
      have Hz := Lib.hid hz
      have Hg := Lib.hid (And.intro (only_setCell (only_setCell hg (p := ⟨g, k * 2, none⟩) rfl (.string ⟨#[115, 112, 111, 105, 108, 116]⟩)) (p := ⟨g, k * 2 + 1, none⟩) rfl (.string ⟨#[]⟩)) ((hsh.trans (shape_set _ ⟨g, k * 2, none⟩ (.string ⟨#[115, 112, 111, 105, 108, 116]⟩))).trans (shape_set _ ⟨g, k * 2 + 1, none⟩ (.string ⟨#[]⟩))))
      clear hown hg hz hsh
      go_wp2_with fail
      go_roundw
      case rel => exact ⟨k + 1, zs, by go_num, by omega, Hz.out, Hg.out.1, Hg.out.2⟩
      case measure => simp [intOf]; omega
    · have hkn : k = n := by omega
      subst hkn
      have Hown := Lib.hid hown
      have Hg := Lib.hid hg
      have Hs := Lib.hid hsh
      have hBw : B ≤ wr.heap.size := Nat.le_trans hB hg.size
      clear hown hg hk hlt hsh
      go_wp2_with (at_builtin; refine wpList_append_shape rfl (.tmp 14) (.tmp 16) 38 rfl 67 i0 (.agg #[.string ⟨#[]⟩, .string ⟨#[]⟩]) 2 32 Try.underlying38 Hi.out.1 Hi.out.2.1 Hi.out.2.2.1 Hi.out.2.2.2 rfl (by decide) B (.slice ao k cap) k ys rfl (Hown.out.alloc _) ⟨wr.heap.size, 0, none⟩ 1 1 [.string ⟨#[109, 111, 114, 101]⟩, .string ⟨#[]⟩] rfl rfl (new_at2 _ _ _ _) (fun u hu => by simp at hu; rcases hu with rfl | rfl <;> rfl) (by unfold maxLen; omega) (by omega) (by simp; omega) ?_; intro u2 w2 o2 g2 s2; obtain ⟨a2, c2, rfl⟩ := own_slice o2; have G2 := Lib.hid (And.intro (grown_trans (grown_trans Hg.out (World.grownBy_alloc _ _ _)) g2) ((Hs.out.trans (shape_below (below_box _ _))).trans s2)); clear o2 g2 s2)
      go_ret
      exact ⟨by simp, G2.out.1, G2.out.2⟩
end Go.Proofs.Ytacgkbdldbppjaa

/- The law's Lent: a changeset in memory of its own, with marks behind its operations and their attributes. -/
namespace Go.Proofs.Ytacgkbdldbppjaa
open Go.RowKit Ch At

def markO : OpD := ⟨99, 0, ⟨#[]⟩, []⟩
def LAtt (w : World) (B : Nat) (q : PA) : Prop :=
  ∃ g, q.2 = .slice (some ⟨g, 0, none⟩) q.1.attrs.length (q.1.attrs.length + 1) ∧ w.ownsRow B 67 2 (.slice (some ⟨g, 0, none⟩) (q.1.attrs.length + 1) (q.1.attrs.length + 1)) (q.1.attrs.length + 1) (flat (q.1.attrs ++ [mark]))
def LPw (ps : List PA) : Prop := ps.Pairwise fun x y => x.2.ownBlock ≠ y.2.ownBlock
structure LRow (w : World) (B gg gc : Nat) (ps : List PA) : Prop where
  row : w.ownsRow B 40 4 (.slice (some ⟨gg, 0, none⟩) (ps.length + 1) gc) (ps.length + 1) (flatO (ps ++ [(markO, .slice none 0 0)]))
  att : ∀ q ∈ ps, LAtt w B q
  pw : LPw ps
theorem LAtt.keep {w w' : World} {B C : Nat} {ts : List TypeId} {q : PA} (h : LAtt w B q) (hk : Keep C ts w w') (h1 : 67 ∉ ts) : LAtt w' B q := by
  obtain ⟨g, e, h⟩ := h
  exact ⟨g, e, hk.own h h1⟩
theorem LAtt.lt {w : World} {B : Nat} {q : PA} (h : LAtt w B q) : ∀ j, q.2.ownBlock = some j → B ≤ j ∧ j < w.heap.size := by
  obtain ⟨g, e, h⟩ := h
  intro j hj
  rw [e] at hj
  exact h.lt j hj
theorem LRow.keep {w w' : World} {B C gg gc : Nat} {ts : List TypeId} {ps : List PA} (h : LRow w B gg gc ps) (hk : Keep C ts w w') (h1 : 40 ∉ ts) (h2 : 67 ∉ ts) : LRow w' B gg gc ps :=
  ⟨hk.own h.row h1, fun q hq => (h.att q hq).keep hk h2, h.pw⟩
theorem LRow.below {w w' : World} {B gg gc : Nat} {ps : List PA} (h : LRow w B gg gc ps) (hb : Below w.heap.size w w') : LRow w' B gg gc ps := h.keep (keep_below (ts := []) hb (Nat.le_refl _)) (by simp) (by simp)
theorem LRow.cap {w : World} {B gg gc : Nat} {ps : List PA} (h : LRow w B gg gc ps) : ps.length + 1 ≤ gc ∧ gc ≤ maxLen := by
  rcases h.row.2 with ⟨h', _⟩ | ⟨g', cap', cur', h', _, _, hn2, hm, _⟩
  · simp at h'
  · simp only [Value.slice.injEq] at h'
    omega
/-- What is lent is a row of operations. -/
theorem LRow.ops {w : World} {B gg gc : Nat} {ps : List PA} (h : LRow w B gg gc ps) : OpRow w (.slice (some ⟨gg, 0, none⟩) ps.length gc) (ps.map (·.1)) := by
  have hl : (ps.map (·.1)).length = ps.length := by simp
  obtain ⟨_, cs, hcs⟩ := own_heap h.row
  have hc := h.cap
  refine ⟨_, gc, by rw [hl], by omega, hc.2, fun i hi => ?_⟩
  have hi' : i < ps.length := by omega
  obtain ⟨g, e, hr⟩ := h.att _ (List.getElem_mem hi')
  refine ⟨gg, 0, rfl, lt_of_heap hcs, ps[i].2, ?_, ?_, ?_⟩
  · rw [List.getElem_map, e]
    exact row_lent hr
  · intro n' c' he
    rw [e] at he
    simp at he
  · have e4 : ∀ j, j < 4 → w.cell? ⟨gg, 0 + i * 4 + j, none⟩ = (opCells ps[i])[j]? := fun j hj => by
      rw [Nat.zero_add, h.row.cellAt _ (by omega), flatO_at (ps := ps ++ [(markO, Value.slice none 0 0)]) (i := i) (by simp; omega) j hj, List.getElem_append_left hi']
    rw [List.getElem_map]
    exact ⟨e4 0 (by omega), e4 1 (by omega), e4 2 (by omega), e4 3 (by omega)⟩

/-- Operations few and short enough to be lent. -/
def LentOutC (w : World) (f : Int) (ops : List OpD) (e : Ending) (w' : World) : Prop :=
  ∃ gg gc ps, e = .returned (chAgg f (.slice (some ⟨gg, 0, none⟩) ops.length gc)) ∧ ps.map (·.1) = ops ∧ LRow w' w.heap.size gg gc ps ∧ Below w.heap.size w w'
/-- On the way. -/
structure LWay (w : World) (B ob : Nat) (f : Int) (cv : Value) (n : Nat) (oa : Option Addr) (oc : Nat) (ps : List PA) : Prop where
  out : w.heap[ob]? = some (.cells #[.int .i64 f, .slice oa ps.length oc] 24 (0, 0))
  c : w.heap[B]? = some (.cells #[.int .i64 f, cv] 24 (0, 0))
  res : w.heap[B + 1]? = some (.cells #[.int .i64 0, .slice none 0 0] 24 (0, 0))
  row : w.ownsRow B 40 4 (.slice oa ps.length oc) ps.length (flatO ps)
  att : ∀ q ∈ ps, LAtt w B q
  pw : LPw ps
theorem LWay.keep {w w' : World} {B C ob n : Nat} {f : Int} {cv : Value} {oa : Option Addr} {oc : Nat} {ps : List PA} {ts : List TypeId} (h : LWay w B ob f cv n oa oc ps) (hk : Keep C ts w w') (h1 : 40 ∉ ts) (h2 : 67 ∉ ts) (h3 : 24 ∉ ts) : LWay w' B ob f cv n oa oc ps :=
  ⟨hk.kept _ _ _ _ h.out h3, hk.kept _ _ _ _ h.c h3, hk.kept _ _ _ _ h.res h3, hk.own h.row h1, fun q hq => (h.att q hq).keep hk h2, h.pw⟩
theorem LWay.below {w w' : World} {B ob n : Nat} {f : Int} {cv : Value} {oa : Option Addr} {oc : Nat} {ps : List PA} (h : LWay w B ob f cv n oa oc ps) (hb : Below w.heap.size w w') : LWay w' B ob f cv n oa oc ps := h.keep (keep_below (ts := []) hb (Nat.le_refl _)) (by simp) (by simp) (by simp)
theorem lpw_snoc {ps : List PA} {q : PA} : LPw (ps ++ [q]) ↔ LPw ps ∧ ∀ x ∈ ps, x.2.ownBlock ≠ q.2.ownBlock := by
  unfold LPw
  rw [List.pairwise_append]
  simp

theorem own_set_other {w : World} {B k n : Nat} {e : TypeId} {v : Value} {xs : List Value} (h : w.ownsRow B e k v n xs) (p : Addr) (hne : v.ownBlock ≠ some p.block) (u : Value) : (w.setCell p u).ownsRow B e k v n xs :=
  ⟨h.1, h.2.imp id fun ⟨g, cap, cur, a, b, c, d⟩ => ⟨g, cap, cur, a, b, (Below.heap_setCell w p u g (fun e => hne (by rw [a, ← e]; rfl))).trans c, d⟩⟩
theorem lway_put {w w5 : World} {B ob n : Nat} {f : Int} {cv : Value} {oa oa' : Option Addr} {oc oc' : Nat} {ps : List PA} {o : OpD} {av : Value} (h : LWay w B ob f cv n oa oc ps) (hK : KeepO B w w5 (.slice oa ps.length oc) (.slice oa' (ps.length + 1) oc'))
    (h5 : w5.ownsRow B 40 4 (.slice oa' (ps.length + 1) oc') (ps.length + 1) (flatO ps ++ [.int .i64 o.kind, .int .i64 o.n, .string o.text, av])) (hq : LAtt w5 B (o, av)) (hne : ∀ x ∈ ps, x.2.ownBlock ≠ av.ownBlock) (hob : B + 2 ≤ ob) :
    LWay (w5.setCell ⟨ob, 1, none⟩ (.slice oa' (ps.length + 1) oc')) B ob f cv n oa' oc' (ps ++ [(o, av)]) ∧ Keep B [24] w5 (w5.setCell ⟨ob, 1, none⟩ (.slice oa' (ps.length + 1) oc')) := by
  have b1 := hK.keep.kept _ _ _ _ h.out (by decide)
  have c1 := hK.keep.kept _ _ _ _ h.c (by decide)
  have r1 := hK.keep.kept _ _ _ _ h.res (by decide)
  have kk : Keep B [24] w5 (w5.setCell ⟨ob, 1, none⟩ (.slice oa' (ps.length + 1) oc')) := keep_set b1 (by simp) (by omega) _ rfl _
  refine ⟨⟨?_, ?_, ?_, ?_, fun x hx => ?_, lpw_snoc.2 ⟨h.pw, hne⟩⟩, kk⟩
  · rw [List.length_append, List.length_singleton]; exact nblk_set b1
  · rw [Below.heap_setCell _ _ _ _ (show B ≠ ob by omega)]; exact c1
  · rw [Below.heap_setCell _ _ _ _ (show B + 1 ≠ ob by omega)]; exact r1
  · rw [List.length_append, List.length_singleton, flatO_snoc]; exact kk.own h5 (by decide)
  · rcases List.mem_append.1 hx with hx | hx
    · exact ((h.att x hx).keep hK.keep (by decide)).keep kk (by decide)
    · rw [List.mem_singleton.1 hx]; exact hq.keep kk (by decide)

set_option maxRecDepth 100000 in
set_option maxHeartbeats 8000000 in
theorem lentC_any (f : Int) (v : Value) (ops : List OpD) (w : World) (hv : OpRow w v ops) (hz : SmallO ops) :
    Calls Try.prog 6 #[chAgg f v] w (LentOutC w f ops) := by
  obtain ⟨aa, acap, rfl, v1, v2, v3⟩ := hv
  have V3 := Lib.hid v3
  have Hz := Lib.hid hz
  have hn : ops.length ≤ 1048576 := hz.1
  obtain ⟨W, hW⟩ : ∃ W, W = (w.alloc (.cells #[.int .i64 f, .slice aa ops.length acap] 24)).alloc (.cells #[.int .i64 0, .slice none 0 0] 24) := ⟨_, rfl⟩
  have BW := Lib.hid (show Below w.heap.size w W by rw [hW]; exact ((Below.refl _ _).alloc (Nat.le_refl _) _).alloc (by simp) _)
  have r0 : W.heap[w.heap.size + 1]? = some (.cells #[.int .i64 0, .slice none 0 0] 24 (0, 0)) := by
    rw [hW]
    have := heap_new (w.alloc (.cells #[.int .i64 f, .slice aa ops.length acap] 24)) (.cells #[.int .i64 0, .slice none 0 0] 24)
    simpa using this
  have b0 : W.heap[w.heap.size]? = some (.cells #[.int .i64 f, .slice aa ops.length acap] 24 (0, 0)) := by
    rw [hW, Below.heap_alloc _ _ _ (by simp)]
    exact heap_new _ _
  have c0 : W.cell? ⟨w.heap.size, 0, none⟩ = some (.int .i64 f) := (Lib.cell_of_heap b0 0).trans rfl
  have c1 : W.cell? ⟨w.heap.size, 1, none⟩ = some (.slice aa ops.length acap) := (Lib.cell_of_heap b0 1).trans rfl
  have HW := Lib.hid hW
  have HR0 := Lib.hid r0
  have HB0 := Lib.hid b0
  have hWs : w.heap.size + 2 = W.heap.size := by rw [hW]; simp
  obtain ⟨i0, hi, hz0, hz1, hz2⟩ := info_parts infoOp
  have Hi := Lib.hid (And.intro hi (And.intro hz0 (And.intro hz1 hz2)))
  obtain ⟨M, hM, hmk⟩ : ∃ M : Array Value, M.size = (ops.length + 1) * 4 ∧ ∀ X : World, (Instr.makeSlice 22 (.int .i64 0) (.int .i64 ((ops.length : Int) + 1))).run Try.prog X = .ok (.slice (some ⟨X.heap.size, 0, none⟩) 0 (ops.length + 1)) (X.alloc (.cells M 40)) := by
    refine ⟨madeCells (Value.agg #[.int .i64 0, .int .i64 0, .string ⟨#[]⟩, .slice none 0 0]).cells ((ops.length + 1) * 4), size_madeCells _ _, fun X => ?_⟩
    have := run_make (P := Try.prog) X 22 40 i0 (.agg #[.int .i64 0, .int .i64 0, .string ⟨#[]⟩, .slice none 0 0]) Try.underlying22 hi hz0 .i64 .i64 0 ((ops.length : Int) + 1) (Int.le_refl _) (by omega) (by rw [hz2]; omega) (by omega)
    rw [this, hz1]
    have e : ((ops.length : Int) + 1).toNat = ops.length + 1 := by omega
    rw [e]; rfl
  have HM := Lib.hid hM
  have MK : ∀ (X : World), w.heap.size ≤ X.heap.size → (X.alloc (.cells M 40)).ownsRow w.heap.size 40 4 (.slice (some ⟨X.heap.size, 0, none⟩) 0 (ops.length + 1)) 0 [] := fun X hX => World.ownsRow_made X M (ops.length + 1) hX (by unfold maxLen; omega) HM.out
  have HMK := Lib.hid MK
  have nn0 := World.new_ne W ⟨w.heap.size, 0, none⟩ c0
  have nn1 := World.new_ne W ⟨w.heap.size, 1, none⟩ c1
  have hW0 : w.heap.size < W.heap.size := by omega
  clear hz hW v1 v2 v3 r0 b0 hi hz0 hz1 hz2 hM MK
  go_enter Try.func6, Try.ntmps6
  go_wp2_with fail
  rw [← HW.out]
  go_wp2_with fail
  go_region
  · have BZ : Below W.heap.size W ((W.alloc (.cells M 40)).alloc (.cells #[.int .i64 f, .slice (some ⟨W.heap.size, 0, none⟩) 0 (ops.length + 1)] 24)).drew := (((Below.refl _ _).alloc (Nat.le_refl _) _).alloc (by simp) _).drew
    have hz0 : LWay ((W.alloc (.cells M 40)).alloc (.cells #[.int .i64 f, .slice (some ⟨W.heap.size, 0, none⟩) 0 (ops.length + 1)] 24)).drew w.heap.size (W.heap.size + 1) f (.slice aa ops.length acap) 0 (some ⟨W.heap.size, 0, none⟩) (ops.length + 1) [] := by
      refine ⟨?_, (BZ.block _ (by omega)).trans HB0.out, (BZ.block _ (by omega)).trans HR0.out, ?_, (fun q hq => by cases hq), List.Pairwise.nil⟩
      · have := heap_new (W.alloc (.cells M 40)) (.cells #[.int .i64 f, .slice (some ⟨W.heap.size, 0, none⟩) 0 (ops.length + 1)] 24); show ((W.alloc (.cells M 40)).alloc (.cells #[.int .i64 f, .slice (some ⟨W.heap.size, 0, none⟩) 0 (ops.length + 1)] 24)).heap[W.heap.size + 1]? = _; simpa using this
      · exact ((HMK.out W (by omega)).alloc _)
    have hob1 : w.heap.size + 2 ≤ W.heap.size + 1 := by omega
    have HBZ := Lib.hid (BW.out.trans (BZ.mono BW.out.size))
    obtain ⟨Z, hZ⟩ : ∃ Z, Z = ((W.alloc (.cells M 40)).alloc (.cells #[.int .i64 f, .slice (some ⟨W.heap.size, 0, none⟩) 0 (ops.length + 1)] 24)).drew := ⟨_, rfl⟩
    obtain ⟨ob, hob⟩ : ∃ ob, ob = W.heap.size + 1 := ⟨_, rfl⟩
    obtain ⟨oa0, hoa⟩ : ∃ oa0, oa0 = some (⟨W.heap.size, 0, none⟩ : Addr) := ⟨_, rfl⟩
    go_wp2_with fail
    rw [← hZ] at hz0 HBZ ⊢
    rw [← hoa] at hz0
    rw [← hob] at hz0 hob1 ⊢
    have HZ0 := Lib.hid hz0
    clear BZ hz0 hZ hob hoa c0 c1 nn0 nn1 hmk
    go_loopw [4] (fun i wr => ∃ (ps : List PA) (oa : Option Addr) (oc : Nat), i = .int .i64 (ps.length : Int) ∧ ps.length ≤ ops.length ∧ ps.map (·.1) = ops.take ps.length ∧ LWay wr w.heap.size ob f (.slice aa ops.length acap) 0 oa oc ps ∧ Below w.heap.size w wr) (fun i _ => ops.length - (intOf i).toNat)
    case atStart => exact ⟨[], oa0, ops.length + 1, rfl, Nat.zero_le _, rfl, HZ0.out, HBZ.out⟩
    case round =>
      obtain ⟨ps, oa, oc, rfl, hk, hps, hL, hB⟩ := hrel
      have s0 : wr.cell? ⟨w.heap.size, 0, none⟩ = some (.int .i64 f) := (Lib.cell_of_heap hL.c 0).trans rfl
      have s1 : wr.cell? ⟨w.heap.size, 1, none⟩ = some (.slice aa ops.length acap) := (Lib.cell_of_heap hL.c 1).trans rfl
      have s2 : wr.cell? ⟨ob, 1, none⟩ = some (.slice oa ps.length oc) := (Lib.cell_of_heap hL.out 1).trans rfl
      have hobl := lt_of_heap hL.out
      have hbw := lt_of_heap hL.c
      by_cases hlt : ps.length < ops.length
      · have hlt' : (ps.length : Int) < (ops.length : Int) := by omega
        obtain ⟨b, off, rfl, hbl, av, q0, qp, x0, x1, x2, x3⟩ := V3.out ps.length hlt
        obtain ⟨z1, z2⟩ := Hz.out.2 _ (List.getElem_mem hlt)
        have htk : ops.take (ps.length + 1) = ops.take ps.length ++ [ops[ps.length]] := List.take_succ_eq_append_getElem hlt
        obtain ⟨o, ho⟩ : ∃ o, o = ops[ps.length] := ⟨_, rfl⟩
        rw [← ho] at q0 x0 x1 x2 z1 z2 htk
        obtain ⟨ar, cr, rfl⟩ := q0.shape
        have y0 : wr.cell? ⟨b, off + ps.length * 4, none⟩ = some (.int .i64 o.kind) := (hB.cell (by exact hbl)).trans x0
        have y1 : wr.cell? ⟨b, off + ps.length * 4 + 1, none⟩ = some (.int .i64 o.n) := (hB.cell (by exact hbl)).trans x1
        have y2 : wr.cell? ⟨b, off + ps.length * 4 + 2, none⟩ = some (.string o.text) := (hB.cell (by exact hbl)).trans x2
        have y3 : wr.cell? ⟨b, off + ps.length * 4 + 3, none⟩ = some (.slice ar o.attrs.length cr) := (hB.cell (by exact hbl)).trans x3
        obtain ⟨X, hX⟩ : ∃ X, X = wr.alloc (.cells #[.int .i64 o.kind, .int .i64 o.n, .string o.text, .slice ar o.attrs.length cr] 40) := ⟨_, rfl⟩
        have BX : Below wr.heap.size wr X := by rw [hX]; exact below_box _ _
        have hbox : X.heap[wr.heap.size]? = some (.cells #[.int .i64 o.kind, .int .i64 o.n, .string o.text, .slice ar o.attrs.length cr] 40 (0, 0)) := by rw [hX]; exact heap_new _ _
        have d3 : X.cell? ⟨wr.heap.size, 3, none⟩ = some (.slice ar o.attrs.length cr) := (Lib.cell_of_heap hbox 3).trans rfl
        have hXs : wr.heap.size < X.heap.size := lt_of_heap hbox
        have HX := Lib.hid hX
        have HLX := Lib.hid (hL.below BX)
        have HBX := Lib.hid (hB.trans (BX.mono hB.size))
        have HBOX := Lib.hid hbox
        have HTK := Lib.hid htk
        have HPS := Lib.hid hps
        have HOLD := Lib.hid (fun q (hq : q ∈ ps) j (hj : q.2.ownBlock = some j) => ((hL.att q hq).lt j hj).2)
        have HOWN := Lib.hid (fun j (hj : (Value.slice oa ps.length oc).ownBlock = some j) => (hL.row.lt j hj).2)
        have HLN := Lib.hid (lent_any (.slice ar o.attrs.length cr) o.attrs X (q0.below (hB.trans (BX.mono hB.size))) qp (by have := z2.1; omega))
        clear q0 qp x0 x1 x2 x3 z1 z2 htk hps hL ho BX hX hbox s0
        go_wp2_with fail
        rw [← HX.out]
        go_wp2_with fail
        refine HLN.out.mono ?_
        rintro e w2 ⟨g, rfl, o2, b2⟩
        have hg := (o2.lt g rfl)
        have bx2 := (b2.block _ hXs).trans HBOX.out
        have g3 : w2.cell? ⟨wr.heap.size, 3, none⟩ = some (.slice ar o.attrs.length cr) := (Lib.cell_of_heap bx2 3).trans rfl
        have fz3 : w2.frozen? ⟨wr.heap.size, 3, none⟩ = false := Lib.frozen_of_heap bx2 3
        have hs2 := b2.size
        have kY : Keep w.heap.size [40] w2 (w2.setCell ⟨wr.heap.size, 3, none⟩ (.slice (some ⟨g, 0, none⟩) o.attrs.length (o.attrs.length + 1))) := keep_set bx2 (by simp) (by omega) _ rfl _
        have bY : (w2.setCell ⟨wr.heap.size, 3, none⟩ (.slice (some ⟨g, 0, none⟩) o.attrs.length (o.attrs.length + 1))).heap[wr.heap.size]? = some (.cells #[.int .i64 o.kind, .int .i64 o.n, .string o.text, .slice (some ⟨g, 0, none⟩) o.attrs.length (o.attrs.length + 1)] 40 (0, 0)) := nblk_set bx2
        have LY : LWay (w2.setCell ⟨wr.heap.size, 3, none⟩ (.slice (some ⟨g, 0, none⟩) o.attrs.length (o.attrs.length + 1))) w.heap.size ob f (.slice (some ⟨b, off, none⟩) ops.length acap) 0 oa oc ps := by
          have h2 := HLX.out.below b2
          exact ⟨kY.kept _ _ _ _ h2.out (by decide), kY.kept _ _ _ _ h2.c (by decide), kY.kept _ _ _ _ h2.res (by decide), own_set_other h2.row _ (fun hj => absurd (HOWN.out _ hj) (Nat.lt_irrefl _)) _, fun q hq => (h2.att q hq).keep kY (by decide), h2.pw⟩
        have LQ : LAtt (w2.setCell ⟨wr.heap.size, 3, none⟩ (.slice (some ⟨g, 0, none⟩) o.attrs.length (o.attrs.length + 1))) w.heap.size (o, .slice (some ⟨g, 0, none⟩) o.attrs.length (o.attrs.length + 1)) := ⟨g, rfl, kY.own (own_base o2 (by omega)) (by decide)⟩
        have hsY : X.heap.size ≤ (w2.setCell ⟨wr.heap.size, 3, none⟩ (.slice (some ⟨g, 0, none⟩) o.attrs.length (o.attrs.length + 1))).heap.size := by simpa [World.setCell] using hs2
        have m0 : w2.cell? ⟨wr.heap.size, 0, none⟩ = some (.int .i64 o.kind) := (Lib.cell_of_heap bx2 0).trans rfl
        have m1 : w2.cell? ⟨wr.heap.size, 1, none⟩ = some (.int .i64 o.n) := (Lib.cell_of_heap bx2 1).trans rfl
        have m2 : w2.cell? ⟨wr.heap.size, 2, none⟩ = some (.string o.text) := (Lib.cell_of_heap bx2 2).trans rfl
        have m4 : w2.cell? ⟨ob, 1, none⟩ = some (.slice oa ps.length oc) := (Lib.cell_of_heap (HLX.out.below b2).out 1).trans rfl
        have HLY := Lib.hid LY
        have HLQ := Lib.hid LQ
        have HBY := Lib.hid (HBX.out.trans ((b2.mono HBX.out.size).trans kY.below))
        have hBYs : w.heap.size ≤ (w2.setCell ⟨wr.heap.size, 3, none⟩ (.slice (some ⟨g, 0, none⟩) o.attrs.length (o.attrs.length + 1))).heap.size := by omega
        have hgX : X.heap.size ≤ g := hg.1
        clear o2 b2 bx2 kY bY LY LQ hg
        have HSZ := Lib.hid (show (w2.setCell ⟨wr.heap.size, 3, none⟩ (.slice (some ⟨g, 0, none⟩) o.attrs.length (o.attrs.length + 1))).heap.size = w2.heap.size by simp [World.setCell])
        have hA : ((w2.setCell ⟨wr.heap.size, 3, none⟩ (.slice (some ⟨g, 0, none⟩) o.attrs.length (o.attrs.length + 1))).alloc (.cells #[.int .i64 o.kind, .int .i64 o.n, .string o.text, .slice (some ⟨g, 0, none⟩) o.attrs.length (o.attrs.length + 1)] 40)).heap.size = (w2.setCell ⟨wr.heap.size, 3, none⟩ (.slice (some ⟨g, 0, none⟩) o.attrs.length (o.attrs.length + 1))).heap.size + 1 := by simp
        have HA := Lib.hid hA
        clear hA
        go_wp2_with (at_builtin; refine wpList_append_new rfl (.tmp 31) (.tmp 33) 22 rfl 40 i0 (.agg #[.int .i64 0, .int .i64 0, .string ⟨#[]⟩, .slice none 0 0]) 4 56 Try.underlying22 Hi.out.1 Hi.out.2.1 Hi.out.2.2.1 Hi.out.2.2.2 rfl (by decide) w.heap.size (.slice oa ps.length oc) ps.length (flatO ps) rfl (HLY.out.row.alloc _) ⟨w2.heap.size, 0, none⟩ 1 1 [.int .i64 o.kind, .int .i64 o.n, .string o.text, .slice (some ⟨g, 0, none⟩) o.attrs.length (o.attrs.length + 1)] rfl rfl (by have := new_at4 (w2.setCell ⟨wr.heap.size, 3, none⟩ (.slice (some ⟨g, 0, none⟩) o.attrs.length (o.attrs.length + 1))) (.int .i64 o.kind) (.int .i64 o.n) (.string o.text) (.slice (some ⟨g, 0, none⟩) o.attrs.length (o.attrs.length + 1)) 40; rw [HSZ.out] at this; exact this) (fun u hu => by simp at hu; rcases hu with rfl | rfl | rfl | rfl <;> rfl) (by unfold maxLen; omega) (by omega) (by have := HA.out; omega) ?_; intro v' w5 oC gC nC; obtain ⟨oa', oc', rfl⟩ := own_slice oC; have LA := HLY.out.below (below_box (w2.setCell ⟨wr.heap.size, 3, none⟩ (.slice (some ⟨g, 0, none⟩) o.attrs.length (o.attrs.length + 1))) (.cells #[.int .i64 o.kind, .int .i64 o.n, .string o.text, .slice (some ⟨g, 0, none⟩) o.attrs.length (o.attrs.length + 1)] 40)); have KC := keepO_grown LA.row gC (by have := HA.out; omega) nC; have e5 := KC.keep.kept _ _ _ _ LA.out (by decide); have e1 : w5.cell? ⟨ob, 1, none⟩ = some (.slice oa ps.length oc) := (Lib.cell_of_heap e5 1).trans rfl; have e2 : w5.frozen? ⟨ob, 1, none⟩ = false := Lib.frozen_of_heap e5 1; have NX := Lib.hid (lway_put LA KC oC ((HLQ.out.keep (keep_below (B := w.heap.size) (ts := []) (below_box (w2.setCell ⟨wr.heap.size, 3, none⟩ (.slice (some ⟨g, 0, none⟩) o.attrs.length (o.attrs.length + 1))) _) hBYs) (by simp)).keep KC.keep (by decide)) (fun x hx hh => by have := HOLD.out x hx g (hh.trans rfl); omega) hob1); have HB5 := Lib.hid ((HBY.out.trans ((below_box (w2.setCell ⟨wr.heap.size, 3, none⟩ (.slice (some ⟨g, 0, none⟩) o.attrs.length (o.attrs.length + 1))) _).mono HBY.out.size)).trans KC.keep.below); clear oC gC nC LA KC e5)
        go_roundw
        case rel => exact ⟨ps ++ [(o, .slice (some ⟨g, 0, none⟩) o.attrs.length (o.attrs.length + 1))], oa', oc', by rw [List.length_append, List.length_singleton]; go_num, by rw [List.length_append, List.length_singleton]; omega, by rw [List.map_append, List.length_append, List.length_singleton, HTK.out, HPS.out]; rfl, NX.out.1, HB5.out.trans NX.out.2.below⟩
        case measure => simp [intOf]; omega
      · have hkn : ps.length = ops.length := by omega
        rw [hkn, List.take_length] at hps
        have HPS := Lib.hid hps
        have hLw := hL
        have HBX := Lib.hid hB
        have hobN : ob < wr.heap.size := hobl
        have hcN : w.heap.size < wr.heap.size := hbw
        obtain ⟨N, hN⟩ : ∃ N, N = ops.length := ⟨_, rfl⟩
        have HN := Lib.hid hN
        rw [hkn] at s2
        clear hps hL hB hlt hk
        go_wp2_with fail
        have HKN := Lib.hid hkn
        have HLX' := Lib.hid hLw
        have S0 : wr.drew.cell? ⟨w.heap.size, 0, none⟩ = some (.int .i64 f) ∧ wr.drew.cell? ⟨w.heap.size, 1, none⟩ = some (.slice aa ops.length acap) ∧ wr.drew.cell? ⟨ob, 1, none⟩ = some (.slice oa ops.length oc) := ⟨s0, s1, s2⟩
        clear hkn hLw
        refine wp_region_B (fun w' => w'.cell? ⟨w.heap.size, 0, none⟩ = some (.int .i64 f) ∧ w'.cell? ⟨w.heap.size, 1, none⟩ = some (.slice aa ops.length acap) ∧ w'.cell? ⟨ob, 1, none⟩ = some (.slice oa ops.length oc)) [12] (by kernel_rfl) (?_ : wpAnyB _ _ _ _ _ _ 13 (Array.replicate 13 false) _ _)
        refine wpAnyB_free (fuel := 12) (i := 0) (v := ?_) rfl (by kernel_rfl) (by kernel_rfl) (by kernel_rfl) (by kernel_rfl) (fun _ _ _ h => h) (.inr S0) ?_ (by rfl) ?_
        rotate_left
        · intro w'; go_simp; (try with_reducible rfl)
        simp only [Act.put, List.getElem_toArray, List.getElem_cons_zero, List.getElem_cons_succ, List.setIfInBounds_toArray, List.set_cons_zero, List.set_cons_succ]
        refine wpAnyB_load [1,11,12] (fuel := 11) (i := 1) (v := ?_) rfl (by kernel_rfl) (by kernel_rfl) (by kernel_rfl) (by kernel_rfl) (by kernel_rfl) (fun _ _ _ h => h) (.inr S0) ?_ (by rfl) ?_
        rotate_left
        · intro w' hw'; obtain ⟨m0, m1, m2⟩ := hw'; go_simp; (try with_reducible rfl)
        simp only [Act.put, List.getElem_toArray, List.getElem_cons_zero, List.getElem_cons_succ, List.setIfInBounds_toArray, List.set_cons_zero, List.set_cons_succ]
        refine wpAnyB_free (fuel := 10) (i := 2) (v := ?_) rfl (by kernel_rfl) (by kernel_rfl) (by kernel_rfl) (by kernel_rfl) (fun _ _ _ h => h) (.inr S0) ?_ (by rfl) ?_
        rotate_left
        · intro w'; go_simp; (try with_reducible rfl)
        simp only [Act.put, List.getElem_toArray, List.getElem_cons_zero, List.getElem_cons_succ, List.setIfInBounds_toArray, List.set_cons_zero, List.set_cons_succ]
        refine wpAnyB_load [3,6,10,11,12] (fuel := 9) (i := 3) (v := ?_) rfl (by kernel_rfl) (by kernel_rfl) (by kernel_rfl) (by kernel_rfl) (by kernel_rfl) (fun _ _ _ h => h) (.inr S0) ?_ (by rfl) ?_
        rotate_left
        · intro w' hw'; obtain ⟨m0, m1, m2⟩ := hw'; go_simp; (try with_reducible rfl)
        simp only [Act.put, List.getElem_toArray, List.getElem_cons_zero, List.getElem_cons_succ, List.setIfInBounds_toArray, List.set_cons_zero, List.set_cons_succ]
        refine wpAnyB_free (fuel := 8) (i := 4) (v := ?_) rfl (by kernel_rfl) (by kernel_rfl) (by kernel_rfl) (by kernel_rfl) (fun _ _ _ h => h) (.inr S0) ?_ (by rfl) ?_
        rotate_left
        · intro w'; go_simp; (try with_reducible rfl)
        simp only [Act.put, List.getElem_toArray, List.getElem_cons_zero, List.getElem_cons_succ, List.setIfInBounds_toArray, List.set_cons_zero, List.set_cons_succ]
        refine wpAnyB_free (fuel := 7) (i := 7) (v := ?_) rfl (by kernel_rfl) (by kernel_rfl) (by kernel_rfl) (by kernel_rfl) (fun _ _ _ h => h) (.inr S0) ?_ (by rfl) ?_
        rotate_left
        · intro w'; go_simp; (try with_reducible rfl)
        simp only [Act.put, List.getElem_toArray, List.getElem_cons_zero, List.getElem_cons_succ, List.setIfInBounds_toArray, List.set_cons_zero, List.set_cons_succ]
        refine wpAnyB_load [8,9,10,11,12] (fuel := 6) (i := 8) (v := ?_) rfl (by kernel_rfl) (by kernel_rfl) (by kernel_rfl) (by kernel_rfl) (by kernel_rfl) (fun _ _ _ h => h) (.inr S0) ?_ (by rfl) ?_
        rotate_left
        · intro w' hw'; obtain ⟨m0, m1, m2⟩ := hw'; go_simp; (try with_reducible rfl)
        simp only [Act.put, List.getElem_toArray, List.getElem_cons_zero, List.getElem_cons_succ, List.setIfInBounds_toArray, List.set_cons_zero, List.set_cons_succ]
        refine wpAnyB_free (fuel := 5) (i := 9) (v := ?_) rfl (by kernel_rfl) (by kernel_rfl) (by kernel_rfl) (by kernel_rfl) (fun _ _ _ h => h) (.inr S0) ?_ (by rfl) ?_
        rotate_left
        · intro w'; go_simp; (try with_reducible rfl)
        simp only [Act.put, List.getElem_toArray, List.getElem_cons_zero, List.getElem_cons_succ, List.setIfInBounds_toArray, List.set_cons_zero, List.set_cons_succ]
        refine wpAnyB_one (fuel := 4) (i := 5) rfl (by kernel_rfl) ?_
        intro KB hKB
        go_simp
        have SB : (wr.drew.alloc (.cells #[.int .i64 99, .int .i64 0, .string ⟨#[]⟩, .slice none 0 0] 40)).cell? ⟨w.heap.size, 0, none⟩ = some (.int .i64 f) ∧ (wr.drew.alloc (.cells #[.int .i64 99, .int .i64 0, .string ⟨#[]⟩, .slice none 0 0] 40)).cell? ⟨w.heap.size, 1, none⟩ = some (.slice aa ops.length acap) ∧ (wr.drew.alloc (.cells #[.int .i64 99, .int .i64 0, .string ⟨#[]⟩, .slice none 0 0] 40)).cell? ⟨ob, 1, none⟩ = some (.slice oa ops.length oc) := ⟨((below_box wr.drew _).cell (by exact hcN)).trans s0, ((below_box wr.drew _).cell (by exact hcN)).trans s1, ((below_box wr.drew _).cell (by exact hobN)).trans s2⟩
        have HLA := Lib.hid ((show LWay wr.drew w.heap.size ob f (.slice aa ops.length acap) 0 oa oc ps from HLX'.out.below (Below.refl _ _).drew).below (below_box wr.drew (.cells #[.int .i64 99, .int .i64 0, .string ⟨#[]⟩, .slice none 0 0] 40)))
        refine hKB _ _ (.inr SB) ?_
        (try simp only [Act.put, List.getElem_toArray, List.getElem_cons_zero, List.getElem_cons_succ, List.setIfInBounds_toArray, List.set_cons_zero, List.set_cons_succ])
        refine wpAnyB_one (fuel := 3) (i := 6) rfl (by kernel_rfl) ?_
        intro KB hKB
        refine step_append_new rfl (.tmp 39) (.tmp 41) 22 rfl 40 i0 (.agg #[.int .i64 0, .int .i64 0, .string ⟨#[]⟩, .slice none 0 0]) 4 56 Try.underlying22 Hi.out.1 Hi.out.2.1 Hi.out.2.2.1 Hi.out.2.2.2 rfl (by decide) w.heap.size (.slice oa ops.length oc) ops.length (flatO ps) rfl (by have := HLA.out.row; rwa [HKN.out] at this) ⟨wr.heap.size, 0, none⟩ 1 1 (opCells (markO, .slice none 0 0)) rfl rfl (new_at4 _ _ _ _ _ _) (fun u hu => by simp [opCells, markO] at hu; rcases hu with rfl | rfl | rfl | rfl <;> rfl) (by unfold maxLen; omega) (by omega) (by simp; omega) ?_
        intro v' w5 oC gC nC
        obtain ⟨gg, gc, rfl⟩ := ownsRow_open oC (Nat.succ_pos _)
        have KC := keepO_grown (show (wr.drew.alloc (.cells #[.int .i64 99, .int .i64 0, .string ⟨#[]⟩, .slice none 0 0] 40)).ownsRow w.heap.size 40 4 (.slice oa ops.length oc) ops.length (flatO ps) by have := HLA.out.row; rwa [HKN.out] at this) gC (by simp; omega) nC
        have ec := KC.keep.kept _ _ _ _ HLA.out.c (by decide)
        have eo := KC.keep.kept _ _ _ _ HLA.out.out (by decide)
        have er := KC.keep.kept _ _ _ _ HLA.out.res (by decide)
        rw [HKN.out] at eo
        have SC : w5.cell? ⟨w.heap.size, 0, none⟩ = some (.int .i64 f) ∧ w5.cell? ⟨w.heap.size, 1, none⟩ = some (.slice aa ops.length acap) ∧ w5.cell? ⟨ob, 1, none⟩ = some (.slice oa ops.length oc) := ⟨(Lib.cell_of_heap ec 0).trans rfl, (Lib.cell_of_heap ec 1).trans rfl, (Lib.cell_of_heap eo 1).trans rfl⟩
        have t0 : w5.cell? ⟨w.heap.size + 1, 0, none⟩ = some (.int .i64 0) := (Lib.cell_of_heap er 0).trans rfl
        have t1 : w5.cell? ⟨w.heap.size + 1, 1, none⟩ = some (.slice none 0 0) := (Lib.cell_of_heap er 1).trans rfl
        have t2 : w5.frozen? ⟨w.heap.size + 1, 0, none⟩ = false := Lib.frozen_of_heap er 0
        have t3 : w5.frozen? ⟨w.heap.size + 1, 1, none⟩ = false := Lib.frozen_of_heap er 1
        have LR : LRow w5 w.heap.size gg gc ps := ⟨by rw [HKN.out, flatO_snoc]; exact oC, fun q hq => (HLA.out.att q hq).keep KC.keep (by decide), HLA.out.pw⟩
        have hsl := slice_ops gg (ops.length + 1) gc ops.length (by have := LR.cap; rw [HKN.out] at this; omega)
        have S1 : Keep w.heap.size [24] w5 (w5.setCell ⟨w.heap.size + 1, 0, none⟩ (.int .i64 f)) := keep_set er (by simp) (Nat.le_succ _) _ rfl _
        have rB := nblk_set (j := 0) (u := .int .i64 f) er
        have S2 : Keep w.heap.size [24] (w5.setCell ⟨w.heap.size + 1, 0, none⟩ (.int .i64 f)) ((w5.setCell ⟨w.heap.size + 1, 0, none⟩ (.int .i64 f)).setCell ⟨w.heap.size + 1, 1, none⟩ (.slice (some ⟨gg, 0, none⟩) ops.length gc)) := keep_set rB (by simp) (Nat.le_succ _) _ rfl _
        have rC := nblk_set (j := 1) (u := .slice (some ⟨gg, 0, none⟩) ops.length gc) rB
        have FIN : LentOutC w f ops (.returned (chAgg f (.slice (some ⟨gg, 0, none⟩) ops.length gc))) ((w5.setCell ⟨w.heap.size + 1, 0, none⟩ (.int .i64 f)).setCell ⟨w.heap.size + 1, 1, none⟩ (.slice (some ⟨gg, 0, none⟩) ops.length gc)) := ⟨gg, gc, ps, rfl, HPS.out, LR.keep (S1.trans S2) (by decide) (by decide), ((HBX.out.trans (((Below.refl _ wr).drew).mono HBX.out.size)).trans (((below_box wr.drew (.cells #[.int .i64 99, .int .i64 0, .string ⟨#[]⟩, .slice none 0 0] 40)).mono (show w.heap.size ≤ wr.drew.heap.size from HBX.out.size)).trans KC.keep.below)).trans (S1.trans S2).below⟩
        have HFIN := Lib.hid FIN
        have z0 := (Lib.cell_of_heap rC 0).trans rfl
        have z1 := (Lib.cell_of_heap rC 1).trans rfl
        clear oC gC nC KC ec eo er LR S1 S2 rB rC FIN
        refine hKB _ _ (.inr SC) ?_
        (try simp only [Act.put, List.getElem_toArray, List.getElem_cons_zero, List.getElem_cons_succ, List.setIfInBounds_toArray, List.set_cons_zero, List.set_cons_succ])
        refine wpAnyB_free (fuel := 2) (i := 10) (v := ?_) rfl (by kernel_rfl) (by kernel_rfl) (by kernel_rfl) (by kernel_rfl) (fun _ _ _ h => h) (.inr SC) ?_ (by rfl) ?_
        rotate_left
        · intro w'; go_simp; (try with_reducible rfl)
        simp only [Act.put, List.getElem_toArray, List.getElem_cons_zero, List.getElem_cons_succ, List.setIfInBounds_toArray, List.set_cons_zero, List.set_cons_succ]
        refine wpAnyB_free (fuel := 1) (i := 11) (v := ?_) rfl (by kernel_rfl) (by kernel_rfl) (by kernel_rfl) (by kernel_rfl) (fun _ _ _ h => h) (.inr SC) ?_ (by rfl) ?_
        rotate_left
        · intro w'; go_simp; (try with_reducible rfl)
        simp only [Act.put, List.getElem_toArray, List.getElem_cons_zero, List.getElem_cons_succ, List.setIfInBounds_toArray, List.set_cons_zero, List.set_cons_succ]
        refine wpAnyB_one (fuel := 0) (i := 12) rfl (by kernel_rfl) ?_
        intro KB hKB
        go_simp
        refine hKB _ _ (.inl (by kernel_rfl)) ?_
        (try simp only [Act.put, List.getElem_toArray, List.getElem_cons_zero, List.getElem_cons_succ, List.setIfInBounds_toArray, List.set_cons_zero, List.set_cons_succ])
        refine wpAnyB_done (by kernel_rfl) ?_
        go_wp2_with fail
        exact bodyPost_ret (v := chAgg f (.slice (some ⟨gg, 0, none⟩) ops.length gc)) (by simp [results, Try.results6, go_sem, z0, z1]) rfl HFIN.out
  · have BZ : Below W.heap.size W ((W.alloc (.cells #[.int .i64 f, .slice (some ⟨W.heap.size + 1, 0, none⟩) 0 (ops.length + 1)] 24)).alloc (.cells M 40)).drew := (((Below.refl _ _).alloc (Nat.le_refl _) _).alloc (by simp) _).drew
    have hz0 : LWay ((W.alloc (.cells #[.int .i64 f, .slice (some ⟨W.heap.size + 1, 0, none⟩) 0 (ops.length + 1)] 24)).alloc (.cells M 40)).drew w.heap.size (W.heap.size) f (.slice aa ops.length acap) 0 (some ⟨W.heap.size + 1, 0, none⟩) (ops.length + 1) [] := by
      refine ⟨?_, (BZ.block _ (by omega)).trans HB0.out, (BZ.block _ (by omega)).trans HR0.out, ?_, (fun q hq => by cases hq), List.Pairwise.nil⟩
      · show ((W.alloc (.cells #[.int .i64 f, .slice (some ⟨W.heap.size + 1, 0, none⟩) 0 (ops.length + 1)] 24)).alloc _).heap[W.heap.size]? = _; rw [Below.heap_alloc _ _ _ (by simp)]; exact heap_new _ _
      · have := HMK.out (W.alloc (.cells #[.int .i64 f, .slice (some ⟨W.heap.size + 1, 0, none⟩) 0 (ops.length + 1)] 24)) (by simp; omega); show ((W.alloc (.cells #[.int .i64 f, .slice (some ⟨W.heap.size + 1, 0, none⟩) 0 (ops.length + 1)] 24)).alloc (.cells M 40)).ownsRow _ _ _ _ _ []; simpa using this
    have hob1 : w.heap.size + 2 ≤ W.heap.size := by omega
    have HBZ := Lib.hid (BW.out.trans (BZ.mono BW.out.size))
    obtain ⟨Z, hZ⟩ : ∃ Z, Z = ((W.alloc (.cells #[.int .i64 f, .slice (some ⟨W.heap.size + 1, 0, none⟩) 0 (ops.length + 1)] 24)).alloc (.cells M 40)).drew := ⟨_, rfl⟩
    obtain ⟨ob, hob⟩ : ∃ ob, ob = W.heap.size := ⟨_, rfl⟩
    obtain ⟨oa0, hoa⟩ : ∃ oa0, oa0 = some (⟨W.heap.size + 1, 0, none⟩ : Addr) := ⟨_, rfl⟩
    go_wp2_with fail
    rw [← hZ] at hz0 HBZ ⊢
    rw [← hoa] at hz0
    rw [← hob] at hz0 hob1 ⊢
    have HZ0 := Lib.hid hz0
    clear BZ hz0 hZ hob hoa c0 c1 nn0 nn1 hmk
    go_loopw [4] (fun i wr => ∃ (ps : List PA) (oa : Option Addr) (oc : Nat), i = .int .i64 (ps.length : Int) ∧ ps.length ≤ ops.length ∧ ps.map (·.1) = ops.take ps.length ∧ LWay wr w.heap.size ob f (.slice aa ops.length acap) 0 oa oc ps ∧ Below w.heap.size w wr) (fun i _ => ops.length - (intOf i).toNat)
    case atStart => exact ⟨[], oa0, ops.length + 1, rfl, Nat.zero_le _, rfl, HZ0.out, HBZ.out⟩
    case round =>
      obtain ⟨ps, oa, oc, rfl, hk, hps, hL, hB⟩ := hrel
      have s0 : wr.cell? ⟨w.heap.size, 0, none⟩ = some (.int .i64 f) := (Lib.cell_of_heap hL.c 0).trans rfl
      have s1 : wr.cell? ⟨w.heap.size, 1, none⟩ = some (.slice aa ops.length acap) := (Lib.cell_of_heap hL.c 1).trans rfl
      have s2 : wr.cell? ⟨ob, 1, none⟩ = some (.slice oa ps.length oc) := (Lib.cell_of_heap hL.out 1).trans rfl
      have hobl := lt_of_heap hL.out
      have hbw := lt_of_heap hL.c
      by_cases hlt : ps.length < ops.length
      · have hlt' : (ps.length : Int) < (ops.length : Int) := by omega
        obtain ⟨b, off, rfl, hbl, av, q0, qp, x0, x1, x2, x3⟩ := V3.out ps.length hlt
        obtain ⟨z1, z2⟩ := Hz.out.2 _ (List.getElem_mem hlt)
        have htk : ops.take (ps.length + 1) = ops.take ps.length ++ [ops[ps.length]] := List.take_succ_eq_append_getElem hlt
        obtain ⟨o, ho⟩ : ∃ o, o = ops[ps.length] := ⟨_, rfl⟩
        rw [← ho] at q0 x0 x1 x2 z1 z2 htk
        obtain ⟨ar, cr, rfl⟩ := q0.shape
        have y0 : wr.cell? ⟨b, off + ps.length * 4, none⟩ = some (.int .i64 o.kind) := (hB.cell (by exact hbl)).trans x0
        have y1 : wr.cell? ⟨b, off + ps.length * 4 + 1, none⟩ = some (.int .i64 o.n) := (hB.cell (by exact hbl)).trans x1
        have y2 : wr.cell? ⟨b, off + ps.length * 4 + 2, none⟩ = some (.string o.text) := (hB.cell (by exact hbl)).trans x2
        have y3 : wr.cell? ⟨b, off + ps.length * 4 + 3, none⟩ = some (.slice ar o.attrs.length cr) := (hB.cell (by exact hbl)).trans x3
        obtain ⟨X, hX⟩ : ∃ X, X = wr.alloc (.cells #[.int .i64 o.kind, .int .i64 o.n, .string o.text, .slice ar o.attrs.length cr] 40) := ⟨_, rfl⟩
        have BX : Below wr.heap.size wr X := by rw [hX]; exact below_box _ _
        have hbox : X.heap[wr.heap.size]? = some (.cells #[.int .i64 o.kind, .int .i64 o.n, .string o.text, .slice ar o.attrs.length cr] 40 (0, 0)) := by rw [hX]; exact heap_new _ _
        have d3 : X.cell? ⟨wr.heap.size, 3, none⟩ = some (.slice ar o.attrs.length cr) := (Lib.cell_of_heap hbox 3).trans rfl
        have hXs : wr.heap.size < X.heap.size := lt_of_heap hbox
        have HX := Lib.hid hX
        have HLX := Lib.hid (hL.below BX)
        have HBX := Lib.hid (hB.trans (BX.mono hB.size))
        have HBOX := Lib.hid hbox
        have HTK := Lib.hid htk
        have HPS := Lib.hid hps
        have HOLD := Lib.hid (fun q (hq : q ∈ ps) j (hj : q.2.ownBlock = some j) => ((hL.att q hq).lt j hj).2)
        have HOWN := Lib.hid (fun j (hj : (Value.slice oa ps.length oc).ownBlock = some j) => (hL.row.lt j hj).2)
        have HLN := Lib.hid (lent_any (.slice ar o.attrs.length cr) o.attrs X (q0.below (hB.trans (BX.mono hB.size))) qp (by have := z2.1; omega))
        clear q0 qp x0 x1 x2 x3 z1 z2 htk hps hL ho BX hX hbox s0
        go_wp2_with fail
        rw [← HX.out]
        go_wp2_with fail
        refine HLN.out.mono ?_
        rintro e w2 ⟨g, rfl, o2, b2⟩
        have hg := (o2.lt g rfl)
        have bx2 := (b2.block _ hXs).trans HBOX.out
        have g3 : w2.cell? ⟨wr.heap.size, 3, none⟩ = some (.slice ar o.attrs.length cr) := (Lib.cell_of_heap bx2 3).trans rfl
        have fz3 : w2.frozen? ⟨wr.heap.size, 3, none⟩ = false := Lib.frozen_of_heap bx2 3
        have hs2 := b2.size
        have kY : Keep w.heap.size [40] w2 (w2.setCell ⟨wr.heap.size, 3, none⟩ (.slice (some ⟨g, 0, none⟩) o.attrs.length (o.attrs.length + 1))) := keep_set bx2 (by simp) (by omega) _ rfl _
        have bY : (w2.setCell ⟨wr.heap.size, 3, none⟩ (.slice (some ⟨g, 0, none⟩) o.attrs.length (o.attrs.length + 1))).heap[wr.heap.size]? = some (.cells #[.int .i64 o.kind, .int .i64 o.n, .string o.text, .slice (some ⟨g, 0, none⟩) o.attrs.length (o.attrs.length + 1)] 40 (0, 0)) := nblk_set bx2
        have LY : LWay (w2.setCell ⟨wr.heap.size, 3, none⟩ (.slice (some ⟨g, 0, none⟩) o.attrs.length (o.attrs.length + 1))) w.heap.size ob f (.slice (some ⟨b, off, none⟩) ops.length acap) 0 oa oc ps := by
          have h2 := HLX.out.below b2
          exact ⟨kY.kept _ _ _ _ h2.out (by decide), kY.kept _ _ _ _ h2.c (by decide), kY.kept _ _ _ _ h2.res (by decide), own_set_other h2.row _ (fun hj => absurd (HOWN.out _ hj) (Nat.lt_irrefl _)) _, fun q hq => (h2.att q hq).keep kY (by decide), h2.pw⟩
        have LQ : LAtt (w2.setCell ⟨wr.heap.size, 3, none⟩ (.slice (some ⟨g, 0, none⟩) o.attrs.length (o.attrs.length + 1))) w.heap.size (o, .slice (some ⟨g, 0, none⟩) o.attrs.length (o.attrs.length + 1)) := ⟨g, rfl, kY.own (own_base o2 (by omega)) (by decide)⟩
        have hsY : X.heap.size ≤ (w2.setCell ⟨wr.heap.size, 3, none⟩ (.slice (some ⟨g, 0, none⟩) o.attrs.length (o.attrs.length + 1))).heap.size := by simpa [World.setCell] using hs2
        have m0 : w2.cell? ⟨wr.heap.size, 0, none⟩ = some (.int .i64 o.kind) := (Lib.cell_of_heap bx2 0).trans rfl
        have m1 : w2.cell? ⟨wr.heap.size, 1, none⟩ = some (.int .i64 o.n) := (Lib.cell_of_heap bx2 1).trans rfl
        have m2 : w2.cell? ⟨wr.heap.size, 2, none⟩ = some (.string o.text) := (Lib.cell_of_heap bx2 2).trans rfl
        have m4 : w2.cell? ⟨ob, 1, none⟩ = some (.slice oa ps.length oc) := (Lib.cell_of_heap (HLX.out.below b2).out 1).trans rfl
        have HLY := Lib.hid LY
        have HLQ := Lib.hid LQ
        have HBY := Lib.hid (HBX.out.trans ((b2.mono HBX.out.size).trans kY.below))
        have hBYs : w.heap.size ≤ (w2.setCell ⟨wr.heap.size, 3, none⟩ (.slice (some ⟨g, 0, none⟩) o.attrs.length (o.attrs.length + 1))).heap.size := by omega
        have hgX : X.heap.size ≤ g := hg.1
        clear o2 b2 bx2 kY bY LY LQ hg
        have HSZ := Lib.hid (show (w2.setCell ⟨wr.heap.size, 3, none⟩ (.slice (some ⟨g, 0, none⟩) o.attrs.length (o.attrs.length + 1))).heap.size = w2.heap.size by simp [World.setCell])
        have hA : ((w2.setCell ⟨wr.heap.size, 3, none⟩ (.slice (some ⟨g, 0, none⟩) o.attrs.length (o.attrs.length + 1))).alloc (.cells #[.int .i64 o.kind, .int .i64 o.n, .string o.text, .slice (some ⟨g, 0, none⟩) o.attrs.length (o.attrs.length + 1)] 40)).heap.size = (w2.setCell ⟨wr.heap.size, 3, none⟩ (.slice (some ⟨g, 0, none⟩) o.attrs.length (o.attrs.length + 1))).heap.size + 1 := by simp
        have HA := Lib.hid hA
        clear hA
        go_wp2_with (at_builtin; refine wpList_append_new rfl (.tmp 31) (.tmp 33) 22 rfl 40 i0 (.agg #[.int .i64 0, .int .i64 0, .string ⟨#[]⟩, .slice none 0 0]) 4 56 Try.underlying22 Hi.out.1 Hi.out.2.1 Hi.out.2.2.1 Hi.out.2.2.2 rfl (by decide) w.heap.size (.slice oa ps.length oc) ps.length (flatO ps) rfl (HLY.out.row.alloc _) ⟨w2.heap.size, 0, none⟩ 1 1 [.int .i64 o.kind, .int .i64 o.n, .string o.text, .slice (some ⟨g, 0, none⟩) o.attrs.length (o.attrs.length + 1)] rfl rfl (by have := new_at4 (w2.setCell ⟨wr.heap.size, 3, none⟩ (.slice (some ⟨g, 0, none⟩) o.attrs.length (o.attrs.length + 1))) (.int .i64 o.kind) (.int .i64 o.n) (.string o.text) (.slice (some ⟨g, 0, none⟩) o.attrs.length (o.attrs.length + 1)) 40; rw [HSZ.out] at this; exact this) (fun u hu => by simp at hu; rcases hu with rfl | rfl | rfl | rfl <;> rfl) (by unfold maxLen; omega) (by omega) (by have := HA.out; omega) ?_; intro v' w5 oC gC nC; obtain ⟨oa', oc', rfl⟩ := own_slice oC; have LA := HLY.out.below (below_box (w2.setCell ⟨wr.heap.size, 3, none⟩ (.slice (some ⟨g, 0, none⟩) o.attrs.length (o.attrs.length + 1))) (.cells #[.int .i64 o.kind, .int .i64 o.n, .string o.text, .slice (some ⟨g, 0, none⟩) o.attrs.length (o.attrs.length + 1)] 40)); have KC := keepO_grown LA.row gC (by have := HA.out; omega) nC; have e5 := KC.keep.kept _ _ _ _ LA.out (by decide); have e1 : w5.cell? ⟨ob, 1, none⟩ = some (.slice oa ps.length oc) := (Lib.cell_of_heap e5 1).trans rfl; have e2 : w5.frozen? ⟨ob, 1, none⟩ = false := Lib.frozen_of_heap e5 1; have NX := Lib.hid (lway_put LA KC oC ((HLQ.out.keep (keep_below (B := w.heap.size) (ts := []) (below_box (w2.setCell ⟨wr.heap.size, 3, none⟩ (.slice (some ⟨g, 0, none⟩) o.attrs.length (o.attrs.length + 1))) _) hBYs) (by simp)).keep KC.keep (by decide)) (fun x hx hh => by have := HOLD.out x hx g (hh.trans rfl); omega) hob1); have HB5 := Lib.hid ((HBY.out.trans ((below_box (w2.setCell ⟨wr.heap.size, 3, none⟩ (.slice (some ⟨g, 0, none⟩) o.attrs.length (o.attrs.length + 1))) _).mono HBY.out.size)).trans KC.keep.below); clear oC gC nC LA KC e5)
        go_roundw
        case rel => exact ⟨ps ++ [(o, .slice (some ⟨g, 0, none⟩) o.attrs.length (o.attrs.length + 1))], oa', oc', by rw [List.length_append, List.length_singleton]; go_num, by rw [List.length_append, List.length_singleton]; omega, by rw [List.map_append, List.length_append, List.length_singleton, HTK.out, HPS.out]; rfl, NX.out.1, HB5.out.trans NX.out.2.below⟩
        case measure => simp [intOf]; omega
      · have hkn : ps.length = ops.length := by omega
        rw [hkn, List.take_length] at hps
        have HPS := Lib.hid hps
        have hLw := hL
        have HBX := Lib.hid hB
        have hobN : ob < wr.heap.size := hobl
        have hcN : w.heap.size < wr.heap.size := hbw
        obtain ⟨N, hN⟩ : ∃ N, N = ops.length := ⟨_, rfl⟩
        have HN := Lib.hid hN
        rw [hkn] at s2
        clear hps hL hB hlt hk
        go_wp2_with fail
        have HKN := Lib.hid hkn
        have HLX' := Lib.hid hLw
        have S0 : wr.drew.cell? ⟨w.heap.size, 0, none⟩ = some (.int .i64 f) ∧ wr.drew.cell? ⟨w.heap.size, 1, none⟩ = some (.slice aa ops.length acap) ∧ wr.drew.cell? ⟨ob, 1, none⟩ = some (.slice oa ops.length oc) := ⟨s0, s1, s2⟩
        clear hkn hLw
        refine wp_region_B (fun w' => w'.cell? ⟨w.heap.size, 0, none⟩ = some (.int .i64 f) ∧ w'.cell? ⟨w.heap.size, 1, none⟩ = some (.slice aa ops.length acap) ∧ w'.cell? ⟨ob, 1, none⟩ = some (.slice oa ops.length oc)) [12] (by kernel_rfl) (?_ : wpAnyB _ _ _ _ _ _ 13 (Array.replicate 13 false) _ _)
        refine wpAnyB_free (fuel := 12) (i := 0) (v := ?_) rfl (by kernel_rfl) (by kernel_rfl) (by kernel_rfl) (by kernel_rfl) (fun _ _ _ h => h) (.inr S0) ?_ (by rfl) ?_
        rotate_left
        · intro w'; go_simp; (try with_reducible rfl)
        simp only [Act.put, List.getElem_toArray, List.getElem_cons_zero, List.getElem_cons_succ, List.setIfInBounds_toArray, List.set_cons_zero, List.set_cons_succ]
        refine wpAnyB_load [1,11,12] (fuel := 11) (i := 1) (v := ?_) rfl (by kernel_rfl) (by kernel_rfl) (by kernel_rfl) (by kernel_rfl) (by kernel_rfl) (fun _ _ _ h => h) (.inr S0) ?_ (by rfl) ?_
        rotate_left
        · intro w' hw'; obtain ⟨m0, m1, m2⟩ := hw'; go_simp; (try with_reducible rfl)
        simp only [Act.put, List.getElem_toArray, List.getElem_cons_zero, List.getElem_cons_succ, List.setIfInBounds_toArray, List.set_cons_zero, List.set_cons_succ]
        refine wpAnyB_free (fuel := 10) (i := 2) (v := ?_) rfl (by kernel_rfl) (by kernel_rfl) (by kernel_rfl) (by kernel_rfl) (fun _ _ _ h => h) (.inr S0) ?_ (by rfl) ?_
        rotate_left
        · intro w'; go_simp; (try with_reducible rfl)
        simp only [Act.put, List.getElem_toArray, List.getElem_cons_zero, List.getElem_cons_succ, List.setIfInBounds_toArray, List.set_cons_zero, List.set_cons_succ]
        refine wpAnyB_load [3,6,10,11,12] (fuel := 9) (i := 3) (v := ?_) rfl (by kernel_rfl) (by kernel_rfl) (by kernel_rfl) (by kernel_rfl) (by kernel_rfl) (fun _ _ _ h => h) (.inr S0) ?_ (by rfl) ?_
        rotate_left
        · intro w' hw'; obtain ⟨m0, m1, m2⟩ := hw'; go_simp; (try with_reducible rfl)
        simp only [Act.put, List.getElem_toArray, List.getElem_cons_zero, List.getElem_cons_succ, List.setIfInBounds_toArray, List.set_cons_zero, List.set_cons_succ]
        refine wpAnyB_free (fuel := 8) (i := 4) (v := ?_) rfl (by kernel_rfl) (by kernel_rfl) (by kernel_rfl) (by kernel_rfl) (fun _ _ _ h => h) (.inr S0) ?_ (by rfl) ?_
        rotate_left
        · intro w'; go_simp; (try with_reducible rfl)
        simp only [Act.put, List.getElem_toArray, List.getElem_cons_zero, List.getElem_cons_succ, List.setIfInBounds_toArray, List.set_cons_zero, List.set_cons_succ]
        refine wpAnyB_free (fuel := 7) (i := 7) (v := ?_) rfl (by kernel_rfl) (by kernel_rfl) (by kernel_rfl) (by kernel_rfl) (fun _ _ _ h => h) (.inr S0) ?_ (by rfl) ?_
        rotate_left
        · intro w'; go_simp; (try with_reducible rfl)
        simp only [Act.put, List.getElem_toArray, List.getElem_cons_zero, List.getElem_cons_succ, List.setIfInBounds_toArray, List.set_cons_zero, List.set_cons_succ]
        refine wpAnyB_load [8,9,10,11,12] (fuel := 6) (i := 8) (v := ?_) rfl (by kernel_rfl) (by kernel_rfl) (by kernel_rfl) (by kernel_rfl) (by kernel_rfl) (fun _ _ _ h => h) (.inr S0) ?_ (by rfl) ?_
        rotate_left
        · intro w' hw'; obtain ⟨m0, m1, m2⟩ := hw'; go_simp; (try with_reducible rfl)
        simp only [Act.put, List.getElem_toArray, List.getElem_cons_zero, List.getElem_cons_succ, List.setIfInBounds_toArray, List.set_cons_zero, List.set_cons_succ]
        refine wpAnyB_free (fuel := 5) (i := 9) (v := ?_) rfl (by kernel_rfl) (by kernel_rfl) (by kernel_rfl) (by kernel_rfl) (fun _ _ _ h => h) (.inr S0) ?_ (by rfl) ?_
        rotate_left
        · intro w'; go_simp; (try with_reducible rfl)
        simp only [Act.put, List.getElem_toArray, List.getElem_cons_zero, List.getElem_cons_succ, List.setIfInBounds_toArray, List.set_cons_zero, List.set_cons_succ]
        refine wpAnyB_one (fuel := 4) (i := 5) rfl (by kernel_rfl) ?_
        intro KB hKB
        go_simp
        have SB : (wr.drew.alloc (.cells #[.int .i64 99, .int .i64 0, .string ⟨#[]⟩, .slice none 0 0] 40)).cell? ⟨w.heap.size, 0, none⟩ = some (.int .i64 f) ∧ (wr.drew.alloc (.cells #[.int .i64 99, .int .i64 0, .string ⟨#[]⟩, .slice none 0 0] 40)).cell? ⟨w.heap.size, 1, none⟩ = some (.slice aa ops.length acap) ∧ (wr.drew.alloc (.cells #[.int .i64 99, .int .i64 0, .string ⟨#[]⟩, .slice none 0 0] 40)).cell? ⟨ob, 1, none⟩ = some (.slice oa ops.length oc) := ⟨((below_box wr.drew _).cell (by exact hcN)).trans s0, ((below_box wr.drew _).cell (by exact hcN)).trans s1, ((below_box wr.drew _).cell (by exact hobN)).trans s2⟩
        have HLA := Lib.hid ((show LWay wr.drew w.heap.size ob f (.slice aa ops.length acap) 0 oa oc ps from HLX'.out.below (Below.refl _ _).drew).below (below_box wr.drew (.cells #[.int .i64 99, .int .i64 0, .string ⟨#[]⟩, .slice none 0 0] 40)))
        refine hKB _ _ (.inr SB) ?_
        (try simp only [Act.put, List.getElem_toArray, List.getElem_cons_zero, List.getElem_cons_succ, List.setIfInBounds_toArray, List.set_cons_zero, List.set_cons_succ])
        refine wpAnyB_one (fuel := 3) (i := 6) rfl (by kernel_rfl) ?_
        intro KB hKB
        refine step_append_new rfl (.tmp 39) (.tmp 41) 22 rfl 40 i0 (.agg #[.int .i64 0, .int .i64 0, .string ⟨#[]⟩, .slice none 0 0]) 4 56 Try.underlying22 Hi.out.1 Hi.out.2.1 Hi.out.2.2.1 Hi.out.2.2.2 rfl (by decide) w.heap.size (.slice oa ops.length oc) ops.length (flatO ps) rfl (by have := HLA.out.row; rwa [HKN.out] at this) ⟨wr.heap.size, 0, none⟩ 1 1 (opCells (markO, .slice none 0 0)) rfl rfl (new_at4 _ _ _ _ _ _) (fun u hu => by simp [opCells, markO] at hu; rcases hu with rfl | rfl | rfl | rfl <;> rfl) (by unfold maxLen; omega) (by omega) (by simp; omega) ?_
        intro v' w5 oC gC nC
        obtain ⟨gg, gc, rfl⟩ := ownsRow_open oC (Nat.succ_pos _)
        have KC := keepO_grown (show (wr.drew.alloc (.cells #[.int .i64 99, .int .i64 0, .string ⟨#[]⟩, .slice none 0 0] 40)).ownsRow w.heap.size 40 4 (.slice oa ops.length oc) ops.length (flatO ps) by have := HLA.out.row; rwa [HKN.out] at this) gC (by simp; omega) nC
        have ec := KC.keep.kept _ _ _ _ HLA.out.c (by decide)
        have eo := KC.keep.kept _ _ _ _ HLA.out.out (by decide)
        have er := KC.keep.kept _ _ _ _ HLA.out.res (by decide)
        rw [HKN.out] at eo
        have SC : w5.cell? ⟨w.heap.size, 0, none⟩ = some (.int .i64 f) ∧ w5.cell? ⟨w.heap.size, 1, none⟩ = some (.slice aa ops.length acap) ∧ w5.cell? ⟨ob, 1, none⟩ = some (.slice oa ops.length oc) := ⟨(Lib.cell_of_heap ec 0).trans rfl, (Lib.cell_of_heap ec 1).trans rfl, (Lib.cell_of_heap eo 1).trans rfl⟩
        have t0 : w5.cell? ⟨w.heap.size + 1, 0, none⟩ = some (.int .i64 0) := (Lib.cell_of_heap er 0).trans rfl
        have t1 : w5.cell? ⟨w.heap.size + 1, 1, none⟩ = some (.slice none 0 0) := (Lib.cell_of_heap er 1).trans rfl
        have t2 : w5.frozen? ⟨w.heap.size + 1, 0, none⟩ = false := Lib.frozen_of_heap er 0
        have t3 : w5.frozen? ⟨w.heap.size + 1, 1, none⟩ = false := Lib.frozen_of_heap er 1
        have LR : LRow w5 w.heap.size gg gc ps := ⟨by rw [HKN.out, flatO_snoc]; exact oC, fun q hq => (HLA.out.att q hq).keep KC.keep (by decide), HLA.out.pw⟩
        have hsl := slice_ops gg (ops.length + 1) gc ops.length (by have := LR.cap; rw [HKN.out] at this; omega)
        have S1 : Keep w.heap.size [24] w5 (w5.setCell ⟨w.heap.size + 1, 0, none⟩ (.int .i64 f)) := keep_set er (by simp) (Nat.le_succ _) _ rfl _
        have rB := nblk_set (j := 0) (u := .int .i64 f) er
        have S2 : Keep w.heap.size [24] (w5.setCell ⟨w.heap.size + 1, 0, none⟩ (.int .i64 f)) ((w5.setCell ⟨w.heap.size + 1, 0, none⟩ (.int .i64 f)).setCell ⟨w.heap.size + 1, 1, none⟩ (.slice (some ⟨gg, 0, none⟩) ops.length gc)) := keep_set rB (by simp) (Nat.le_succ _) _ rfl _
        have rC := nblk_set (j := 1) (u := .slice (some ⟨gg, 0, none⟩) ops.length gc) rB
        have FIN : LentOutC w f ops (.returned (chAgg f (.slice (some ⟨gg, 0, none⟩) ops.length gc))) ((w5.setCell ⟨w.heap.size + 1, 0, none⟩ (.int .i64 f)).setCell ⟨w.heap.size + 1, 1, none⟩ (.slice (some ⟨gg, 0, none⟩) ops.length gc)) := ⟨gg, gc, ps, rfl, HPS.out, LR.keep (S1.trans S2) (by decide) (by decide), ((HBX.out.trans (((Below.refl _ wr).drew).mono HBX.out.size)).trans (((below_box wr.drew (.cells #[.int .i64 99, .int .i64 0, .string ⟨#[]⟩, .slice none 0 0] 40)).mono (show w.heap.size ≤ wr.drew.heap.size from HBX.out.size)).trans KC.keep.below)).trans (S1.trans S2).below⟩
        have HFIN := Lib.hid FIN
        have z0 := (Lib.cell_of_heap rC 0).trans rfl
        have z1 := (Lib.cell_of_heap rC 1).trans rfl
        clear oC gC nC KC ec eo er LR S1 S2 rB rC FIN
        refine hKB _ _ (.inr SC) ?_
        (try simp only [Act.put, List.getElem_toArray, List.getElem_cons_zero, List.getElem_cons_succ, List.setIfInBounds_toArray, List.set_cons_zero, List.set_cons_succ])
        refine wpAnyB_free (fuel := 2) (i := 10) (v := ?_) rfl (by kernel_rfl) (by kernel_rfl) (by kernel_rfl) (by kernel_rfl) (fun _ _ _ h => h) (.inr SC) ?_ (by rfl) ?_
        rotate_left
        · intro w'; go_simp; (try with_reducible rfl)
        simp only [Act.put, List.getElem_toArray, List.getElem_cons_zero, List.getElem_cons_succ, List.setIfInBounds_toArray, List.set_cons_zero, List.set_cons_succ]
        refine wpAnyB_free (fuel := 1) (i := 11) (v := ?_) rfl (by kernel_rfl) (by kernel_rfl) (by kernel_rfl) (by kernel_rfl) (fun _ _ _ h => h) (.inr SC) ?_ (by rfl) ?_
        rotate_left
        · intro w'; go_simp; (try with_reducible rfl)
        simp only [Act.put, List.getElem_toArray, List.getElem_cons_zero, List.getElem_cons_succ, List.setIfInBounds_toArray, List.set_cons_zero, List.set_cons_succ]
        refine wpAnyB_one (fuel := 0) (i := 12) rfl (by kernel_rfl) ?_
        intro KB hKB
        go_simp
        refine hKB _ _ (.inl (by kernel_rfl)) ?_
        (try simp only [Act.put, List.getElem_toArray, List.getElem_cons_zero, List.getElem_cons_succ, List.setIfInBounds_toArray, List.set_cons_zero, List.set_cons_succ])
        refine wpAnyB_done (by kernel_rfl) ?_
        go_wp2_with fail
        exact bodyPost_ret (v := chAgg f (.slice (some ⟨gg, 0, none⟩) ops.length gc)) (by simp [results, Try.results6, go_sem, z0, z1]) rfl HFIN.out
end Go.Proofs.Ytacgkbdldbppjaa

/- The law's Kept and Spoil, of changesets. -/
namespace Go.Proofs.Ytacgkbdldbppjaa
open Go.RowKit Ch At

theorem span_new {lo hi : Nat} {w w' : World} (h : Span lo hi w w') {p : Addr} (hp : w.heap.size ≤ p.block) (hl : lo ≤ p.block) (u : Value) : Span lo hi w (w'.setCell p u) :=
  ⟨h.below.setCell hl u, fun i hi' hh => (Below.heap_setCell w' p u i (by omega)).trans (h.block i hi' hh)⟩
theorem span_alloc {lo hi : Nat} {w w' : World} (h : Span lo hi w w') (hl : lo ≤ w.heap.size) (o : Obj) : Span lo hi w (w'.alloc o) := h.trans (span_below (below_box _ _) (Nat.le_trans hl h.below.size))
theorem op_cell {w : World} {B g n cap j : Nat} {xs : List Value} (h : w.ownsRow B 40 4 (.slice (some ⟨g, 0, none⟩) n cap) n xs) (hj : j < n * 4) : ∃ u, w.cell? ⟨g, j, none⟩ = some u := by
  have hl : j < xs.length := by rw [h.1]; exact hj
  exact ⟨xs[j], by rw [h.cellAt j hj]; exact List.getElem?_eq_getElem hl⟩
/-- One operation written over in one's own row: what it is then, elsewhere. -/
theorem op_stored {w : World} {B g n cap k : Nat} {xs : List Value} (h : w.ownsRow B 40 4 (.slice (some ⟨g, 0, none⟩) n cap) n xs) (u0 u1 u2 u3 : Value) :
    ∃ ys, ((((w.setCell ⟨g, k * 4, none⟩ u0).setCell ⟨g, k * 4 + 1, none⟩ u1).setCell ⟨g, k * 4 + 2, none⟩ u2).setCell ⟨g, k * 4 + 3, none⟩ u3).ownsRow B 40 4 (.slice (some ⟨g, 0, none⟩) n cap) n ys ∧ ∀ j, (k + 1) * 4 ≤ j → ys[j]? = xs[j]? := by
  refine ⟨_, ((((h.stored (k * 4) u0).1.stored (k * 4 + 1) u1).1.stored (k * 4 + 2) u2).1.stored (k * 4 + 3) u3).1, fun j hj => ?_⟩
  rw [List.getElem?_set_ne (by omega), List.getElem?_set_ne (by omega), List.getElem?_set_ne (by omega), List.getElem?_set_ne (by omega)]
theorem keep_ops4 {w : World} {B g n cap k : Nat} {xs : List Value} (h : w.ownsRow B 40 4 (.slice (some ⟨g, 0, none⟩) n cap) n xs) (u0 u1 u2 u3 : Value) :
    Keep B [40] w ((((w.setCell ⟨g, k * 4, none⟩ u0).setCell ⟨g, k * 4 + 1, none⟩ u1).setCell ⟨g, k * 4 + 2, none⟩ u2).setCell ⟨g, k * 4 + 3, none⟩ u3) := by
  obtain ⟨hB, cs, hcs⟩ := own_heap h
  have b1 := nblk_set (j := k * 4) (u := u0) hcs
  have b2 := nblk_set (j := k * 4 + 1) (u := u1) b1
  have b3 := nblk_set (j := k * 4 + 2) (u := u2) b2
  exact (((keep_set hcs (by simp) hB ⟨g, k * 4, none⟩ rfl u0).trans (keep_set b1 (by simp) hB ⟨g, k * 4 + 1, none⟩ rfl u1)).trans (keep_set b2 (by simp) hB ⟨g, k * 4 + 2, none⟩ rfl u2)).trans (keep_set b3 (by simp) hB ⟨g, k * 4 + 3, none⟩ rfl u3)
theorem span_ops4 {lo hi g k : Nat} {w : World} (h1 : lo ≤ g) (h2 : g < hi) (u0 u1 u2 u3 : Value) : Span lo hi w ((((w.setCell ⟨g, k * 4, none⟩ u0).setCell ⟨g, k * 4 + 1, none⟩ u1).setCell ⟨g, k * 4 + 2, none⟩ u2).setCell ⟨g, k * 4 + 3, none⟩ u3) :=
  (((span_set (p := ⟨g, k * 4, none⟩) h1 h2 u0).trans (span_set (p := ⟨g, k * 4 + 1, none⟩) h1 h2 u1)).trans (span_set (p := ⟨g, k * 4 + 2, none⟩) h1 h2 u2)).trans (span_set (p := ⟨g, k * 4 + 3, none⟩) h1 h2 u3)

theorem latt_kept {w w' : World} {B g : Nat} {q : PA} (h : LAtt w B q) (hg : w.grownBy w' (some g)) (hne : q.2.ownBlock ≠ some g) : LAtt w' B q := by
  obtain ⟨g', e, h⟩ := h
  exact ⟨g', e, h.kept hg (.inr (by rw [e] at hne; exact hne))⟩
def KeptOutC (w : World) (B E : Nat) (e : Ending) (w' : World) : Prop := e = .returned (.bool true) ∧ Span B E w w'
set_option maxRecDepth 100000 in
set_option maxHeartbeats 8000000 in
theorem keptC_any (f : Int) (v : Value) (ops : List OpD) (B E gg gc : Nat) (ps : List PA) (w0 w : World) (hL : LRow w B gg gc ps) (hps : ps.map (·.1) = ops) (hv : OpRow w0 v ops) (hw0 : Below w0.heap.size w0 w) (hB : w0.heap.size ≤ B) (hz : SmallO ops)
    (hgE : gg < E) (haE : ∀ q ∈ ps, ∀ j, q.2.ownBlock = some j → j < E) (hEw : E ≤ w.heap.size) :
    Calls Try.prog 11 #[chAgg f (.slice (some ⟨gg, 0, none⟩) ops.length gc), chAgg f v] w (KeptOutC w B E) := by
  have hln : ps.length = ops.length := by rw [← hps]; simp
  have hn : ops.length ≤ 1048576 := hz.1
  have hcap := hL.cap
  have hBw : B ≤ w.heap.size := by have := (hL.row.lt gg rfl).1; omega
  have HSM := Lib.hid (refSameCh_any f f (.slice (some ⟨gg, 0, none⟩) ops.length gc) v ops ops)
  obtain ⟨aa, acap, rfl, v1, v2, v3⟩ := hv
  obtain ⟨W, hW⟩ : ∃ W, W = (w.alloc (.cells #[.int .i64 f, .slice (some ⟨gg, 0, none⟩) ops.length gc] 24)).alloc (.cells #[.int .i64 f, .slice aa ops.length acap] 24) := ⟨_, rfl⟩
  have BW : Below w.heap.size w W := by rw [hW]; exact ((Below.refl _ _).alloc (Nat.le_refl _) _).alloc (by simp) _
  have b0 : W.heap[w.heap.size]? = some (.cells #[.int .i64 f, .slice (some ⟨gg, 0, none⟩) ops.length gc] 24 (0, 0)) := by
    rw [hW, Below.heap_alloc _ _ _ (by simp)]
    exact heap_new _ _
  have b1 : W.heap[w.heap.size + 1]? = some (.cells #[.int .i64 f, .slice aa ops.length acap] 24 (0, 0)) := by
    rw [hW]
    have := heap_new (w.alloc (.cells #[.int .i64 f, .slice (some ⟨gg, 0, none⟩) ops.length gc] 24)) (.cells #[.int .i64 f, .slice aa ops.length acap] 24)
    simpa using this
  have hc0 : OpRow w (.slice aa ops.length acap) ops := OpRow.below ⟨aa, acap, rfl, v1, v2, v3⟩ hw0
  have hin : OpRow W (.slice (some ⟨gg, 0, none⟩) ops.length gc) ops := by
    have := (hL.below BW).ops
    rw [hln, hps] at this
    exact this
  have HS := Lib.hid (HSM.out W hin (hc0.below BW))
  rw [show sameCh f f ops ops = true from decide_eq_true ⟨rfl, rfl⟩] at HS
  have c0 : W.cell? ⟨w.heap.size, 0, none⟩ = some (.int .i64 f) := (Lib.cell_of_heap b0 0).trans rfl
  have c1 : W.cell? ⟨w.heap.size, 1, none⟩ = some (.slice (some ⟨gg, 0, none⟩) ops.length gc) := (Lib.cell_of_heap b0 1).trans rfl
  have d0 : W.cell? ⟨w.heap.size + 1, 0, none⟩ = some (.int .i64 f) := (Lib.cell_of_heap b1 0).trans rfl
  have d1 : W.cell? ⟨w.heap.size + 1, 1, none⟩ = some (.slice aa ops.length acap) := (Lib.cell_of_heap b1 1).trans rfl
  have HB0 := Lib.hid b0
  have HB1 := Lib.hid b1
  have HW := Lib.hid hW
  have HBW := Lib.hid BW
  have HLW := Lib.hid (hL.below BW)
  have V3 := Lib.hid v3
  have HW0 := Lib.hid (hw0.trans (BW.mono hw0.size))
  have HLN := Lib.hid hln
  have HPS := Lib.hid hps
  have HAE := Lib.hid haE
  have hsl := slice_ops gg ops.length gc (ops.length + 1) (by omega)
  have ecast : ((ops.length + 1 : Nat) : Int) = (ops.length : Int) + 1 := by omega
  rw [ecast] at hsl
  have hz' := Lib.hid hz
  have hWs : w.heap.size + 2 = W.heap.size := by rw [hW]; simp
  have hggB : B ≤ gg := (hL.row.lt gg rfl).1
  clear hL hps hz haE v1 v2 v3 hin hc0 hW BW b0 b1 hw0 ecast hln
  go_enter Try.func11, Try.ntmps11
  go_wp2_with fail
  rw [← HW.out]
  go_wp2_with fail
  refine HS.out.mono ?_
  rintro e w1 ⟨rfl, bb⟩
  have HS1 := Lib.hid (show Span B E W w1 from span_below bb (by have := HBW.out.size; omega))
  have HL1 := Lib.hid (HLW.out.below bb)
  have hW1 := bb.size
  have x0 := (bb.block _ (show w.heap.size < W.heap.size by omega)).trans HB0.out
  have x1 := (bb.block _ (show w.heap.size + 1 < W.heap.size by omega)).trans HB1.out
  have e1 : w1.cell? ⟨w.heap.size, 1, none⟩ = some (.slice (some ⟨gg, 0, none⟩) ops.length gc) := (Lib.cell_of_heap x0 1).trans rfl
  have em : w1.cell? ⟨gg, ops.length * 4, none⟩ = some (.int .i64 99) := by
    have := (last_cells HL1.out.row).1
    rw [HLN.out] at this
    exact this
  have i1 : (0 : Int) ≤ (ops.length : Int) := by omega
  have i2 : (ops.length : Int) < (ops.length : Int) + 1 := by omega
  clear bb c0 c1 d0 d1 x0 x1
  go_wp2_with fail
  go_loopw [7, 8] (fun s i wr => ∃ k : Nat, s = .bool true ∧ i = .int .i64 (k : Int) ∧ k ≤ ops.length ∧ Span B E W wr ∧ wr.ownsRow B 40 4 (.slice (some ⟨gg, 0, none⟩) (ops.length + 1) gc) (ops.length + 1) (flatO (ps ++ [(markO, .slice none 0 0)])) ∧ (∀ j (hj : j < ps.length), k ≤ j → LAtt wr B ps[j])) (fun _ i _ => ops.length - (intOf i).toNat)
  case atStart => exact ⟨0, rfl, rfl, Nat.zero_le _, HS1.out, by have := HL1.out.row; rwa [HLN.out] at this, fun j hj _ => HL1.out.att _ (List.getElem_mem hj)⟩
  case round =>
    obtain ⟨k, rfl, rfl, hk, hS, hr, hA⟩ := hrel
    have xb0 := (hS.block _ (show w.heap.size < W.heap.size by omega) hEw).trans HB0.out
    have xb1 := (hS.block _ (show w.heap.size + 1 < W.heap.size by omega) (by omega)).trans HB1.out
    have s0 : wr.cell? ⟨w.heap.size, 1, none⟩ = some (.slice (some ⟨gg, 0, none⟩) ops.length gc) := (Lib.cell_of_heap xb0 1).trans rfl
    have s1 : wr.cell? ⟨w.heap.size + 1, 1, none⟩ = some (.slice aa ops.length acap) := (Lib.cell_of_heap xb1 1).trans rfl
    clear xb0 xb1 e1 em
    by_cases hlt : k < ops.length
    · have hlt' : (k : Int) < (ops.length : Int) := by omega
      have hlt2 : (k : Int) < (ops.length : Int) + 1 := by omega
      have k0 : (0 : Int) ≤ (k : Int) := by omega
      have hkp : k < ps.length := by have := HLN.out; omega
      obtain ⟨b, off, rfl, hbl, av, q0, qp, _, _, _, x3⟩ := V3.out k hlt
      have hpo : ps[k].1 = ops[k] := by
        have h1 : (ps.map (·.1))[k]'(by simp; exact hkp) = ps[k].1 := List.getElem_map _
        rw [← h1]
        simp only [HPS.out]
      have BC : Below w0.heap.size w0 wr := HW0.out.trans (hS.below.mono hB)
      obtain ⟨o, ho⟩ : ∃ o, o = ops[k] := ⟨_, rfl⟩
      rw [← ho] at q0 hpo
      obtain ⟨ar, cr, rfl⟩ := q0.shape
      obtain ⟨g, e2, orow⟩ := hA k hkp (Nat.le_refl _)
      rw [hpo] at e2 orow
      have y3 : wr.cell? ⟨b, off + k * 4 + 3, none⟩ = some (.slice ar o.attrs.length cr) := (BC.cell (by exact hbl)).trans x3
      have y4 : wr.cell? ⟨gg, k * 4 + 3, none⟩ = some (.slice (some ⟨g, 0, none⟩) o.attrs.length (o.attrs.length + 1)) := by
        rw [hr.cellAt (k * 4 + 3) (by omega), flatO_at (ps := ps ++ [(markO, Value.slice none 0 0)]) (i := k) (by simp; omega) 3 (by omega), List.getElem_append_left hkp]
        show some ps[k].2 = _
        rw [e2]
      have hsa := (hz'.out.2 _ (List.getElem_mem hlt)).2.1
      rw [← ho] at hsa
      have HKE := Lib.hid (kept_any (.slice ar o.attrs.length cr) B g o.attrs wr.drew (show wr.drew.ownsRow B _ _ _ _ _ from orow) (q0.below (BC.drew)) (by omega))
      have hgE2 : g < E := HAE.out _ (List.getElem_mem hkp) g (by rw [e2]; rfl)
      have hgB : B ≤ g := (orow.lt g rfl).1
      have hag := own_heap orow
      have HAG := Lib.hid hag
      have HR := Lib.hid hr
      have HA := Lib.hid hA
      have HSP := Lib.hid hS
      have HE2 := Lib.hid e2
      have hBr : B ≤ wr.heap.size := Nat.le_of_lt (Nat.lt_of_le_of_lt hgB (orow.lt g rfl).2)
      have SY : wr.drew.cell? ⟨gg, k * 4 + 3, none⟩ = some (.slice (some ⟨g, 0, none⟩) o.attrs.length (o.attrs.length + 1)) ∧ wr.drew.cell? ⟨w.heap.size + 1, 1, none⟩ = some (.slice (some ⟨b, off, none⟩) ops.length acap) ∧ wr.drew.cell? ⟨b, off + k * 4 + 3, none⟩ = some (.slice ar o.attrs.length cr) := ⟨y4, s1, y3⟩
      clear hS hr hA q0 qp x3 orow e2 BC ho hpo hag y3 y4
      go_wp2_with fail
      refine wp_region_B (fun w' => w'.cell? ⟨gg, k * 4 + 3, none⟩ = some (.slice (some ⟨g, 0, none⟩) o.attrs.length (o.attrs.length + 1)) ∧ w'.cell? ⟨w.heap.size + 1, 1, none⟩ = some (.slice (some ⟨b, off, none⟩) ops.length acap) ∧ w'.cell? ⟨b, off + k * 4 + 3, none⟩ = some (.slice ar o.attrs.length cr)) [11] (by kernel_rfl) (?_ : wpAnyB _ _ _ _ _ _ 13 (Array.replicate 13 false) _ _)
      refine wpAnyB_free (fuel := 12) (i := 0) (v := ?_) rfl (by kernel_rfl) (by kernel_rfl) (by kernel_rfl) (by kernel_rfl) (fun _ _ _ h => h) (.inr SY) ?_ (by rfl) ?_
      rotate_left
      · intro w'; go_simp; (try with_reducible rfl)
      simp only [Act.put, List.getElem_toArray, List.getElem_cons_zero, List.getElem_cons_succ, List.setIfInBounds_toArray, List.set_cons_zero, List.set_cons_succ]
      refine wpAnyB_free (fuel := 11) (i := 1) (v := ?_) rfl (by kernel_rfl) (by kernel_rfl) (by kernel_rfl) (by kernel_rfl) (fun _ _ _ h => h) (.inr SY) ?_ (by rfl) ?_
      rotate_left
      · intro w'; go_simp; (try with_reducible rfl)
      simp only [Act.put, List.getElem_toArray, List.getElem_cons_zero, List.getElem_cons_succ, List.setIfInBounds_toArray, List.set_cons_zero, List.set_cons_succ]
      refine wpAnyB_free (fuel := 10) (i := 2) (v := .pointer (some ⟨gg, k * 4, none⟩)) rfl (by kernel_rfl) (by kernel_rfl) (by kernel_rfl) (by kernel_rfl) (fun _ _ _ h => h) (.inr SY) ?_ (by rfl) ?_
      · intro w'; go_simp; (try (intro hh; omega))
      simp only [Act.put, List.getElem_toArray, List.getElem_cons_zero, List.getElem_cons_succ, List.setIfInBounds_toArray, List.set_cons_zero, List.set_cons_succ]
      refine wpAnyB_free (fuel := 9) (i := 3) (v := ?_) rfl (by kernel_rfl) (by kernel_rfl) (by kernel_rfl) (by kernel_rfl) (fun _ _ _ h => h) (.inr SY) ?_ (by rfl) ?_
      rotate_left
      · intro w'; go_simp; (try with_reducible rfl)
      simp only [Act.put, List.getElem_toArray, List.getElem_cons_zero, List.getElem_cons_succ, List.setIfInBounds_toArray, List.set_cons_zero, List.set_cons_succ]
      refine wpAnyB_load [4,11] (fuel := 8) (i := 4) (v := ?_) rfl (by kernel_rfl) (by kernel_rfl) (by kernel_rfl) (by kernel_rfl) (by kernel_rfl) (fun _ _ _ h => h) (.inr SY) ?_ (by rfl) ?_
      rotate_left
      · intro w' hw'; obtain ⟨m0, m1, m2⟩ := hw'; go_simp; (try with_reducible rfl)
      simp only [Act.put, List.getElem_toArray, List.getElem_cons_zero, List.getElem_cons_succ, List.setIfInBounds_toArray, List.set_cons_zero, List.set_cons_succ]
      refine wpAnyB_free (fuel := 7) (i := 5) (v := ?_) rfl (by kernel_rfl) (by kernel_rfl) (by kernel_rfl) (by kernel_rfl) (fun _ _ _ h => h) (.inr SY) ?_ (by rfl) ?_
      rotate_left
      · intro w'; go_simp; (try with_reducible rfl)
      simp only [Act.put, List.getElem_toArray, List.getElem_cons_zero, List.getElem_cons_succ, List.setIfInBounds_toArray, List.set_cons_zero, List.set_cons_succ]
      refine wpAnyB_load [6,8,9,10,11] (fuel := 6) (i := 6) (v := ?_) rfl (by kernel_rfl) (by kernel_rfl) (by kernel_rfl) (by kernel_rfl) (by kernel_rfl) (fun _ _ _ h => h) (.inr SY) ?_ (by rfl) ?_
      rotate_left
      · intro w' hw'; obtain ⟨m0, m1, m2⟩ := hw'; go_simp; (try with_reducible rfl)
      simp only [Act.put, List.getElem_toArray, List.getElem_cons_zero, List.getElem_cons_succ, List.setIfInBounds_toArray, List.set_cons_zero, List.set_cons_succ]
      refine wpAnyB_free (fuel := 5) (i := 7) (v := ?_) rfl (by kernel_rfl) (by kernel_rfl) (by kernel_rfl) (by kernel_rfl) (fun _ _ _ h => h) (.inr SY) ?_ (by rfl) ?_
      rotate_left
      · intro w'; go_simp; (try with_reducible rfl)
      simp only [Act.put, List.getElem_toArray, List.getElem_cons_zero, List.getElem_cons_succ, List.setIfInBounds_toArray, List.set_cons_zero, List.set_cons_succ]
      refine wpAnyB_free (fuel := 4) (i := 8) (v := .pointer (some ⟨b, off + k * 4, none⟩)) rfl (by kernel_rfl) (by kernel_rfl) (by kernel_rfl) (by kernel_rfl) (fun _ _ _ h => h) (.inr SY) ?_ (by rfl) ?_
      · intro w'; go_simp; (try (intro hh; omega))
      simp only [Act.put, List.getElem_toArray, List.getElem_cons_zero, List.getElem_cons_succ, List.setIfInBounds_toArray, List.set_cons_zero, List.set_cons_succ]
      refine wpAnyB_free (fuel := 3) (i := 9) (v := ?_) rfl (by kernel_rfl) (by kernel_rfl) (by kernel_rfl) (by kernel_rfl) (fun _ _ _ h => h) (.inr SY) ?_ (by rfl) ?_
      rotate_left
      · intro w'; go_simp; (try with_reducible rfl)
      simp only [Act.put, List.getElem_toArray, List.getElem_cons_zero, List.getElem_cons_succ, List.setIfInBounds_toArray, List.set_cons_zero, List.set_cons_succ]
      refine wpAnyB_load [10,11] (fuel := 2) (i := 10) (v := ?_) rfl (by kernel_rfl) (by kernel_rfl) (by kernel_rfl) (by kernel_rfl) (by kernel_rfl) (fun _ _ _ h => h) (.inr SY) ?_ (by rfl) ?_
      rotate_left
      · intro w' hw'; obtain ⟨m0, m1, m2⟩ := hw'; go_simp; (try with_reducible rfl)
      simp only [Act.put, List.getElem_toArray, List.getElem_cons_zero, List.getElem_cons_succ, List.setIfInBounds_toArray, List.set_cons_zero, List.set_cons_succ]
      refine wpAnyB_one (fuel := 1) (i := 11) rfl (by kernel_rfl) ?_
      intro KB hKB
      go_simp
      refine HKE.out.mono ?_
      rintro e wA ⟨rfl, gA⟩
      have spA := Lib.hid (HSP.out.trans ((Span.refl B E wr).drew.trans (span_grown gA (show B ≤ wr.drew.heap.size from hBr) (fun j hj => by cases hj; exact ⟨hgB, hgE2⟩))))
      have kA : Keep B [67] wr.drew wA := keep_grown gA (show B ≤ wr.drew.heap.size from hBr) (fun j hj => by cases hj; obtain ⟨_, cs, hcs⟩ := HAG.out; exact ⟨hgB, cs, _, _, hcs, by simp⟩)
      have rA := Lib.hid (kA.own (show wr.drew.ownsRow B 40 4 _ _ _ from HR.out) (by decide))
      have aA := Lib.hid (fun j (hj : j < ps.length) (h1 : k + 1 ≤ j) => latt_kept (show LAtt wr.drew B ps[j] from HA.out j hj (by omega)) gA (by have := List.pairwise_iff_getElem.1 HL1.out.pw k j hkp hj (by omega); rw [HE2.out] at this; intro hh; exact this hh.symm))
      clear gA kA
      refine hKB _ _ (.inl (by kernel_rfl)) ?_
      (try simp only [Act.put, List.getElem_toArray, List.getElem_cons_zero, List.getElem_cons_succ, List.setIfInBounds_toArray, List.set_cons_zero, List.set_cons_succ])
      refine wpAnyB_free (fuel := 0) (i := 12) (v := ?_) rfl (by kernel_rfl) (by kernel_rfl) (by kernel_rfl) (by kernel_rfl) (fun _ _ _ h => h) (.inl (by kernel_rfl)) ?_ (by rfl) ?_
      rotate_left
      · intro w'; go_simp; (try with_reducible rfl)
      simp only [Act.put, List.getElem_toArray, List.getElem_cons_zero, List.getElem_cons_succ, List.setIfInBounds_toArray, List.set_cons_zero, List.set_cons_succ]
      refine wpAnyB_done (by kernel_rfl) ?_
      go_wp2_with fail
      go_roundw
      case rel => exact ⟨k + 1, rfl, by go_num, by omega, spA.out, rA.out, aA.out⟩
      case measure => simp [intOf]; omega
    · have hkn : k = ops.length := by omega
      subst hkn
      have HR := Lib.hid hr
      have HSP := Lib.hid hS
      clear hS hr hA hlt hk
      go_wp2_with fail
      obtain ⟨wo, rfl⟩ : ∃ wo : World, wo = wr := ⟨_, rfl⟩
      go_loopw [10] (fun i wr => ∃ (k : Nat) (xs : List Value), i = .int .i64 (k : Int) ∧ k ≤ ops.length + 1 ∧ Span B E W wr ∧ wr.ownsRow B 40 4 (.slice (some ⟨gg, 0, none⟩) (ops.length + 1) gc) (ops.length + 1) xs) (fun i _ => ops.length + 1 - (intOf i).toNat)
      case atStart => exact ⟨0, _, rfl, Nat.zero_le _, HSP.out, HR.out⟩
      case round =>
        obtain ⟨k, xs, rfl, hk, hS, hr⟩ := hrel
        by_cases hlt : k < ops.length + 1
        · have hlt' : (k : Int) < (ops.length : Int) + 1 := by omega
          have k0 : (0 : Int) ≤ (k : Int) := by omega
          obtain ⟨u0, z0⟩ := op_cell hr (j := k * 4) (by omega)
          obtain ⟨u1, z1⟩ := op_cell hr (j := k * 4 + 1) (by omega)
          obtain ⟨u2, z2⟩ := op_cell hr (j := k * 4 + 2) (by omega)
          obtain ⟨u3, z3⟩ := op_cell hr (j := k * 4 + 3) (by omega)
          have f0 : wr.frozen? ⟨gg, k * 4, none⟩ = false := hr.frozenAt _
          have f1 : wr.frozen? ⟨gg, k * 4 + 1, none⟩ = false := hr.frozenAt _
          have f2 : wr.frozen? ⟨gg, k * 4 + 2, none⟩ = false := hr.frozenAt _
          have f3 : wr.frozen? ⟨gg, k * 4 + 3, none⟩ = false := hr.frozenAt _
          obtain ⟨ys, hy, _⟩ := op_stored (k := k) hr (.int .i64 98) (.int .i64 0) (.string ⟨#[]⟩) (.slice none 0 0)
          have HY := Lib.hid hy
          have HS2 := Lib.hid (hS.trans (span_ops4 (k := k) hggB hgE (.int .i64 98) (.int .i64 0) (.string ⟨#[]⟩) (.slice none 0 0)))
          clear hS hr hy s0 s1
          go_wp2_with fail
          go_roundw
          case rel => exact ⟨k + 1, ys, by go_num, by omega, HS2.out, HY.out⟩
          case measure => simp [intOf]; omega
        · have hkn : k = ops.length + 1 := by omega
          subst hkn
          have HS2 := Lib.hid hS
          have t1 : decide ((ops.length : Int) + 1 < (ops.length : Int) + 1) = false := decide_eq_false (by omega)
          clear hS hr hlt hk s0 s1
          go_wp2_with fail
          go_ret
          exact ⟨rfl, (span_below HBW.out hBw).trans HS2.out⟩

def SpoilOutC (w : World) (B E : Nat) (e : Ending) (w' : World) : Prop := ∃ N : Int, e = .returned (.int .i64 N) ∧ 1 ≤ N ∧ N ≤ 4398046511104 ∧ Span B E w w'
set_option maxRecDepth 100000 in
set_option maxHeartbeats 8000000 in
theorem spoilC_any (f : Int) (v : Value) (B E : Nat) (ps : List PA) (w : World) (h : OwnP w B v ps) (hz : SmallO (ps.map (·.1))) (hvE : ∀ j, v.ownBlock = some j → j < E) (haE : ∀ q ∈ ps, ∀ j, q.2.ownBlock = some j → j < E) (hEw : E ≤ w.heap.size) (hBw : B ≤ w.heap.size) :
    Calls Try.prog 19 #[chAgg f v] w (SpoilOutC w B E) := by
  have hn : ps.length ≤ 1048576 := by have := hz.1; rwa [List.length_map] at this
  obtain ⟨va, vc, rfl⟩ := own_slice h.1
  obtain ⟨W, hW⟩ : ∃ W, W = w.alloc (.cells #[.int .i64 f, .slice va ps.length vc] 24) := ⟨_, rfl⟩
  have BW : Below w.heap.size w W := by rw [hW]; exact below_box _ _
  have b0 : W.heap[w.heap.size]? = some (.cells #[.int .i64 f, .slice va ps.length vc] 24 (0, 0)) := by rw [hW]; exact heap_new _ _
  have hP := h.keep (keep_below (ts := []) BW (Nat.le_refl _)) (by simp) (by simp)
  have HP := Lib.hid hP
  have HB0 := Lib.hid b0
  have HW := Lib.hid hW
  have HBW := Lib.hid BW
  have HAE := Lib.hid haE
  have HVE := Lib.hid hvE
  have HZ := Lib.hid (fun q (hq : q ∈ ps) => (hz.2 q.1 (List.mem_map.2 ⟨q, hq, rfl⟩)).2.1)
  have hWs : w.heap.size + 1 = W.heap.size := by rw [hW]; simp
  obtain ⟨i0, hi, hz0, hz1, hz2⟩ := info_parts infoOp
  have Hi := Lib.hid (And.intro hi (And.intro hz0 (And.intro hz1 hz2)))
  clear h hz hvE haE hW BW b0 hP hi hz0 hz1 hz2
  go_enter Try.func19, Try.ntmps19
  go_wp2_with fail
  rw [← HW.out]
  go_wp2_with fail
  go_loopw [3, 4] (fun s i wr => ∃ (k : Nat) (m : Int) (xs : List Value), s = .int .i64 m ∧ i = .int .i64 (k : Int) ∧ k ≤ ps.length ∧ 0 ≤ m ∧ m ≤ 2097152 * (k : Int) ∧ Span B E W wr ∧ wr.ownsRow B 40 4 (.slice va ps.length vc) ps.length xs ∧ (∀ j, k * 4 ≤ j → xs[j]? = (flatO ps)[j]?) ∧ (∀ q ∈ ps, ∃ ys, wr.ownsRow B 67 2 q.2 q.1.attrs.length ys)) (fun _ i _ => ps.length - (intOf i).toNat)
  case atStart => exact ⟨0, 0, _, rfl, rfl, Nat.zero_le _, Int.le_refl _, by omega, Span.refl _ _ _, HP.out.1, fun _ _ => rfl, fun q hq => ⟨_, HP.out.2 q hq⟩⟩
  case round =>
    obtain ⟨k, m, xs, rfl, rfl, hk, hm0, hm1, hS, hr, hx, hA⟩ := hrel
    have xb0 := (hS.block _ (show w.heap.size < W.heap.size by omega) hEw).trans HB0.out
    have s0 : wr.cell? ⟨w.heap.size, 1, none⟩ = some (.slice va ps.length vc) := (Lib.cell_of_heap xb0 1).trans rfl
    have hBr : B ≤ wr.heap.size := by have := hS.below.size; omega
    by_cases hlt : k < ps.length
    · have hlt' : (k : Int) < (ps.length : Int) := by omega
      have k0 : (0 : Int) ≤ (k : Int) := by omega
      obtain ⟨gg, cap, he⟩ := ownsRow_open hr (by omega)
      simp only [Value.slice.injEq, true_and] at he
      obtain ⟨rfl, rfl⟩ := he
      obtain ⟨q, hq⟩ : ∃ q, q = ps[k] := ⟨_, rfl⟩
      have hqm : q ∈ ps := by rw [hq]; exact List.getElem_mem hlt
      obtain ⟨ys, hy⟩ := hA q hqm
      obtain ⟨qa, qc, hqv⟩ := own_slice hy
      have y3 : wr.cell? ⟨gg, k * 4 + 3, none⟩ = some (.slice qa q.1.attrs.length qc) := by
        rw [hr.cellAt (k * 4 + 3) (by omega), hx _ (by omega), flatO_at hlt 3 (by omega), ← hq]
        show some q.2 = _
        rw [hqv]
      have hql := HZ.out q hqm
      rw [hqv] at hy
      have HSP2 := Lib.hid (spoil2_any (.slice qa q.1.attrs.length qc) B q.1.attrs.length ys wr hy hql hBr)
      have hqE := Lib.hid (fun j (hj : (Value.slice qa q.1.attrs.length qc).ownBlock = some j) => And.intro (hy.lt j hj).1 (HAE.out q hqm j (by rw [hqv]; exact hj)))
      have HYH := Lib.hid (fun j (hj : (Value.slice qa q.1.attrs.length qc).ownBlock = some j) => own_row hy j hj)
      have hgE : gg < E := HVE.out gg rfl
      have hgB : B ≤ gg := (hr.lt gg rfl).1
      have HR := Lib.hid hr
      have HA := Lib.hid hA
      have HX := Lib.hid hx
      have HSP := Lib.hid hS
      clear hr hA hx hS hy hqv hq
      go_wp2_with fail
      refine HSP2.out.mono ?_
      rintro e w2 ⟨rfl, g2, sh2⟩
      have k2 : Keep B [67] wr w2 := keep_grown g2 hBr (fun j hj => by obtain ⟨h1, cs, fr, h2⟩ := HYH.out j hj; exact ⟨h1, cs, _, fr, h2, by simp⟩)
      have r2 := k2.own HR.out (by decide)
      have sp2 := HSP.out.trans (span_grown g2 hBr (fun j hj => hqE.out j hj))
      obtain ⟨u0, z0⟩ := op_cell r2 (j := k * 4) (by omega)
      obtain ⟨u1, z1⟩ := op_cell r2 (j := k * 4 + 1) (by omega)
      obtain ⟨u2, z2⟩ := op_cell r2 (j := k * 4 + 2) (by omega)
      obtain ⟨u3, z3⟩ := op_cell r2 (j := k * 4 + 3) (by omega)
      have f0 : w2.frozen? ⟨gg, k * 4, none⟩ = false := r2.frozenAt _
      have f1 : w2.frozen? ⟨gg, k * 4 + 1, none⟩ = false := r2.frozenAt _
      have f2 : w2.frozen? ⟨gg, k * 4 + 2, none⟩ = false := r2.frozenAt _
      have f3 : w2.frozen? ⟨gg, k * 4 + 3, none⟩ = false := r2.frozenAt _
      obtain ⟨zs, hzs, hz3⟩ := op_stored (k := k) r2 (.int .i64 97) (.int .i64 0) (.string ⟨#[]⟩) (.slice none 0 0)
      have kk := keep_ops4 (k := k) r2 (.int .i64 97) (.int .i64 0) (.string ⟨#[]⟩) (.slice none 0 0)
      have HS3 := Lib.hid (sp2.trans (span_ops4 (k := k) hgB hgE (.int .i64 97) (.int .i64 0) (.string ⟨#[]⟩) (.slice none 0 0)))
      have xb2 := (sp2.block _ (show w.heap.size < W.heap.size by omega) hEw).trans HB0.out
      have s2 : w2.cell? ⟨w.heap.size, 1, none⟩ = some (.slice (some ⟨gg, 0, none⟩) ps.length vc) := (Lib.cell_of_heap xb2 1).trans rfl
      have HZS := Lib.hid hzs
      have HZ3 := Lib.hid (fun j (hj : (k + 1) * 4 ≤ j) => (hz3 j hj).trans (HX.out j (by omega)))
      have HA3 := Lib.hid (fun x (hx : x ∈ ps) => by obtain ⟨ys, hy⟩ := HA.out x hx; obtain ⟨ys', hy'⟩ := sh2.own hy; exact (⟨ys', kk.own hy' (by decide)⟩ : ∃ ys, _))
      clear g2 sh2 k2 r2 sp2 hzs hz3 kk xb2 s0 y3
      go_wp2_with fail
      go_roundw
      case rel => exact ⟨k + 1, m + ((q.1.attrs.length : Int) + 1), zs, by go_num, by go_num, by omega, by omega, by omega, HS3.out, HZS.out, HZ3.out, HA3.out⟩
      case measure => simp [intOf]; omega
    · have hkn : k = ps.length := by omega
      subst hkn
      have HR := Lib.hid hr
      have HSP := Lib.hid hS
      have HXB := Lib.hid xb0
      have hcb : w.heap.size < wr.heap.size := by have := hS.below.size; omega
      clear hr hA hx hS hlt hk xb0
      have hA : (wr.alloc (.cells #[.int .i64 96, .int .i64 0, .string ⟨#[]⟩, .slice none 0 0] 40)).heap.size = wr.heap.size + 1 := by simp
      have HA := Lib.hid hA
      clear hA
      go_wp2_with (at_builtin; refine wpList_append_new rfl (.tmp 27) (.tmp 29) 22 rfl 40 i0 (.agg #[.int .i64 0, .int .i64 0, .string ⟨#[]⟩, .slice none 0 0]) 4 56 Try.underlying22 Hi.out.1 Hi.out.2.1 Hi.out.2.2.1 Hi.out.2.2.2 rfl (by decide) B (.slice va ps.length vc) ps.length xs rfl (HR.out.alloc _) ⟨wr.heap.size, 0, none⟩ 1 1 [.int .i64 96, .int .i64 0, .string ⟨#[]⟩, .slice none 0 0] rfl rfl (new_at4 _ _ _ _ _ _) (fun u hu => by simp at hu; rcases hu with rfl | rfl | rfl | rfl <;> rfl) (by unfold maxLen; omega) (by omega) (by have := HA.out; omega) ?_; intro v' w5 oC gC _; obtain ⟨oa', oc', rfl⟩ := own_slice oC; have x5 := (gC.block w.heap.size (by have := HA.out; omega) (fun e => by have := HVE.out _ e.symm; omega)).trans ((Below.heap_alloc _ _ _ hcb).trans HXB.out); have e1 : w5.cell? ⟨w.heap.size, 1, none⟩ = some (.slice va ps.length vc) := (Lib.cell_of_heap x5 1).trans rfl; have e2 : w5.frozen? ⟨w.heap.size, 1, none⟩ = false := Lib.frozen_of_heap x5 1; have SP5 := Lib.hid ((span_alloc HSP.out (by omega) _).trans (span_grown gC (by have := HA.out; omega) (fun j hj => ⟨(HR.out.lt j hj).1, HVE.out j hj⟩))); clear oC gC x5)
      go_ret
      exact ⟨_, rfl, by omega, by omega, span_new ((span_below HBW.out hBw).trans SP5.out) (Nat.le_refl _) hBw _⟩
end Go.Proofs.Ytacgkbdldbppjaa

/- Normal where it answers, and where it refuses. -/
namespace Go.Proofs.Ytacgkbdldbppjaa
open Go.RowKit Ch

def isB (f : Int) (ops : List OpD) : Bool := decide (toE f ops = 0 ∧ ops = norm ops)
theorem NormOut.row {w w' : World} {f : Int} {ops : List OpD} {v : Value} (h : OwnOps w' w.heap.size v (norm ops)) : OpRow w' v (norm ops) := h.row
theorem normal_ok (f : Int) (v : Value) (ops : List OpD) (w : World) (hv : OpRow w v ops) (hz : OSized ops) (he : toE f ops = 0) :
    Calls Try.prog 16 #[chAgg f v] w fun e w' => ∃ v', e = .returned (.tuple #[chAgg f v', .int .i64 0]) ∧ OwnOps w' w.heap.size v' (norm ops) ∧ Below w.heap.size w w' :=
  (normal_any f v ops w hv hz).mono fun e w' h => by
    rcases h with ⟨h0, _⟩ | ⟨_, h⟩
    · exact absurd he h0
    · exact h
theorem normal_bad (f : Int) (v : Value) (ops : List OpD) (w : World) (hv : OpRow w v ops) (hz : OSized ops) (he : toE f ops ≠ 0) :
    Calls Try.prog 16 #[chAgg f v] w fun e w' => e = .returned (.tuple #[chAgg 0 (.slice none 0 0), .int .i64 (toE f ops)]) ∧ Below w.heap.size w w' :=
  (normal_any f v ops w hv hz).mono fun e w' h => by
    rcases h with ⟨_, h⟩ | ⟨h0, _⟩
    · exact h
    · exact absurd h0 he

end Go.Proofs.Ytacgkbdldbppjaa

/- The program's Nothing. -/
namespace Go.Proofs.Ytacgkbdldbppjaa
open Go.RowKit Ch

def NothOut (w : World) (n : Int) (e : Ending) (w' : World) : Prop :=
  ((n < 0 ∨ 20000 < n) ∧ e = .returned (.tuple #[chAgg 0 (.slice none 0 0), .int .i64 31]) ∨ (0 ≤ n ∧ n ≤ 20000) ∧ e = .returned (.tuple #[chAgg n (.slice none 0 0), .int .i64 0])) ∧ Below w.heap.size w w'
theorem toE_nil {n : Int} : toE n [] = if n < 0 ∨ 20000 < n then 31 else 0 := by
  unfold toE
  split
  · rfl
  · rw [if_neg (by simp)]
    show (if (0 : Int) ≠ 0 then _ else if 20000 < n then 3 else 0) = 0
    rw [if_neg (by simp), if_neg (by omega)]

set_option maxRecDepth 100000 in
set_option maxHeartbeats 2000000 in
theorem nothing_any (n : Int) (w : World) : Calls Try.prog 13 #[.int .i64 n] w (NothOut w n) := by
  obtain ⟨W, hW⟩ : ∃ W, W = (w.alloc (.cells #[.int .i64 0, .slice none 0 0] 24)).alloc (.cells #[.int .i64 n, .slice none 0 0] 24) := ⟨_, rfl⟩
  have BW := Lib.hid (show Below w.heap.size w W by rw [hW]; exact ((Below.refl _ _).alloc (Nat.le_refl _) _).alloc (by simp) _)
  have r0 : W.heap[w.heap.size]? = some (.cells #[.int .i64 0, .slice none 0 0] 24 (0, 0)) := by
    rw [hW, Below.heap_alloc _ _ _ (by simp)]
    exact heap_new _ _
  have r1 : W.heap[w.heap.size + 1]? = some (.cells #[.int .i64 n, .slice none 0 0] 24 (0, 0)) := by
    rw [hW]
    have := heap_new (w.alloc (.cells #[.int .i64 0, .slice none 0 0] 24)) (.cells #[.int .i64 n, .slice none 0 0] 24)
    simpa using this
  have c0 : W.cell? ⟨w.heap.size + 1, 0, none⟩ = some (.int .i64 n) := (Lib.cell_of_heap r1 0).trans rfl
  have c1 : W.cell? ⟨w.heap.size + 1, 1, none⟩ = some (.slice none 0 0) := (Lib.cell_of_heap r1 1).trans rfl
  have HC := changeRight_any n (.slice none 0 0) [] W (OpRow.nil _) (fun o ho => by cases ho)
  rw [toE_nil] at HC
  have HW := Lib.hid hW
  have HR0 := Lib.hid r0
  have HR1 := Lib.hid r1
  clear hW r0 r1
  by_cases hn : n < 0 ∨ 20000 < n
  · rw [if_pos hn] at HC
    have HC := Lib.hid HC
    have Hn := Lib.hid hn
    clear hn
    go_enter Try.func13, Try.ntmps13
    go_wp2_with fail
    rw [← HW.out]
    go_wp2_with fail
    refine HC.out.mono ?_
    rintro e w1 ⟨rfl, b1⟩
    have x0 := (b1.block _ (lt_of_heap HR0.out)).trans HR0.out
    have e0 : w1.cell? ⟨w.heap.size, 0, none⟩ = some (.int .i64 0) := (Lib.cell_of_heap x0 0).trans rfl
    have e1 : w1.cell? ⟨w.heap.size, 1, none⟩ = some (.slice none 0 0) := (Lib.cell_of_heap x0 1).trans rfl
    have e2 : w1.frozen? ⟨w.heap.size, 0, none⟩ = false := Lib.frozen_of_heap x0 0
    have e3 : w1.frozen? ⟨w.heap.size, 1, none⟩ = false := Lib.frozen_of_heap x0 1
    have HRC := Lib.hid (nblk_set (j := 1) (u := .slice none 0 0) (nblk_set (j := 0) (u := .int .i64 0) x0))
    have B1 := Lib.hid (((BW.out.trans (b1.mono BW.out.size)).setCell (p := ⟨w.heap.size, 0, none⟩) (Nat.le_refl _) (.int .i64 0)).setCell (p := ⟨w.heap.size, 1, none⟩) (Nat.le_refl _) (.slice none 0 0))
    clear b1 x0 c0 c1
    go_wp2_with fail
    have z0 := (Lib.cell_of_heap HRC.out 0)
    have z1 := (Lib.cell_of_heap HRC.out 1)
    exact bodyPost_ret (v := .tuple #[chAgg 0 (.slice none 0 0), .int .i64 31]) (by simp [results, Try.results13, go_sem, z0, z1]) rfl ⟨.inl ⟨Hn.out, rfl⟩, B1.out⟩
  · rw [if_neg hn] at HC
    have HC := Lib.hid HC
    have Hn := Lib.hid (show 0 ≤ n ∧ n ≤ 20000 by omega)
    clear hn
    go_enter Try.func13, Try.ntmps13
    go_wp2_with fail
    rw [← HW.out]
    go_wp2_with fail
    refine HC.out.mono ?_
    rintro e w1 ⟨rfl, b1⟩
    have x0 := (b1.block _ (lt_of_heap HR0.out)).trans HR0.out
    have x1 := (b1.block _ (lt_of_heap HR1.out)).trans HR1.out
    have d0 : w1.cell? ⟨w.heap.size + 1, 0, none⟩ = some (.int .i64 n) := (Lib.cell_of_heap x1 0).trans rfl
    have d1 : w1.cell? ⟨w.heap.size + 1, 1, none⟩ = some (.slice none 0 0) := (Lib.cell_of_heap x1 1).trans rfl
    have e0 : w1.cell? ⟨w.heap.size, 0, none⟩ = some (.int .i64 0) := (Lib.cell_of_heap x0 0).trans rfl
    have e1 : w1.cell? ⟨w.heap.size, 1, none⟩ = some (.slice none 0 0) := (Lib.cell_of_heap x0 1).trans rfl
    have e2 : w1.frozen? ⟨w.heap.size, 0, none⟩ = false := Lib.frozen_of_heap x0 0
    have e3 : w1.frozen? ⟨w.heap.size, 1, none⟩ = false := Lib.frozen_of_heap x0 1
    have HRC := Lib.hid (nblk_set (j := 1) (u := .slice none 0 0) (nblk_set (j := 0) (u := .int .i64 n) x0))
    have B1 := Lib.hid (((BW.out.trans (b1.mono BW.out.size)).setCell (p := ⟨w.heap.size, 0, none⟩) (Nat.le_refl _) (.int .i64 n)).setCell (p := ⟨w.heap.size, 1, none⟩) (Nat.le_refl _) (.slice none 0 0))
    clear b1 x0 x1 c0 c1
    go_wp2_with fail
    have z0 := (Lib.cell_of_heap HRC.out 0)
    have z1 := (Lib.cell_of_heap HRC.out 1)
    exact bodyPost_ret (v := .tuple #[chAgg n (.slice none 0 0), .int .i64 0]) (by simp [results, Try.results13, go_sem, z0, z1]) rfl ⟨.inr ⟨Hn.out, rfl⟩, B1.out⟩

end Go.Proofs.Ytacgkbdldbppjaa

/- The law's own Keep, Put, Cut. -/
namespace Go.Proofs.Ytacgkbdldbppjaa
open Go.RowKit Ch

def OutV (w : World) (v : Value) (e : Ending) (w' : World) : Prop := e = .returned v ∧ Below w.heap.size w w'
set_option maxRecDepth 100000 in
set_option maxHeartbeats 1000000 in
theorem lawKeep_any (n : Int) (w : World) : Calls Try.prog 20 #[.int .i64 n, .slice none 0 0] w (OutV w (opAgg ⟨1, n, ⟨#[]⟩, []⟩ (.slice none 0 0))) := by
  go_enter Try.func20, Try.ntmps20
  go_wp2_with fail
  exact bodyPost_ret (v := opAgg ⟨1, n, ⟨#[]⟩, []⟩ (.slice none 0 0)) (by simp [results, Try.results20, go_sem]) rfl ⟨rfl, below_box _ _⟩
set_option maxRecDepth 100000 in
set_option maxHeartbeats 1000000 in
theorem lawCut_any (n : Int) (w : World) : Calls Try.prog 21 #[.int .i64 n] w (OutV w (opAgg ⟨3, n, ⟨#[]⟩, []⟩ (.slice none 0 0))) := by
  go_enter Try.func21, Try.ntmps21
  go_wp2_with fail
  exact bodyPost_ret (v := opAgg ⟨3, n, ⟨#[]⟩, []⟩ (.slice none 0 0)) (by simp [results, Try.results21, go_sem]) rfl ⟨rfl, below_box _ _⟩
set_option maxRecDepth 100000 in
set_option maxHeartbeats 1000000 in
theorem lawPut_any (s : ByteArray) (w : World) : Calls Try.prog 22 #[.string s, .slice none 0 0] w (OutV w (opAgg ⟨2, 0, s, []⟩ (.slice none 0 0))) := by
  go_enter Try.func22, Try.ntmps22
  go_wp2_with fail
  exact bodyPost_ret (v := opAgg ⟨2, 0, s, []⟩ (.slice none 0 0)) (by simp [results, Try.results22, go_sem]) rfl ⟨rfl, below_box _ _⟩

theorem opRow_new (w : World) (ps : List (OpD × Value)) (h : ∀ p ∈ ps, p.1.attrs = [] ∧ p.2 = .slice none 0 0) (hm : ps.length ≤ maxLen) :
    OpRow (w.alloc (.cells (flatO ps).toArray 40)) (.slice (some ⟨w.heap.size, 0, none⟩) ps.length ps.length) (ps.map (·.1)) := by
  refine OwnP.row (B := w.heap.size) ⟨⟨flatO_len ps, .inr ⟨w.heap.size, ps.length, (flatO ps).toArray, rfl, Nat.le_refl _, heap_new _ _, Nat.le_refl _, hm, by simp [flatO_len], ?_⟩⟩, fun p hp => ?_⟩
  · rw [List.take_of_length_le (by simp [flatO_len])]
  · obtain ⟨h1, h2⟩ := h p hp
    rw [h1, h2]
    exact World.ownsRow_nil _ _ _ _
end Go.Proofs.Ytacgkbdldbppjaa

/- The program's Is; with it the law's own operations, Nothing. -/
namespace Go.Proofs.Ytacgkbdldbppjaa
open Go.RowKit Ch

set_option maxRecDepth 100000 in
set_option maxHeartbeats 2000000 in
theorem is_any (f : Int) (v : Value) (ops : List OpD) (w : World) (hv : OpRow w v ops) (hz : OSized ops) :
    Calls Try.prog 9 #[chAgg f v] w (OutB w (isB f ops)) := by
  have Hv := Lib.hid hv
  obtain ⟨a, c, rfl⟩ := hv.shape
  obtain ⟨W, hW⟩ : ∃ W, W = w.alloc (.cells #[.int .i64 f, .slice a ops.length c] 24) := ⟨_, rfl⟩
  have BW := Lib.hid (show Below w.heap.size w W by rw [hW]; exact below_box _ _)
  have b0 : W.heap[w.heap.size]? = some (.cells #[.int .i64 f, .slice a ops.length c] 24 (0, 0)) := by rw [hW]; exact heap_new _ _
  have c0 : W.cell? ⟨w.heap.size, 0, none⟩ = some (.int .i64 f) := (Lib.cell_of_heap b0 0).trans rfl
  have c1 : W.cell? ⟨w.heap.size, 1, none⟩ = some (.slice a ops.length c) := (Lib.cell_of_heap b0 1).trans rfl
  have HW := Lib.hid hW
  have HB0 := Lib.hid b0
  by_cases he : toE f ops = 0
  · have HC := Lib.hid (normal_ok f _ ops W (Hv.out.below BW.out) hz he)
    have HR := Lib.hid (show isB f ops = sameCh f f ops (norm ops) by unfold isB sameCh; simp [he])
    clear hv hz hW b0 he
    go_enter Try.func9, Try.ntmps9
    go_wp2_with fail
    rw [← HW.out]
    go_wp2_with fail
    refine HC.out.mono ?_
    rintro e w1 ⟨v1, rfl, O1, b1⟩
    obtain ⟨a1, k1, rfl⟩ := O1.row.shape
    have x0 := (b1.block _ (lt_of_heap HB0.out)).trans HB0.out
    have d0 : w1.cell? ⟨w.heap.size, 0, none⟩ = some (.int .i64 f) := (Lib.cell_of_heap x0 0).trans rfl
    have d1 : w1.cell? ⟨w.heap.size, 1, none⟩ = some (.slice a ops.length c) := (Lib.cell_of_heap x0 1).trans rfl
    have hlt : w.heap.size < w1.heap.size := lt_of_heap x0
    have B1 := Lib.hid (BW.out.trans (b1.mono BW.out.size))
    obtain ⟨X, hX⟩ : ∃ X, X = w1.alloc (.cells #[.int .i64 f, .slice a1 (norm ops).length k1] 24) := ⟨_, rfl⟩
    have BX := Lib.hid (show Below w1.heap.size w1 X by rw [hX]; exact below_box _ _)
    have HX := Lib.hid hX
    have y0 : X.cell? ⟨w1.heap.size, 0, none⟩ = some (.int .i64 f) := by rw [hX]; go_simp
    have y1 : X.cell? ⟨w1.heap.size, 1, none⟩ = some (.slice a1 (norm ops).length k1) := by rw [hX]; go_simp
    have y2 := (BX.out.cell (p := ⟨w.heap.size, 0, none⟩) (by exact hlt)).trans d0
    have y3 := (BX.out.cell (p := ⟨w.heap.size, 1, none⟩) (by exact hlt)).trans d1
    have HS := Lib.hid (changeSame_any f f (.slice a ops.length c) (.slice a1 (norm ops).length k1) ops (norm ops) X ((Hv.out.below B1.out).below (BX.out)) (O1.row.below BX.out))
    clear O1 b1 x0 c0 c1 hX
    go_wp2_with fail
    rw [← HX.out]
    go_wp2_with fail
    refine HS.out.mono ?_
    rintro e w2 ⟨rfl, b2⟩
    have B2 := Lib.hid (B1.out.trans ((BX.out.trans (b2.mono BX.out.size)).mono B1.out.size))
    clear b2
    go_wp2_with fail
    go_ret
    exact outB_mk HR.out B2.out
  · have HC := Lib.hid (normal_bad f _ ops W (Hv.out.below BW.out) hz he)
    have HR := Lib.hid (show isB f ops = false from decide_eq_false fun h => he h.1)
    have t1 : (toE f ops == 0) = false := by rw [beq_eq_false_iff_ne]; exact he
    clear hv hz hW b0 he
    go_enter Try.func9, Try.ntmps9
    go_wp2_with fail
    rw [← HW.out]
    go_wp2_with fail
    refine HC.out.mono ?_
    rintro e w1 ⟨rfl, b1⟩
    have B1 := Lib.hid (BW.out.trans (b1.mono BW.out.size))
    clear b1 c0 c1
    go_wp2_with fail
    go_ret
    exact outB_mk HR.out (B1.out.alloc B1.out.size _)

end Go.Proofs.Ytacgkbdldbppjaa

/- The law's own awake: the document's examples. -/
namespace Go.Proofs.Ytacgkbdldbppjaa
open Go.RowKit Ch

abbrev bareO (k n : Int) : OpD := ⟨k, n, ⟨#[]⟩, []⟩
abbrev xText : ByteArray := ⟨#[120]⟩
abbrev nilV : Value := .slice none 0 0
def exOps : List OpD := [bareO 1 1, bareO 1 1, bareO 3 1, ⟨2, 0, xText, []⟩, bareO 3 1, bareO 1 1]
def exNorm : List OpD := [bareO 1 2, ⟨2, 0, xText, []⟩, bareO 3 2]
theorem ex_to : toE 5 exOps = 0 ∧ toN 5 exOps = 4 := by decide +kernel
theorem ex_norm : norm exOps = exNorm := by decide +kernel
theorem ex_is : isB 5 exNorm = true := by decide +kernel
theorem ex_six : toE 5 [bareO 1 6] = 31 := by decide +kernel
theorem ex_sized : OSized exOps := fun o ho => by
  simp only [exOps, List.mem_cons, List.not_mem_nil, or_false] at ho
  rcases ho with rfl | rfl | rfl | rfl | rfl | rfl <;> exact ⟨by decide, fun x hx => by cases hx⟩
theorem exN_sized : OSized exNorm := fun o ho => by
  simp only [exNorm, List.mem_cons, List.not_mem_nil, or_false] at ho
  rcases ho with rfl | rfl | rfl <;> exact ⟨by decide, fun x hx => by cases hx⟩
theorem six_sized : OSized [bareO 1 6] := fun o ho => by
  rw [List.mem_singleton.1 ho]
  exact ⟨by decide, fun x hx => by cases hx⟩
abbrev exPs : List (OpD × Value) := [(bareO 1 1, nilV), (bareO 1 1, nilV), (bareO 3 1, nilV), (⟨2, 0, xText, []⟩, nilV), (bareO 3 1, nilV), (bareO 1 1, nilV)]
theorem exRow (w : World) : OpRow (w.alloc (.cells #[.int .i64 1, .int .i64 1, .string ⟨#[]⟩, .slice none 0 0, .int .i64 1, .int .i64 1, .string ⟨#[]⟩, .slice none 0 0, .int .i64 3, .int .i64 1, .string ⟨#[]⟩, .slice none 0 0, .int .i64 2, .int .i64 0, .string ⟨#[120]⟩, .slice none 0 0, .int .i64 3, .int .i64 1, .string ⟨#[]⟩, .slice none 0 0, .int .i64 1, .int .i64 1, .string ⟨#[]⟩, .slice none 0 0] 40)) (.slice (some ⟨w.heap.size, 0, none⟩) 6 6) exOps :=
  opRow_new w exPs (fun p hp => by
    simp only [exPs, List.mem_cons, List.not_mem_nil, or_false] at hp
    rcases hp with rfl | rfl | rfl | rfl | rfl | rfl <;> exact ⟨rfl, rfl⟩) (by decide)
theorem sixRow (w : World) : OpRow (w.alloc (.cells #[.int .i64 1, .int .i64 6, .string ⟨#[]⟩, .slice none 0 0] 40)) (.slice (some ⟨w.heap.size, 0, none⟩) 1 1) [bareO 1 6] :=
  opRow_new w [(bareO 1 6, nilV)] (fun p hp => by rw [List.mem_singleton.1 hp]; exact ⟨rfl, rfl⟩) (by decide)

set_option maxRecDepth 100000 in
set_option maxHeartbeats 4000000 in
theorem awake_any (w : World) : Calls Try.prog 5 #[] w (OutB w true) := by
  go_enter Try.func5, Try.ntmps5
  have B0 := Lib.hid (Below.refl w.heap.size w)
  go_wp2_with fail
  refine (lawKeep_any 1 _).mono ?_
  rintro e w1 ⟨rfl, b⟩
  have B1 := Lib.hid (B0.out.trans (b.mono B0.out.size))
  clear b
  go_wp2_with fail
  refine (lawKeep_any 1 _).mono ?_
  rintro e w2 ⟨rfl, b⟩
  have B2 := Lib.hid (B1.out.trans (b.mono B1.out.size))
  clear b
  go_wp2_with fail
  refine (lawCut_any 1 _).mono ?_
  rintro e w3 ⟨rfl, b⟩
  have B3 := Lib.hid (B2.out.trans (b.mono B2.out.size))
  clear b
  go_wp2_with fail
  refine (lawPut_any ⟨#[120]⟩ _).mono ?_
  rintro e w4 ⟨rfl, b⟩
  have B4 := Lib.hid (B3.out.trans (b.mono B3.out.size))
  clear b
  go_wp2_with fail
  refine (lawCut_any 1 _).mono ?_
  rintro e w5 ⟨rfl, b⟩
  have B5 := Lib.hid (B4.out.trans (b.mono B4.out.size))
  clear b
  go_wp2_with fail
  refine (lawKeep_any 1 _).mono ?_
  rintro e w6 ⟨rfl, b⟩
  have B6 := Lib.hid (B5.out.trans (b.mono B5.out.size))
  clear b B0 B1 B2 B3 B4 B5
  go_wp2_with fail
  obtain ⟨X, hX⟩ : ∃ X, X = (w6.alloc (.cells #[.int .i64 1, .int .i64 1, .string ⟨#[]⟩, .slice none 0 0, .int .i64 1, .int .i64 1, .string ⟨#[]⟩, .slice none 0 0, .int .i64 3, .int .i64 1, .string ⟨#[]⟩, .slice none 0 0, .int .i64 2, .int .i64 0, .string ⟨#[120]⟩, .slice none 0 0, .int .i64 3, .int .i64 1, .string ⟨#[]⟩, .slice none 0 0, .int .i64 1, .int .i64 1, .string ⟨#[]⟩, .slice none 0 0] 40)).alloc (.cells #[.int .i64 5, .slice (some ⟨w6.heap.size, 0, none⟩) 6 6] 24) := ⟨_, rfl⟩
  rw [← hX]
  have RX : OpRow X (.slice (some ⟨w6.heap.size, 0, none⟩) 6 6) exOps := by rw [hX]; exact (exRow w6).below (below_box _ _)
  have BX := Lib.hid (show Below w.heap.size w X by rw [hX]; exact (B6.out.alloc B6.out.size _).alloc (by have := B6.out.size; simp; omega) _)
  have xX : X.heap[w6.heap.size + 1]? = some (.cells #[.int .i64 5, .slice (some ⟨w6.heap.size, 0, none⟩) 6 6] 24 (0, 0)) := by
    rw [hX]
    have := heap_new (w6.alloc (.cells #[.int .i64 1, .int .i64 1, .string ⟨#[]⟩, .slice none 0 0, .int .i64 1, .int .i64 1, .string ⟨#[]⟩, .slice none 0 0, .int .i64 3, .int .i64 1, .string ⟨#[]⟩, .slice none 0 0, .int .i64 2, .int .i64 0, .string ⟨#[120]⟩, .slice none 0 0, .int .i64 3, .int .i64 1, .string ⟨#[]⟩, .slice none 0 0, .int .i64 1, .int .i64 1, .string ⟨#[]⟩, .slice none 0 0] 40)) (.cells #[.int .i64 5, .slice (some ⟨w6.heap.size, 0, none⟩) 6 6] 24)
    simpa using this
  have HT : Calls Try.prog 8 #[chAgg 5 (.slice (some ⟨w6.heap.size, 0, none⟩) 6 6)] X fun e w' => e = .returned (.tuple #[.int .i64 4, .int .i64 0]) ∧ Below X.heap.size X w' :=
    (to_any 5 _ exOps X RX ex_sized).mono fun e w' ⟨h1, h2⟩ => ⟨by rw [h1, ex_to.1, ex_to.2], h2⟩
  have HRX := Lib.hid RX
  have HxX := Lib.hid xX
  clear hX RX xX B6
  refine HT.mono ?_
  rintro e w7 ⟨rfl, b⟩
  have x7 := (b.block _ (lt_of_heap HxX.out)).trans HxX.out
  have c0 : w7.cell? ⟨w6.heap.size + 1, 0, none⟩ = some (.int .i64 5) := (Lib.cell_of_heap x7 0).trans rfl
  have c1 : w7.cell? ⟨w6.heap.size + 1, 1, none⟩ = some (.slice (some ⟨w6.heap.size, 0, none⟩) 6 6) := (Lib.cell_of_heap x7 1).trans rfl
  have B7 := Lib.hid (BX.out.trans (b.mono BX.out.size))
  have HN := normal_ok 5 _ exOps w7 (HRX.out.below b) ex_sized ex_to.1
  rw [ex_norm] at HN
  have HN := Lib.hid HN
  clear b x7 HT
  go_wp2_with fail
  refine HN.out.mono ?_
  rintro e w8 ⟨v8, rfl, O8, b⟩
  obtain ⟨ps, hps, hP⟩ := id O8
  obtain ⟨g, cap, hv⟩ := ownsRow_open hP.1 (by have := congrArg List.length hps; simp [exNorm] at this; omega)
  have hl3 : ps.length = 3 := by have := congrArg List.length hps; simpa [exNorm] using this
  rw [hl3] at hv
  subst hv
  obtain ⟨p0, p1, p2, rfl⟩ : ∃ p0 p1 p2, ps = [p0, p1, p2] := by
    match ps, hl3 with
    | [p0, p1, p2], _ => exact ⟨p0, p1, p2, rfl⟩
  simp only [List.map_cons, List.map_nil, exNorm, List.cons.injEq, and_true] at hps
  obtain ⟨e0, e1, e2⟩ := hps
  have gh := (own_heap hP.1).2
  have g1 : w8.cell? ⟨g, 6, none⟩ = some (.string ⟨#[120]⟩) := by
    have := hP.1.cellAt 6 (by decide)
    rw [this]
    show some (Value.string p1.1.text) = _
    rw [e1]
  have g2 : w8.cell? ⟨g, 9, none⟩ = some (.int .i64 2) := by
    have := hP.1.cellAt 9 (by decide)
    rw [this]
    show some (Value.int .i64 p2.1.n) = _
    rw [e2]
  have hg8 : g < w8.heap.size := by obtain ⟨cs, hcs⟩ := gh; exact lt_of_heap hcs
  obtain ⟨Y, hY⟩ : ∃ Y, Y = w8.alloc (.cells #[.int .i64 5, .slice (some ⟨g, 0, none⟩) 3 cap] 24) := ⟨_, rfl⟩
  have BY := Lib.hid (show Below w8.heap.size w8 Y by rw [hY]; exact below_box _ _)
  have xY : Y.heap[w8.heap.size]? = some (.cells #[.int .i64 5, .slice (some ⟨g, 0, none⟩) 3 cap] 24 (0, 0)) := by rw [hY]; exact heap_new _ _
  have y0 : Y.cell? ⟨w8.heap.size, 0, none⟩ = some (.int .i64 5) := (Lib.cell_of_heap xY 0).trans rfl
  have y1 : Y.cell? ⟨w8.heap.size, 1, none⟩ = some (.slice (some ⟨g, 0, none⟩) 3 cap) := (Lib.cell_of_heap xY 1).trans rfl
  have HI := is_any 5 _ exNorm Y (O8.row.below BY.out) exN_sized
  rw [ex_is] at HI
  have HI := Lib.hid HI
  have B8 := Lib.hid ((B7.out.trans (b.mono B7.out.size)).trans (BY.out.mono (Nat.le_trans B7.out.size b.size)))
  have HG := Lib.hid (And.intro ((BY.out.cell (p := ⟨g, 6, none⟩) (by exact hg8)).trans g1) ((BY.out.cell (p := ⟨g, 9, none⟩) (by exact hg8)).trans g2))
  have hgY : g < Y.heap.size := Nat.lt_of_lt_of_le hg8 BY.out.size
  have HXY := Lib.hid xY
  have HY := Lib.hid hY
  clear O8 b hP e0 e1 e2 gh g1 g2 hY xY c0 c1
  go_wp2_with fail
  rw [← HY.out]
  go_wp2_with fail
  refine HI.out.mono ?_
  rintro e w9 ⟨rfl, b⟩
  have x9 := (b.block _ (lt_of_heap HXY.out)).trans HXY.out
  have z1 : w9.cell? ⟨w8.heap.size, 1, none⟩ = some (.slice (some ⟨g, 0, none⟩) 3 cap) := (Lib.cell_of_heap x9 1).trans rfl
  have g1 : w9.cell? ⟨g, 6, none⟩ = some (.string ⟨#[120]⟩) := (b.cell (by exact hgY)).trans HG.out.1
  have g2 : w9.cell? ⟨g, 9, none⟩ = some (.int .i64 2) := (b.cell (by exact hgY)).trans HG.out.2
  have B9 := Lib.hid (B8.out.trans (b.mono B8.out.size))
  clear b x9 y0 y1
  go_wp2_with fail
  refine (lawKeep_any 6 _).mono ?_
  rintro e w10 ⟨rfl, b⟩
  have B10 := Lib.hid (B9.out.trans (b.mono B9.out.size))
  clear b
  go_wp2_with fail
  have HR : Calls Try.prog 7 #[chAgg 5 (.slice (some ⟨w10.heap.size, 0, none⟩) 1 1)] (w10.alloc (.cells #[.int .i64 1, .int .i64 6, .string ⟨#[]⟩, .slice none 0 0] 40)) fun e w' => e = .returned (.int .i64 31) ∧ Below w10.heap.size w10 w' :=
    (changeRight_any 5 _ [bareO 1 6] _ (sixRow w10) six_sized).mono fun e w' ⟨h1, h2⟩ => ⟨by rw [h1, ex_six], (below_box _ _).trans (h2.mono (by simp))⟩
  refine HR.mono ?_
  rintro e w11 ⟨rfl, b⟩
  have B11 := Lib.hid (B10.out.trans (b.mono B10.out.size))
  clear b HR
  go_wp2_with fail
  go_ret
  exact ⟨rfl, B11.out⟩
end Go.Proofs.Ytacgkbdldbppjaa

/- The document's Normal on the way, in memory: its groups, its keeps. -/
namespace Go.Proofs.Ytacgkbdldbppjaa
open Go.RowKit Ch

theorem Apart.symm {u v : Value} (h : Apart u v) : Apart v u := fun j hv hu => h j hu hv
theorem apart_nil (v : Value) : Apart v (.slice none 0 0) := fun j _ h => by simp [Value.ownBlock] at h
def grpCells (G : Grp) : List Value := [G.v, .int .i64 G.g]
def flatG (gs : List Grp) : List Value := gs.flatMap grpCells
theorem flatG_len (gs : List Grp) : (flatG gs).length = gs.length * 2 := by
  induction gs with
  | nil => rfl
  | cons x r ih => simp [flatG, grpCells] at ih ⊢; omega
theorem flatG_snoc (gs : List Grp) (G : Grp) : flatG (gs ++ [G]) = flatG gs ++ grpCells G := by simp [flatG]
theorem flatG_at {gs : List Grp} {i : Nat} (h : i < gs.length) (j : Nat) (hj : j < 2) : (flatG gs)[i * 2 + j]? = (grpCells gs[i])[j]? := by
  induction gs generalizing i with
  | nil => simp at h
  | cons x r ih =>
    have e : flatG (x :: r) = grpCells x ++ flatG r := rfl
    have hx : (grpCells x).length = 2 := rfl
    rw [e]
    cases i with
    | zero => rw [List.getElem?_append_left (by omega)]; simp
    | succ i =>
      rw [List.getElem?_append_right (by omega), hx]
      have e2 : (i + 1) * 2 + j - 2 = i * 2 + j := by omega
      rw [e2, ih (by simpa using h)]
      rfl
theorem infoGrp : (Try.prog.info? 61).map (fun i => (i.zero, i.size, i.bytes)) = some (some (.agg #[.slice none 0 0, .int .i64 0]), 2, 32) := by kernel_rfl

structure RSt (w : World) (B : Nat) (gv kv : Value) (gs : List Grp) (ks : List PA) : Prop where
  gr : w.ownsRow B 61 2 gv gs.length (flatG gs)
  kr : OwnP w B kv ks
  gi : ∀ G ∈ gs, OwnP w B G.v G.l
  ap : ∀ G ∈ gs, Apart kv G.v
  pw : gs.Pairwise fun a b => Apart a.v b.v
theorem RSt.keep {w w' : World} {B C : Nat} {ts : List TypeId} {gv kv : Value} {gs : List Grp} {ks : List PA} (h : RSt w B gv kv gs ks) (hk : Keep C ts w w') (h1 : 40 ∉ ts) (h2 : 67 ∉ ts) (h3 : 61 ∉ ts) : RSt w' B gv kv gs ks :=
  ⟨hk.own h.gr h3, h.kr.keep hk h1 h2, fun G hG => (h.gi G hG).keep hk h1 h2, h.ap, h.pw⟩
theorem RSt.below {w w' : World} {B : Nat} {gv kv : Value} {gs : List Grp} {ks : List PA} (h : RSt w B gv kv gs ks) (hb : Below w.heap.size w w') : RSt w' B gv kv gs ks :=
  h.keep (keep_below (ts := []) hb (Nat.le_refl _)) (by simp) (by simp) (by simp)
theorem pw_snoc {gs : List Grp} {G : Grp} : ((gs ++ [G]).Pairwise fun a b => Apart a.v b.v) ↔ (gs.Pairwise fun a b => Apart a.v b.v) ∧ ∀ x ∈ gs, Apart x.v G.v := by
  rw [List.pairwise_append]
  simp
/-- The last group: where it lies. -/
theorem RSt.last {w : World} {B : Nat} {gv kv : Value} {gs : List Grp} {G : Grp} {ks : List PA} (h : RSt w B gv kv (gs ++ [G]) ks) :
    ∃ gb gc cs, gv = .slice (some ⟨gb, 0, none⟩) (gs.length + 1) gc ∧ B ≤ gb ∧ w.heap[gb]? = some (.cells cs 61 (0, 0)) ∧ cs[gs.length * 2]? = some G.v ∧ cs[gs.length * 2 + 1]? = some (.int .i64 G.g) := by
  have h0 := h.gr
  rw [List.length_append, List.length_singleton] at h0
  obtain ⟨gb, gc, rfl⟩ := ownsRow_open h0 (Nat.succ_pos _)
  obtain ⟨hB, cs, hcs⟩ := own_heap h0
  have e : ∀ j, j < 2 → cs[gs.length * 2 + j]? = (grpCells G)[j]? := fun j hj => by
    have := h0.cellAt (gs.length * 2 + j) (by omega)
    rw [Lib.cell_of_heap hcs] at this
    rw [this, flatG_snoc, List.getElem?_append_right (by rw [flatG_len]; omega), flatG_len]
    congr 1
    omega
  exact ⟨gb, gc, cs, rfl, hB, hcs, e 0 (by omega), e 1 (by omega)⟩
theorem RSt.lastRow {w : World} {B gb gc : Nat} {kv : Value} {gs : List Grp} {G : Grp} {ks : List PA} (h : RSt w B (.slice (some ⟨gb, 0, none⟩) (gs.length + 1) gc) kv (gs ++ [G]) ks) :
    w.ownsRow B 61 2 (.slice (some ⟨gb, 0, none⟩) (gs.length + 1) gc) (gs.length + 1) (flatG gs ++ grpCells G) := by
  have h0 := h.gr
  rwa [List.length_append, List.length_singleton, flatG_snoc] at h0
theorem grp_set {w : World} {B gb gc : Nat} {gs : List Grp} {G H : Grp} (h : w.ownsRow B 61 2 (.slice (some ⟨gb, 0, none⟩) (gs.length + 1) gc) (gs.length + 1) (flatG gs ++ grpCells G)) (j : Nat) (u : Value) (hq : (grpCells G).set j u = grpCells H) :
    (w.setCell ⟨gb, gs.length * 2 + j, none⟩ u).ownsRow B 61 2 (.slice (some ⟨gb, 0, none⟩) (gs.length + 1) gc) (gs ++ [H]).length (flatG (gs ++ [H])) := by
  have := (h.stored (gs.length * 2 + j) u).1
  have e : (flatG gs ++ grpCells G).set (gs.length * 2 + j) u = flatG (gs ++ [H]) := by
    rw [flatG_snoc, List.set_append_right _ _ (by rw [flatG_len]; omega), flatG_len, ← hq]
    congr 2
    omega
  rw [e] at this
  rw [List.length_append, List.length_singleton]
  exact this
theorem keep_grp {w : World} {B gb gc : Nat} {n : Nat} {xs : List Value} (h : w.ownsRow B 61 2 (.slice (some ⟨gb, 0, none⟩) n gc) n xs) (j : Nat) (u : Value) : Keep B [61] w (w.setCell ⟨gb, j, none⟩ u) :=
  keep_set (own_heap h).2.choose_spec (by simp) (own_heap h).1 ⟨gb, j, none⟩ rfl u
/-- The last group's inserts have changed. -/
theorem RSt.others {w w1 : World} {B C : Nat} {gv kv cv' : Value} {gs : List Grp} {G : Grp} {ks : List PA} (h : RSt w B gv kv (gs ++ [G]) ks) (hk : KeepO C w w1 G.v cv') :
    OwnP w1 B kv ks ∧ Apart kv cv' ∧ (∀ x ∈ gs, OwnP w1 B x.v x.l ∧ Apart x.v cv') := by
  have h1 := h.kr.keepO hk (h.ap G (by simp))
  have h2 := (pw_snoc.1 h.pw).2
  exact ⟨h1.1, h1.2, fun x hx => (h.gi x (by simp [hx])).keepO hk (h2 x hx)⟩
theorem RSt.join {w w1 : World} {B C gb gc : Nat} {kv : Value} {gs : List Grp} {G : Grp} {ks cur' : List PA} (h : RSt w B (.slice (some ⟨gb, 0, none⟩) (gs.length + 1) gc) kv (gs ++ [G]) ks) (hk : KeepO C w w1 G.v G.v) (hP : OwnP w1 B G.v cur') :
    RSt w1 B (.slice (some ⟨gb, 0, none⟩) (gs.length + 1) gc) kv (gs ++ [⟨G.v, cur', G.g⟩]) ks := by
  obtain ⟨h1, _, h3⟩ := h.others hk
  refine ⟨?_, h1, fun x hx => ?_, fun x hx => ?_, pw_snoc.2 ⟨(pw_snoc.1 h.pw).1, fun x hx => (h3 x hx).2⟩⟩
  · have := hk.keep.own h.lastRow (by decide)
    rw [List.length_append, List.length_singleton, flatG_snoc]
    exact this
  · rcases List.mem_append.1 hx with hx | hx
    · exact (h3 x hx).1
    · rw [List.mem_singleton.1 hx]; exact hP
  · rcases List.mem_append.1 hx with hx | hx
    · exact h.ap x (List.mem_append_left _ hx)
    · rw [List.mem_singleton.1 hx]; exact h.ap G (by simp)
theorem RSt.ins {w w1 : World} {B C gb gc : Nat} {kv cv' : Value} {gs : List Grp} {G : Grp} {ks cur' : List PA} (h : RSt w B (.slice (some ⟨gb, 0, none⟩) (gs.length + 1) gc) kv (gs ++ [G]) ks) (hk : KeepO C w w1 G.v cv') (hP : OwnP w1 B cv' cur') :
    RSt (w1.setCell ⟨gb, gs.length * 2, none⟩ cv') B (.slice (some ⟨gb, 0, none⟩) (gs.length + 1) gc) kv (gs ++ [⟨cv', cur', G.g⟩]) ks ∧ Keep B [61] w1 (w1.setCell ⟨gb, gs.length * 2, none⟩ cv') := by
  obtain ⟨h1, h2, h3⟩ := h.others hk
  have hr := hk.keep.own h.lastRow (by decide)
  have kk := keep_grp hr (gs.length * 2) cv'
  refine ⟨⟨grp_set hr 0 cv' rfl, h1.keep kk (by decide) (by decide), fun x hx => ?_, fun x hx => ?_, pw_snoc.2 ⟨(pw_snoc.1 h.pw).1, fun x hx => (h3 x hx).2⟩⟩, kk⟩
  · rcases List.mem_append.1 hx with hx | hx
    · exact (h3 x hx).1.keep kk (by decide) (by decide)
    · rw [List.mem_singleton.1 hx]; exact hP.keep kk (by decide) (by decide)
  · rcases List.mem_append.1 hx with hx | hx
    · exact h.ap x (List.mem_append_left _ hx)
    · rw [List.mem_singleton.1 hx]; exact h2
theorem RSt.del {w : World} {B gb gc : Nat} {kv : Value} {gs : List Grp} {G : Grp} {ks : List PA} (h : RSt w B (.slice (some ⟨gb, 0, none⟩) (gs.length + 1) gc) kv (gs ++ [G]) ks) (g' : Int) :
    RSt (w.setCell ⟨gb, gs.length * 2 + 1, none⟩ (.int .i64 g')) B (.slice (some ⟨gb, 0, none⟩) (gs.length + 1) gc) kv (gs ++ [⟨G.v, G.l, g'⟩]) ks ∧ Keep B [61] w (w.setCell ⟨gb, gs.length * 2 + 1, none⟩ (.int .i64 g')) := by
  have hr := h.lastRow
  have kk := keep_grp hr (gs.length * 2 + 1) (.int .i64 g')
  refine ⟨⟨grp_set hr 1 (.int .i64 g') rfl, h.kr.keep kk (by decide) (by decide), fun x hx => ?_, fun x hx => ?_, pw_snoc.2 ⟨(pw_snoc.1 h.pw).1, (pw_snoc.1 h.pw).2⟩⟩, kk⟩
  · rcases List.mem_append.1 hx with hx | hx
    · exact (h.gi x (List.mem_append_left _ hx)).keep kk (by decide) (by decide)
    · rw [List.mem_singleton.1 hx]; exact (h.gi G (by simp)).keep kk (by decide) (by decide)
  · rcases List.mem_append.1 hx with hx | hx
    · exact h.ap x (List.mem_append_left _ hx)
    · rw [List.mem_singleton.1 hx]; exact h.ap G (by simp)
/-- The keeps have changed. -/
theorem RSt.keeps {w w1 : World} {B C : Nat} {gv kv kv' : Value} {gs : List Grp} {ks ks' : List PA} (h : RSt w B gv kv gs ks) (hk : KeepO C w w1 kv kv') (hP : OwnP w1 B kv' ks') : RSt w1 B gv kv' gs ks' := by
  have h2 : ∀ x ∈ gs, OwnP w1 B x.v x.l ∧ Apart x.v kv' := fun x hx => (h.gi x hx).keepO hk (h.ap x hx).symm
  exact ⟨hk.keep.own h.gr (by decide), hP, fun x hx => (h2 x hx).1, fun x hx => (h2 x hx).2.symm, h.pw⟩
/-- A new group. -/
theorem RSt.more {w w1 : World} {B C : Nat} {gv gv' kv : Value} {gs : List Grp} {ks : List PA} (h : RSt w B gv kv gs ks) (hk : Keep C [61] w w1) (hr : w1.ownsRow B 61 2 gv' (gs.length + 1) (flatG gs ++ [.slice none 0 0, .int .i64 0])) :
    RSt w1 B gv' kv (gs ++ [⟨.slice none 0 0, [], 0⟩]) ks := by
  refine ⟨by rw [List.length_append, List.length_singleton, flatG_snoc]; exact hr, h.kr.keep hk (by decide) (by decide), fun x hx => ?_, fun x hx => ?_, pw_snoc.2 ⟨h.pw, fun x _ => apart_nil _⟩⟩
  · rcases List.mem_append.1 hx with hx | hx
    · exact (h.gi x hx).keep hk (by decide) (by decide)
    · rw [List.mem_singleton.1 hx]; exact ⟨World.ownsRow_nil _ _ _ _, fun _ h => by cases h⟩
  · rcases List.mem_append.1 hx with hx | hx
    · exact h.ap x hx
    · rw [List.mem_singleton.1 hx]; exact apart_nil _

/-- What is put together of the first groups. -/
def part (gs : List Grp) (ks : List PA) : Nat → List PA
  | 0 => []
  | i + 1 => rend (gs.take i) (ks.take i) ++ (match gs[i]? with | some G => G.l ++ dels G.g | none => [])
theorem part_succ {gs : List Grp} {ks : List PA} {i : Nat} (h : i < gs.length) : part gs ks (i + 1) = rend (gs.take i) (ks.take i) ++ (gs[i].l ++ dels gs[i].g) := by
  rw [part, List.getElem?_eq_getElem h]
theorem part_one {gs : List Grp} {ks : List PA} (h : 0 < gs.length) : part gs ks 1 = gs[0].l ++ dels gs[0].g := by
  rw [part_succ h]; simp [rend]
theorem part_step {gs : List Grp} {ks : List PA} {i : Nat} (h : i + 1 < gs.length) (hk : i < ks.length) : part gs ks (i + 2) = (part gs ks (i + 1) ++ [ks[i]]) ++ gs[i + 1].l ++ dels gs[i + 1].g := by
  rw [part_succ h, part_succ (by omega), List.take_succ_eq_append_getElem (show i < gs.length by omega), List.take_succ_eq_append_getElem hk, rend_snoc (by rw [List.length_take, List.length_take]; omega)]
  simp [List.append_assoc]
theorem part_all {init : List Grp} {ks cur : List PA} {g : Int} (cv : Value) (h : init.length = ks.length) : part (init ++ [⟨cv, cur, g⟩]) ks (init.length + 1) = rend init ks ++ (cur ++ dels g) := by
  rw [part_succ (by simp)]
  have e1 : (init ++ [(⟨cv, cur, g⟩ : Grp)]).take init.length = init := by simp
  have e2 : ks.take init.length = ks := by rw [h, List.take_length]
  rw [e1, e2]
  simp
theorem part_le {gs : List Grp} {ks : List PA} (hk : gs.length = ks.length + 1) : ∀ (d i : Nat), i + d ≤ gs.length → (part gs ks i).length ≤ (part gs ks (i + d)).length := by
  intro d
  induction d with
  | zero => intro i _; exact Nat.le_refl _
  | succ d ih =>
    intro i h
    refine Nat.le_trans (ih i (by omega)) ?_
    rw [← Nat.add_assoc]
    cases hi : i + d with
    | zero => simp [part]
    | succ n =>
      rw [part_step (by omega) (by omega)]
      simp only [List.length_append]
      omega
theorem dels_len (g : Int) : (dels g).length ≤ 1 := by unfold dels; split <;> simp

/-- 'append(own, row...)' of operations, as a step of a region that draws. -/
theorem step_app_row {ops : Array Oper} {o : Oper} {a : Act} {w : World} {K : Act → World → Prop} {Q : Exit → Act → World → Prop} {E : Prop}
    (hg : o.guard = none) (s x : Operand) (hop : o.op = Op.call { callee := Callee.builtin Builtin.append, args := #[s, x], argTypes := #[22, 22] })
    (B : Nat) (v : Value) (ps : List PA) (hs : a.eval s = v) (H : OwnP w B v ps) (u : Value) (qs : List PA) (hx : a.eval x = u) (Hu : OwnP w B u qs) (hl : ps.length + qs.length ≤ 100000) (hB : B ≤ w.heap.size)
    (hK : ∀ v' w', OwnP w' B v' (ps ++ qs) → KeepO B w w' v v' → K (a.put o.dst v') w') :
    if Region.wanted o (yielded ops a.tmps) = true then Oper.wp Try.prog o a w K Q else E := by
  obtain ⟨i0, hi, hz0, hz1, hz2⟩ := info_parts infoOp
  rcases Hu.1.2 with ⟨rfl, h0⟩ | ⟨g, cap, cur, rfl, hb, hgh, hr⟩
  · have hq : qs = [] := List.length_eq_zero_iff.1 h0
    subst hq
    have hw : Region.wanted o (yielded ops a.tmps) = true := by simp [Region.wanted, hg]
    rw [if_pos hw]
    have hrun := run_append_owned_none (P := Try.prog) (w := w) B 22 o.type 40 i0 4 Try.underlying22 hi v ps.length (flatO ps) H.1
    unfold Oper.wp
    simp [execOp, hop, resolve, invoke, builtin, hs, hx, hrun, Result.andThen]
    exact hK v w (by rw [List.append_nil]; exact H) (keepO_below (Below.refl _ _) hB v)
  · refine step_append_new hg s x 22 hop 40 i0 (.agg #[.int .i64 0, .int .i64 0, .string ⟨#[]⟩, .slice none 0 0]) 4 56 Try.underlying22 hi hz0 hz1 hz2 rfl (by decide) B v ps.length (flatO ps) hs H.1 ⟨g, 0, none⟩ qs.length cap (flatO qs) hx (flatO_len qs) ?_ (flatO_one fun q hq => own_one (Hu.2 q hq)) (by unfold maxLen; omega) (by omega) hB fun v' w' o1 g1 n1 => ?_
    · intro j y hj
      have := Hu.1.cells (g := g) rfl j y hj
      exact this
    · have kr := keep_row H.1 g1 (ts := [40]) (by simp) hB
      refine hK v' w' ⟨?_, fun y hy => ?_⟩ (keepO_grown H.1 g1 hB n1)
      · have e : flatO (ps ++ qs) = flatO ps ++ flatO qs := by simp [flatO]
        rw [List.length_append, e]
        exact o1
      · rcases List.mem_append.1 hy with hy | hy
        · exact kr.own (H.2 y hy) (by decide)
        · exact kr.own (Hu.2 y hy) (by decide)

/-- While it is put together. -/
structure OSt (w : World) (B ob rb : Nat) (f : Int) (gv kv ov : Value) (gs : List Grp) (ks out : List PA) : Prop where
  box : w.heap[ob]? = some (.cells #[.int .i64 f, ov] 24 (0, 0))
  res : w.heap[rb]? = some (.cells #[.int .i64 0, .slice none 0 0] 24 (0, 0))
  st : RSt w B gv kv gs ks
  own : OwnP w B ov out
  ak : Apart kv ov
  ag : ∀ G ∈ gs, Apart G.v ov
theorem OSt.keep {w w' : World} {B C ob rb : Nat} {f : Int} {gv kv ov : Value} {gs : List Grp} {ks out : List PA} {ts : List TypeId} (h : OSt w B ob rb f gv kv ov gs ks out) (hk : Keep C ts w w') (h1 : 40 ∉ ts) (h2 : 67 ∉ ts) (h3 : 61 ∉ ts) (h4 : 24 ∉ ts) : OSt w' B ob rb f gv kv ov gs ks out :=
  ⟨hk.kept _ _ _ _ h.box h4, hk.kept _ _ _ _ h.res h4, h.st.keep hk h1 h2 h3, h.own.keep hk h1 h2, h.ak, h.ag⟩
theorem OSt.app {w w1 : World} {B C ob rb : Nat} {f : Int} {gv kv ov ov' : Value} {gs : List Grp} {ks out out' : List PA} (h : OSt w B ob rb f gv kv ov gs ks out) (hB : B ≤ ob) (hne : ob ≠ rb) (hk : KeepO C w w1 ov ov') (hP : OwnP w1 B ov' out') :
    OSt (w1.setCell ⟨ob, 1, none⟩ ov') B ob rb f gv kv ov' gs ks out' ∧ Keep B [24] w1 (w1.setCell ⟨ob, 1, none⟩ ov') := by
  have b1 := hk.keep.kept _ _ _ _ h.box (by decide)
  have r1 := hk.keep.kept _ _ _ _ h.res (by decide)
  have kk : Keep B [24] w1 (w1.setCell ⟨ob, 1, none⟩ ov') := keep_set b1 (by simp) hB _ rfl _
  have k2 := h.st.kr.keepO hk h.ak
  have g2 : ∀ G ∈ gs, OwnP w1 B G.v G.l ∧ Apart G.v ov' := fun G hG => (h.st.gi G hG).keepO hk (h.ag G hG)
  refine ⟨⟨nblk_set b1, ?_, ⟨kk.own (hk.keep.own h.st.gr (by decide)) (by decide), k2.1.keep kk (by decide) (by decide), fun G hG => (g2 G hG).1.keep kk (by decide) (by decide), h.st.ap, h.st.pw⟩, hP.keep kk (by decide) (by decide), k2.2, fun G hG => (g2 G hG).2⟩, kk⟩
  rw [Below.heap_setCell _ _ _ _ (show rb ≠ ob from fun e => hne e.symm)]
  exact r1
theorem OSt.cell {w : World} {B ob rb : Nat} {f : Int} {gv kv ov : Value} {gs : List Grp} {ks out : List PA} (h : OSt w B ob rb f gv kv ov gs ks out) : w.cell? ⟨ob, 1, none⟩ = some ov ∧ w.frozen? ⟨ob, 1, none⟩ = false ∧ ob < w.heap.size :=
  ⟨(Lib.cell_of_heap h.box 1).trans rfl, Lib.frozen_of_heap h.box 1, lt_of_heap h.box⟩
/-- Where a keep, a group lie. -/
theorem OwnP.at {w : World} {B : Nat} {v : Value} {ks : List PA} (h : OwnP w B v ks) {i : Nat} (hi : i < ks.length) : ∃ kb kc, v = .slice (some ⟨kb, 0, none⟩) ks.length kc ∧ kb < w.heap.size ∧
    w.cell? ⟨kb, i * 4, none⟩ = some (.int .i64 ks[i].1.kind) ∧ w.cell? ⟨kb, i * 4 + 1, none⟩ = some (.int .i64 ks[i].1.n) ∧ w.cell? ⟨kb, i * 4 + 2, none⟩ = some (.string ks[i].1.text) ∧ w.cell? ⟨kb, i * 4 + 3, none⟩ = some ks[i].2 := by
  obtain ⟨kb, kc, rfl⟩ := ownsRow_open h.1 (by omega)
  obtain ⟨_, cs, hcs⟩ := own_heap h.1
  have e : ∀ j, j < 4 → w.cell? ⟨kb, i * 4 + j, none⟩ = (opCells ks[i])[j]? := fun j hj => by
    rw [h.1.cellAt _ (by omega), flatO_at hi j hj]
  exact ⟨kb, kc, rfl, lt_of_heap hcs, e 0 (by omega), e 1 (by omega), e 2 (by omega), e 3 (by omega)⟩
theorem RSt.at {w : World} {B : Nat} {gv kv : Value} {gs : List Grp} {ks : List PA} (h : RSt w B gv kv gs ks) {i : Nat} (hi : i < gs.length) : ∃ gb gc, gv = .slice (some ⟨gb, 0, none⟩) gs.length gc ∧ gb < w.heap.size ∧
    w.cell? ⟨gb, i * 2, none⟩ = some gs[i].v ∧ w.cell? ⟨gb, i * 2 + 1, none⟩ = some (.int .i64 gs[i].g) := by
  obtain ⟨gb, gc, rfl⟩ := ownsRow_open h.gr (by omega)
  obtain ⟨_, cs, hcs⟩ := own_heap h.gr
  have e : ∀ j, j < 2 → w.cell? ⟨gb, i * 2 + j, none⟩ = (grpCells gs[i])[j]? := fun j hj => by
    rw [h.gr.cellAt _ (by omega), flatG_at hi j hj]
  exact ⟨gb, gc, rfl, lt_of_heap hcs, e 0 (by omega), e 1 (by omega)⟩
end Go.Proofs.Ytacgkbdldbppjaa

/- strings.Builder's WriteString at this dump: the library's contract, laid by hand (the laying command does not find the number of the empty interface, which no body of its closure names). -/
namespace Go.Proofs
open Go.Shelf
def Try.lays166_ren : Go.Shelf.Ren := ⟨fun | 166 => 59 | 240 => 66 | 276 => 68 | n => n, fun | 0 => 0 | 3 => 3 | 4 => 4 | 5 => 5 | 9 => 9 | 20 => 20 | 37 => 50 | 70 => 49 | 72 => 52 | 75 => 80 | 80 => 83 | 164 => 87 | n => n, fun | n => n⟩
theorem Try.lays166 : Go.Proofs.Lays.n166 Try.prog Try.lays166_ren := {
  mixed := by kernel_rfl
  f166 := Try.func59.trans (congrArg some (by kernel_rfl))
  f240 := Try.func66.trans (congrArg some (by kernel_rfl))
  f276 := Try.func68.trans (congrArg some (by kernel_rfl))
  t0 := Try.underlying0
  a0 := Try.isAgg0
  z0 := Try.sizeOf0
  v0 := Try.zeroValue0
  t3 := Try.underlying3
  a3 := Try.isAgg3
  z3 := Try.sizeOf3
  v3 := Try.zeroValue3
  t4 := Try.underlying4
  a4 := Try.isAgg4
  z4 := Try.sizeOf4
  v4 := Try.zeroValue4
  t9 := Try.underlying9
  a9 := Try.isAgg9
  z9 := Try.sizeOf9
  v9 := Try.zeroValue9
  t20 := Try.underlying20
  a20 := Try.isAgg20
  z20 := Try.sizeOf20
  v20 := Try.zeroValue20
  t37 := Try.underlying50
  a37 := Try.isAgg50
  z37 := Try.sizeOf50
  v37 := Try.zeroValue50
  t70 := Try.underlying49
  a70 := Try.isAgg49
  z70 := Try.sizeOf49
  v70 := Try.zeroValue49
  t72 := Try.underlying52
  a72 := Try.isAgg52
  z72 := Try.sizeOf52
  v72 := Try.zeroValue52
  t75 := Try.underlying80
  a75 := Try.isAgg80
  z75 := Try.sizeOf80
  v75 := Try.zeroValue80
  t164 := Try.underlying87
  a164 := Try.isAgg87
  z164 := Try.sizeOf87
  v164 := Try.zeroValue87 }
theorem Try.Builder_Extra_166 : Builder.Extra Try.prog Try.lays166_ren := {
  sizeBuilder := by kernel_rfl
  liesBuilder := by kernel_rfl
  t5 := Try.underlying5
  a5 := Try.isAgg5
  z5 := Try.sizeOf5
  v5 := Try.zeroValue5
  infoByte := by kernel_rfl
  cellsByte := by kernel_rfl
  sizeByte := by kernel_rfl
  neB5 := by decide }
open Go.RowKit in
/-- (*strings.Builder).WriteString: it appends the contents of s; it hands back the length of s and a nil error. -/
theorem Try.Builder_WriteString (B b : Nat) (bs : List Value) (s : ByteArray) (w : World) (h : Lib.IsBuilder 52 5 B b bs w) (hlen : bs.length + s.size ≤ 140737488355328) (hBw : B ≤ w.heap.size) :
    Calls Try.prog 59 #[.pointer (some ⟨b, 0, none⟩), .string s] w fun e w' => e = .returned (.tuple #[.int .i64 s.size, .nilIface]) ∧ (Lib.BuilderAt 52 5 B b (.pointer (some ⟨b, 0, none⟩)) (bs ++ Lib.strCells s) w' ∧ Below B w w') := Any.Builder_WriteString Try.lays166 Try.Builder_Extra_166 B b bs s w h hlen hBw
end Go.Proofs
