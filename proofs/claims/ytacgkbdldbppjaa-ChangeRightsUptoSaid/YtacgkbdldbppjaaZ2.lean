/- Texts of this seat, put together in build order: ChSame, ChSt, RegionB, ChPut, ChPut2, ChPut3, ChAdd, ChEnd, ChLim, ChSize, ChTo, ChNormal, ChClone, AtLent, AtKept. -/
import Derived.Test.YtacgkbdldbppjaaZ1
import Derived.StillTailTactics
import Derived.Test.YtacgkbdldbppjaaProg
import Derived.Deep.RegionHeld3
import Derived.BigRegion
import Derived.OwnWalk
/- Are two operations, two changesets the same: the program's alike and Same. -/
namespace Go.Proofs.Ytacgkbdldbppjaa
open Go.RowKit Ch

instance : DecidableEq OpD := fun x y => decidable_of_iff (x.kind = y.kind ∧ x.n = y.n ∧ x.text = y.text ∧ x.attrs = y.attrs)
  ⟨fun ⟨h1, h2, h3, h4⟩ => by cases x; cases y; simp_all, fun h => by subst h; exact ⟨rfl, rfl, rfl, rfl⟩⟩
def alikeB (x y : OpD) : Bool := decide (x.kind = y.kind ∧ x.attrs = y.attrs)
def sameOp (x y : OpD) : Bool := decide (x = y)
def sameOps (l m : List OpD) : Bool := decide (l = m)
def sameCh (f g : Int) (l m : List OpD) : Bool := decide (f = g ∧ l = m)
theorem sameOps_len {l m : List OpD} (h : l.length ≠ m.length) : sameOps l m = false := decide_eq_false fun e => h (by rw [e])
theorem sameOps_at {l m : List OpD} {n : Nat} (h1 : n < l.length) (h2 : n < m.length) (h : l[n] ≠ m[n]) : sameOps l m = false := decide_eq_false fun e => by
  subst e; exact h rfl
theorem sameOps_all {l m : List OpD} (hl : l.length = m.length) (h : ∀ j (h1 : j < l.length) (h2 : j < m.length), l[j] = m[j]) : sameOps l m = true := decide_eq_true (List.ext_getElem hl h)
theorem alikeB_kind {x y : OpD} (h : x.kind ≠ y.kind) : alikeB x y = false := decide_eq_false fun e => h e.1
theorem alikeB_same {x y : OpD} (h : x.kind = y.kind) : alikeB x y = sameB x.attrs y.attrs := by
  unfold alikeB sameB
  by_cases ha : x.attrs = y.attrs
  · rw [decide_eq_true ha, decide_eq_true ⟨h, ha⟩]
  · rw [decide_eq_false ha, decide_eq_false fun e => ha e.2]

def OutB (w : World) (r : Bool) (e : Ending) (w' : World) : Prop := e = .returned (.bool r) ∧ Below w.heap.size w w'
theorem outB_mk {w w' : World} {r r' : Bool} (h : r = r') (hb : Below w.heap.size w w') : OutB w r (.returned (.bool r')) w' := ⟨by rw [h], hb⟩

set_option maxRecDepth 100000 in
set_option maxHeartbeats 2000000 in
theorem alike_any (x y : OpD) (xv yv : Value) (w : World) (hx : AtRow w xv x.attrs) (hy : AtRow w yv y.attrs) :
    Calls Try.prog 27 #[opAgg x xv, opAgg y yv] w (OutB w (alikeB x y)) := by
  have Hx := Lib.hid hx
  have Hy := Lib.hid hy
  obtain ⟨a, c, rfl⟩ := hx.shape
  obtain ⟨b, d, rfl⟩ := hy.shape
  obtain ⟨W, hW⟩ : ∃ W, W = (w.alloc (.cells #[.int .i64 x.kind, .int .i64 x.n, .string x.text, .slice a x.attrs.length c] 40)).alloc (.cells #[.int .i64 y.kind, .int .i64 y.n, .string y.text, .slice b y.attrs.length d] 40) := ⟨_, rfl⟩
  have BW := Lib.hid (show Below w.heap.size w W by rw [hW]; exact ((Below.refl _ _).alloc (Nat.le_refl _) _).alloc (by simp) _)
  have c0 : W.cell? ⟨w.heap.size, 0, none⟩ = some (.int .i64 x.kind) := by rw [hW]; go_simp
  have c3 : W.cell? ⟨w.heap.size, 3, none⟩ = some (.slice a x.attrs.length c) := by rw [hW]; go_simp
  have d0 : W.cell? ⟨w.heap.size + 1, 0, none⟩ = some (.int .i64 y.kind) := by rw [hW]; go_simp
  have d3 : W.cell? ⟨w.heap.size + 1, 3, none⟩ = some (.slice b y.attrs.length d) := by rw [hW]; go_simp
  have HW := Lib.hid hW
  clear hx hy hW
  by_cases hk : x.kind = y.kind
  · have k1 : (x.kind == y.kind) = true := by rw [beq_iff_eq]; exact hk
    have hR := Lib.hid (alikeB_same hk)
    clear hk
    go_enter Try.func27, Try.ntmps27
    go_wp2_with fail
    rw [← HW.out]
    go_wp2_with fail
    refine (same_any _ _ x.attrs y.attrs _ (Hx.out.below BW.out) (Hy.out.below BW.out)).mono ?_
    rintro e w1 ⟨rfl, k, rfl⟩
    go_wp2_with fail
    go_ret
    exact outB_mk hR.out (below_drewN BW.out _)
  · have k1 : (x.kind == y.kind) = false := by rw [beq_eq_false_iff_ne]; exact hk
    have hR := Lib.hid (alikeB_kind hk)
    clear hk
    go_enter Try.func27, Try.ntmps27
    go_wp2_with fail
    rw [← HW.out]
    go_wp2_with fail
    go_ret
    exact outB_mk hR.out (BW.out)

theorem beq_text {a b : ByteArray} : (a.toList == b.toList) = decide (a = b) := by
  by_cases h : a = b
  · rw [h]; simp
  · rw [decide_eq_false h, beq_eq_false_iff_ne]
    exact fun e => h (toList_ba e)

set_option maxRecDepth 100000 in
set_option maxHeartbeats 2000000 in
theorem same1_any (x y : OpD) (xv yv : Value) (w : World) (hx : AtRow w xv x.attrs) (hy : AtRow w yv y.attrs) :
    Calls Try.prog 26 #[opAgg x xv, opAgg y yv] w (OutB w (sameOp x y)) := by
  have Hx := Lib.hid hx
  have Hy := Lib.hid hy
  obtain ⟨a, c, rfl⟩ := hx.shape
  obtain ⟨b, d, rfl⟩ := hy.shape
  obtain ⟨W, hW⟩ : ∃ W, W = (w.alloc (.cells #[.int .i64 x.kind, .int .i64 x.n, .string x.text, .slice a x.attrs.length c] 40)).alloc (.cells #[.int .i64 y.kind, .int .i64 y.n, .string y.text, .slice b y.attrs.length d] 40) := ⟨_, rfl⟩
  have BW := Lib.hid (show Below w.heap.size w W by rw [hW]; exact ((Below.refl _ _).alloc (Nat.le_refl _) _).alloc (by simp) _)
  have c0 : W.cell? ⟨w.heap.size, 0, none⟩ = some (.int .i64 x.kind) := by rw [hW]; go_simp
  have c1 : W.cell? ⟨w.heap.size, 1, none⟩ = some (.int .i64 x.n) := by rw [hW]; go_simp
  have c2 : W.cell? ⟨w.heap.size, 2, none⟩ = some (.string x.text) := by rw [hW]; go_simp
  have c3 : W.cell? ⟨w.heap.size, 3, none⟩ = some (.slice a x.attrs.length c) := by rw [hW]; go_simp
  have d0 : W.cell? ⟨w.heap.size + 1, 0, none⟩ = some (.int .i64 y.kind) := by rw [hW]; go_simp
  have d1 : W.cell? ⟨w.heap.size + 1, 1, none⟩ = some (.int .i64 y.n) := by rw [hW]; go_simp
  have d2 : W.cell? ⟨w.heap.size + 1, 2, none⟩ = some (.string y.text) := by rw [hW]; go_simp
  have d3 : W.cell? ⟨w.heap.size + 1, 3, none⟩ = some (.slice b y.attrs.length d) := by rw [hW]; go_simp
  have hs : w.heap.size + 1 < W.heap.size := by rw [hW]; simp
  have hs' : w.heap.size < W.heap.size := by omega
  have HW := Lib.hid hW
  have HC := Lib.hid (alike_any x y _ _ W (hx.below BW.out) (hy.below BW.out))
  clear hx hy hW
  cases hal : alikeB x y with
  | false =>
    rw [hal] at HC
    have hR := Lib.hid (show sameOp x y = false from decide_eq_false fun e => by rw [e] at hal; simp [alikeB] at hal)
    clear hal
    go_enter Try.func26, Try.ntmps26
    go_wp2_with fail
    rw [← HW.out]
    go_wp2_with fail
    refine HC.out.mono ?_
    rintro e w1 ⟨rfl, hb⟩
    go_wp2_with fail
    go_ret
    exact outB_mk hR.out (BW.out.trans (hb.mono BW.out.size))
  | true =>
    rw [hal] at HC
    have hal2 := of_decide_eq_true hal
    by_cases hn : x.n = y.n
    · have n1 : (x.n == y.n) = true := by rw [beq_iff_eq]; exact hn
      by_cases ht : x.text = y.text
      · have t1 : (x.text.toList == y.text.toList) = true := by rw [ht]; simp
        have hR := Lib.hid (show sameOp x y = true from decide_eq_true (by cases x; cases y; simp_all))
        clear hal hal2 hn ht
        go_enter Try.func26, Try.ntmps26
        go_wp2_with fail
        rw [← HW.out]
        go_wp2_with fail
        refine HC.out.mono ?_
        rintro e w1 ⟨rfl, hb⟩
        have c1' := (hb.cell (p := ⟨w.heap.size, 1, none⟩) (by exact hs')).trans c1
        have c2' := (hb.cell (p := ⟨w.heap.size, 2, none⟩) (by exact hs')).trans c2
        have d1' := (hb.cell (p := ⟨w.heap.size + 1, 1, none⟩) (by exact hs)).trans d1
        have d2' := (hb.cell (p := ⟨w.heap.size + 1, 2, none⟩) (by exact hs)).trans d2
        have B1 := Lib.hid (BW.out.trans (hb.mono BW.out.size))
        clear hb
        go_wp2_with fail
        go_ret
        exact outB_mk hR.out (B1.out)
      · have t1 : (x.text.toList == y.text.toList) = false := by rw [beq_text]; exact decide_eq_false ht
        have hR := Lib.hid (show sameOp x y = false from decide_eq_false fun e => ht (by rw [e]))
        clear hal hal2 hn ht
        go_enter Try.func26, Try.ntmps26
        go_wp2_with fail
        rw [← HW.out]
        go_wp2_with fail
        refine HC.out.mono ?_
        rintro e w1 ⟨rfl, hb⟩
        have c1' := (hb.cell (p := ⟨w.heap.size, 1, none⟩) (by exact hs')).trans c1
        have c2' := (hb.cell (p := ⟨w.heap.size, 2, none⟩) (by exact hs')).trans c2
        have d1' := (hb.cell (p := ⟨w.heap.size + 1, 1, none⟩) (by exact hs)).trans d1
        have d2' := (hb.cell (p := ⟨w.heap.size + 1, 2, none⟩) (by exact hs)).trans d2
        have B1 := Lib.hid (BW.out.trans (hb.mono BW.out.size))
        clear hb
        go_wp2_with fail
        go_ret
        exact outB_mk hR.out (B1.out)
    · have n1 : (x.n == y.n) = false := by rw [beq_eq_false_iff_ne]; exact hn
      have hR := Lib.hid (show sameOp x y = false from decide_eq_false fun e => hn (by rw [e]))
      clear hal hal2 hn
      go_enter Try.func26, Try.ntmps26
      go_wp2_with fail
      rw [← HW.out]
      go_wp2_with fail
      refine HC.out.mono ?_
      rintro e w1 ⟨rfl, hb⟩
      have c1' := (hb.cell (p := ⟨w.heap.size, 1, none⟩) (by exact hs')).trans c1
      have d1' := (hb.cell (p := ⟨w.heap.size + 1, 1, none⟩) (by exact hs)).trans d1
      have B1 := Lib.hid (BW.out.trans (hb.mono BW.out.size))
      clear hb
      go_wp2_with fail
      go_ret
      exact outB_mk hR.out (B1.out)

set_option maxRecDepth 100000 in
set_option maxHeartbeats 4000000 in
theorem eqFunc_any (v u : Value) (l m : List OpD) (w : World) (hv : OpRow w v l) (hu : OpRow w u m) :
    Calls Try.prog 25 #[v, u, .func (.func 26) #[] #[]] w (OutB w (sameOps l m)) := by
  obtain ⟨a, cap, rfl, h1, h2, h3⟩ := hv
  obtain ⟨a', cap', rfl, h1', h2', h3'⟩ := hu
  have hn : l.length ≤ 9223372036854775807 := Nat.le_trans h1 h2
  have hn' : m.length ≤ 9223372036854775807 := Nat.le_trans h1' h2'
  have H3 := Lib.hid h3
  have H3' := Lib.hid h3'
  clear h1 h2 h3 h1' h2' h3'
  by_cases hlen : l.length = m.length
  · have Hlen := Lib.hid hlen
    have hle2 : ((l.length : Int) == (m.length : Int)) = true := by rw [hlen]; simp
    have hle3 : ((l.length : Int) != (m.length : Int)) = false := by rw [hlen]; simp
    clear hlen
    go_enter Try.func25, Try.ntmps25
    go_wp2_with fail
    go_loopw [17] (fun i wr => ∃ n : Nat, i = .int .i64 (n : Int) ∧ n ≤ l.length ∧ (∀ j (h1 : j < l.length) (h2 : j < m.length), j < n → l[j] = m[j]) ∧ Below w.heap.size w wr) (fun i _ => l.length - (intOf i).toNat)
    case atStart => exact ⟨0, rfl, by omega, fun j _ _ h => by omega, Below.refl _ _⟩
    case round =>
      obtain ⟨n, rfl, hk, hall, hb⟩ := hrel
      have Hall := Lib.hid hall
      have HB := Lib.hid hb
      clear hall
      by_cases hlt : n < l.length
      · have hlt2 : n < m.length := by have := Hlen.out; omega
        have hlt' : (n : Int) < (l.length : Int) := by omega
        have hlt2' : (n : Int) < (m.length : Int) := by omega
        obtain ⟨b, off, rfl, hbl, xv, r0, _, x0, x1, x2, x3⟩ := H3.out n hlt
        obtain ⟨b', off', rfl, hbl', yv, q0, _, y0, y1, y2, y3⟩ := H3'.out n hlt2
        have step : l[n] = m[n] → ∀ j (h1 : j < l.length) (h2 : j < m.length), j < n + 1 → l[j] = m[j] := fun hh j hj1 hj2 hjk => by
          by_cases e : j = n
          · subst e; exact hh
          · exact Hall.out j hj1 hj2 (by omega)
        have Step := Lib.hid step
        have Bad := Lib.hid (sameOps_at hlt hlt2)
        have hab : sameOp l[n] m[n] = decide (l[n] = m[n]) := rfl
        obtain ⟨x, hx⟩ : ∃ x, x = l[n] := ⟨_, rfl⟩
        obtain ⟨y, hy⟩ : ∃ y, y = m[n] := ⟨_, rfl⟩
        rw [← hx] at r0 x0 x1 x2 Step Bad hab
        rw [← hy] at q0 y0 y1 y2 Step Bad hab
        obtain ⟨ar, cr, rfl⟩ := r0.shape
        obtain ⟨at2, cs, rfl⟩ := q0.shape
        have x0' := (hb.cell (p := ⟨b, off + n * 4, none⟩) (by exact hbl)).trans x0
        have x1' := (hb.cell (p := ⟨b, off + n * 4 + 1, none⟩) (by exact hbl)).trans x1
        have x2' := (hb.cell (p := ⟨b, off + n * 4 + 2, none⟩) (by exact hbl)).trans x2
        have x3' := (hb.cell (p := ⟨b, off + n * 4 + 3, none⟩) (by exact hbl)).trans x3
        have y0' := (hb.cell (p := ⟨b', off' + n * 4, none⟩) (by exact hbl')).trans y0
        have y1' := (hb.cell (p := ⟨b', off' + n * 4 + 1, none⟩) (by exact hbl')).trans y1
        have y2' := (hb.cell (p := ⟨b', off' + n * 4 + 2, none⟩) (by exact hbl')).trans y2
        have y3' := (hb.cell (p := ⟨b', off' + n * 4 + 3, none⟩) (by exact hbl')).trans y3
        have g1 := Nat.lt_of_lt_of_le hbl' hb.size
        have hs0 := hb.size
        obtain ⟨X, hX⟩ : ∃ X, X = (wr.alloc (.cells #[.int .i64 x.kind, .int .i64 x.n, .string x.text, .slice ar x.attrs.length cr] 40)).alloc (.cells #[.int .i64 y.kind, .int .i64 y.n, .string y.text, .slice at2 y.attrs.length cs] 40) := ⟨_, rfl⟩
        have BX := Lib.hid (show Below w.heap.size w X by rw [hX]; exact (hb.alloc hs0 _).alloc (by simp; omega) _)
        have e0 : X.cell? ⟨wr.heap.size, 0, none⟩ = some (.int .i64 x.kind) := by rw [hX]; go_simp
        have e1 : X.cell? ⟨wr.heap.size, 1, none⟩ = some (.int .i64 x.n) := by rw [hX]; go_simp
        have e2 : X.cell? ⟨wr.heap.size, 2, none⟩ = some (.string x.text) := by rw [hX]; go_simp
        have e3 : X.cell? ⟨wr.heap.size, 3, none⟩ = some (.slice ar x.attrs.length cr) := by rw [hX]; go_simp
        have f0 : X.cell? ⟨wr.heap.size + 1, 0, none⟩ = some (.int .i64 y.kind) := by rw [hX]; go_simp
        have f1 : X.cell? ⟨wr.heap.size + 1, 1, none⟩ = some (.int .i64 y.n) := by rw [hX]; go_simp
        have f2 : X.cell? ⟨wr.heap.size + 1, 2, none⟩ = some (.string y.text) := by rw [hX]; go_simp
        have f3 : X.cell? ⟨wr.heap.size + 1, 3, none⟩ = some (.slice at2 y.attrs.length cs) := by rw [hX]; go_simp
        have HX := Lib.hid hX
        have HC := Lib.hid (same1_any x y _ _ X (r0.below BX.out) (q0.below BX.out))
        clear hx hy r0 q0 x0 x1 x2 x3 y0 y1 y2 y3 hb hX step Hall
        by_cases hxy : x = y
        · rw [decide_eq_true hxy] at hab
          rw [hab] at HC
          have S := Lib.hid (Step.out hxy)
          clear hab hxy Step Bad
          go_wp2_with fail
          rw [← HX.out]
          go_wp2_with fail
          refine HC.out.mono ?_
          rintro e w2 ⟨rfl, b2⟩
          have B2 := Lib.hid (BX.out.trans (b2.mono BX.out.size))
          clear b2
          go_wp2_with fail
          go_roundw
          case rel => exact ⟨n + 1, by go_num, by omega, S.out, B2.out⟩
          case measure => simp [intOf]; omega
        · rw [decide_eq_false hxy] at hab
          rw [hab] at HC
          have S := Lib.hid (Bad.out hxy)
          clear hab hxy Step Bad
          go_wp2_with fail
          rw [← HX.out]
          go_wp2_with fail
          refine HC.out.mono ?_
          rintro e w2 ⟨rfl, b2⟩
          have B2 := Lib.hid (BX.out.trans (b2.mono BX.out.size))
          clear b2
          go_wp2_with fail
          go_ret
          exact outB_mk S.out (B2.out)
      · have hkn : n = l.length := by omega
        have hs := Lib.hid (sameOps_all Hlen.out fun j h1 h2 => Hall.out j h1 h2 (by omega))
        subst hkn
        clear Hall hb
        go_wp2_with fail
        go_ret
        exact outB_mk hs.out (HB.out)
  · have hs := Lib.hid (sameOps_len hlen)
    have hle2 : ((l.length : Int) == (m.length : Int)) = false := by rw [beq_eq_false_iff_ne]; omega
    have hle3 : ((l.length : Int) != (m.length : Int)) = true := by rw [bne_iff_ne]; omega
    clear hlen
    go_enter Try.func25, Try.ntmps25
    go_wp2_with fail
    go_ret
    exact outB_mk hs.out (Below.refl _ _)

set_option maxRecDepth 100000 in
set_option maxHeartbeats 2000000 in
theorem changeSame_any (f g : Int) (v u : Value) (l m : List OpD) (w : World) (hv : OpRow w v l) (hu : OpRow w u m) :
    Calls Try.prog 10 #[chAgg f v, chAgg g u] w (OutB w (sameCh f g l m)) := by
  have Hv := Lib.hid hv
  have Hu := Lib.hid hu
  obtain ⟨a, c, rfl⟩ := hv.shape
  obtain ⟨b, d, rfl⟩ := hu.shape
  obtain ⟨W, hW⟩ : ∃ W, W = (w.alloc (.cells #[.int .i64 f, .slice a l.length c] 24)).alloc (.cells #[.int .i64 g, .slice b m.length d] 24) := ⟨_, rfl⟩
  have BW := Lib.hid (show Below w.heap.size w W by rw [hW]; exact ((Below.refl _ _).alloc (Nat.le_refl _) _).alloc (by simp) _)
  have c0 : W.cell? ⟨w.heap.size, 0, none⟩ = some (.int .i64 f) := by rw [hW]; go_simp
  have c1 : W.cell? ⟨w.heap.size, 1, none⟩ = some (.slice a l.length c) := by rw [hW]; go_simp
  have d0 : W.cell? ⟨w.heap.size + 1, 0, none⟩ = some (.int .i64 g) := by rw [hW]; go_simp
  have d1 : W.cell? ⟨w.heap.size + 1, 1, none⟩ = some (.slice b m.length d) := by rw [hW]; go_simp
  have HW := Lib.hid hW
  have HC := Lib.hid (eqFunc_any _ _ l m W (hv.below BW.out) (hu.below BW.out))
  clear hv hu hW
  by_cases hf : f = g
  · have k1 : (f == g) = true := by rw [beq_iff_eq]; exact hf
    have hR := Lib.hid (show sameCh f g l m = sameOps l m by unfold sameCh sameOps; simp [hf])
    clear hf
    go_enter Try.func10, Try.ntmps10
    go_wp2_with fail
    rw [← HW.out]
    go_wp2_with fail
    refine HC.out.mono ?_
    rintro e w1 ⟨rfl, hb⟩
    go_wp2_with fail
    go_ret
    exact outB_mk hR.out (BW.out.trans (hb.mono BW.out.size))
  · have k1 : (f == g) = false := by rw [beq_eq_false_iff_ne]; exact hf
    have hR := Lib.hid (show sameCh f g l m = false from decide_eq_false fun e => hf e.1)
    clear hf
    go_enter Try.func10, Try.ntmps10
    go_wp2_with fail
    rw [← HW.out]
    go_wp2_with fail
    go_ret
    exact outB_mk hR.out (BW.out)
end Go.Proofs.Ytacgkbdldbppjaa

/- The program's normal on the way, in memory; its finish. -/
namespace Go.Proofs.Ytacgkbdldbppjaa
open Go.RowKit Ch

theorem run_append_new {P : Program} (w : World) (base : Nat) (t ty e : TypeId) (i : TypeInfo) (z : Value) (size bytes : Nat) (ht : P.underlying t = some (.slice e)) (hi : P.info? e = some i) (hz : i.zero = some z)
    (hsize : i.size = size) (hby : i.bytes = bytes) (hzs : z.cells.size = size) (hsz : 0 < size)
    (v : Value) (n : Nat) (xs : List Value) (hown : w.ownsRow base e size v n xs)
    (a : Addr) (m c : Nat) (news : List Value) (hl : news.length = m * size) (hnews : ∀ j u, news[j]? = some u → w.cell? (a.add j) = some u) (h1 : ∀ u ∈ news, u.oneCell' = true)
    (h63 : n + m ≤ maxLen) (hbytes : (n + m) * bytes ≤ 140737488355328) (hbase : base ≤ w.heap.size) :
    ∃ v' w', (Builtin.append_ #[t, t] ty #[v, .slice (some a) m c]).run P w = .ok v' w' ∧ w'.ownsRow base e size v' (n + m) (xs ++ news) ∧ w.grownBy w' v.ownBlock ∧
      ∀ j, j < w.heap.size → v.ownBlock ≠ some j → v'.ownBlock ≠ some j := by
  obtain ⟨v', w', hrun, h2, h3, _⟩ := run_append_own (P := P) w base t ty e i z size bytes ht hi hz hsize hby hzs hsz v n xs hown a m c news hl hnews h1 h63 hbytes hbase
  refine ⟨v', w', hrun, h2, h3, fun j hj hne => ?_⟩
  rcases hown.2 with ⟨rfl, rfl⟩ | ⟨g, cap, cur, rfl, hb, hg, hn, hm, hc, ht2⟩
  · have hx : xs = [] := List.length_eq_zero_iff.1 (by rw [hown.1]; simp)
    subst hx
    obtain ⟨v2, w2, hrun2, k2, k3, _⟩ := run_append_own (P := P) w w.heap.size t ty e i z size bytes ht hi hz hsize hby hzs hsz (.slice none 0 0) 0 [] (World.ownsRow_nil w _ e size) a m c news hl hnews h1 h63 hbytes (Nat.le_refl _)
    rw [hrun] at hrun2
    simp only [Result.ok.injEq] at hrun2
    obtain ⟨rfl, rfl⟩ := hrun2
    intro hv
    have := (k2.lt j hv).1
    omega
  · by_cases hroom : n + m ≤ cap
    · have hrr := run_append_room_cells (P := P) w t ty e i ht hi g 0 n cap a m c news (by rw [hsize]; exact hl) hnews h1 hroom
        (fun k hk => by
          have hk2 : n * i.size + k < cur.size := by
            rw [hc, hsize]
            have : n * size + m * size ≤ cap * size := by rw [← Nat.add_mul]; exact Nat.mul_le_mul_right _ hroom
            omega
          simp [World.cell?, hg, Array.getElem?_eq_getElem hk2])
        (fun k hk => by simp [World.frozen?, hg])
      rw [hrun] at hrr
      simp only [Result.ok.injEq] at hrr
      obtain ⟨rfl, _⟩ := hrr
      exact hne
    · obtain ⟨v2, w2, hrun2, k2, k3⟩ := run_append_arg_grows (P := P) w t ty e i z size bytes ht hi hz hsize hby hzs hsz ⟨g, 0, none⟩ n cap xs hown.1 (hown.cells (g := g) rfl) a m c news hl hnews (by omega) h63 hbytes
      rw [hrun] at hrun2
      simp only [Result.ok.injEq] at hrun2
      obtain ⟨rfl, rfl⟩ := hrun2
      intro hv
      have := (k2.lt j hv).1
      omega
/-- .. as a step of a region that draws. -/
theorem step_append_new {P : Program} {ops : Array Oper} {o : Oper} {a : Act} {w : World} {K : Act → World → Prop} {Q : Exit → Act → World → Prop} {E : Prop}
    (hg : o.guard = none) (s x : Operand) (t : TypeId) (hop : o.op = Op.call { callee := Callee.builtin Builtin.append, args := #[s, x], argTypes := #[t, t] })
    (e : TypeId) (i : TypeInfo) (z : Value) (size bytes : Nat) (h1 : P.underlying t = some (.slice e)) (h2 : P.info? e = some i) (h3 : i.zero = some z) (h4 : i.size = size) (h5 : i.bytes = bytes) (h6 : z.cells.size = size) (h7 : 0 < size)
    (base : Nat) (v : Value) (n : Nat) (xs : List Value) (hs : a.eval s = v) (hown : w.ownsRow base e size v n xs)
    (ad : Addr) (m c : Nat) (news : List Value) (hx : a.eval x = .slice (some ad) m c) (hn : news.length = m * size) (hc : ∀ j u, news[j]? = some u → w.cell? (ad.add j) = some u) (h1c : ∀ u ∈ news, u.oneCell' = true)
    (b1 : n + m ≤ maxLen) (b2 : (n + m) * bytes ≤ 140737488355328) (hbase : base ≤ w.heap.size)
    (hK : ∀ v' w', w'.ownsRow base e size v' (n + m) (xs ++ news) → w.grownBy w' v.ownBlock → (∀ j, j < w.heap.size → v.ownBlock ≠ some j → v'.ownBlock ≠ some j) → K (a.put o.dst v') w') :
    if Region.wanted o (yielded ops a.tmps) = true then Oper.wp P o a w K Q else E := by
  have hw : Region.wanted o (yielded ops a.tmps) = true := by simp [Region.wanted, hg]
  rw [if_pos hw]
  obtain ⟨v', w', hrun, r1, r2, r3⟩ := run_append_new (P := P) w base t o.type e i z size bytes h1 h2 h3 h4 h5 h6 h7 v n xs hown ad m c news hn hc h1c b1 b2 hbase
  unfold Oper.wp
  simp [execOp, hop, resolve, invoke, builtin, hs, hx, hrun, Result.andThen]
  exact hK v' w' r1 r2 r3

/-- .. and of a list. -/
theorem wpList_append_new {P : Program} {ops : Array Oper} {rest : List Oper} {o : Oper} {a : Act} {w : World} {Q : Exit → Act → World → Prop}
    (hgd : o.guard = none) (s x : Operand) (t : TypeId) (hop : o.op = Op.call { callee := Callee.builtin Builtin.append, args := #[s, x], argTypes := #[t, t] })
    (e : TypeId) (i : TypeInfo) (z : Value) (size bytes : Nat) (h1 : P.underlying t = some (.slice e)) (h2 : P.info? e = some i) (h3 : i.zero = some z) (h4 : i.size = size) (h5 : i.bytes = bytes) (h6 : z.cells.size = size) (h7 : 0 < size)
    (base : Nat) (v : Value) (n : Nat) (xs : List Value) (hs : a.eval s = v) (hown : w.ownsRow base e size v n xs)
    (ad : Addr) (m c : Nat) (news : List Value) (hx : a.eval x = .slice (some ad) m c) (hn : news.length = m * size) (hc : ∀ j u, news[j]? = some u → w.cell? (ad.add j) = some u) (h1c : ∀ u ∈ news, u.oneCell' = true)
    (b1 : n + m ≤ maxLen) (b2 : (n + m) * bytes ≤ 140737488355328) (hbase : base ≤ w.heap.size)
    (h : ∀ v' w', w'.ownsRow base e size v' (n + m) (xs ++ news) → w.grownBy w' v.ownBlock → (∀ j, j < w.heap.size → v.ownBlock ≠ some j → v'.ownBlock ≠ some j) → wpList P ops Q rest (a.put o.dst v') w') : wpList P ops Q (o :: rest) a w := by
  refine wpList_plain hgd fun K hK => ?_
  obtain ⟨v', w', hr, r1, r2, r3⟩ := run_append_new (P := P) w base t o.type e i z size bytes h1 h2 h3 h4 h5 h6 h7 v n xs hown ad m c news hn hc h1c b1 b2 hbase
  unfold Oper.wp execOp
  simp only [hop, resolve, invoke, builtin, Sem.run_bind, Sem.run_pure, Result.andThen_ok, List.map_toArray, List.map_cons, List.map_nil, hs, hx, hr]
  exact hK _ _ (h v' w' r1 r2 r3)

/-- The types of the blocks that normal's methods write into. -/
abbrev TS : List TypeId := [40, 56, 5]
/-- What a method keeps: all but blocks of those types; and of rows of operations all but the one that it is given. -/
structure KeepO (B : Nat) (w w' : World) (ov ov' : Value) : Prop where
  keep : Keep B TS w w'
  ops : ∀ (i : Nat) (cs : Array Value) (fr : Nat × Nat), w.heap[i]? = some (Obj.cells cs 40 fr) → ov.ownBlock ≠ some i → w'.heap[i]? = some (Obj.cells cs 40 fr) ∧ ov'.ownBlock ≠ some i
theorem KeepO.trans {B : Nat} {a b c : World} {u v x : Value} (h : KeepO B a b u v) (k : KeepO B b c v x) : KeepO B a c u x :=
  ⟨h.keep.trans k.keep, fun i cs fr hi hne => k.ops i cs fr (h.ops i cs fr hi hne).1 (h.ops i cs fr hi hne).2⟩
theorem keepO_of {B : Nat} {ts : List TypeId} {w w' : World} (h : Keep B ts w w') (hs : ∀ t, t ∈ ts → t ∈ TS) (ho : 40 ∉ ts) (v : Value) : KeepO B w w' v v :=
  ⟨h.more hs, fun i cs fr hi hne => ⟨h.kept i cs _ fr hi ho, hne⟩⟩
theorem keepO_below {B : Nat} {w w' : World} (h : Below w.heap.size w w') (hB : B ≤ w.heap.size) (v : Value) : KeepO B w w' v v :=
  keepO_of (ts := []) (keep_below h hB) (fun t ht => by cases ht) (by simp) v
theorem keepO_grown {B n : Nat} {w w' : World} {v v' : Value} {xs : List Value} (h : w.ownsRow B 40 4 v n xs) (hg : w.grownBy w' v.ownBlock) (hB : B ≤ w.heap.size) (hn : ∀ j, j < w.heap.size → v.ownBlock ≠ some j → v'.ownBlock ≠ some j) : KeepO B w w' v v' :=
  ⟨keep_row h hg (by simp) hB, fun i cs fr hi hne => ⟨(hg.block i (lt_of_heap hi) (fun e => hne e.symm)).trans hi, hn i (lt_of_heap hi) hne⟩⟩
theorem KeepO.base {B C : Nat} {w w' : World} {u v : Value} (h : KeepO B w w' u v) (hc : C ≤ B) : KeepO C w w' u v := ⟨h.keep.mono hc, h.ops⟩

def noText (o : OpD) : OpD := { o with text := ⟨#[]⟩ }
theorem noText_attrs (o : OpD) : (noText o).attrs = o.attrs := rfl
/-- On the way: the last operation's text lies in the builder. -/
def NSt (w : World) (B b : Nat) (ov : Value) (l : List OpD) (g : Int) : Prop :=
  ∃ (ps : List (OpD × Value)) (ad bv : Value) (bt : List UInt8), NBlk w b ov ad bv g ∧ Addrs b ad ∧ OwnP w B ov ps ∧ Holds8 w B bv bt ∧
    ((l = [] ∧ ps = [] ∧ bt = []) ∨ ∃ x r fr xv, l = x :: r ∧ ps = fr ++ [(noText x, xv)] ∧ fr.map (·.1) = r.reverse ∧ bt = x.text.data.toList)
/-- The last one has its text. -/
def FSt (w : World) (B b : Nat) (ov : Value) (l : List OpD) (g : Int) : Prop :=
  ∃ (ps : List (OpD × Value)) (ad bv : Value), NBlk w b ov ad bv g ∧ Addrs b ad ∧ OwnP w B ov ps ∧ Holds8 w B bv [] ∧ ps.map (·.1) = l.reverse
theorem NSt.lt {w : World} {B b : Nat} {ov : Value} {l : List OpD} {g : Int} (h : NSt w B b ov l g) : b < w.heap.size := by
  obtain ⟨_, _, _, _, h, _⟩ := h
  exact lt_of_heap h

/-- The last operation of a row of one's own. -/
theorem last_cells {w : World} {B gg cap : Nat} {fr : List (OpD × Value)} {p : OpD × Value} (h : w.ownsRow B 40 4 (.slice (some ⟨gg, 0, none⟩) (fr.length + 1) cap) (fr.length + 1) (flatO (fr ++ [p]))) :
    w.cell? ⟨gg, fr.length * 4, none⟩ = some (.int .i64 p.1.kind) ∧ w.cell? ⟨gg, fr.length * 4 + 1, none⟩ = some (.int .i64 p.1.n) ∧ w.cell? ⟨gg, fr.length * 4 + 2, none⟩ = some (.string p.1.text) ∧ w.cell? ⟨gg, fr.length * 4 + 3, none⟩ = some p.2 := by
  have e : ∀ j, j < 4 → w.cell? ⟨gg, fr.length * 4 + j, none⟩ = (opCells p)[j]? := fun j hj => by
    rw [h.cellAt _ (by omega), flatO_snoc, List.getElem?_append_right (by rw [flatO_len]; omega), flatO_len]
    congr 1
    omega
  exact ⟨e 0 (by omega), e 1 (by omega), e 2 (by omega), e 3 (by omega)⟩
theorem last_set {w : World} {B gg cap : Nat} {fr : List (OpD × Value)} {p q : OpD × Value} (h : w.ownsRow B 40 4 (.slice (some ⟨gg, 0, none⟩) (fr.length + 1) cap) (fr.length + 1) (flatO (fr ++ [p]))) (j : Nat) (u : Value) (hq : (opCells p).set j u = opCells q) :
    (w.setCell ⟨gg, fr.length * 4 + j, none⟩ u).ownsRow B 40 4 (.slice (some ⟨gg, 0, none⟩) (fr.length + 1) cap) (fr.length + 1) (flatO (fr ++ [q])) := by
  have := (h.stored (fr.length * 4 + j) u).1
  have e : (flatO (fr ++ [p])).set (fr.length * 4 + j) u = flatO (fr ++ [q]) := by
    rw [flatO_snoc, flatO_snoc, List.set_append_right _ _ (by rw [flatO_len]; omega), flatO_len, ← hq]
    congr 2
    omega
  rw [e] at this
  exact this
theorem OwnP.len {w : World} {B : Nat} {v : Value} {fr : List (OpD × Value)} {p : OpD × Value} (h : OwnP w B v (fr ++ [p])) : w.ownsRow B 40 4 v (fr.length + 1) (flatO (fr ++ [p])) := by
  have := h.1
  rwa [List.length_append, List.length_singleton] at this
theorem ownP_mk {w : World} {B : Nat} {v : Value} {fr : List (OpD × Value)} {p : OpD × Value} (h : w.ownsRow B 40 4 v (fr.length + 1) (flatO (fr ++ [p]))) (ha : ∀ q ∈ fr, w.ownsRow B 67 2 q.2 q.1.attrs.length (flat q.1.attrs)) (hp : w.ownsRow B 67 2 p.2 p.1.attrs.length (flat p.1.attrs)) : OwnP w B v (fr ++ [p]) := by
  refine ⟨by rw [List.length_append, List.length_singleton]; exact h, fun q hq => ?_⟩
  rcases List.mem_append.1 hq with hq | hq
  · exact ha q hq
  · rw [List.mem_singleton.1 hq]; exact hp
theorem own_heap {w : World} {B k gg n m cap : Nat} {e : TypeId} {xs : List Value} (h : w.ownsRow B e k (.slice (some ⟨gg, 0, none⟩) n cap) m xs) : B ≤ gg ∧ ∃ cs, w.heap[gg]? = some (.cells cs e (0, 0)) := by
  rcases h.2 with ⟨h', _⟩ | ⟨g', cap', cur, h', hb, hg, _⟩
  · simp at h'
  · simp only [Value.slice.injEq, Option.some.injEq, Addr.mk.injEq, and_true, true_and] at h'
    obtain ⟨rfl, _, _⟩ := h'
    exact ⟨hb, cur, hg⟩
/-- One field of the last operation, written. -/
theorem OwnP.setLast {w : World} {B gg cap : Nat} {fr : List (OpD × Value)} {x y : OpD} {xv : Value} (h : OwnP w B (.slice (some ⟨gg, 0, none⟩) (fr.length + 1) cap) (fr ++ [(x, xv)])) (j : Nat) (u : Value) (hq : (opCells (x, xv)).set j u = opCells (y, xv)) (ha : y.attrs = x.attrs) :
    OwnP (w.setCell ⟨gg, fr.length * 4 + j, none⟩ u) B (.slice (some ⟨gg, 0, none⟩) (fr.length + 1) cap) (fr ++ [(y, xv)]) ∧ KeepO B w (w.setCell ⟨gg, fr.length * 4 + j, none⟩ u) (.slice (some ⟨gg, 0, none⟩) (fr.length + 1) cap) (.slice (some ⟨gg, 0, none⟩) (fr.length + 1) cap) := by
  obtain ⟨hB, cs, hg⟩ := own_heap h.len
  have hk : Keep B [40] w (w.setCell ⟨gg, fr.length * 4 + j, none⟩ u) := keep_set hg (by simp) hB _ rfl u
  refine ⟨ownP_mk (last_set h.len j u hq) (fun q hq => hk.own (h.2 q (List.mem_append_left _ hq)) (by decide)) ?_, hk.more (by simp), fun i cs' fr' hi hne => ⟨?_, hne⟩⟩
  · have := hk.own (h.2 (x, xv) (by simp)) (by decide)
    show World.ownsRow _ _ _ _ xv y.attrs.length (flat y.attrs)
    rw [ha]
    exact this
  · rw [Below.heap_setCell _ _ _ _ (fun e => hne (by rw [e]; rfl))]
    exact hi
theorem set_other {w : World} {p q : Addr} {u v : Value} (h : p.block ≠ q.block) (hc : w.cell? q = some v) : (w.setCell p u).cell? q = some v :=
  (World.cell?_of_block (Below.heap_setCell w p u q.block fun e => h e.symm)).trans hc
def FinOut (w : World) (B b : Nat) (ov : Value) (l : List OpD) (g : Int) (e : Ending) (w' : World) : Prop := e = .returned (.tuple #[]) ∧ FSt w' B b ov l g ∧ KeepO B w w' ov ov

set_option maxHeartbeats 4000000 in
set_option maxRecDepth 100000 in
theorem finish_any (B b : Nat) (ov : Value) (l : List OpD) (g : Int) (w : World) (h : NSt w B b ov l g) (hB : B ≤ b) (hl : l.length ≤ 4096) :
    Calls Try.prog 49 #[.pointer (some ⟨b, 0, none⟩)] w (FinOut w B b ov l g) := by
  have hBw : B ≤ w.heap.size := Nat.le_trans hB (Nat.le_of_lt h.lt)
  obtain ⟨ps, ad, bv, bt, hN, hA, hP, hH, hcase⟩ := h
  obtain ⟨k0, k1, k2, k3, k4⟩ := hN.cells
  rcases hcase with ⟨rfl, rfl, rfl⟩ | ⟨x, r, fr, xv, rfl, rfl, hfr, rfl⟩
  · obtain ⟨a, c, rfl⟩ := own_slice hP.1
    have HF := Lib.hid (show FSt w B b (.slice a ([] : List (OpD × Value)).length c) [] g from ⟨[], ad, bv, hN, hA, hP, hH, rfl⟩)
    clear hN hP hH hA k1 k2 k3 k4
    go_enter Try.func49, Try.ntmps49
    go_wp2_with fail
    go_end0
    exact ⟨rfl, HF.out, keepO_below (Below.refl _ _) hBw _⟩
  · obtain ⟨gg, cap, hov⟩ := ownsRow_open hP.len (Nat.succ_pos _)
    subst hov
    have hm : fr.length ≤ 4096 := by
      have := congrArg List.length hfr
      simp at this hl
      omega
    obtain ⟨q0, q1, q2, q3⟩ := last_cells hP.len
    have f2 : w.frozen? ⟨gg, fr.length * 4 + 2, none⟩ = false := hP.len.frozenAt _
    have HN := Lib.hid hN
    have HP := Lib.hid hP
    have HH := Lib.hid hH
    have HFR := Lib.hid hfr
    clear hN hP hH hA k1 k2 k3 k4 q0 q1 q3 hfr hl
    have hneq : gg ≠ b := by
      obtain ⟨_, cs, hcs⟩ := own_heap HP.out.len
      exact block_ne hcs HN.out (by decide)
    have HNE := Lib.hid hneq
    have i1 : (0 : Int) ≤ (fr.length : Int) := by omega
    have i2 : (fr.length : Int) < (fr.length : Int) + 1 := by omega
    clear hneq
    go_enter Try.func49, Try.ntmps49
    go_wp2_with fail
    go_region_held3 (fun w' => w'.cell? ⟨b, 0, none⟩ = some (.slice (some ⟨gg, 0, none⟩) (fr.length + 1) cap))
      (first
        | exact k0
        | exact kA
        | exact set_other HNE.out kA)
      (first
        | (go_at_call 60; refine (builderString_any B b _ ad bv g x.text.data.toList _ (by exact HN.out) (by exact HH.out)).mono ?_; rintro e wA ⟨rfl, KA⟩; have NA := NBlk.keep (w := w.drew) HN.out KA (by decide); have kA := NA.cells.1; have PA := OwnP.keep (w := w.drew) HP.out KA (by decide) (by decide); have qA := (last_cells PA.len).2.2.1; have fA : wA.frozen? ⟨gg, fr.length * 4 + 2, none⟩ = false := PA.len.frozenAt _))
    obtain ⟨P2, K2⟩ := OwnP.setLast (y := x) PA 2 (.string ⟨x.text.data⟩) rfl rfl
    have N2 := NBlk.keep (w := wA) NA (keep_set (B := B) (ts := [40]) (own_heap PA.len).2.choose_spec (by simp) (own_heap PA.len).1 ⟨gg, fr.length * 4 + 2, none⟩ rfl (.string ⟨x.text.data⟩)) (by decide)
    have KK := Lib.hid ((keepO_of (B := B) (of_drewK KA) (by simp) (by decide) (.slice (some ⟨gg, 0, none⟩) (fr.length + 1) cap)).trans K2)
    have HP2 := Lib.hid P2
    have HN2 := Lib.hid N2
    clear P2 K2 N2 PA NA KA kA qA fA
    go_wp2_with fail
    refine (reset_any b _ ad bv g _ HN2.out).mono ?_
    rintro e w3 ⟨rfl, N3, g3⟩
    have K3 : Keep B [56] _ w3 := keep_grown g3 (by have := KK.out.keep.below.size; omega) fun k hk => by
      cases hk
      exact ⟨hB, _, _, _, HN2.out, by simp⟩
    have F3 : FSt w3 B b (.slice (some ⟨gg, 0, none⟩) (fr.length + 1) cap) (x :: r) g := ⟨_, _, _, N3, .inl rfl, HP2.out.keep K3 (by decide) (by decide), holds8_nil _ _, by rw [List.map_append, HFR.out, List.reverse_cons]; rfl⟩
    have KK3 := KK.out.trans (keepO_of K3 (by simp) (by decide) _)
    have HF3 := Lib.hid F3
    have HK3 := Lib.hid KK3
    clear N3 g3 K3 F3 KK3
    go_wp2_with fail
    go_end0
    exact ⟨rfl, HF3.out, HK3.out⟩
end Go.Proofs.Ytacgkbdldbppjaa

/- Regions that draw their order, in which what is loaded is written at the end: a condition on the world that holds up to the operations that break it, each of which waits for every load that leans on it. -/
namespace Go.Proofs.Ytacgkbdldbppjaa
open Go

section
variable {P : Program} {ops : Array Oper} {Q : Exit → Act → World → Prop} {md : Region.Mode} {S : World → Prop} {brk : List Nat}

/-- Has one of brk come up? -/
def brokenB (brk : List Nat) (listed : Array Bool) : Bool := brk.any fun k => listed.getD k false
/-- Whatever order is picked from here on; S holds behind every operation till one of brk has come up. -/
def wpAnyB (P : Program) (md : Region.Mode) (ops : Array Oper) (Q : Exit → Act → World → Prop) (S : World → Prop) (brk : List Nat) : Nat → Array Bool → Act → World → Prop
  | 0, listed, a, w => Region.ready md ops listed = [] ∧ Q .normal a w
  | fuel + 1, listed, a, w =>
    (Region.ready md ops listed = [] → Q .normal a w) ∧
    ∀ i ∈ Region.ready md ops listed, wpOp P ops Q i (fun a' w' => (brokenB brk (listed.setIfInBounds i true) = true ∨ S w') ∧ wpAnyB P md ops Q S brk fuel (listed.setIfInBounds i true) a' w') a w
theorem wpAny_of_B : ∀ (fuel : Nat) (listed : Array Bool) (a : Act) (w : World), wpAnyB P md ops Q S brk fuel listed a w → wpAny P md ops Q fuel listed a w
  | 0, _, _, _, h => h
  | fuel + 1, _, _, _, h => ⟨h.1, fun i hi => wpOp_mono (fun a' w' h' => wpAny_of_B fuel _ a' w' h'.2) (h.2 i hi)⟩
theorem broken_set {listed : Array Bool} {i : Nat} (h : i ∉ brk) : brokenB brk (listed.setIfInBounds i true) = brokenB brk listed := by
  unfold brokenB
  rw [Bool.eq_iff_iff, List.any_eq_true, List.any_eq_true]
  constructor
  · rintro ⟨k, hk, h1⟩
    refine ⟨k, hk, ?_⟩
    rw [getD_set_ne false (fun e => h (by rw [e]; exact hk))] at h1
    exact h1
  · rintro ⟨k, hk, h1⟩
    refine ⟨k, hk, ?_⟩
    rw [getD_set_ne false (fun e => h (by rw [e]; exact hk))]
    exact h1

/-- Does j wait for i? -/
def waitsB (md : Region.Mode) (ops : Array Oper) (j i : Nat) : Bool :=
  match ops[j]? with
  | some oj => oj.after.any fun e => Region.binds md e && e.on == i
  | none => false
theorem not_ready {listed : Array Bool} {c p : Nat} (hw : waitsB md ops c p = true) (hp : listed.getD p true = false) : c ∉ Region.ready md ops listed := fun hc => by
  obtain ⟨_, oc, hoc, hall⟩ := mem_ready.1 hc
  unfold waitsB at hw
  rw [hoc] at hw
  obtain ⟨e, he, hb⟩ := Array.any_eq_true'.1 hw
  rw [Bool.and_eq_true, beq_iff_eq] at hb
  have h1 := hall e he hb.1
  rw [hb.2] at h1
  rcases Nat.lt_or_ge p listed.size with h' | h'
  · simp [h'] at hp h1; rw [hp] at h1; cases h1
  · simp [Array.getElem?_eq_none h'] at h1

/-- What may come up, and yields in every world that meets T, may be taken first: T is nothing; or S, and as long as it is to come none of brk may (chain: from it up to them). -/
theorem wpAnyB_first {i : Nat} {oi : Oper} {v : Value} {T : World → Prop} (chain : List Nat) (hib : i ∉ brk) (hT : (∀ w, T w) ∨ ((∀ w, S w → T w) ∧ (∀ c ∈ chain, c ≠ i → ∃ p ∈ chain, waitsB md ops c p = true) ∧ ∀ j ∈ brk, j ∈ chain))
    (hi : ops[i]? = some oi) (hsel : ∀ (j : Nat) (o : Oper) cs b, ops[j]? = some o → o.op ≠ .select cs b) (hQ : ∀ c a w, Q (.panic c) (a.put oi.dst v) w → Q (.panic c) a w) :
    ∀ (fuel : Nat) (listed : Array Bool) (a : Act) (w : World),
      (∀ j oj, ops[j]? = some oj → j ≠ i → listed.getD j true = false → (∀ e ∈ oj.after, Region.binds md e = true → e.on ≠ i) → oi.apart ops oj = true) →
      ((∀ w, T w) ∨ ∀ c ∈ chain, listed.getD c true = false) →
      i ∈ Region.ready md ops listed → YieldsIf P ops T oi v a →
      wpAnyB P md ops Q S brk fuel (listed.setIfInBounds i true) (a.put oi.dst v) w → (brokenB brk listed = true ∨ S w) → wpAnyB P md ops Q S brk (fuel + 1) listed a w := by
  have key : ∀ (listed : Array Bool) (w : World), ((∀ w, T w) ∨ ∀ c ∈ chain, listed.getD c true = false) → (brokenB brk listed = true ∨ S w) → T w := fun listed w hun hb => by
    rcases hT with h | ⟨h, _, hbk⟩
    · exact h w
    · rcases hun with h' | hun
      · exact h' w
      · rcases hb with hb | hb
        · unfold brokenB at hb
          obtain ⟨k, hk, h1⟩ := List.any_eq_true.1 hb
          have h2 := hun k (hbk k hk)
          rcases Nat.lt_or_ge k listed.size with h' | h'
          · simp [h'] at h1 h2; rw [h2] at h1; cases h1
          · simp [Array.getElem?_eq_none h'] at h1
        · exact h w hb
  intro fuel
  induction fuel with
  | zero =>
    intro listed a w _ hun hr hy H hb
    refine ⟨fun h => (by rw [h] at hr; cases hr), fun j hj => ?_⟩
    by_cases hji : j = i
    · subst hji
      exact hy.wpOp hi (key listed w hun hb) ⟨by rw [broken_set hib]; exact hb, H⟩
    · have := ready_mono hj hji
      rw [H.1] at this
      cases this
  | succ fuel ih =>
    intro listed a w hfree hun0 hr hy H hb
    refine ⟨fun h => (by rw [h] at hr; cases hr), fun j hj => ?_⟩
    by_cases hji : j = i
    · subst hji; exact hy.wpOp hi (key listed w hun0 hb) ⟨by rw [broken_set hib]; exact hb, H⟩
    · have h1 := H.2 j (ready_mono hj hji)
      obtain ⟨hjun, oj, hoj, hall⟩ := mem_ready.1 hj
      have hnot : ∀ e ∈ oj.after, Region.binds md e = true → e.on ≠ i := fun e he hb heq => by
        have h1 := hall e he hb
        have h0 := (mem_ready.1 hr).1
        rw [heq] at h1
        rcases Nat.lt_or_ge i listed.size with h' | h'
        · simp [h'] at h0 h1; rw [h0] at h1; cases h1
        · simp [Array.getElem?_eq_none h'] at h1
      have h2 := wpOp_putIf hoj (hfree j oj hoj hji hjun hnot) (fun cs b => hsel i oi cs b hi) (fun cs b => hsel j oj cs b hoj) hQ hy h1
      have hfree' : ∀ k ok, ops[k]? = some ok → k ≠ i → (listed.setIfInBounds j true).getD k true = false →
          (∀ e ∈ ok.after, Region.binds md e = true → e.on ≠ i) → oi.apart ops ok = true := fun k ok hk hki hun hno => by
        refine hfree k ok hk hki ?_ hno
        by_cases hjk : j = k
        · subst hjk; exact hjun
        · rw [getD_set_ne true hjk] at hun; exact hun
      have hjc : (∀ w, T w) ∨ j ∉ chain := by
        rcases hT with h | ⟨_, hcw, _⟩
        · exact .inl h
        · rcases hun0 with h | hun
          · exact .inl h
          · refine .inr fun hc => ?_
            obtain ⟨p, hp, hw⟩ := hcw j hc hji
            exact not_ready hw (hun p hp) hj
      have hcomm : (listed.setIfInBounds i true).setIfInBounds j true = (listed.setIfInBounds j true).setIfInBounds i true := Array.setIfInBounds_comm _ _ (fun e => hji e.symm)
      rw [hcomm] at h2
      refine wpOp_mono (fun a' w' h3 => ?_) h2
      have hb3 : brokenB brk (listed.setIfInBounds j true) = true ∨ S w' := by
        have := h3.2.1
        rwa [broken_set hib] at this
      refine ⟨hb3, ih (listed.setIfInBounds j true) a' w' hfree' ?_ (ready_mono hr (Ne.symm hji)) h3.1 h3.2.2 hb3⟩
      rcases hjc with h | h
      · exact .inl h
      · rcases hun0 with h' | hun
        · exact .inl h'
        · refine .inr fun c hc => ?_
          rw [getD_set_ne true (fun e => h (by rw [e]; exact hc))]
          exact hun c hc

/-- The moves: what looks at no memory. -/
theorem wpAnyB_free {i : Nat} {oi : Oper} {v : Value} {fuel : Nat} {listed : Array Bool} {a : Act} {w : World} (hi : ops[i]? = some oi)
    (hib : brk.contains i = false) (hs : Region.noSelect ops = true) (hf : Region.free md ops listed i = true) (hr : (Region.ready md ops listed).contains i = true)
    (hQ : ∀ c a w, Q (.panic c) (a.put oi.dst v) w → Q (.panic c) a w) (hb : brokenB brk listed = true ∨ S w) (hy : ∀ w, (execOp a.eval oi).run P w = .ok (.value v) w) (hw : Region.wanted oi (yielded ops a.tmps) = true)
    (h : wpAnyB P md ops Q S brk fuel (listed.setIfInBounds i true) (a.put oi.dst v) w) : wpAnyB P md ops Q S brk (fuel + 1) listed a w :=
  wpAnyB_first (T := fun _ => True) [] (fun hh => by rw [List.contains_iff_mem.2 hh] at hib; cases hib) (.inl fun _ => trivial) hi (Region.noSelect_spec hs) hQ fuel listed a w (Region.free_spec hi hf) (.inl fun _ => trivial) (by simpa using hr) (.inl ⟨hw, fun w _ => hy w⟩) h hb
/-- .. what looks at memory of which S tells. -/
def chainOk (md : Region.Mode) (ops : Array Oper) (listed : Array Bool) (brk : List Nat) (i : Nat) (chain : List Nat) : Bool :=
  (chain.all fun c => c == i || chain.any fun p => waitsB md ops c p) && (brk.all fun j => chain.contains j) && chain.all fun c => !(listed.getD c true)
theorem wpAnyB_load (chain : List Nat) {i : Nat} {oi : Oper} {v : Value} {fuel : Nat} {listed : Array Bool} {a : Act} {w : World} (hi : ops[i]? = some oi)
    (hib : brk.contains i = false) (hs : Region.noSelect ops = true) (hf : Region.free md ops listed i = true) (hr : (Region.ready md ops listed).contains i = true) (hc : chainOk md ops listed brk i chain = true)
    (hQ : ∀ c a w, Q (.panic c) (a.put oi.dst v) w → Q (.panic c) a w) (hb : brokenB brk listed = true ∨ S w) (hy : ∀ w, S w → (execOp a.eval oi).run P w = .ok (.value v) w) (hw : Region.wanted oi (yielded ops a.tmps) = true)
    (h : wpAnyB P md ops Q S brk fuel (listed.setIfInBounds i true) (a.put oi.dst v) w) : wpAnyB P md ops Q S brk (fuel + 1) listed a w := by
  unfold chainOk at hc
  rw [Bool.and_eq_true, Bool.and_eq_true, List.all_eq_true, List.all_eq_true, List.all_eq_true] at hc
  obtain ⟨⟨h1, h2⟩, h3⟩ := hc
  refine wpAnyB_first (T := S) chain (fun hh => by rw [List.contains_iff_mem.2 hh] at hib; cases hib) (.inr ⟨fun _ h => h, fun c hc hne => ?_, fun j hj => List.contains_iff_mem.1 (h2 j hj)⟩) hi (Region.noSelect_spec hs) hQ fuel listed a w (Region.free_spec hi hf) (.inr fun c hc => by simpa using h3 c hc) (by simpa using hr) (.inl ⟨hw, hy⟩) h hb
  have := h1 c hc
  rw [Bool.or_eq_true, beq_iff_eq, List.any_eq_true] at this
  exact this.resolve_left hne
/-- The one that may come up. -/
theorem wpAnyB_one {i : Nat} {o : Oper} {fuel : Nat} {listed : Array Bool} {a : Act} {w : World} (ho : ops[i]? = some o) (hr : Region.ready md ops listed = [i])
    (h : ∀ K' : Act → World → Prop, (∀ a w, (brokenB brk (listed.setIfInBounds i true) = true ∨ S w) → wpAnyB P md ops Q S brk fuel (listed.setIfInBounds i true) a w → K' a w) → if Region.wanted o (yielded ops a.tmps) = true then Oper.wp P o a w K' Q else K' (a.put o.dst undef) w) :
    wpAnyB P md ops Q S brk (fuel + 1) listed a w :=
  ⟨fun h0 => (by rw [hr] at h0; cases h0), fun j hj => by
    rw [hr] at hj
    obtain rfl : j = i := by simpa using hj
    exact wpOp_step ho (fun K' hK => h K' (fun a w hS hW => hK a w ⟨hS, hW⟩))⟩
theorem wpAnyB_done {listed : Array Bool} {a : Act} {w : World} (hr : Region.ready md ops listed = []) (h : Q .normal a w) : wpAnyB P md ops Q S brk 0 listed a w := ⟨hr, h⟩
theorem wp_region_B (S : World → Prop) (brk : List Nat) {id : Nat} {a : Act} {w : World} (hm : P.follows .mixedOrders = true)
    (h : wpAnyB P .any ops Q S brk ops.size (Array.replicate ops.size false) a w.drew) : (Code.region id ops true).wp P Q a w :=
  wp_region_any hm (wpAny_of_B _ _ _ _ h)
end
end Go.Proofs.Ytacgkbdldbppjaa

/- The program's put: an operation behind the others, as one with the last, if they do the same. -/
namespace Go.Proofs.Ytacgkbdldbppjaa
open Go.RowKit Ch

theorem NSt.below {w w' : World} {B b : Nat} {ov : Value} {l : List OpD} {g : Int} (h : NSt w B b ov l g) (hb : Below w.heap.size w w') : NSt w' B b ov l g := by
  obtain ⟨ps, ad, bv, bt, h1, h2, h3, h4, h5⟩ := h
  have hk : Keep w.heap.size [] w w' := keep_below hb (Nat.le_refl _)
  exact ⟨ps, ad, bv, bt, h1.keep hk (by simp), h2, h3.keep hk (by simp) (by simp), ⟨hk.own h4.1 (by simp), h4.2⟩, h5⟩
theorem NSt.ov_lt {w : World} {B b : Nat} {ov : Value} {l : List OpD} {g : Int} (h : NSt w B b ov l g) : ∀ j, ov.ownBlock = some j → j < w.heap.size := by
  obtain ⟨ps, _, _, _, _, _, h3, _⟩ := h
  exact fun j hj => (h3.1.lt j hj).2
theorem NSt.slice {w : World} {B b : Nat} {ov : Value} {l : List OpD} {g : Int} (h : NSt w B b ov l g) : ∃ a c, ov = .slice a l.length c := by
  obtain ⟨ps, _, _, _, _, _, h3, _, h5⟩ := h
  obtain ⟨a, c, rfl⟩ := own_slice h3.1
  have : ps.length = l.length := by
    rcases h5 with ⟨rfl, rfl, _⟩ | ⟨x, r, fr, xv, rfl, rfl, hf, _⟩
    · rfl
    · have := congrArg List.length hf
      simp at this ⊢
      exact this
  exact ⟨a, c, by rw [this]⟩
theorem new_at4 (w : World) (u0 u1 u2 u3 : Value) (e : TypeId) : ∀ j x, [u0, u1, u2, u3][j]? = some x → (w.alloc (.cells #[u0, u1, u2, u3] e)).cell? ((⟨w.heap.size, 0, none⟩ : Addr).add j) = some x := by
  intro j x hj
  match j, hj with
  | 0, hj => simp at hj; subst hj; go_simp
  | 1, hj => simp at hj; subst hj; go_simp
  | 2, hj => simp at hj; subst hj; go_simp
  | 3, hj => simp at hj; subst hj; go_simp
  | j + 4, hj => simp at hj
theorem heap_new (w : World) (o : Obj) : (w.alloc o).heap[w.heap.size]? = some o := heap_alloc_new w o
def PutOut (w : World) (B b : Nat) (ov : Value) (l : List OpD) (o : OpD) (g : Int) (e : Ending) (w' : World) : Prop := e = .returned (.tuple #[]) ∧ ∃ ov', NSt w' B b ov' (put l o) g ∧ KeepO B w w' ov ov'
/-- What a put asks. -/
structure Fits (l : List OpD) (o : OpD) : Prop where
  len : l.length ≤ 4000
  last : ∀ x r, l = x :: r → 0 ≤ x.n ∧ x.n ≤ 1073741824 ∧ x.text.size ≤ 1073741824
  n0 : 0 ≤ o.n
  n1 : o.n ≤ 1073741824
  text : o.text.size ≤ 1073741824
  attrs : SmallA o.attrs

set_option maxHeartbeats 4000000 in
set_option maxRecDepth 100000 in
theorem put_empty (B b : Nat) (ov : Value) (l : List OpD) (g : Int) (o : OpD) (av : Value) (w : World) (h : NSt w B b ov l g) (hB : B ≤ b) (hf : Fits l o) (hv : ∀ w', Below B w w' → AtRow w' av o.attrs) (hnil : l = []) :
    Calls Try.prog 48 #[.pointer (some ⟨b, 0, none⟩), opAgg o av] w (PutOut w B b ov l o g) := by
  have hBw : B ≤ w.heap.size := Nat.le_trans hB (Nat.le_of_lt h.lt)
  obtain ⟨ar, cr, rfl⟩ := (hv w (Below.refl _ _)).shape
  obtain ⟨W, hW⟩ : ∃ W, W = w.alloc (.cells #[.int .i64 o.kind, .int .i64 o.n, .string o.text, .slice ar o.attrs.length cr] 40) := ⟨_, rfl⟩
  have BW : Below w.heap.size w W := by rw [hW]; exact below_box _ _
  have HBW := Lib.hid BW
  have hbox : W.heap[w.heap.size]? = some (.cells #[.int .i64 o.kind, .int .i64 o.n, .string o.text, .slice ar o.attrs.length cr] 40 (0, 0)) := by rw [hW]; exact heap_new _ _
  have HBX := Lib.hid hbox
  have HNE := Lib.hid (show ov.ownBlock ≠ some w.heap.size from fun e => by have := h.ov_lt _ e; omega)
  have HS := Lib.hid (h.below BW)
  have HV := Lib.hid hv
  have HF := Lib.hid hf
  have HW := Lib.hid hW
  have HBw := Lib.hid hBw
  obtain ⟨oa, oc, rfl⟩ := h.slice
  subst hnil
  have hblw := h.lt
  have p0 : w.cell? ⟨b, 0, none⟩ = some (.slice oa 0 oc) := by
    obtain ⟨_, _, _, _, hN0, _⟩ := h
    exact hN0.cells.1
  clear hf hv hW BW hbox hBw
  go_enter Try.func48, Try.ntmps48
  go_wp2_with fail
  rw [← HW.out]
  go_wp2_with fail
  go_quiet (fail)
  go_wp2_with fail
  refine (finish_any B b _ _ g _ (HS.out.below (below_drewN (Below.refl _ _) nq)) hB (by have := HF.out.len; omega)).mono ?_
  rintro e w1 ⟨rfl, F1, KF⟩
  have hb1 : w1.heap[w.heap.size]? = some (.cells #[.int .i64 o.kind, .int .i64 o.n, .string o.text, .slice ar o.attrs.length cr] 40 (0, 0)) := (KF.ops _ _ _ (by exact HBX.out) HNE.out).1
  have K1 : KeepO B w w1 (.slice oa 0 oc) (.slice oa 0 oc) := (keepO_below (below_drewN HBW.out nq) HBw.out _).trans KF
  have HK1 := Lib.hid K1
  have HB1 := Lib.hid hb1
  have hs1 : w.heap.size < w1.heap.size := lt_of_heap hb1
  obtain ⟨ps, ad, bv, hN, hA, hP, hH, hps⟩ := F1
  have hpl : ps.length ≤ 4000 := by have h1 := congrArg List.length hps; rw [List.length_map, List.length_reverse] at h1; have := HF.out.len; omega
  have hPL : ps.length = 0 := by
    obtain ⟨a', c', e⟩ := own_slice hP.1
    simp only [Value.slice.injEq] at e
    exact e.2.1.symm
  have HPLN := Lib.hid hPL
  obtain ⟨k0, k1, k2, k3, k4⟩ := hN.cells
  have hbl : b < w1.heap.size := lt_of_heap hN
  have c0 : w1.cell? ⟨w.heap.size, 0, none⟩ = some (.int .i64 o.kind) := by rw [Lib.cell_of_heap hb1]; rfl
  have c1 : w1.cell? ⟨w.heap.size, 1, none⟩ = some (.int .i64 o.n) := by rw [Lib.cell_of_heap hb1]; rfl
  have c3 : w1.cell? ⟨w.heap.size, 3, none⟩ = some (.slice ar o.attrs.length cr) := by rw [Lib.cell_of_heap hb1]; rfl
  obtain ⟨i0, hi, hz0, hz1, hz2⟩ := info_parts infoOp
  have Hi := Lib.hid (And.intro hi (And.intro hz0 (And.intro hz1 hz2)))
  have HN := Lib.hid hN
  have HP := Lib.hid hP
  have HH := Lib.hid hH
  have HA := Lib.hid hA
  have HPS := Lib.hid hps
  have HCL := Lib.hid (fun W' (hb : Below w1.heap.size w1 W') => cloneAttrs_any (.slice ar o.attrs.length cr) o.attrs W' (HV.out W' (K1.keep.below.trans (hb.mono (Nat.le_trans HBw.out K1.keep.below.size)))) HF.out.attrs)
  have HPL := Lib.hid hpl
  have hnb : w.heap.size ≠ b := by
    have := HS.out.lt
    have := HBW.out.size
    exact block_ne hb1 hN (by decide)
  have HNB := Lib.hid hnb
  clear hN hP hH hA hps hPL KF K1 hi hz0 hz1 hz2 k1 k2 k3 k4 hb1 hpl hnb
  go_wp2_with fail
  have S1 : w1.drew.cell? ⟨b, 0, none⟩ = some (.slice oa 0 oc) ∧ w1.drew.cell? ⟨w.heap.size, 0, none⟩ = some (.int .i64 o.kind) ∧ w1.drew.cell? ⟨w.heap.size, 1, none⟩ = some (.int .i64 o.n) ∧ w1.drew.cell? ⟨w.heap.size, 3, none⟩ = some (.slice ar o.attrs.length cr) := ⟨k0, c0, c1, c3⟩
  refine wp_region_B (fun w' => w'.cell? ⟨b, 0, none⟩ = some (.slice oa 0 oc) ∧ w'.cell? ⟨w.heap.size, 0, none⟩ = some (.int .i64 o.kind) ∧ w'.cell? ⟨w.heap.size, 1, none⟩ = some (.int .i64 o.n) ∧ w'.cell? ⟨w.heap.size, 3, none⟩ = some (.slice ar o.attrs.length cr)) [17] (by kernel_rfl) (?_ : wpAnyB _ _ _ _ _ _ 18 (Array.replicate 18 false) _ _)
  refine wpAnyB_free (fuel := 17) (i := 0) (v := ?_) rfl (by kernel_rfl) (by kernel_rfl) (by kernel_rfl) (by kernel_rfl) (fun _ _ _ h => h) (.inr S1) ?_ (by rfl) ?_
  rotate_left
  · intro w'; go_simp; (try with_reducible rfl)
  simp only [Act.put, List.setIfInBounds_toArray, List.set_cons_zero, List.set_cons_succ]
  refine wpAnyB_free (fuel := 16) (i := 1) (v := ?_) rfl (by kernel_rfl) (by kernel_rfl) (by kernel_rfl) (by kernel_rfl) (fun _ _ _ h => h) (.inr S1) ?_ (by rfl) ?_
  rotate_left
  · intro w'; go_simp; (try with_reducible rfl)
  simp only [Act.put, List.setIfInBounds_toArray, List.set_cons_zero, List.set_cons_succ]
  refine wpAnyB_free (fuel := 15) (i := 2) (v := ?_) rfl (by kernel_rfl) (by kernel_rfl) (by kernel_rfl) (by kernel_rfl) (fun _ _ _ h => h) (.inr S1) ?_ (by rfl) ?_
  rotate_left
  · intro w'; go_simp; (try with_reducible rfl)
  simp only [Act.put, List.setIfInBounds_toArray, List.set_cons_zero, List.set_cons_succ]
  refine wpAnyB_free (fuel := 14) (i := 3) (v := ?_) rfl (by kernel_rfl) (by kernel_rfl) (by kernel_rfl) (by kernel_rfl) (fun _ _ _ h => h) (.inr S1) ?_ (by rfl) ?_
  rotate_left
  · intro w'; go_simp; (try with_reducible rfl)
  simp only [Act.put, List.setIfInBounds_toArray, List.set_cons_zero, List.set_cons_succ]
  refine wpAnyB_load [4,14,17] (fuel := 13) (i := 4) (v := ?_) rfl (by kernel_rfl) (by kernel_rfl) (by kernel_rfl) (by kernel_rfl) (by kernel_rfl) (fun _ _ _ h => h) (.inr S1) ?_ (by rfl) ?_
  rotate_left
  · intro w' hw'; go_simp; (try with_reducible rfl)
  simp only [Act.put, List.setIfInBounds_toArray, List.set_cons_zero, List.set_cons_succ]
  refine wpAnyB_free (fuel := 12) (i := 5) (v := ?_) rfl (by kernel_rfl) (by kernel_rfl) (by kernel_rfl) (by kernel_rfl) (fun _ _ _ h => h) (.inr S1) ?_ (by rfl) ?_
  rotate_left
  · intro w'; go_simp; (try with_reducible rfl)
  simp only [Act.put, List.setIfInBounds_toArray, List.set_cons_zero, List.set_cons_succ]
  refine wpAnyB_load [6,12,13,14,17] (fuel := 11) (i := 6) (v := ?_) rfl (by kernel_rfl) (by kernel_rfl) (by kernel_rfl) (by kernel_rfl) (by kernel_rfl) (fun _ _ _ h => h) (.inr S1) ?_ (by rfl) ?_
  rotate_left
  · intro w' hw'; go_simp; (try with_reducible rfl)
  simp only [Act.put, List.setIfInBounds_toArray, List.set_cons_zero, List.set_cons_succ]
  refine wpAnyB_free (fuel := 10) (i := 7) (v := ?_) rfl (by kernel_rfl) (by kernel_rfl) (by kernel_rfl) (by kernel_rfl) (fun _ _ _ h => h) (.inr S1) ?_ (by rfl) ?_
  rotate_left
  · intro w'; go_simp; (try with_reducible rfl)
  simp only [Act.put, List.setIfInBounds_toArray, List.set_cons_zero, List.set_cons_succ]
  refine wpAnyB_load [8,12,13,14,17] (fuel := 9) (i := 8) (v := ?_) rfl (by kernel_rfl) (by kernel_rfl) (by kernel_rfl) (by kernel_rfl) (by kernel_rfl) (fun _ _ _ h => h) (.inr S1) ?_ (by rfl) ?_
  rotate_left
  · intro w' hw'; go_simp; (try with_reducible rfl)
  simp only [Act.put, List.setIfInBounds_toArray, List.set_cons_zero, List.set_cons_succ]
  refine wpAnyB_free (fuel := 8) (i := 9) (v := ?_) rfl (by kernel_rfl) (by kernel_rfl) (by kernel_rfl) (by kernel_rfl) (fun _ _ _ h => h) (.inr S1) ?_ (by rfl) ?_
  rotate_left
  · intro w'; go_simp; (try with_reducible rfl)
  simp only [Act.put, List.setIfInBounds_toArray, List.set_cons_zero, List.set_cons_succ]
  refine wpAnyB_load [10,11,12,13,14,17] (fuel := 7) (i := 10) (v := ?_) rfl (by kernel_rfl) (by kernel_rfl) (by kernel_rfl) (by kernel_rfl) (by kernel_rfl) (fun _ _ _ h => h) (.inr S1) ?_ (by rfl) ?_
  rotate_left
  · intro w' hw'; go_simp; (try with_reducible rfl)
  simp only [Act.put, List.setIfInBounds_toArray, List.set_cons_zero, List.set_cons_succ]
  refine wpAnyB_one (fuel := 6) (i := 11) rfl (by kernel_rfl) ?_
  intro KB hKB
  go_simp
  refine (HCL.out _ (Below.refl _ _).drew).mono ?_
  rintro e wA ⟨vA, rfl, oA, bA⟩
  obtain ⟨aa, ca, rfl⟩ := own_slice oA
  have BA : Below w1.heap.size w1 wA := of_drew bA
  have OA := Lib.hid (own_base oA (show B ≤ w1.drew.heap.size from by have := hbl; show B ≤ w1.heap.size; omega))
  have PA := Lib.hid (HP.out.keep (keep_below (ts := []) BA (Nat.le_refl _)) (by simp) (by simp))
  have NA := Lib.hid (HN.out.keep (keep_below (ts := []) BA (Nat.le_refl _)) (by simp))
  have HA1 := Lib.hid (show Holds8 wA B bv [] from ⟨(keep_below (B := B) (ts := []) BA (by omega)).own HH.out.1 (by simp), HH.out.2⟩)
  have PO := Lib.hid (show wA.ownsRow B 40 4 (.slice oa 0 oc) 0 (flatO ps) from by have := PA.out.1; rwa [HPLN.out] at this)
  have bxA := Lib.hid ((BA.block _ hs1).trans HB1.out)
  have hBA := Lib.hid (show B ≤ wA.heap.size from by have := BA.size; omega)
  have KA := Lib.hid (HK1.out.trans (keepO_below BA (by omega) _))
  have SA : wA.cell? ⟨b, 0, none⟩ = some (.slice oa 0 oc) ∧ wA.cell? ⟨w.heap.size, 0, none⟩ = some (.int .i64 o.kind) ∧ wA.cell? ⟨w.heap.size, 1, none⟩ = some (.int .i64 o.n) ∧ wA.cell? ⟨w.heap.size, 3, none⟩ = some (.slice ar o.attrs.length cr) := ⟨(BA.cell (by exact hbl)).trans k0, (BA.cell (by exact hs1)).trans c0, (BA.cell (by exact hs1)).trans c1, (BA.cell (by exact hs1)).trans c3⟩
  have AC := Below.alloc (Below.refl wA.heap.size wA) (Nat.le_refl _) (Obj.cells #[.int .i64 o.kind, .int .i64 o.n, .string ⟨#[]⟩, .slice aa o.attrs.length ca] 40)
  have HAC := Lib.hid AC
  have lA := Nat.lt_of_lt_of_le hbl BA.size
  have lA2 := Nat.lt_of_lt_of_le hs1 BA.size
  have SB : (wA.alloc (Obj.cells #[.int .i64 o.kind, .int .i64 o.n, .string ⟨#[]⟩, .slice aa o.attrs.length ca] 40)).cell? ⟨b, 0, none⟩ = some (.slice oa 0 oc) ∧ (wA.alloc (Obj.cells #[.int .i64 o.kind, .int .i64 o.n, .string ⟨#[]⟩, .slice aa o.attrs.length ca] 40)).cell? ⟨w.heap.size, 0, none⟩ = some (.int .i64 o.kind) ∧ (wA.alloc (Obj.cells #[.int .i64 o.kind, .int .i64 o.n, .string ⟨#[]⟩, .slice aa o.attrs.length ca] 40)).cell? ⟨w.heap.size, 1, none⟩ = some (.int .i64 o.n) ∧ (wA.alloc (Obj.cells #[.int .i64 o.kind, .int .i64 o.n, .string ⟨#[]⟩, .slice aa o.attrs.length ca] 40)).cell? ⟨w.heap.size, 3, none⟩ = some (.slice ar o.attrs.length cr) := ⟨(AC.cell (by exact lA)).trans SA.1, (AC.cell (by exact lA2)).trans SA.2.1, (AC.cell (by exact lA2)).trans SA.2.2.1, (AC.cell (by exact lA2)).trans SA.2.2.2⟩
  have HSA := Lib.hid SA
  have HSB := Lib.hid SB
  clear oA bA BA SA SB AC
  refine hKB _ _ (.inr HSA.out) ?_
  try simp only [Act.put, List.setIfInBounds_toArray, List.set_cons_zero, List.set_cons_succ]
  refine wpAnyB_free (fuel := 5) (i := 12) (v := ?_) rfl (by kernel_rfl) (by kernel_rfl) (by kernel_rfl) (by kernel_rfl) (fun _ _ _ h => h) (.inr HSA.out) ?_ (by rfl) ?_
  rotate_left
  · intro w'; go_simp; (try with_reducible rfl)
  simp only [Act.put, List.setIfInBounds_toArray, List.set_cons_zero, List.set_cons_succ]
  refine wpAnyB_one (fuel := 4) (i := 13) rfl (by kernel_rfl) ?_
  intro KB hKB
  go_simp
  refine hKB _ _ (.inr HSB.out) ?_
  try simp only [Act.put, List.setIfInBounds_toArray, List.set_cons_zero, List.set_cons_succ]
  refine wpAnyB_one (fuel := 3) (i := 14) rfl (by kernel_rfl) ?_
  intro KB hKB
  refine step_append_new rfl (.tmp 43) (.tmp 52) 22 rfl 40 i0 (.agg #[.int .i64 0, .int .i64 0, .string ⟨#[]⟩, .slice none 0 0]) 4 56 Try.underlying22 Hi.out.1 Hi.out.2.1 Hi.out.2.2.1 Hi.out.2.2.2 rfl (by decide) B (.slice oa 0 oc) 0 (flatO ps) rfl (PO.out.alloc _) ⟨wA.heap.size, 0, none⟩ 1 1 [.int .i64 o.kind, .int .i64 o.n, .string ⟨#[]⟩, .slice aa o.attrs.length ca] rfl rfl (new_at4 _ _ _ _ _ _) (fun u hu => by simp at hu; rcases hu with rfl | rfl | rfl | rfl <;> rfl) (by unfold maxLen; have := HPL.out; have := HPLN.out; omega) (by have := HPL.out; have := HPLN.out; omega) (by have := hBA.out; simp; omega) ?_
  intro v' wC oC gC nC
  obtain ⟨oa', oc', rfl⟩ := own_slice oC
  have KC1 := keepO_below (B := B) HAC.out hBA.out (.slice oa 0 oc)
  have KC2 := keepO_grown (PO.out.alloc _) gC (by have := hBA.out; simp; omega) nC
  have NC : NBlk wC b _ _ _ g := (NA.out.keep (keep_below (ts := []) HAC.out (Nat.le_refl _)) (by simp)).keep (ts := [40]) (keep_row (PO.out.alloc _) gC (by simp) (by have := hBA.out; simp; omega)) (by decide)
  have bC := (KC2.ops w.heap.size _ _ ((HAC.out.block _ (lt_of_heap bxA.out)).trans bxA.out) HNE.out).1
  obtain ⟨kC, _, _, _, fC⟩ := NC.cells
  have fC0 := fC 0
  have SC : wC.cell? ⟨b, 0, none⟩ = some (.slice oa 0 oc) ∧ wC.cell? ⟨w.heap.size, 0, none⟩ = some (.int .i64 o.kind) ∧ wC.cell? ⟨w.heap.size, 1, none⟩ = some (.int .i64 o.n) ∧ wC.cell? ⟨w.heap.size, 3, none⟩ = some (.slice ar o.attrs.length cr) := ⟨kC, by rw [Lib.cell_of_heap bC]; rfl, by rw [Lib.cell_of_heap bC]; rfl, by rw [Lib.cell_of_heap bC]; rfl⟩
  have HSC := Lib.hid SC
  have HNC := Lib.hid NC
  have HOC := Lib.hid oC
  have HBC := Lib.hid bC
  have HKC := Lib.hid (KA.out.trans (KC1.trans KC2))
  have HKC2 := Lib.hid (KC1.trans KC2)
  clear oC gC nC KC1 KC2 NC fC SC bC
  refine hKB _ _ (.inr HSC.out) ?_
  try simp only [Act.put, List.setIfInBounds_toArray, List.set_cons_zero, List.set_cons_succ]
  refine wpAnyB_free (fuel := 2) (i := 15) (v := ?_) rfl (by kernel_rfl) (by kernel_rfl) (by kernel_rfl) (by kernel_rfl) (fun _ _ _ h => h) (.inr HSC.out) ?_ (by rfl) ?_
  rotate_left
  · intro w'; go_simp; (try with_reducible rfl)
  simp only [Act.put, List.setIfInBounds_toArray, List.set_cons_zero, List.set_cons_succ]
  refine wpAnyB_free (fuel := 1) (i := 16) (v := ?_) rfl (by kernel_rfl) (by kernel_rfl) (by kernel_rfl) (by kernel_rfl) (fun _ _ _ h => h) (.inr HSC.out) ?_ (by rfl) ?_
  rotate_left
  · intro w'; go_simp; (try with_reducible rfl)
  simp only [Act.put, List.setIfInBounds_toArray, List.set_cons_zero, List.set_cons_succ]
  refine wpAnyB_one (fuel := 0) (i := 17) rfl (by kernel_rfl) ?_
  intro KB hKB
  go_simp
  refine hKB _ _ (.inl (by kernel_rfl)) ?_
  try simp only [Act.put, List.setIfInBounds_toArray, List.set_cons_zero, List.set_cons_succ]
  refine wpAnyB_done (by kernel_rfl) ?_
  have KD1 : Keep B [56] wC (wC.setCell ⟨b, 0, none⟩ (.slice oa' (0 + 1) oc')) := keep_set HNC.out (by simp) hB _ rfl _
  have KAD : Keep B TS wA (wC.setCell ⟨b, 0, none⟩ (.slice oa' (0 + 1) oc')) := HKC2.out.keep.trans (KD1.more (by simp))
  have OD : OwnP (wC.setCell ⟨b, 0, none⟩ (.slice oa' (0 + 1) oc')) B (.slice oa' (0 + 1) oc') (ps ++ [(noText o, .slice aa o.attrs.length ca)]) := ownP_mk (by have h1 := KD1.own HOC.out (by decide); rw [HPLN.out, flatO_snoc]; exact h1) (fun q hq => KAD.own (PA.out.2 q hq) (by decide)) (KAD.own OA.out (by decide))
  have ND : NBlk (wC.setCell ⟨b, 0, none⟩ (.slice oa' (0 + 1) oc')) b (.slice oa' (0 + 1) oc') ad bv g := HNC.out.set0
  have KD : KeepO B w (wC.setCell ⟨b, 0, none⟩ (.slice oa' (0 + 1) oc')) (.slice oa 0 oc) (.slice oa' (0 + 1) oc') := HKC.out.trans (keepO_of KD1 (by simp) (by decide) _)
  have bD : (wC.setCell ⟨b, 0, none⟩ (.slice oa' (0 + 1) oc')).heap[w.heap.size]? = _ := KD1.kept _ _ _ _ HBC.out (by decide)
  have HD : Holds8 (wC.setCell ⟨b, 0, none⟩ (.slice oa' (0 + 1) oc')) B bv [] := by rw [HH.out.2 rfl]; exact holds8_nil _ _
  obtain ⟨wD, hwD⟩ : ∃ wD, wD = wC.setCell ⟨b, 0, none⟩ (.slice oa' (0 + 1) oc') := ⟨_, rfl⟩
  change (Exit.then _ _) _ _ (wC.setCell ⟨b, 0, none⟩ (.slice oa' (0 + 1) oc'))
  rw [← hwD] at OD ND KD bD HD ⊢
  have HOD := Lib.hid OD
  have HND := Lib.hid ND
  have HKD := Lib.hid KD
  have HHD := Lib.hid HD
  have HbD := Lib.hid bD
  have c2 : wD.cell? ⟨w.heap.size, 2, none⟩ = some (.string o.text) := by rw [Lib.cell_of_heap bD]; rfl
  clear OD ND KD bD HD KD1 KAD hwD S1
  go_wp2_with fail
  go_region_held3 (fun w' => w'.cell? ⟨w.heap.size, 2, none⟩ = some (.string o.text))
    (first
      | exact c2
      | exact cE)
    (first
      | (go_at_call 59; refine (writeString_any B b _ ad bv g [] o.text _ (by exact HND.out) HA.out hB (by exact HHD.out) (by have := HF.out.text; simp; omega)).mono ?_; rintro e wE ⟨⟨nE, rfl⟩, ⟨bE, NE, HE⟩, KE⟩; have kbE := KE.kept (w := wD.drew) _ _ _ _ HbD.out (by decide); have cE : wE.cell? ⟨w.heap.size, 2, none⟩ = some (.string o.text) := by rw [Lib.cell_of_heap kbE]; rfl))
  have KE2 : Keep B [56, 5] wD wE := of_drewK KE
  have OE := HOD.out.keep KE2 (by decide) (by decide)
  have FIN : ∃ ov', NSt wE B b ov' (put [] o) g ∧ KeepO B w wE (.slice oa 0 oc) ov' := by
    rw [show put [] o = o :: [] from rfl]
    exact ⟨_, ⟨_, _, _, _, NE, .inr rfl, OE, HE, .inr ⟨o, [], ps, _, rfl, rfl, HPS.out, rfl⟩⟩, HKD.out.trans (keepO_of KE2 (by simp) (by decide) _)⟩
  have HFIN := Lib.hid FIN
  clear FIN OE KE2 KE kbE cE NE HE
  go_wp2_with fail
  go_end0
  exact ⟨rfl, HFIN.out⟩
end Go.Proofs.Ytacgkbdldbppjaa

/- put behind another operation -/
namespace Go.Proofs.Ytacgkbdldbppjaa
open Go.RowKit Ch

set_option maxHeartbeats 4000000 in
set_option maxRecDepth 100000 in
theorem put_other (B b : Nat) (ov : Value) (l : List OpD) (g : Int) (o : OpD) (av : Value) (w : World) (h : NSt w B b ov l g) (hB : B ≤ b) (hf : Fits l o) (hv : ∀ w', Below B w w' → AtRow w' av o.attrs) (x : OpD) (r : List OpD) (hl : l = x :: r) (hal : ¬ (x.kind = o.kind ∧ x.attrs = o.attrs)) :
    Calls Try.prog 48 #[.pointer (some ⟨b, 0, none⟩), opAgg o av] w (PutOut w B b ov l o g) := by
  have hBw : B ≤ w.heap.size := Nat.le_trans hB (Nat.le_of_lt h.lt)
  obtain ⟨ar, cr, rfl⟩ := (hv w (Below.refl _ _)).shape
  obtain ⟨W, hW⟩ : ∃ W, W = w.alloc (.cells #[.int .i64 o.kind, .int .i64 o.n, .string o.text, .slice ar o.attrs.length cr] 40) := ⟨_, rfl⟩
  have BW : Below w.heap.size w W := by rw [hW]; exact below_box _ _
  have HBW := Lib.hid BW
  have hbox : W.heap[w.heap.size]? = some (.cells #[.int .i64 o.kind, .int .i64 o.n, .string o.text, .slice ar o.attrs.length cr] 40 (0, 0)) := by rw [hW]; exact heap_new _ _
  have HBX := Lib.hid hbox
  have HNE := Lib.hid (show ov.ownBlock ≠ some w.heap.size from fun e => by have := h.ov_lt _ e; omega)
  have HS := Lib.hid (h.below BW)
  have HV := Lib.hid hv
  have HF := Lib.hid hf
  have HW := Lib.hid hW
  have HBw := Lib.hid hBw
  obtain ⟨ps0, ad0, bv0, bt0, hN0, hA0, hP0, hH0, hcase⟩ := h
  have hblw := lt_of_heap hN0
  obtain ⟨fr, xv, rfl, hfr, rfl⟩ : ∃ fr xv, ps0 = fr ++ [(noText x, xv)] ∧ fr.map (·.1) = r.reverse ∧ bt0 = x.text.data.toList := by
    rcases hcase with ⟨h, _⟩ | ⟨x', r', fr, xv, h, h2, h3, h4⟩
    · rw [hl] at h; cases h
    · rw [hl] at h
      simp only [List.cons.injEq] at h
      obtain ⟨rfl, rfl⟩ := h
      exact ⟨fr, xv, h2, h3, h4⟩
  subst hl
  obtain ⟨gg, cap, hov⟩ := ownsRow_open hP0.len (Nat.succ_pos _)
  subst hov
  obtain ⟨xa, xc, hxv⟩ : ∃ a c, xv = .slice a (noText x).attrs.length c := own_slice (hP0.2 (noText x, xv) (by simp))
  subst hxv
  have p0 : w.cell? ⟨b, 0, none⟩ = some (.slice (some ⟨gg, 0, none⟩) (fr.length + 1) cap) := hN0.cells.1
  have hm : fr.length ≤ 4000 := by
    have h1 := congrArg List.length hfr
    rw [List.length_map, List.length_reverse] at h1
    have := hf.len
    rw [List.length_cons] at this
    omega
  have NW : NBlk W b _ ad0 bv0 g := hN0.keep (keep_below (ts := []) BW (Nat.le_refl _)) (by simp)
  have PW := hP0.keep (keep_below (ts := []) BW (Nat.le_refl _)) (by simp) (by simp)
  have k0 : W.cell? ⟨b, 0, none⟩ = some (.slice (some ⟨gg, 0, none⟩) (fr.length + 1) cap) := NW.cells.1
  obtain ⟨q0, q1, q2, q3⟩ := last_cells PW.len
  have c0 : W.cell? ⟨w.heap.size, 0, none⟩ = some (.int .i64 o.kind) := by rw [Lib.cell_of_heap hbox]; rfl
  have c1 : W.cell? ⟨w.heap.size, 1, none⟩ = some (.int .i64 o.n) := by rw [Lib.cell_of_heap hbox]; rfl
  have c2 : W.cell? ⟨w.heap.size, 2, none⟩ = some (.string o.text) := by rw [Lib.cell_of_heap hbox]; rfl
  have c3 : W.cell? ⟨w.heap.size, 3, none⟩ = some (.slice ar o.attrs.length cr) := by rw [Lib.cell_of_heap hbox]; rfl
  have hbW : b < W.heap.size := lt_of_heap NW
  have hgW : gg < W.heap.size := by obtain ⟨_, cs, hcs⟩ := own_heap PW.len; exact lt_of_heap hcs
  have hxW : w.heap.size < W.heap.size := lt_of_heap hbox
  have i1 : (0 : Int) ≤ (fr.length : Int) := by omega
  have i2 : (fr.length : Int) < (fr.length : Int) + 1 := by omega
  have i3 : decide ((0 : Int) ≤ (fr.length : Int)) = true := decide_eq_true (by omega)
  have HPW := Lib.hid PW
  have HNW := Lib.hid NW
  have HFR := Lib.hid hfr
  have HM := Lib.hid hm
  have HA0 := Lib.hid hA0
  have HH0 := Lib.hid (show Holds8 W B bv0 x.text.data.toList from ⟨(keep_below (B := B) (ts := []) BW hBw).own hH0.1 (by simp), hH0.2⟩)
  have HAL := Lib.hid (fun W' (hb : Below W.heap.size W W') => alike_any (noText x) o (.slice xa (noText x).attrs.length xc) (.slice ar o.attrs.length cr) W' (row_of_own ((keep_below (B := B) (ts := []) hb (Nat.le_trans hBw BW.size)).own (PW.2 (noText x, .slice xa (noText x).attrs.length xc) (by simp)) (by simp))) (hv W' ((BW.mono hBw).trans (hb.mono (Nat.le_trans hBw BW.size)))))
  rw [show alikeB (noText x) o = false from decide_eq_false hal] at HAL
  have HNA := Lib.hid hal
  clear hf hv hW BW hbox hBw hN0 hA0 hP0 hH0 hcase NW PW hfr hal
  go_enter Try.func48, Try.ntmps48
  go_wp2_with fail
  rw [← HW.out]
  go_wp2_with fail
  go_region_held3 (fun w' => w'.cell? ⟨b, 0, none⟩ = some (.slice (some ⟨gg, 0, none⟩) (fr.length + 1) cap) ∧ w'.cell? ⟨gg, fr.length * 4, none⟩ = some (.int .i64 (noText x).kind) ∧ w'.cell? ⟨gg, fr.length * 4 + 1, none⟩ = some (.int .i64 (noText x).n) ∧ w'.cell? ⟨gg, fr.length * 4 + 2, none⟩ = some (.string (noText x).text) ∧ w'.cell? ⟨gg, fr.length * 4 + 3, none⟩ = some (.slice xa (noText x).attrs.length xc) ∧ w'.cell? ⟨w.heap.size, 0, none⟩ = some (.int .i64 o.kind) ∧ w'.cell? ⟨w.heap.size, 1, none⟩ = some (.int .i64 o.n) ∧ w'.cell? ⟨w.heap.size, 2, none⟩ = some (.string o.text) ∧ w'.cell? ⟨w.heap.size, 3, none⟩ = some (.slice ar o.attrs.length cr))
    (first
      | exact ⟨k0, q0, q1, q2, q3, c0, c1, c2, c3⟩
      | exact ⟨(BB.cell (by exact hbW)).trans k0, (BB.cell (by exact hgW)).trans q0, (BB.cell (by exact hgW)).trans q1, (BB.cell (by exact hgW)).trans q2, (BB.cell (by exact hgW)).trans q3, (BB.cell (by exact hxW)).trans c0, (BB.cell (by exact hxW)).trans c1, (BB.cell (by exact hxW)).trans c2, (BB.cell (by exact hxW)).trans c3⟩)
    (first
      | (go_at_call 27; refine (HAL.out _ (Below.refl _ _).drew).mono ?_; rintro e wB ⟨rfl, hbB⟩; have BB : Below W.heap.size W wB := of_drew hbB))
  have HBB := Lib.hid BB
  have HBX2 := Lib.hid ((BB.block _ hxW).trans HBX.out)
  clear BB hbB k0 q0 q1 q2 q3 c0 c1 c2 c3 p0
  go_wp2_with fail
  refine (finish_any B b _ _ g _ (HS.out.below HBB.out) hB (by have := HF.out.len; omega)).mono ?_
  rintro e w1 ⟨rfl, F1, KF⟩
  have hb1 : w1.heap[w.heap.size]? = some (.cells #[.int .i64 o.kind, .int .i64 o.n, .string o.text, .slice ar o.attrs.length cr] 40 (0, 0)) := (KF.ops _ _ _ HBX2.out HNE.out).1
  have K1 : KeepO B w w1 (.slice (some ⟨gg, 0, none⟩) (fr.length + 1) cap) (.slice (some ⟨gg, 0, none⟩) (fr.length + 1) cap) := (keepO_below (HBW.out.trans (HBB.out.mono HBW.out.size)) HBw.out _).trans KF
  have HK1 := Lib.hid K1
  have HB1 := Lib.hid hb1
  have hs1 : w.heap.size < w1.heap.size := lt_of_heap hb1
  obtain ⟨ps, ad, bv, hN, hA, hP, hH, hps⟩ := F1
  have hpl : ps.length ≤ 4000 := by have h1 := congrArg List.length hps; rw [List.length_map, List.length_reverse] at h1; have := HF.out.len; omega
  have hPL : ps.length = (fr.length + 1) := by
    obtain ⟨a', c', e⟩ := own_slice hP.1
    simp only [Value.slice.injEq] at e
    exact e.2.1.symm
  have HPLN := Lib.hid hPL
  obtain ⟨k0, k1, k2, k3, k4⟩ := hN.cells
  have hbl : b < w1.heap.size := lt_of_heap hN
  have c0 : w1.cell? ⟨w.heap.size, 0, none⟩ = some (.int .i64 o.kind) := by rw [Lib.cell_of_heap hb1]; rfl
  have c1 : w1.cell? ⟨w.heap.size, 1, none⟩ = some (.int .i64 o.n) := by rw [Lib.cell_of_heap hb1]; rfl
  have c3 : w1.cell? ⟨w.heap.size, 3, none⟩ = some (.slice ar o.attrs.length cr) := by rw [Lib.cell_of_heap hb1]; rfl
  obtain ⟨i0, hi, hz0, hz1, hz2⟩ := info_parts infoOp
  have Hi := Lib.hid (And.intro hi (And.intro hz0 (And.intro hz1 hz2)))
  have HN := Lib.hid hN
  have HP := Lib.hid hP
  have HH := Lib.hid hH
  have HA := Lib.hid hA
  have HPS := Lib.hid hps
  have HCL := Lib.hid (fun W' (hb : Below w1.heap.size w1 W') => cloneAttrs_any (.slice ar o.attrs.length cr) o.attrs W' (HV.out W' (K1.keep.below.trans (hb.mono (Nat.le_trans HBw.out K1.keep.below.size)))) HF.out.attrs)
  have HPL := Lib.hid hpl
  have hnb : w.heap.size ≠ b := by
    have := HS.out.lt
    have := HBW.out.size
    exact block_ne hb1 hN (by decide)
  have HNB := Lib.hid hnb
  clear hN hP hH hA hps hPL KF K1 hi hz0 hz1 hz2 k1 k2 k3 k4 hb1 hpl hnb
  go_wp2_with fail
  have S1 : w1.drew.cell? ⟨b, 0, none⟩ = some (.slice (some ⟨gg, 0, none⟩) (fr.length + 1) cap) ∧ w1.drew.cell? ⟨w.heap.size, 0, none⟩ = some (.int .i64 o.kind) ∧ w1.drew.cell? ⟨w.heap.size, 1, none⟩ = some (.int .i64 o.n) ∧ w1.drew.cell? ⟨w.heap.size, 3, none⟩ = some (.slice ar o.attrs.length cr) := ⟨k0, c0, c1, c3⟩
  refine wp_region_B (fun w' => w'.cell? ⟨b, 0, none⟩ = some (.slice (some ⟨gg, 0, none⟩) (fr.length + 1) cap) ∧ w'.cell? ⟨w.heap.size, 0, none⟩ = some (.int .i64 o.kind) ∧ w'.cell? ⟨w.heap.size, 1, none⟩ = some (.int .i64 o.n) ∧ w'.cell? ⟨w.heap.size, 3, none⟩ = some (.slice ar o.attrs.length cr)) [17] (by kernel_rfl) (?_ : wpAnyB _ _ _ _ _ _ 18 (Array.replicate 18 false) _ _)
  refine wpAnyB_free (fuel := 17) (i := 0) (v := ?_) rfl (by kernel_rfl) (by kernel_rfl) (by kernel_rfl) (by kernel_rfl) (fun _ _ _ h => h) (.inr S1) ?_ (by rfl) ?_
  rotate_left
  · intro w'; go_simp; (try with_reducible rfl)
  simp only [Act.put, List.setIfInBounds_toArray, List.set_cons_zero, List.set_cons_succ]
  refine wpAnyB_free (fuel := 16) (i := 1) (v := ?_) rfl (by kernel_rfl) (by kernel_rfl) (by kernel_rfl) (by kernel_rfl) (fun _ _ _ h => h) (.inr S1) ?_ (by rfl) ?_
  rotate_left
  · intro w'; go_simp; (try with_reducible rfl)
  simp only [Act.put, List.setIfInBounds_toArray, List.set_cons_zero, List.set_cons_succ]
  refine wpAnyB_free (fuel := 15) (i := 2) (v := ?_) rfl (by kernel_rfl) (by kernel_rfl) (by kernel_rfl) (by kernel_rfl) (fun _ _ _ h => h) (.inr S1) ?_ (by rfl) ?_
  rotate_left
  · intro w'; go_simp; (try with_reducible rfl)
  simp only [Act.put, List.setIfInBounds_toArray, List.set_cons_zero, List.set_cons_succ]
  refine wpAnyB_free (fuel := 14) (i := 3) (v := ?_) rfl (by kernel_rfl) (by kernel_rfl) (by kernel_rfl) (by kernel_rfl) (fun _ _ _ h => h) (.inr S1) ?_ (by rfl) ?_
  rotate_left
  · intro w'; go_simp; (try with_reducible rfl)
  simp only [Act.put, List.setIfInBounds_toArray, List.set_cons_zero, List.set_cons_succ]
  refine wpAnyB_load [4,14,17] (fuel := 13) (i := 4) (v := ?_) rfl (by kernel_rfl) (by kernel_rfl) (by kernel_rfl) (by kernel_rfl) (by kernel_rfl) (fun _ _ _ h => h) (.inr S1) ?_ (by rfl) ?_
  rotate_left
  · intro w' hw'; go_simp; (try with_reducible rfl)
  simp only [Act.put, List.setIfInBounds_toArray, List.set_cons_zero, List.set_cons_succ]
  refine wpAnyB_free (fuel := 12) (i := 5) (v := ?_) rfl (by kernel_rfl) (by kernel_rfl) (by kernel_rfl) (by kernel_rfl) (fun _ _ _ h => h) (.inr S1) ?_ (by rfl) ?_
  rotate_left
  · intro w'; go_simp; (try with_reducible rfl)
  simp only [Act.put, List.setIfInBounds_toArray, List.set_cons_zero, List.set_cons_succ]
  refine wpAnyB_load [6,12,13,14,17] (fuel := 11) (i := 6) (v := ?_) rfl (by kernel_rfl) (by kernel_rfl) (by kernel_rfl) (by kernel_rfl) (by kernel_rfl) (fun _ _ _ h => h) (.inr S1) ?_ (by rfl) ?_
  rotate_left
  · intro w' hw'; go_simp; (try with_reducible rfl)
  simp only [Act.put, List.setIfInBounds_toArray, List.set_cons_zero, List.set_cons_succ]
  refine wpAnyB_free (fuel := 10) (i := 7) (v := ?_) rfl (by kernel_rfl) (by kernel_rfl) (by kernel_rfl) (by kernel_rfl) (fun _ _ _ h => h) (.inr S1) ?_ (by rfl) ?_
  rotate_left
  · intro w'; go_simp; (try with_reducible rfl)
  simp only [Act.put, List.setIfInBounds_toArray, List.set_cons_zero, List.set_cons_succ]
  refine wpAnyB_load [8,12,13,14,17] (fuel := 9) (i := 8) (v := ?_) rfl (by kernel_rfl) (by kernel_rfl) (by kernel_rfl) (by kernel_rfl) (by kernel_rfl) (fun _ _ _ h => h) (.inr S1) ?_ (by rfl) ?_
  rotate_left
  · intro w' hw'; go_simp; (try with_reducible rfl)
  simp only [Act.put, List.setIfInBounds_toArray, List.set_cons_zero, List.set_cons_succ]
  refine wpAnyB_free (fuel := 8) (i := 9) (v := ?_) rfl (by kernel_rfl) (by kernel_rfl) (by kernel_rfl) (by kernel_rfl) (fun _ _ _ h => h) (.inr S1) ?_ (by rfl) ?_
  rotate_left
  · intro w'; go_simp; (try with_reducible rfl)
  simp only [Act.put, List.setIfInBounds_toArray, List.set_cons_zero, List.set_cons_succ]
  refine wpAnyB_load [10,11,12,13,14,17] (fuel := 7) (i := 10) (v := ?_) rfl (by kernel_rfl) (by kernel_rfl) (by kernel_rfl) (by kernel_rfl) (by kernel_rfl) (fun _ _ _ h => h) (.inr S1) ?_ (by rfl) ?_
  rotate_left
  · intro w' hw'; go_simp; (try with_reducible rfl)
  simp only [Act.put, List.setIfInBounds_toArray, List.set_cons_zero, List.set_cons_succ]
  refine wpAnyB_one (fuel := 6) (i := 11) rfl (by kernel_rfl) ?_
  intro KB hKB
  go_simp
  refine (HCL.out _ (Below.refl _ _).drew).mono ?_
  rintro e wA ⟨vA, rfl, oA, bA⟩
  obtain ⟨aa, ca, rfl⟩ := own_slice oA
  have BA : Below w1.heap.size w1 wA := of_drew bA
  have OA := Lib.hid (own_base oA (show B ≤ w1.drew.heap.size from by have := hbl; show B ≤ w1.heap.size; omega))
  have PA := Lib.hid (HP.out.keep (keep_below (ts := []) BA (Nat.le_refl _)) (by simp) (by simp))
  have NA := Lib.hid (HN.out.keep (keep_below (ts := []) BA (Nat.le_refl _)) (by simp))
  have HA1 := Lib.hid (show Holds8 wA B bv [] from ⟨(keep_below (B := B) (ts := []) BA (by omega)).own HH.out.1 (by simp), HH.out.2⟩)
  have PO := Lib.hid (show wA.ownsRow B 40 4 (.slice (some ⟨gg, 0, none⟩) (fr.length + 1) cap) (fr.length + 1) (flatO ps) from by have := PA.out.1; rwa [HPLN.out] at this)
  have bxA := Lib.hid ((BA.block _ hs1).trans HB1.out)
  have hBA := Lib.hid (show B ≤ wA.heap.size from by have := BA.size; omega)
  have KA := Lib.hid (HK1.out.trans (keepO_below BA (by omega) _))
  have SA : wA.cell? ⟨b, 0, none⟩ = some (.slice (some ⟨gg, 0, none⟩) (fr.length + 1) cap) ∧ wA.cell? ⟨w.heap.size, 0, none⟩ = some (.int .i64 o.kind) ∧ wA.cell? ⟨w.heap.size, 1, none⟩ = some (.int .i64 o.n) ∧ wA.cell? ⟨w.heap.size, 3, none⟩ = some (.slice ar o.attrs.length cr) := ⟨(BA.cell (by exact hbl)).trans k0, (BA.cell (by exact hs1)).trans c0, (BA.cell (by exact hs1)).trans c1, (BA.cell (by exact hs1)).trans c3⟩
  have AC := Below.alloc (Below.refl wA.heap.size wA) (Nat.le_refl _) (Obj.cells #[.int .i64 o.kind, .int .i64 o.n, .string ⟨#[]⟩, .slice aa o.attrs.length ca] 40)
  have HAC := Lib.hid AC
  have lA := Nat.lt_of_lt_of_le hbl BA.size
  have lA2 := Nat.lt_of_lt_of_le hs1 BA.size
  have SB : (wA.alloc (Obj.cells #[.int .i64 o.kind, .int .i64 o.n, .string ⟨#[]⟩, .slice aa o.attrs.length ca] 40)).cell? ⟨b, 0, none⟩ = some (.slice (some ⟨gg, 0, none⟩) (fr.length + 1) cap) ∧ (wA.alloc (Obj.cells #[.int .i64 o.kind, .int .i64 o.n, .string ⟨#[]⟩, .slice aa o.attrs.length ca] 40)).cell? ⟨w.heap.size, 0, none⟩ = some (.int .i64 o.kind) ∧ (wA.alloc (Obj.cells #[.int .i64 o.kind, .int .i64 o.n, .string ⟨#[]⟩, .slice aa o.attrs.length ca] 40)).cell? ⟨w.heap.size, 1, none⟩ = some (.int .i64 o.n) ∧ (wA.alloc (Obj.cells #[.int .i64 o.kind, .int .i64 o.n, .string ⟨#[]⟩, .slice aa o.attrs.length ca] 40)).cell? ⟨w.heap.size, 3, none⟩ = some (.slice ar o.attrs.length cr) := ⟨(AC.cell (by exact lA)).trans SA.1, (AC.cell (by exact lA2)).trans SA.2.1, (AC.cell (by exact lA2)).trans SA.2.2.1, (AC.cell (by exact lA2)).trans SA.2.2.2⟩
  have HSA := Lib.hid SA
  have HSB := Lib.hid SB
  clear oA bA BA SA SB AC
  refine hKB _ _ (.inr HSA.out) ?_
  try simp only [Act.put, List.setIfInBounds_toArray, List.set_cons_zero, List.set_cons_succ]
  refine wpAnyB_free (fuel := 5) (i := 12) (v := ?_) rfl (by kernel_rfl) (by kernel_rfl) (by kernel_rfl) (by kernel_rfl) (fun _ _ _ h => h) (.inr HSA.out) ?_ (by rfl) ?_
  rotate_left
  · intro w'; go_simp; (try with_reducible rfl)
  simp only [Act.put, List.setIfInBounds_toArray, List.set_cons_zero, List.set_cons_succ]
  refine wpAnyB_one (fuel := 4) (i := 13) rfl (by kernel_rfl) ?_
  intro KB hKB
  go_simp
  refine hKB _ _ (.inr HSB.out) ?_
  try simp only [Act.put, List.setIfInBounds_toArray, List.set_cons_zero, List.set_cons_succ]
  refine wpAnyB_one (fuel := 3) (i := 14) rfl (by kernel_rfl) ?_
  intro KB hKB
  refine step_append_new rfl (.tmp 43) (.tmp 52) 22 rfl 40 i0 (.agg #[.int .i64 0, .int .i64 0, .string ⟨#[]⟩, .slice none 0 0]) 4 56 Try.underlying22 Hi.out.1 Hi.out.2.1 Hi.out.2.2.1 Hi.out.2.2.2 rfl (by decide) B (.slice (some ⟨gg, 0, none⟩) (fr.length + 1) cap) (fr.length + 1) (flatO ps) rfl (PO.out.alloc _) ⟨wA.heap.size, 0, none⟩ 1 1 [.int .i64 o.kind, .int .i64 o.n, .string ⟨#[]⟩, .slice aa o.attrs.length ca] rfl rfl (new_at4 _ _ _ _ _ _) (fun u hu => by simp at hu; rcases hu with rfl | rfl | rfl | rfl <;> rfl) (by unfold maxLen; have := HPL.out; have := HPLN.out; omega) (by have := HPL.out; have := HPLN.out; omega) (by have := hBA.out; simp; omega) ?_
  intro v' wC oC gC nC
  obtain ⟨oa', oc', rfl⟩ := own_slice oC
  have KC1 := keepO_below (B := B) HAC.out hBA.out (.slice (some ⟨gg, 0, none⟩) (fr.length + 1) cap)
  have KC2 := keepO_grown (PO.out.alloc _) gC (by have := hBA.out; simp; omega) nC
  have NC : NBlk wC b _ _ _ g := (NA.out.keep (keep_below (ts := []) HAC.out (Nat.le_refl _)) (by simp)).keep (ts := [40]) (keep_row (PO.out.alloc _) gC (by simp) (by have := hBA.out; simp; omega)) (by decide)
  have bC := (KC2.ops w.heap.size _ _ ((HAC.out.block _ (lt_of_heap bxA.out)).trans bxA.out) HNE.out).1
  obtain ⟨kC, _, _, _, fC⟩ := NC.cells
  have fC0 := fC 0
  have SC : wC.cell? ⟨b, 0, none⟩ = some (.slice (some ⟨gg, 0, none⟩) (fr.length + 1) cap) ∧ wC.cell? ⟨w.heap.size, 0, none⟩ = some (.int .i64 o.kind) ∧ wC.cell? ⟨w.heap.size, 1, none⟩ = some (.int .i64 o.n) ∧ wC.cell? ⟨w.heap.size, 3, none⟩ = some (.slice ar o.attrs.length cr) := ⟨kC, by rw [Lib.cell_of_heap bC]; rfl, by rw [Lib.cell_of_heap bC]; rfl, by rw [Lib.cell_of_heap bC]; rfl⟩
  have HSC := Lib.hid SC
  have HNC := Lib.hid NC
  have HOC := Lib.hid oC
  have HBC := Lib.hid bC
  have HKC := Lib.hid (KA.out.trans (KC1.trans KC2))
  have HKC2 := Lib.hid (KC1.trans KC2)
  clear oC gC nC KC1 KC2 NC fC SC bC
  refine hKB _ _ (.inr HSC.out) ?_
  try simp only [Act.put, List.setIfInBounds_toArray, List.set_cons_zero, List.set_cons_succ]
  refine wpAnyB_free (fuel := 2) (i := 15) (v := ?_) rfl (by kernel_rfl) (by kernel_rfl) (by kernel_rfl) (by kernel_rfl) (fun _ _ _ h => h) (.inr HSC.out) ?_ (by rfl) ?_
  rotate_left
  · intro w'; go_simp; (try with_reducible rfl)
  simp only [Act.put, List.setIfInBounds_toArray, List.set_cons_zero, List.set_cons_succ]
  refine wpAnyB_free (fuel := 1) (i := 16) (v := ?_) rfl (by kernel_rfl) (by kernel_rfl) (by kernel_rfl) (by kernel_rfl) (fun _ _ _ h => h) (.inr HSC.out) ?_ (by rfl) ?_
  rotate_left
  · intro w'; go_simp; (try with_reducible rfl)
  simp only [Act.put, List.setIfInBounds_toArray, List.set_cons_zero, List.set_cons_succ]
  refine wpAnyB_one (fuel := 0) (i := 17) rfl (by kernel_rfl) ?_
  intro KB hKB
  go_simp
  refine hKB _ _ (.inl (by kernel_rfl)) ?_
  try simp only [Act.put, List.setIfInBounds_toArray, List.set_cons_zero, List.set_cons_succ]
  refine wpAnyB_done (by kernel_rfl) ?_
  have KD1 : Keep B [56] wC (wC.setCell ⟨b, 0, none⟩ (.slice oa' ((fr.length + 1) + 1) oc')) := keep_set HNC.out (by simp) hB _ rfl _
  have KAD : Keep B TS wA (wC.setCell ⟨b, 0, none⟩ (.slice oa' ((fr.length + 1) + 1) oc')) := HKC2.out.keep.trans (KD1.more (by simp))
  have OD : OwnP (wC.setCell ⟨b, 0, none⟩ (.slice oa' ((fr.length + 1) + 1) oc')) B (.slice oa' ((fr.length + 1) + 1) oc') (ps ++ [(noText o, .slice aa o.attrs.length ca)]) := ownP_mk (by have h1 := KD1.own HOC.out (by decide); rw [HPLN.out, flatO_snoc]; exact h1) (fun q hq => KAD.own (PA.out.2 q hq) (by decide)) (KAD.own OA.out (by decide))
  have ND : NBlk (wC.setCell ⟨b, 0, none⟩ (.slice oa' ((fr.length + 1) + 1) oc')) b (.slice oa' ((fr.length + 1) + 1) oc') ad bv g := HNC.out.set0
  have KD : KeepO B w (wC.setCell ⟨b, 0, none⟩ (.slice oa' ((fr.length + 1) + 1) oc')) (.slice (some ⟨gg, 0, none⟩) (fr.length + 1) cap) (.slice oa' ((fr.length + 1) + 1) oc') := HKC.out.trans (keepO_of KD1 (by simp) (by decide) _)
  have bD : (wC.setCell ⟨b, 0, none⟩ (.slice oa' ((fr.length + 1) + 1) oc')).heap[w.heap.size]? = _ := KD1.kept _ _ _ _ HBC.out (by decide)
  have HD : Holds8 (wC.setCell ⟨b, 0, none⟩ (.slice oa' ((fr.length + 1) + 1) oc')) B bv [] := by rw [HH.out.2 rfl]; exact holds8_nil _ _
  obtain ⟨wD, hwD⟩ : ∃ wD, wD = wC.setCell ⟨b, 0, none⟩ (.slice oa' ((fr.length + 1) + 1) oc') := ⟨_, rfl⟩
  change (Exit.then _ _) _ _ (wC.setCell ⟨b, 0, none⟩ (.slice oa' ((fr.length + 1) + 1) oc'))
  rw [← hwD] at OD ND KD bD HD ⊢
  have HOD := Lib.hid OD
  have HND := Lib.hid ND
  have HKD := Lib.hid KD
  have HHD := Lib.hid HD
  have HbD := Lib.hid bD
  have c2 : wD.cell? ⟨w.heap.size, 2, none⟩ = some (.string o.text) := by rw [Lib.cell_of_heap bD]; rfl
  clear OD ND KD bD HD KD1 KAD hwD S1
  go_wp2_with fail
  go_region_held3 (fun w' => w'.cell? ⟨w.heap.size, 2, none⟩ = some (.string o.text))
    (first
      | exact c2
      | exact cE)
    (first
      | (go_at_call 59; refine (writeString_any B b _ ad bv g [] o.text _ (by exact HND.out) HA.out hB (by exact HHD.out) (by have := HF.out.text; simp; omega)).mono ?_; rintro e wE ⟨⟨nE, rfl⟩, ⟨bE, NE, HE⟩, KE⟩; have kbE := KE.kept (w := wD.drew) _ _ _ _ HbD.out (by decide); have cE : wE.cell? ⟨w.heap.size, 2, none⟩ = some (.string o.text) := by rw [Lib.cell_of_heap kbE]; rfl))
  have KE2 : Keep B [56, 5] wD wE := of_drewK KE
  have OE := HOD.out.keep KE2 (by decide) (by decide)
  have FIN : ∃ ov', NSt wE B b ov' (put (x :: r) o) g ∧ KeepO B w wE (.slice (some ⟨gg, 0, none⟩) (fr.length + 1) cap) ov' := by
    rw [show put (x :: r) o = o :: (x :: r) from put_fresh fun y s e => by simp only [List.cons.injEq] at e; obtain ⟨rfl, rfl⟩ := e; exact HNA.out]
    exact ⟨_, ⟨_, _, _, _, NE, .inr rfl, OE, HE, .inr ⟨o, (x :: r), ps, _, rfl, rfl, HPS.out, rfl⟩⟩, HKD.out.trans (keepO_of KE2 (by simp) (by decide) _)⟩
  have HFIN := Lib.hid FIN
  clear FIN OE KE2 KE kbE cE NE HE
  go_wp2_with fail
  go_end0
  exact ⟨rfl, HFIN.out⟩
end Go.Proofs.Ytacgkbdldbppjaa

/- put as one with the last -/
namespace Go.Proofs.Ytacgkbdldbppjaa
open Go.RowKit Ch

set_option maxHeartbeats 4000000 in
set_option maxRecDepth 100000 in
theorem put_alike (B b : Nat) (ov : Value) (l : List OpD) (g : Int) (o : OpD) (av : Value) (w : World) (h : NSt w B b ov l g) (hB : B ≤ b) (hf : Fits l o) (hv : ∀ w', Below B w w' → AtRow w' av o.attrs) (x : OpD) (r : List OpD) (hl : l = x :: r) (hal : x.kind = o.kind ∧ x.attrs = o.attrs) :
    Calls Try.prog 48 #[.pointer (some ⟨b, 0, none⟩), opAgg o av] w (PutOut w B b ov l o g) := by
  have hBw : B ≤ w.heap.size := Nat.le_trans hB (Nat.le_of_lt h.lt)
  obtain ⟨ar, cr, rfl⟩ := (hv w (Below.refl _ _)).shape
  obtain ⟨W, hW⟩ : ∃ W, W = w.alloc (.cells #[.int .i64 o.kind, .int .i64 o.n, .string o.text, .slice ar o.attrs.length cr] 40) := ⟨_, rfl⟩
  have BW : Below w.heap.size w W := by rw [hW]; exact below_box _ _
  have HBW := Lib.hid BW
  have hbox : W.heap[w.heap.size]? = some (.cells #[.int .i64 o.kind, .int .i64 o.n, .string o.text, .slice ar o.attrs.length cr] 40 (0, 0)) := by rw [hW]; exact heap_new _ _
  have HBX := Lib.hid hbox
  have HNE := Lib.hid (show ov.ownBlock ≠ some w.heap.size from fun e => by have := h.ov_lt _ e; omega)
  have HS := Lib.hid (h.below BW)
  have HV := Lib.hid hv
  have HF := Lib.hid hf
  have HW := Lib.hid hW
  have HBw := Lib.hid hBw
  obtain ⟨ps0, ad0, bv0, bt0, hN0, hA0, hP0, hH0, hcase⟩ := h
  have hblw := lt_of_heap hN0
  obtain ⟨fr, xv, rfl, hfr, rfl⟩ : ∃ fr xv, ps0 = fr ++ [(noText x, xv)] ∧ fr.map (·.1) = r.reverse ∧ bt0 = x.text.data.toList := by
    rcases hcase with ⟨h, _⟩ | ⟨x', r', fr, xv, h, h2, h3, h4⟩
    · rw [hl] at h; cases h
    · rw [hl] at h
      simp only [List.cons.injEq] at h
      obtain ⟨rfl, rfl⟩ := h
      exact ⟨fr, xv, h2, h3, h4⟩
  subst hl
  obtain ⟨gg, cap, hov⟩ := ownsRow_open hP0.len (Nat.succ_pos _)
  subst hov
  obtain ⟨xa, xc, hxv⟩ : ∃ a c, xv = .slice a (noText x).attrs.length c := own_slice (hP0.2 (noText x, xv) (by simp))
  subst hxv
  have p0 : w.cell? ⟨b, 0, none⟩ = some (.slice (some ⟨gg, 0, none⟩) (fr.length + 1) cap) := hN0.cells.1
  have hm : fr.length ≤ 4000 := by
    have h1 := congrArg List.length hfr
    rw [List.length_map, List.length_reverse] at h1
    have := hf.len
    rw [List.length_cons] at this
    omega
  have NW : NBlk W b _ ad0 bv0 g := hN0.keep (keep_below (ts := []) BW (Nat.le_refl _)) (by simp)
  have PW := hP0.keep (keep_below (ts := []) BW (Nat.le_refl _)) (by simp) (by simp)
  have k0 : W.cell? ⟨b, 0, none⟩ = some (.slice (some ⟨gg, 0, none⟩) (fr.length + 1) cap) := NW.cells.1
  obtain ⟨q0, q1, q2, q3⟩ := last_cells PW.len
  have c0 : W.cell? ⟨w.heap.size, 0, none⟩ = some (.int .i64 o.kind) := by rw [Lib.cell_of_heap hbox]; rfl
  have c1 : W.cell? ⟨w.heap.size, 1, none⟩ = some (.int .i64 o.n) := by rw [Lib.cell_of_heap hbox]; rfl
  have c2 : W.cell? ⟨w.heap.size, 2, none⟩ = some (.string o.text) := by rw [Lib.cell_of_heap hbox]; rfl
  have c3 : W.cell? ⟨w.heap.size, 3, none⟩ = some (.slice ar o.attrs.length cr) := by rw [Lib.cell_of_heap hbox]; rfl
  have hbW : b < W.heap.size := lt_of_heap NW
  have hgW : gg < W.heap.size := by obtain ⟨_, cs, hcs⟩ := own_heap PW.len; exact lt_of_heap hcs
  have hxW : w.heap.size < W.heap.size := lt_of_heap hbox
  have i1 : (0 : Int) ≤ (fr.length : Int) := by omega
  have i2 : (fr.length : Int) < (fr.length : Int) + 1 := by omega
  have i3 : decide ((0 : Int) ≤ (fr.length : Int)) = true := decide_eq_true (by omega)
  have HPW := Lib.hid PW
  have HNW := Lib.hid NW
  have HFR := Lib.hid hfr
  have HM := Lib.hid hm
  have HA0 := Lib.hid hA0
  have HH0 := Lib.hid (show Holds8 W B bv0 x.text.data.toList from ⟨(keep_below (B := B) (ts := []) BW hBw).own hH0.1 (by simp), hH0.2⟩)
  have HAL := Lib.hid (fun W' (hb : Below W.heap.size W W') => alike_any (noText x) o (.slice xa (noText x).attrs.length xc) (.slice ar o.attrs.length cr) W' (row_of_own ((keep_below (B := B) (ts := []) hb (Nat.le_trans hBw BW.size)).own (PW.2 (noText x, .slice xa (noText x).attrs.length xc) (by simp)) (by simp))) (hv W' ((BW.mono hBw).trans (hb.mono (Nat.le_trans hBw BW.size)))))
  rw [show alikeB (noText x) o = true from decide_eq_true hal] at HAL
  have HNA := Lib.hid hal
  clear hf hv hW BW hbox hBw hN0 hA0 hP0 hH0 hcase NW PW hfr hal
  go_enter Try.func48, Try.ntmps48
  go_wp2_with fail
  rw [← HW.out]
  go_wp2_with fail
  go_region_held3 (fun w' => w'.cell? ⟨b, 0, none⟩ = some (.slice (some ⟨gg, 0, none⟩) (fr.length + 1) cap) ∧ w'.cell? ⟨gg, fr.length * 4, none⟩ = some (.int .i64 (noText x).kind) ∧ w'.cell? ⟨gg, fr.length * 4 + 1, none⟩ = some (.int .i64 (noText x).n) ∧ w'.cell? ⟨gg, fr.length * 4 + 2, none⟩ = some (.string (noText x).text) ∧ w'.cell? ⟨gg, fr.length * 4 + 3, none⟩ = some (.slice xa (noText x).attrs.length xc) ∧ w'.cell? ⟨w.heap.size, 0, none⟩ = some (.int .i64 o.kind) ∧ w'.cell? ⟨w.heap.size, 1, none⟩ = some (.int .i64 o.n) ∧ w'.cell? ⟨w.heap.size, 2, none⟩ = some (.string o.text) ∧ w'.cell? ⟨w.heap.size, 3, none⟩ = some (.slice ar o.attrs.length cr))
    (first
      | exact ⟨k0, q0, q1, q2, q3, c0, c1, c2, c3⟩
      | exact ⟨(BB.cell (by exact hbW)).trans k0, (BB.cell (by exact hgW)).trans q0, (BB.cell (by exact hgW)).trans q1, (BB.cell (by exact hgW)).trans q2, (BB.cell (by exact hgW)).trans q3, (BB.cell (by exact hxW)).trans c0, (BB.cell (by exact hxW)).trans c1, (BB.cell (by exact hxW)).trans c2, (BB.cell (by exact hxW)).trans c3⟩)
    (first
      | (go_at_call 27; refine (HAL.out _ (Below.refl _ _).drew).mono ?_; rintro e wB ⟨rfl, hbB⟩; have BB : Below W.heap.size W wB := of_drew hbB))
  have HBB := Lib.hid BB
  have HBX2 := Lib.hid ((BB.block _ hxW).trans HBX.out)
  have kB : wB.cell? ⟨b, 0, none⟩ = some (.slice (some ⟨gg, 0, none⟩) (fr.length + 1) cap) := (BB.cell (by exact hbW)).trans k0
  have qB : wB.cell? ⟨gg, fr.length * 4 + 1, none⟩ = some (.int .i64 (noText x).n) := (BB.cell (by exact hgW)).trans q1
  have cB : wB.cell? ⟨w.heap.size, 1, none⟩ = some (.int .i64 o.n) := (BB.cell (by exact hxW)).trans c1
  have PB := HPW.out.keep (keep_below (ts := []) BB (Nat.le_refl _)) (by simp) (by simp)
  have NB := HNW.out.keep (keep_below (ts := []) BB (Nat.le_refl _)) (by simp)
  have HB8 := Lib.hid (show Holds8 wB B bv0 x.text.data.toList from ⟨(keep_below (B := B) (ts := []) BB (Nat.le_trans HBw.out HBW.out.size)).own HH0.out.1 (by simp), HH0.out.2⟩)
  have fB : wB.frozen? ⟨gg, fr.length * 4 + 1, none⟩ = false := PB.len.frozenAt _
  have hwr : IntKind.i64.wrap ((noText x).n + o.n) = (noText x).n + o.n := by
    have h1 := HF.out.last x r rfl
    have h2 := HF.out.n0
    have h3 := HF.out.n1
    have h4 : (noText x).n = x.n := rfl
    exact IntWalk.i64_in _ (by omega)
  have HPB := Lib.hid PB
  have HNB := Lib.hid NB
  clear BB hbB k0 q0 q1 q2 q3 c0 c1 c2 c3 p0 PB NB
  go_wp2_with fail
  go_region
  obtain ⟨P1, K1⟩ := OwnP.setLast (y := noText { x with n := x.n + o.n, text := cat x.text o.text }) HPB.out 1 (.int .i64 ((noText x).n + o.n)) rfl rfl
  have KS : Keep B [40] wB (wB.setCell ⟨gg, fr.length * 4 + 1, none⟩ (.int .i64 ((noText x).n + o.n))) := keep_set (own_heap HPB.out.len).2.choose_spec (by simp) (own_heap HPB.out.len).1 ⟨gg, fr.length * 4 + 1, none⟩ rfl _
  have N1 := HNB.out.keep KS (by decide)
  have hgx : gg ≠ w.heap.size := fun e => HNE.out (by rw [e]; rfl)
  have b1 : (wB.setCell ⟨gg, fr.length * 4 + 1, none⟩ (.int .i64 ((noText x).n + o.n))).heap[w.heap.size]? = _ := (Below.heap_setCell _ _ _ _ (fun e => hgx e.symm)).trans HBX2.out
  have H1 : Holds8 (wB.setCell ⟨gg, fr.length * 4 + 1, none⟩ (.int .i64 ((noText x).n + o.n))) B bv0 x.text.data.toList := ⟨KS.own HB8.out.1 (by decide), HB8.out.2⟩
  have K2 : KeepO B w (wB.setCell ⟨gg, fr.length * 4 + 1, none⟩ (.int .i64 ((noText x).n + o.n))) (.slice (some ⟨gg, 0, none⟩) (fr.length + 1) cap) (.slice (some ⟨gg, 0, none⟩) (fr.length + 1) cap) := (keepO_below (HBW.out.trans (HBB.out.mono HBW.out.size)) HBw.out _).trans K1
  obtain ⟨wS, hwS⟩ : ∃ wS, wS = wB.setCell ⟨gg, fr.length * 4 + 1, none⟩ (.int .i64 ((noText x).n + o.n)) := ⟨_, rfl⟩
  rw [← hwS] at P1 N1 b1 H1 K2 ⊢
  have HP1 := Lib.hid P1
  have HN1 := Lib.hid N1
  have HH1 := Lib.hid H1
  have HK2 := Lib.hid K2
  have HB1 := Lib.hid b1
  have c2 : wS.cell? ⟨w.heap.size, 2, none⟩ = some (.string o.text) := by rw [Lib.cell_of_heap b1]; rfl
  clear P1 N1 H1 K2 KS K1 b1 hwS hgx kB qB cB fB hwr
  go_wp2_with fail
  go_region_held3 (fun w' => w'.cell? ⟨w.heap.size, 2, none⟩ = some (.string o.text))
    (first
      | exact c2
      | exact cE)
    (first
      | (go_at_call 59; refine (writeString_any B b _ ad0 bv0 g x.text.data.toList o.text _ (by exact HN1.out) HA0.out hB (by exact HH1.out) (by have h1 := HF.out.text; have h2 := (HF.out.last x r rfl).2.2; have h3 : x.text.data.toList.length = x.text.size := rfl; omega)).mono ?_; rintro e wE ⟨⟨nE, rfl⟩, ⟨bE, NE, HE⟩, KE⟩; have kbE := KE.kept (w := wS.drew.drew) _ _ _ _ HB1.out (by decide); have cE : wE.cell? ⟨w.heap.size, 2, none⟩ = some (.string o.text) := by rw [Lib.cell_of_heap kbE]; rfl))
  have KE2 : Keep B [56, 5] wS wE := of_drewK (of_drewK KE)
  have OE := HP1.out.keep KE2 (by decide) (by decide)
  have FIN : ∃ ov', NSt wE B b ov' (put (x :: r) o) g ∧ KeepO B w wE (.slice (some ⟨gg, 0, none⟩) (fr.length + 1) cap) ov' := by
    rw [show put (x :: r) o = { x with n := x.n + o.n, text := cat x.text o.text } :: r by rw [put, if_pos HNA.out]]
    exact ⟨_, ⟨_, _, _, _, NE, .inr rfl, OE, HE, .inr ⟨{ x with n := x.n + o.n, text := cat x.text o.text }, r, fr, _, rfl, rfl, HFR.out, rfl⟩⟩, HK2.out.trans (keepO_of KE2 (by simp) (by decide) _)⟩
  have HFIN := Lib.hid FIN
  clear FIN OE KE2 KE kbE cE NE HE c2
  go_wp2_with fail
  go_end0
  exact ⟨rfl, HFIN.out⟩
end Go.Proofs.Ytacgkbdldbppjaa

/- The program's deleted and add. -/
namespace Go.Proofs.Ytacgkbdldbppjaa
open Go.RowKit Ch

theorem put_any (B b : Nat) (ov : Value) (l : List OpD) (g : Int) (o : OpD) (av : Value) (w : World) (h : NSt w B b ov l g) (hB : B ≤ b) (hf : Fits l o) (hv : ∀ w', Below B w w' → AtRow w' av o.attrs) :
    Calls Try.prog 48 #[.pointer (some ⟨b, 0, none⟩), opAgg o av] w (PutOut w B b ov l o g) := by
  cases l with
  | nil => exact put_empty B b ov [] g o av w h hB hf hv rfl
  | cons x r =>
    by_cases hal : x.kind = o.kind ∧ x.attrs = o.attrs
    · exact put_alike B b ov (x :: r) g o av w h hB hf hv x r rfl hal
    · exact put_other B b ov (x :: r) g o av w h hB hf hv x r rfl hal

theorem NSt.cell3 {w : World} {B b : Nat} {ov : Value} {l : List OpD} {g : Int} (h : NSt w B b ov l g) : w.cell? ⟨b, 3, none⟩ = some (.int .i64 g) ∧ w.frozen? ⟨b, 3, none⟩ = false := by
  obtain ⟨_, _, _, _, hN, _⟩ := h
  exact ⟨hN.cells.2.2.2.1, hN.cells.2.2.2.2 3⟩
theorem NSt.setG {w : World} {B b : Nat} {ov : Value} {l : List OpD} {g : Int} (h : NSt w B b ov l g) (hB : B ≤ b) (k : Int) : NSt (w.setCell ⟨b, 3, none⟩ (.int .i64 k)) B b ov l k ∧ KeepO B w (w.setCell ⟨b, 3, none⟩ (.int .i64 k)) ov ov := by
  obtain ⟨ps, ad, bv, bt, h1, h2, h3, h4, h5⟩ := h
  have hk : Keep B [56] w (w.setCell ⟨b, 3, none⟩ (.int .i64 k)) := keep_set h1 (by simp) hB _ rfl _
  exact ⟨⟨ps, ad, bv, bt, h1.set3, h2, h3.keep hk (by decide) (by decide), ⟨hk.own h4.1 (by decide), h4.2⟩, h5⟩, keepO_of hk (by simp) (by decide) _⟩
theorem NSt.drew {w : World} {B b : Nat} {ov : Value} {l : List OpD} {g : Int} (h : NSt w B b ov l g) : NSt w.drew B b ov l g := h
theorem KeepO.of_drew {B : Nat} {a w : World} {u v : Value} (h : KeepO B a.drew w u v) : KeepO B a w u v := ⟨of_drewK h.keep, h.ops⟩

def DelOut (w : World) (B b : Nat) (ov : Value) (l : List OpD) (g : Int) (e : Ending) (w' : World) : Prop := e = .returned (.tuple #[]) ∧ ∃ ov', NSt w' B b ov' (flush (l, g)) 0 ∧ KeepO B w w' ov ov'

set_option maxHeartbeats 2000000 in
set_option maxRecDepth 100000 in
theorem deleted_any (B b : Nat) (ov : Value) (l : List OpD) (g : Int) (w : World) (h : NSt w B b ov l g) (hB : B ≤ b) (hg : 0 ≤ g) (hf : Fits l (delO g)) :
    Calls Try.prog 47 #[.pointer (some ⟨b, 0, none⟩)] w (DelOut w B b ov l g) := by
  have c3 := h.cell3.1
  have HS := Lib.hid h
  have HF := Lib.hid hf
  have hBw := Lib.hid (show B ≤ w.heap.size from Nat.le_trans hB (Nat.le_of_lt h.lt))
  by_cases hp : 0 < g
  · have hfl : flush (l, g) = put l (delO g) := by unfold flush; rw [if_pos (by exact hp)]
    have HP := Lib.hid (fun W (hW : NSt W B b ov l g) => put_any B b ov l g (delO g) (.slice none 0 0) W hW hB hf (fun w' _ => ⟨none, 0, rfl, Nat.le_refl _, Nat.zero_le _, fun i hi => absurd hi (Nat.not_lt_zero _)⟩))
    have HFL := Lib.hid hfl
    clear h hf hfl
    go_enter Try.func47, Try.ntmps47
    go_wp2_with fail
    go_region_held3 (fun w' => w'.cell? ⟨b, 3, none⟩ = some (.int .i64 g))
      (first
        | exact c3
        | exact c3A)
      (first
        | (go_at_call 48; refine (HP.out _ (by exact HS.out)).mono ?_; rintro e wA ⟨rfl, ovA, NA, KA⟩; have c3A := NA.cell3.1))
    obtain ⟨N2, K2⟩ := NA.setG hB 0
    have f3 := NA.cell3.2
    have FIN : ∃ ov', NSt (wA.setCell ⟨b, 3, none⟩ (.int .i64 0)) B b ov' (flush (l, g)) 0 ∧ KeepO B w (wA.setCell ⟨b, 3, none⟩ (.int .i64 0)) ov ov' := ⟨ovA, by rw [HFL.out]; exact N2, (KeepO.of_drew KA).trans K2⟩
    have HFIN := Lib.hid FIN
    clear N2 K2 FIN KA NA
    go_wp2_with fail
    go_end0
    exact ⟨rfl, HFIN.out⟩
  · have hg0 : g = 0 := by omega
    subst hg0
    have hfl : flush (l, 0) = l := by unfold flush; rw [if_neg (by show ¬ (0 : Int) < 0; omega)]
    have FIN : ∃ ov', NSt w B b ov' (flush (l, 0)) 0 ∧ KeepO B w w ov ov' := ⟨ov, by rw [hfl]; exact h, keepO_below (Below.refl _ _) hBw.out _⟩
    have HFIN := Lib.hid FIN
    clear h hf hfl FIN hp hg
    go_enter Try.func47, Try.ntmps47
    go_wp2_with fail
    go_end0
    exact ⟨rfl, HFIN.out⟩

/-- What an add asks of the state and of the operation. -/
structure FitsS (s : List OpD × Int) (o : OpD) : Prop where
  g0 : 0 ≤ s.2
  g1 : s.2 ≤ 536870912
  del : Fits s.1 (delO s.2)
  ins : Fits s.1 o
  keep : Fits (flush s) o
  o1 : o.n ≤ 536870912
def AddOut (w : World) (B b : Nat) (ov : Value) (s : List OpD × Int) (o : OpD) (e : Ending) (w' : World) : Prop := e = .returned (.tuple #[]) ∧ ∃ ov', NSt w' B b ov' (Ch.add s o).1 (Ch.add s o).2 ∧ KeepO B w w' ov ov'

set_option maxHeartbeats 4000000 in
set_option maxRecDepth 100000 in
theorem add_any (B b : Nat) (ov : Value) (s : List OpD × Int) (o : OpD) (av : Value) (w : World) (h : NSt w B b ov s.1 s.2) (hB : B ≤ b) (hf : FitsS s o) (hv : ∀ w', Below B w w' → AtRow w' av o.attrs) :
    Calls Try.prog 31 #[.pointer (some ⟨b, 0, none⟩), opAgg o av] w (AddOut w B b ov s o) := by
  obtain ⟨l, g⟩ := s
  have hBw : B ≤ w.heap.size := Nat.le_trans hB (Nat.le_of_lt h.lt)
  obtain ⟨ar, cr, rfl⟩ := (hv w (Below.refl _ _)).shape
  obtain ⟨W, hW⟩ : ∃ W, W = w.alloc (.cells #[.int .i64 o.kind, .int .i64 o.n, .string o.text, .slice ar o.attrs.length cr] 40) := ⟨_, rfl⟩
  have BW : Below w.heap.size w W := by rw [hW]; exact below_box _ _
  have hbox : W.heap[w.heap.size]? = some (.cells #[.int .i64 o.kind, .int .i64 o.n, .string o.text, .slice ar o.attrs.length cr] 40 (0, 0)) := by rw [hW]; exact heap_new _ _
  have HNE := Lib.hid (show ov.ownBlock ≠ some w.heap.size from fun e => by have := h.ov_lt _ e; omega)
  have HBX := Lib.hid hbox
  have HBW := Lib.hid BW
  have HS := Lib.hid (h.below BW)
  have HV := Lib.hid hv
  have HF := Lib.hid hf
  have HW := Lib.hid hW
  have HBw := Lib.hid hBw
  have hblw := h.lt
  have p3 := h.cell3.1
  have k3 := HS.out.cell3.1
  have f3 := HS.out.cell3.2
  have c0 : W.cell? ⟨w.heap.size, 0, none⟩ = some (.int .i64 o.kind) := by rw [Lib.cell_of_heap hbox]; rfl
  have c1 : W.cell? ⟨w.heap.size, 1, none⟩ = some (.int .i64 o.n) := by rw [Lib.cell_of_heap hbox]; rfl
  have c2 : W.cell? ⟨w.heap.size, 2, none⟩ = some (.string o.text) := by rw [Lib.cell_of_heap hbox]; rfl
  have c3 : W.cell? ⟨w.heap.size, 3, none⟩ = some (.slice ar o.attrs.length cr) := by rw [Lib.cell_of_heap hbox]; rfl
  by_cases hk3 : o.kind = 3
  · have t3 : (o.kind == 3) = true := by rw [hk3]; rfl
    have hR : add (l, g) o = (l, g + o.n) := by unfold add; rw [if_pos hk3]
    have hwr : IntKind.i64.wrap (g + o.n) = g + o.n := by
      have h1 := hf.g0
      have h2 := hf.g1
      have h3 := hf.o1
      have h4 := hf.ins.n0
      exact IntWalk.i64_in _ (by simp only at h1 h2; omega)
    obtain ⟨N2, K2⟩ := HS.out.setG hB (g + o.n)
    have FIN : ∃ ov', NSt (W.setCell ⟨b, 3, none⟩ (.int .i64 (g + o.n))) B b ov' (add (l, g) o).1 (add (l, g) o).2 ∧ KeepO B w (W.setCell ⟨b, 3, none⟩ (.int .i64 (g + o.n))) ov ov' := ⟨ov, by rw [hR]; exact N2, (keepO_below BW hBw _).trans K2⟩
    have HFIN := Lib.hid FIN
    clear h hf hv hW BW hbox hBw hk3 hR N2 K2 FIN
    go_enter Try.func31, Try.ntmps31
    go_wp2_with fail
    rw [← HW.out]
    go_wp2_with fail
    go_region
    go_wp2_with fail
    go_end0
    obtain ⟨ov', a1, a2⟩ := HFIN.out
    exact ⟨rfl, ov', a1, ⟨a2.keep.drew, a2.ops⟩⟩
  · have t3 : (o.kind == 3) = false := by rw [beq_eq_false_iff_ne]; exact hk3
    by_cases hk1 : o.kind = 1
    · have t1 : (o.kind == 1) = true := by rw [hk1]; rfl
      have HR := Lib.hid (show add (l, g) o = (put (flush (l, g)) o, 0) by unfold add; rw [if_neg hk3, if_pos hk1])
      clear h hf hv hW BW hbox hBw hk3 hk1 p3 k3 f3
      go_enter Try.func31, Try.ntmps31
      go_wp2_with fail
      rw [← HW.out]
      go_wp2_with fail
      refine (deleted_any B b ov l g _ HS.out hB HF.out.g0 HF.out.del).mono ?_
      rintro e wA ⟨rfl, ovA, NA, KA⟩
      have bA := (KA.ops w.heap.size _ _ HBX.out HNE.out)
      have a0 : wA.cell? ⟨w.heap.size, 0, none⟩ = some (.int .i64 o.kind) := by rw [Lib.cell_of_heap bA.1]; rfl
      have a1 : wA.cell? ⟨w.heap.size, 1, none⟩ = some (.int .i64 o.n) := by rw [Lib.cell_of_heap bA.1]; rfl
      have a2 : wA.cell? ⟨w.heap.size, 2, none⟩ = some (.string o.text) := by rw [Lib.cell_of_heap bA.1]; rfl
      have a3 : wA.cell? ⟨w.heap.size, 3, none⟩ = some (.slice ar o.attrs.length cr) := by rw [Lib.cell_of_heap bA.1]; rfl
      have KWA := Lib.hid ((keepO_below HBW.out HBw.out ov).trans KA)
      have HNA := Lib.hid NA
      have HbA := Lib.hid bA
      clear NA KA bA c0 c1 c2 c3
      go_wp2_with fail
      go_region_held3 (fun w' => w'.cell? ⟨w.heap.size, 0, none⟩ = some (.int .i64 o.kind) ∧ w'.cell? ⟨w.heap.size, 1, none⟩ = some (.int .i64 o.n) ∧ w'.cell? ⟨w.heap.size, 2, none⟩ = some (.string o.text) ∧ w'.cell? ⟨w.heap.size, 3, none⟩ = some (.slice ar o.attrs.length cr))
        (first
          | exact ⟨a0, a1, a2, a3⟩
          | exact cC)
        (first
          | (go_at_call 48; refine (put_any B b _ _ 0 o _ wA.drew (by exact HNA.out) hB HF.out.keep (fun w' hb => HV.out w' (KWA.out.keep.below.trans ⟨hb.os, hb.tape, hb.output, hb.size, hb.block⟩))).mono ?_; rintro e wC ⟨rfl, ovC, NC, KC⟩; have bC := (KC.ops w.heap.size _ _ HbA.out.1 HbA.out.2).1; have cC : wC.cell? ⟨w.heap.size, 0, none⟩ = some (.int .i64 o.kind) ∧ wC.cell? ⟨w.heap.size, 1, none⟩ = some (.int .i64 o.n) ∧ wC.cell? ⟨w.heap.size, 2, none⟩ = some (.string o.text) ∧ wC.cell? ⟨w.heap.size, 3, none⟩ = some (.slice ar o.attrs.length cr) := ⟨by rw [Lib.cell_of_heap bC]; rfl, by rw [Lib.cell_of_heap bC]; rfl, by rw [Lib.cell_of_heap bC]; rfl, by rw [Lib.cell_of_heap bC]; rfl⟩))
      have FIN : ∃ ov', NSt wC B b ov' (add (l, g) o).1 (add (l, g) o).2 ∧ KeepO B w wC ov ov' := ⟨ovC, by rw [HR.out]; exact NC, KWA.out.trans (KeepO.of_drew KC)⟩
      have HFIN := Lib.hid FIN
      clear FIN NC KC bC cC
      go_wp2_with fail
      go_end0
      exact ⟨rfl, HFIN.out⟩
    · have t1 : (o.kind == 1) = false := by rw [beq_eq_false_iff_ne]; exact hk1
      have HR := Lib.hid (show add (l, g) o = (put l o, g) by unfold add; rw [if_neg hk3, if_neg hk1])
      clear h hf hv hW BW hbox hBw hk3 hk1 p3 k3 f3
      go_enter Try.func31, Try.ntmps31
      go_wp2_with fail
      rw [← HW.out]
      go_wp2_with fail
      go_region_held3 (fun w' => w'.cell? ⟨w.heap.size, 0, none⟩ = some (.int .i64 o.kind) ∧ w'.cell? ⟨w.heap.size, 1, none⟩ = some (.int .i64 o.n) ∧ w'.cell? ⟨w.heap.size, 2, none⟩ = some (.string o.text) ∧ w'.cell? ⟨w.heap.size, 3, none⟩ = some (.slice ar o.attrs.length cr))
        (first
          | exact ⟨c0, c1, c2, c3⟩
          | exact cC)
        (first
          | (go_at_call 48; refine (put_any B b _ l g o _ W.drew (by exact HS.out) hB HF.out.ins (fun w' hb => HV.out w' ((HBW.out.mono HBw.out).trans ⟨hb.os, hb.tape, hb.output, hb.size, hb.block⟩))).mono ?_; rintro e wC ⟨rfl, ovC, NC, KC⟩; have bC := (KC.ops w.heap.size _ _ (by exact HBX.out) HNE.out).1; have cC : wC.cell? ⟨w.heap.size, 0, none⟩ = some (.int .i64 o.kind) ∧ wC.cell? ⟨w.heap.size, 1, none⟩ = some (.int .i64 o.n) ∧ wC.cell? ⟨w.heap.size, 2, none⟩ = some (.string o.text) ∧ wC.cell? ⟨w.heap.size, 3, none⟩ = some (.slice ar o.attrs.length cr) := ⟨by rw [Lib.cell_of_heap bC]; rfl, by rw [Lib.cell_of_heap bC]; rfl, by rw [Lib.cell_of_heap bC]; rfl, by rw [Lib.cell_of_heap bC]; rfl⟩))
      have FIN : ∃ ov', NSt wC B b ov' (add (l, g) o).1 (add (l, g) o).2 ∧ KeepO B w wC ov ov' := ⟨ovC, by rw [HR.out]; exact NC, (keepO_below HBW.out HBw.out ov).trans (KeepO.of_drew KC)⟩
      have HFIN := Lib.hid FIN
      clear FIN NC KC bC cC
      go_wp2_with fail
      go_end0
      exact ⟨rfl, HFIN.out⟩
end Go.Proofs.Ytacgkbdldbppjaa

/- The program's end: the whole row, its last keep dropped if it says nothing. -/
namespace Go.Proofs.Ytacgkbdldbppjaa
open Go.RowKit Ch

theorem own_front {w : World} {B gg cap : Nat} {fr : List (OpD × Value)} {p : OpD × Value} (h : w.ownsRow B 40 4 (.slice (some ⟨gg, 0, none⟩) (fr.length + 1) cap) (fr.length + 1) (flatO (fr ++ [p]))) :
    w.ownsRow B 40 4 (.slice (some ⟨gg, 0, none⟩) fr.length cap) fr.length (flatO fr) := by
  rcases h.2 with ⟨h', _⟩ | ⟨g', cap', cur, h', hb, hg, hn, hm, hc, ht⟩
  · simp at h'
  · simp only [Value.slice.injEq, Option.some.injEq, Addr.mk.injEq, and_true, true_and] at h'
    obtain ⟨rfl, rfl⟩ := h'
    refine ⟨flatO_len _, .inr ⟨gg, cap, cur, rfl, hb, hg, by omega, hm, hc, ?_⟩⟩
    have h2 := congrArg (List.take (fr.length * 4)) ht
    rw [List.take_take, flatO_snoc, List.take_append_of_le_length (by rw [flatO_len]; omega), List.take_of_length_le (l := flatO fr) (by rw [flatO_len]; omega)] at h2
    rw [← h2]
    congr 1
    omega
theorem slice_ops (g n cap k : Nat) (hk : k ≤ cap) (W : World) : (Instr.sliceAt 22 (.slice (some ⟨g, 0, none⟩) n cap) none (some (.int .i64 (k : Int))) none).run Try.prog W = .ok (.slice (some ⟨g, 0, none⟩) k cap) W := by
  have he : Try.prog.elem 22 = 40 := by kernel_rfl
  have hu : Try.prog.underlying 22 = some (.slice (Try.prog.elem 22)) := by kernel_rfl
  rw [run_sliceAt_slice W _ _ _ _ _ hu, run_slice_h W _ _ _ _ hu .i64 _ (by omega) (by omega), he, Try.sizeOf40, Int.toNat_natCast]
  have e : sliced (some ⟨g, 0, none⟩) 0 k cap 4 = .slice (some ⟨g, 0, none⟩) k cap := by
    unfold sliced
    split <;> simp [Addr.add]
  rw [← e]; rfl

theorem map_snoc {ps : List (OpD × Value)} {l : List OpD} {x : OpD} (h : ps.map (·.1) = l ++ [x]) : ∃ fr xv, ps = fr ++ [(x, xv)] ∧ fr.map (·.1) = l := by
  obtain ⟨a, b, rfl, h1, h2⟩ := List.map_eq_append_iff.1 h
  cases b with
  | nil => simp at h2
  | cons p b =>
    simp only [List.map_cons, List.cons.injEq, List.map_eq_nil_iff] at h2
    obtain ⟨rfl, rfl⟩ := h2
    exact ⟨a, p.2, rfl, h1⟩
def EndOut (w : World) (B : Nat) (s : List OpD × Int) (e : Ending) (w' : World) : Prop := ∃ v, e = .returned v ∧ OwnOps w' B v (trim (flush s)).reverse ∧ Keep B TS w w'

set_option maxHeartbeats 4000000 in
set_option maxRecDepth 100000 in
theorem end_any (B b : Nat) (ov : Value) (s : List OpD × Int) (w : World) (h : NSt w B b ov s.1 s.2) (hB : B ≤ b) (hg : 0 ≤ s.2) (hf : Fits s.1 (delO s.2)) (hl : (flush s).length ≤ 4000) :
    Calls Try.prog 32 #[.pointer (some ⟨b, 0, none⟩)] w (EndOut w B s) := by
  obtain ⟨l, g⟩ := s
  have HD := Lib.hid (deleted_any B b ov l g w h hB hg hf)
  have HL := Lib.hid hl
  clear h hg hf hl
  cases hfl : flush (l, g) with
  | nil =>
    have HR := Lib.hid (show (trim (flush (l, g))).reverse = [] by rw [hfl]; rfl)
    have HFL := Lib.hid hfl
    clear hfl
    go_enter Try.func32, Try.ntmps32
    go_wp2_with fail
    refine HD.out.mono ?_
    rintro e wA ⟨rfl, ovA, NA, KA⟩
    have HNA := Lib.hid NA
    have HKA := Lib.hid KA
    clear NA KA
    go_wp2_with fail
    refine (finish_any B b ovA _ 0 _ HNA.out hB (by have := HL.out; omega)).mono ?_
    rintro e wF ⟨rfl, F1, KF⟩
    obtain ⟨ps, ad, bv, hN, _, hP, _, hps⟩ := F1
    rw [HFL.out] at hps
    have h0 : ps = [] := List.map_eq_nil_iff.1 hps
    subst h0
    obtain ⟨oa, oc, rfl⟩ := own_slice hP.1
    have k0 : wF.cell? ⟨b, 0, none⟩ = some (.slice oa 0 oc) := hN.cells.1
    have HP := Lib.hid hP
    have HK := Lib.hid (HKA.out.keep.trans KF.keep)
    clear hN hP hps KF
    go_wp2_with fail
    go_ret
    exact ⟨_, rfl, by rw [HR.out]; exact ⟨[], rfl, HP.out⟩, HK.out⟩
  | cons x r =>
    have HFL := Lib.hid hfl
    clear hfl
    by_cases hk : x.kind = 1
    · have t1 : (x.kind == 1) = true := by rw [hk]; rfl
      by_cases ha : x.attrs.length = 0
      · have a1 : ((x.attrs.length : Int) == 0) = true := by rw [ha]; rfl
        have a2 : (x.attrs.length == 0) = true := by rw [ha]; rfl
        have HR := Lib.hid (show (trim (flush (l, g))).reverse = r.reverse by rw [HFL.out, trim, if_pos ⟨hk, ha⟩])
        clear hk ha
        go_enter Try.func32, Try.ntmps32
        go_wp2_with fail
        refine HD.out.mono ?_
        rintro e wA ⟨rfl, ovA, NA, KA⟩
        have HNA := Lib.hid NA
        have HKA := Lib.hid KA
        clear NA KA
        go_wp2_with fail
        refine (finish_any B b ovA _ 0 _ HNA.out hB (by have := HL.out; omega)).mono ?_
        rintro e wF ⟨rfl, F1, KF⟩
        obtain ⟨ps, ad, bv, hN, _, hP, _, hps⟩ := F1
        rw [HFL.out] at hps
        have HPS := Lib.hid hps
        obtain ⟨fr, xv, rfl, hfr⟩ := map_snoc (hps.trans List.reverse_cons)
        obtain ⟨gg, cap, hov⟩ := ownsRow_open hP.len (Nat.succ_pos _)
        subst hov
        obtain ⟨xa, xc, hxv⟩ : ∃ a c, xv = .slice a x.attrs.length c := own_slice (hP.2 (x, xv) (by simp))
        subst hxv
        obtain ⟨q0, q1, q2, q3⟩ := last_cells hP.len
        have k0 : wF.cell? ⟨b, 0, none⟩ = some (.slice (some ⟨gg, 0, none⟩) (fr.length + 1) cap) := hN.cells.1
        have hm : fr.length ≤ 4000 := by
          have h1 := congrArg List.length hfr
          rw [List.length_map, List.length_reverse] at h1
          have h2 := HL.out
          rw [HFL.out, List.length_cons] at h2
          omega
        have hcap : fr.length ≤ cap := by
          rcases hP.len.2 with ⟨h', _⟩ | ⟨g', cap', cur, h', _, _, hn, _⟩
          · simp at h'
          · simp only [Value.slice.injEq] at h'
            omega
        have HCAP := Lib.hid hcap
        have i1 : (0 : Int) ≤ (fr.length : Int) := by omega
        have i2 : (fr.length : Int) < (fr.length : Int) + 1 := by omega
        have i3 : decide ((0 : Int) ≤ (fr.length : Int)) = true := decide_eq_true (by omega)
        have HP := Lib.hid hP
        have HFR := Lib.hid hfr
        have HK := Lib.hid (HKA.out.keep.trans KF.keep)
        clear hN hP hps KF hfr q1 q2 hcap
        go_wp2_with (refine wpList_sliced (.slice (some ⟨gg, 0, none⟩) (fr.length + 1) cap) (.slice (some ⟨gg, 0, none⟩) fr.length cap) rfl (slice_ops _ _ _ _ HCAP.out _) ?_)
        go_ret
        exact ⟨_, rfl, by rw [HR.out]; exact ⟨fr, HFR.out, own_front HP.out.len, fun p hp => HP.out.2 p (List.mem_append_left _ hp)⟩, HK.out⟩
      · have a1 : ((x.attrs.length : Int) == 0) = false := by rw [beq_eq_false_iff_ne]; omega
        have a2 : (x.attrs.length == 0) = false := by rw [beq_eq_false_iff_ne]; omega
        have HR := Lib.hid (show (trim (flush (l, g))).reverse = (x :: r).reverse by rw [HFL.out, trim, if_neg fun h => ha h.2])
        clear hk ha
        go_enter Try.func32, Try.ntmps32
        go_wp2_with fail
        refine HD.out.mono ?_
        rintro e wA ⟨rfl, ovA, NA, KA⟩
        have HNA := Lib.hid NA
        have HKA := Lib.hid KA
        clear NA KA
        go_wp2_with fail
        refine (finish_any B b ovA _ 0 _ HNA.out hB (by have := HL.out; omega)).mono ?_
        rintro e wF ⟨rfl, F1, KF⟩
        obtain ⟨ps, ad, bv, hN, _, hP, _, hps⟩ := F1
        rw [HFL.out] at hps
        have HPS := Lib.hid hps
        obtain ⟨fr, xv, rfl, hfr⟩ := map_snoc (hps.trans List.reverse_cons)
        obtain ⟨gg, cap, hov⟩ := ownsRow_open hP.len (Nat.succ_pos _)
        subst hov
        obtain ⟨xa, xc, hxv⟩ : ∃ a c, xv = .slice a x.attrs.length c := own_slice (hP.2 (x, xv) (by simp))
        subst hxv
        obtain ⟨q0, q1, q2, q3⟩ := last_cells hP.len
        have k0 : wF.cell? ⟨b, 0, none⟩ = some (.slice (some ⟨gg, 0, none⟩) (fr.length + 1) cap) := hN.cells.1
        have hm : fr.length ≤ 4000 := by
          have h1 := congrArg List.length hfr
          rw [List.length_map, List.length_reverse] at h1
          have h2 := HL.out
          rw [HFL.out, List.length_cons] at h2
          omega
        have hcap : fr.length ≤ cap := by
          rcases hP.len.2 with ⟨h', _⟩ | ⟨g', cap', cur, h', _, _, hn, _⟩
          · simp at h'
          · simp only [Value.slice.injEq] at h'
            omega
        have HCAP := Lib.hid hcap
        have i1 : (0 : Int) ≤ (fr.length : Int) := by omega
        have i2 : (fr.length : Int) < (fr.length : Int) + 1 := by omega
        have i3 : decide ((0 : Int) ≤ (fr.length : Int)) = true := decide_eq_true (by omega)
        have HP := Lib.hid hP
        have HFR := Lib.hid hfr
        have HK := Lib.hid (HKA.out.keep.trans KF.keep)
        clear hN hP hps KF hfr q1 q2 hcap
        go_wp2_with fail
        go_ret
        exact ⟨_, rfl, by rw [HR.out]; exact ⟨_, HPS.out, HP.out⟩, HK.out⟩
    · have t1 : (x.kind == 1) = false := by rw [beq_eq_false_iff_ne]; exact hk
      have HR := Lib.hid (show (trim (flush (l, g))).reverse = (x :: r).reverse by rw [HFL.out, trim, if_neg fun h => hk h.1])
      clear hk
      go_enter Try.func32, Try.ntmps32
      go_wp2_with fail
      refine HD.out.mono ?_
      rintro e wA ⟨rfl, ovA, NA, KA⟩
      have HNA := Lib.hid NA
      have HKA := Lib.hid KA
      clear NA KA
      go_wp2_with fail
      refine (finish_any B b ovA _ 0 _ HNA.out hB (by have := HL.out; omega)).mono ?_
      rintro e wF ⟨rfl, F1, KF⟩
      obtain ⟨ps, ad, bv, hN, _, hP, _, hps⟩ := F1
      rw [HFL.out] at hps
      have HPS := Lib.hid hps
      obtain ⟨fr, xv, rfl, hfr⟩ := map_snoc (hps.trans List.reverse_cons)
      obtain ⟨gg, cap, hov⟩ := ownsRow_open hP.len (Nat.succ_pos _)
      subst hov
      obtain ⟨xa, xc, hxv⟩ : ∃ a c, xv = .slice a x.attrs.length c := own_slice (hP.2 (x, xv) (by simp))
      subst hxv
      obtain ⟨q0, q1, q2, q3⟩ := last_cells hP.len
      have k0 : wF.cell? ⟨b, 0, none⟩ = some (.slice (some ⟨gg, 0, none⟩) (fr.length + 1) cap) := hN.cells.1
      have hm : fr.length ≤ 4000 := by
        have h1 := congrArg List.length hfr
        rw [List.length_map, List.length_reverse] at h1
        have h2 := HL.out
        rw [HFL.out, List.length_cons] at h2
        omega
      have hcap : fr.length ≤ cap := by
        rcases hP.len.2 with ⟨h', _⟩ | ⟨g', cap', cur, h', _, _, hn, _⟩
        · simp at h'
        · simp only [Value.slice.injEq] at h'
          omega
      have HCAP := Lib.hid hcap
      have i1 : (0 : Int) ≤ (fr.length : Int) := by omega
      have i2 : (fr.length : Int) < (fr.length : Int) + 1 := by omega
      have i3 : decide ((0 : Int) ≤ (fr.length : Int)) = true := decide_eq_true (by omega)
      have HP := Lib.hid hP
      have HFR := Lib.hid hfr
      have HK := Lib.hid (HKA.out.keep.trans KF.keep)
      clear hN hP hps KF hfr q1 q2 hcap
      go_wp2_with fail
      go_ret
      exact ⟨_, rfl, by rw [HR.out]; exact ⟨_, HPS.out, HP.out⟩, HK.out⟩
end Go.Proofs.Ytacgkbdldbppjaa

/- How large the normal form's parts are on the way. -/
namespace Go.Proofs.Ytacgkbdldbppjaa
open Go.RowKit Ch Rn

structure VOp (o : OpD) : Prop where
  n0 : 0 ≤ o.n
  n1 : o.n ≤ 20000
  text : o.text.size ≤ 80000
  kind : o.kind = 1 ∨ o.kind = 2 ∨ o.kind = 3
  attrs : SmallA o.attrs
theorem small_chg {l : List (ByteArray × ByteArray)} (h : chgE l = 0) : SmallA l := by
  unfold chgE at h
  split at h
  · rename_i hb
    obtain ⟨h1, h2⟩ := of_decide_eq_true hb
    refine ⟨by omega, fun x hx => ?_⟩
    obtain ⟨i, hi, rfl⟩ := List.getElem_of_mem hx
    have h3 := h2 i hi
    unfold chgOne at h3
    rw [Bool.and_eq_true, Bool.and_eq_true] at h3
    have hk := h3.1.1
    have hv := h3.1.2
    unfold keyB at hk
    unfold valB at hv
    simp only [Bool.and_eq_true, decide_eq_true_eq] at hk hv
    omega
  · omega
theorem small_rgt {l : List (ByteArray × ByteArray)} (h : rgtE l = 0) : SmallA l := by
  unfold rgtE at h
  split at h
  · rename_i hb
    obtain ⟨h1, h2⟩ := of_decide_eq_true hb
    refine ⟨by omega, fun x hx => ?_⟩
    obtain ⟨i, hi, rfl⟩ := List.getElem_of_mem hx
    have h3 := h2 i hi
    unfold rgtOne at h3
    rw [Bool.and_eq_true, Bool.and_eq_true] at h3
    have hk := h3.1.1
    have hv := h3.1.2
    unfold keyB at hk
    unfold valNE valB at hv
    simp only [Bool.and_eq_true, decide_eq_true_eq] at hk hv
    omega
  · omega
theorem text_lim {s : ByteArray} (h : er s.data.toList = 0) : s.size ≤ 80000 := by
  cases hr : rd s.data.toList with
  | none => rw [er_none hr] at h; omega
  | some cs =>
    rw [rd_T hr, T_size]
    have h1 := (rd_some hr).2.2
    have h2 := (txt_len cs).2
    omega
theorem n_le_kd {ops : List OpD} (h : allE ops) : ∀ o ∈ ops, o.kind ≠ 2 → o.n ≤ kd ops := by
  induction ops with
  | nil => intro o ho; cases ho
  | cons x r ih =>
    intro o ho hk
    have hr : allE r := fun y hy => h y (List.mem_cons_of_mem _ hy)
    have h0 := kd_nonneg hr
    rw [kd]
    rcases List.mem_cons.1 ho with rfl | ho
    · rw [if_neg hk]; omega
    · have := ih hr o ho hk
      split
      · omega
      · have := opE_n (h x (List.mem_cons_self ..)) (by assumption); omega
theorem vop_of {f : Int} {ops : List OpD} (h : OkC f ops) {o : OpD} (ho : o ∈ ops) : VOp o := by
  obtain ⟨h1, h2, _, h4, h5, _⟩ := h
  have he := h4 o ho
  rcases opE_kind he with k | k | k
  · obtain ⟨a, b, c⟩ := (opE_keep k).1 he
    have := n_le_kd h4 o ho (by omega)
    exact ⟨by omega, by omega, by omega, .inl k, small_chg c⟩
  · obtain ⟨a, b, c, d⟩ := (opE_put k).1 he
    exact ⟨by omega, by omega, text_lim c, .inr (.inl k), small_rgt d⟩
  · obtain ⟨a, b, c⟩ := (opE_cut k).1 he
    have := n_le_kd h4 o ho (by omega)
    refine ⟨by omega, by omega, by omega, .inr (.inr k), ?_⟩
    rw [List.length_eq_zero_iff.1 c]
    exact ⟨by simp, fun x hx => by cases hx⟩

def InB (a : Int) (c : Nat) (l : List OpD) : Prop := ∀ x ∈ l, 0 ≤ x.n ∧ x.n ≤ a ∧ x.text.size ≤ c
theorem put_in {a a' : Int} {c c' : Nat} {l : List OpD} {o : OpD} (hl : InB a c l) (h0 : 0 ≤ o.n) (h1 : o.n ≤ a') (h2 : o.text.size ≤ c') (ha : 0 ≤ a) : InB (a + a') (c + c') (put l o) := by
  cases l with
  | nil =>
    intro y hy
    simp only [put, List.mem_singleton] at hy
    subst hy
    omega
  | cons x r =>
    have hx := hl x (List.mem_cons_self ..)
    rw [put]
    split
    · intro y hy
      rcases List.mem_cons.1 hy with rfl | hy
      · refine ⟨by show 0 ≤ x.n + o.n; omega, by show x.n + o.n ≤ _; omega, ?_⟩
        show (cat x.text o.text).size ≤ _
        rw [cat_size]
        omega
      · have := hl y (List.mem_cons_of_mem _ hy); omega
    · intro y hy
      rcases List.mem_cons.1 hy with rfl | hy
      · omega
      · have := hl y hy; omega
/-- How large a state is behind k operations. -/
structure Lim (k : Nat) (s : List OpD × Int) : Prop where
  ops : InB (20000 * k) (80000 * k) s.1
  g0 : 0 ≤ s.2
  g1 : s.2 ≤ 20000 * k
  siz : siz s ≤ k
theorem flush_in {k : Nat} {s : List OpD × Int} (h : Lim k s) (hs : St s) : InB (20000 * k) (80000 * k) (flush s) := by
  unfold flush
  split
  · rw [put_fresh fun x r e h3 => hs.2 x r e h3.1]
    intro y hy
    rcases List.mem_cons.1 hy with rfl | hy
    · refine ⟨h.g0, h.g1, ?_⟩
      show (0 : Nat) ≤ _
      omega
    · exact h.ops y hy
  · exact h.ops
theorem lim_add {k : Nat} {s : List OpD × Int} {o : OpD} (h : Lim k s) (hs : St s) (ho : VOp o) : Lim (k + 1) (Ch.add s o) := by
  have hz := Nat.le_trans (siz_add s o) (Nat.add_le_add_right h.siz 1)
  have hg0 := h.g0
  have hg1 := h.g1
  have e1 : (20000 : Int) * ((k + 1 : Nat) : Int) = 20000 * k + 20000 := by omega
  have e2 : 80000 * (k + 1) = 80000 * k + 80000 := by omega
  have hk : (0 : Int) ≤ 20000 * (k : Int) := by omega
  have n0 := ho.n0
  have n1 := ho.n1
  by_cases h3 : o.kind = 3
  · have e : Ch.add s o = (s.1, s.2 + o.n) := by unfold Ch.add; rw [if_pos h3]
    rw [e] at hz ⊢
    refine ⟨fun x hx => ?_, by show 0 ≤ s.2 + o.n; omega, by show s.2 + o.n ≤ _; omega, hz⟩
    have := h.ops x hx
    rw [e1, e2]; omega
  · by_cases h1 : o.kind = 1
    · have e : Ch.add s o = (put (flush s) o, 0) := by unfold Ch.add; rw [if_neg h3, if_pos h1]
      rw [e] at hz ⊢
      refine ⟨?_, Int.le_refl _, by show (0 : Int) ≤ _; omega, hz⟩
      rw [e1, e2]
      exact put_in (flush_in h hs) n0 n1 ho.text hk
    · have e : Ch.add s o = (put s.1 o, s.2) := by unfold Ch.add; rw [if_neg h3, if_neg h1]
      rw [e] at hz ⊢
      refine ⟨?_, hg0, by show s.2 ≤ _; omega, hz⟩
      rw [e1, e2]
      exact put_in h.ops n0 n1 ho.text hk
theorem small_nil : SmallA [] := ⟨by simp, fun x hx => by cases hx⟩
theorem fits_mk {k : Nat} {l : List OpD} {o : OpD} (hk : k ≤ 2000) (hl : InB (20000 * k) (80000 * k) l) (hn : l.length ≤ 4000) (h0 : 0 ≤ o.n) (h1 : o.n ≤ 1073741824) (h2 : o.text.size ≤ 1073741824) (h3 : SmallA o.attrs) : Fits l o :=
  ⟨hn, fun x r e => by
    have := hl x (by rw [e]; exact List.mem_cons_self ..)
    omega, h0, h1, h2, h3⟩
theorem fits_del {k : Nat} {s : List OpD × Int} (h : Lim k s) (hk : k ≤ 2000) : Fits s.1 (delO s.2) := by
  have hz := h.siz
  have hg := h.g1
  have hl : s.1.length ≤ siz s := by unfold siz; omega
  exact fits_mk hk h.ops (by omega) h.g0 (by show s.2 ≤ _; omega) (by show (0 : Nat) ≤ _; omega) small_nil
theorem fitsS_of {k : Nat} {s : List OpD × Int} {o : OpD} (h : Lim k s) (hs : St s) (ho : VOp o) (hk : k ≤ 2000) : FitsS s o := by
  have hz := h.siz
  have hg := h.g1
  have hl : s.1.length ≤ siz s := by unfold siz; omega
  have hf := flush_len s
  have n1 := ho.n1
  have n2 := ho.text
  exact ⟨h.g0, by omega, fits_del h hk, fits_mk hk h.ops (by omega) ho.n0 (by omega) (by omega) ho.attrs, fits_mk hk (flush_in h hs) (by omega) ho.n0 (by omega) (by omega) ho.attrs, by omega⟩
/-- Behind k operations of a right changeset. -/
theorem lim_fold {f : Int} {ops : List OpD} (h : OkC f ops) (k : Nat) (hk : k ≤ ops.length) : Lim k (fold (ops.take k)) ∧ St (fold (ops.take k)) := by
  induction k with
  | zero => exact ⟨⟨(fun x hx => by cases hx), Int.le_refl _, Int.le_refl _, Nat.le_refl _⟩, trivial, (fun x r e => by cases e)⟩
  | succ k ih =>
    obtain ⟨h1, h2⟩ := ih (by omega)
    have hlt : k < ops.length := by omega
    rw [List.take_succ_eq_append_getElem hlt, fold_snoc]
    have hv := vop_of h (List.getElem_mem hlt)
    exact ⟨lim_add h1 h2 hv, h2.add hv.kind⟩
end Go.Proofs.Ytacgkbdldbppjaa

/- The program's size: how many runes an operation keeps, inserts or deletes, or its error. -/
namespace Go.Proofs.Ytacgkbdldbppjaa
open Go.RowKit Ch

def SizeOut (w : World) (o : OpD) (e : Ending) (w' : World) : Prop := ∃ n, e = .returned (.tuple #[.int .i64 n, .int .i64 (opE o)]) ∧ (opE o = 0 → n = opSz o) ∧ Below w.heap.size w w'
theorem sizeOut_bad {w w' : World} {o : OpD} {n : Int} (h : opE o = 30) (hb : Below w.heap.size w w') : SizeOut w o (.returned (.tuple #[.int .i64 n, .int .i64 30])) w' :=
  ⟨n, by rw [h], fun h0 => by omega, hb⟩
theorem sizeOut_mk {w w' : World} {o : OpD} {n E : Int} (h : opE o = E) (hn : E = 0 → n = opSz o) (hb : Below w.heap.size w w') : SizeOut w o (.returned (.tuple #[.int .i64 n, .int .i64 E])) w' :=
  ⟨n, by rw [h], fun h0 => hn (h.symm.trans h0), hb⟩

set_option maxRecDepth 100000 in
set_option maxHeartbeats 2000000 in
theorem size_any (o : OpD) (av : Value) (w : World) (hv : AtRow w av o.attrs) (ht : o.text.size ≤ maxLen) (hz : Sized o.attrs) :
    Calls Try.prog 24 #[opAgg o av] w (SizeOut w o) := by
  have Hv := Lib.hid hv
  have Hz := Lib.hid hz
  have Ht := Lib.hid ht
  obtain ⟨aa, acap, rfl, _⟩ := hv
  obtain ⟨W, hW⟩ : ∃ W, W = w.alloc (.cells #[.int .i64 o.kind, .int .i64 o.n, .string o.text, .slice aa o.attrs.length acap] 40) := ⟨_, rfl⟩
  have BW := Lib.hid (show Below w.heap.size w W by rw [hW]; exact (Below.refl _ _).alloc (Nat.le_refl _) _)
  have c0 : W.cell? ⟨w.heap.size, 0, none⟩ = some (.int .i64 o.kind) := by rw [hW]; go_simp
  have c1 : W.cell? ⟨w.heap.size, 1, none⟩ = some (.int .i64 o.n) := by rw [hW]; go_simp
  have c2 : W.cell? ⟨w.heap.size, 2, none⟩ = some (.string o.text) := by rw [hW]; go_simp
  have c3 : W.cell? ⟨w.heap.size, 3, none⟩ = some (.slice aa o.attrs.length acap) := by rw [hW]; go_simp
  have hlt : w.heap.size < W.heap.size := by rw [hW]; simp
  have HW := Lib.hid hW
  clear hz hW
  by_cases hk1 : o.kind = 1
  · have k1 : (o.kind == 1) = true := by rw [hk1]; rfl
    by_cases hn : o.n < 1
    · have e30 := Lib.hid (show opE o = 30 by unfold opE; rw [if_pos hk1, if_pos (.inl hn)])
      clear hk1
      go_enter Try.func24, Try.ntmps24
      go_wp2_with fail
      rw [← HW.out]
      go_wp2_with fail
      go_ret2
      exact sizeOut_bad e30.out BW.out
    · have hn1 : 1 ≤ o.n := by omega
      by_cases ht0 : o.text.size = 0
      · obtain ⟨t1, t2⟩ := text_empty ht0
        have e1 := Lib.hid (show opE o = chgE o.attrs by unfold opE; rw [if_pos hk1, if_neg (by omega)])
        have e2 := Lib.hid (show opSz o = o.n by unfold opSz; rw [if_neg (by omega)])
        have T := Lib.hid t2
        clear hk1 hn ht0 t2
        go_enter Try.func24, Try.ntmps24
        go_wp2_with fail
        rw [← HW.out]
        go_wp2_with fail
        go_region_held3 (fun w' => w'.cell? ⟨w.heap.size, 1, none⟩ = some (.int .i64 o.n) ∧ w'.cell? ⟨w.heap.size, 3, none⟩ = some (.slice aa o.attrs.length acap))
          (first
            | exact ⟨c1, c3⟩
            | exact ⟨(BA.cell (by exact hlt)).trans c1, (BA.cell (by exact hlt)).trans c3⟩)
          (first
            | (go_at_call_of 39 (Value.slice aa o.attrs.length acap); refine (changeD_any _ o.attrs _ (Hv.out.below ((BW.out.drew).trans ((Below.refl _ _).mono BW.out.size))) Hz.out).mono ?_; rintro e wA ⟨rfl, hbA⟩; have BA : Below W.heap.size W wA := of_drew hbA))
        go_wp2_with fail
        go_ret2
        exact sizeOut_mk e1.out (fun _ => e2.out.symm) (BW.out.trans (BA.mono BW.out.size))
      · have t1 := text_full ht0
        have e30 := Lib.hid (show opE o = 30 by unfold opE; rw [if_pos hk1, if_pos (.inr ht0)])
        clear hk1 hn ht0
        go_enter Try.func24, Try.ntmps24
        go_wp2_with fail
        rw [← HW.out]
        go_wp2_with fail
        go_ret2
        exact sizeOut_bad e30.out BW.out
  · have k1 : (o.kind == 1) = false := by rw [beq_eq_false_iff_ne]; exact hk1
    by_cases hk2 : o.kind = 2
    · have k2 : (o.kind == 2) = true := by rw [hk2]; rfl
      by_cases hn : o.n = 0
      · have n0 : (o.n != 0) = false := by rw [hn]; rfl
        by_cases ht0 : o.text.size = 0
        · obtain ⟨t1, t2⟩ := text_empty ht0
          have e30 := Lib.hid (show opE o = 30 by unfold opE; rw [if_neg hk1, if_pos hk2, if_pos (.inr ht0)])
          clear hk1 hk2 hn ht0 t2
          go_enter Try.func24, Try.ntmps24
          go_wp2_with fail
          rw [← HW.out]
          go_wp2_with fail
          go_ret2
          exact sizeOut_bad e30.out BW.out
        · have t1 := text_full ht0
          have e0 : opE o = if er o.text.data.toList ≠ 0 then er o.text.data.toList else rgtE o.attrs := by unfold opE; rw [if_neg hk1, if_pos hk2, if_neg (by omega)]
          have e2 := Lib.hid (show opSz o = cnt o.text.data.toList by unfold opSz; rw [if_pos hk2])
          by_cases he : er o.text.data.toList = 0
          · have e1 := Lib.hid (show opE o = rgtE o.attrs by rw [e0, if_neg (by simpa using he)])
            have Hcnt : ∀ W : World, Calls Try.prog 40 #[.string o.text] W fun e w' => e = .returned (.tuple #[.int .i64 (cnt o.text.data.toList), .int .i64 0]) ∧ Below W.heap.size W w' := fun W => by have := count_any o.text W Ht.out; rw [he] at this; exact this
            have HC := Lib.hid Hcnt
            clear hk1 hk2 hn ht0 he e0 Hcnt
            go_enter Try.func24, Try.ntmps24
            go_wp2_with fail
            rw [← HW.out]
            go_wp2_with fail
            refine (HC.out _).mono ?_
            rintro e w1 ⟨rfl, b1⟩
            have d3 : w1.cell? ⟨w.heap.size, 3, none⟩ = some (.slice aa o.attrs.length acap) := (b1.cell (by exact hlt)).trans c3
            have B1 := Lib.hid (BW.out.trans (b1.mono BW.out.size))
            clear b1
            go_wp2_with fail
            refine (rightD_any _ o.attrs _ (Hv.out.below B1.out) Hz.out).mono ?_
            rintro e w2 ⟨rfl, b2⟩
            have B2 := Lib.hid (B1.out.trans (b2.mono B1.out.size))
            clear b2
            go_wp2_with fail
            go_ret2
            exact sizeOut_mk e1.out (fun _ => e2.out.symm) B2.out
          · have h10 : er o.text.data.toList = 10 := (er_cases _).resolve_left he
            have e1 := Lib.hid (show opE o = 10 by rw [e0, if_pos (by simpa using he), h10])
            have Hcnt : ∀ W : World, Calls Try.prog 40 #[.string o.text] W fun e w' => e = .returned (.tuple #[.int .i64 (cnt o.text.data.toList), .int .i64 10]) ∧ Below W.heap.size W w' := fun W => by have := count_any o.text W Ht.out; rw [h10] at this; exact this
            have HC := Lib.hid Hcnt
            clear hk1 hk2 hn ht0 he e0 Hcnt h10
            go_enter Try.func24, Try.ntmps24
            go_wp2_with fail
            rw [← HW.out]
            go_wp2_with fail
            refine (HC.out _).mono ?_
            rintro e w1 ⟨rfl, b1⟩
            have B1 := Lib.hid (BW.out.trans (b1.mono BW.out.size))
            clear b1
            go_wp2_with fail
            go_ret2
            exact sizeOut_mk e1.out (fun h0 => absurd h0 (by decide)) B1.out
      · have n0 : (o.n != 0) = true := by rw [bne_iff_ne]; exact hn
        have e30 := Lib.hid (show opE o = 30 by unfold opE; rw [if_neg hk1, if_pos hk2, if_pos (.inl hn)])
        clear hk1 hk2 hn
        go_enter Try.func24, Try.ntmps24
        go_wp2_with fail
        rw [← HW.out]
        go_wp2_with fail
        go_ret2
        exact sizeOut_bad e30.out BW.out
    · have k2 : (o.kind == 2) = false := by rw [beq_eq_false_iff_ne]; exact hk2
      by_cases hk3 : o.kind = 3
      · have k3 : (o.kind == 3) = true := by rw [hk3]; rfl
        by_cases hn : o.n < 1
        · have e30 := Lib.hid (show opE o = 30 by unfold opE; rw [if_neg hk1, if_neg hk2, if_pos hk3, if_pos (.inl hn)])
          clear hk1 hk2 hk3
          go_enter Try.func24, Try.ntmps24
          go_wp2_with fail
          rw [← HW.out]
          go_wp2_with fail
          go_ret2
          exact sizeOut_bad e30.out BW.out
        · have hn1 : 1 ≤ o.n := by omega
          by_cases ht0 : o.text.size = 0
          · obtain ⟨t1, t2⟩ := text_empty ht0
            by_cases ha : o.attrs.length = 0
            · have l0 : decide ((0 : Int) < (o.attrs.length : Int)) = false := decide_eq_false (by omega)
              have l1 : decide (0 < o.attrs.length) = false := decide_eq_false (by omega)
              have e1 := Lib.hid (show opE o = 0 by unfold opE; rw [if_neg hk1, if_neg hk2, if_pos hk3, if_neg (by omega)])
              have e2 := Lib.hid (show opSz o = o.n by unfold opSz; rw [if_neg hk2])
              clear hk1 hk2 hk3 hn ht0 ha t2
              go_enter Try.func24, Try.ntmps24
              go_wp2_with fail
              rw [← HW.out]
              go_wp2_with fail
              go_ret2
              exact sizeOut_mk e1.out (fun _ => e2.out.symm) BW.out
            · have l0 : decide ((0 : Int) < (o.attrs.length : Int)) = true := decide_eq_true (by omega)
              have l1 : decide (0 < o.attrs.length) = true := decide_eq_true (by omega)
              have l2 : 0 < o.attrs.length := by omega
              have e30 := Lib.hid (show opE o = 30 by unfold opE; rw [if_neg hk1, if_neg hk2, if_pos hk3, if_pos (.inr (.inr ha))])
              clear hk1 hk2 hk3 hn ht0 ha t2
              go_enter Try.func24, Try.ntmps24
              go_wp2_with fail
              rw [← HW.out]
              go_wp2_with fail
              go_ret2
              exact sizeOut_bad e30.out BW.out
          · have t1 := text_full ht0
            have e30 := Lib.hid (show opE o = 30 by unfold opE; rw [if_neg hk1, if_neg hk2, if_pos hk3, if_pos (.inr (.inl ht0))])
            clear hk1 hk2 hk3 hn ht0
            go_enter Try.func24, Try.ntmps24
            go_wp2_with fail
            rw [← HW.out]
            go_wp2_with fail
            go_ret2
            exact sizeOut_bad e30.out BW.out
      · have k3 : (o.kind == 3) = false := by rw [beq_eq_false_iff_ne]; exact hk3
        have e30 := Lib.hid (show opE o = 30 by unfold opE; rw [if_neg hk1, if_neg hk2, if_neg hk3])
        clear hk1 hk2 hk3
        go_enter Try.func24, Try.ntmps24
        go_wp2_with fail
        rw [← HW.out]
        go_wp2_with fail
        go_ret2
        exact sizeOut_bad e30.out BW.out
end Go.Proofs.Ytacgkbdldbppjaa

/- The program's To and Right. -/
namespace Go.Proofs.Ytacgkbdldbppjaa
open Go.RowKit Ch

theorem size_ok (o : OpD) (av : Value) (w : World) (hv : AtRow w av o.attrs) (ht : o.text.size ≤ maxLen) (hz : Sized o.attrs) (he : opE o = 0) :
    Calls Try.prog 24 #[opAgg o av] w fun e w' => e = .returned (.tuple #[.int .i64 (opSz o), .int .i64 0]) ∧ Below w.heap.size w w' :=
  (size_any o av w hv ht hz).mono fun e w' ⟨n, h1, h2, h3⟩ => ⟨by rw [h1, he, h2 he], h3⟩
theorem size_bad (o : OpD) (av : Value) (w : World) (hv : AtRow w av o.attrs) (ht : o.text.size ≤ maxLen) (hz : Sized o.attrs) :
    Calls Try.prog 24 #[opAgg o av] w fun e w' => ∃ n, e = .returned (.tuple #[.int .i64 n, .int .i64 (opE o)]) ∧ Below w.heap.size w w' :=
  (size_any o av w hv ht hz).mono fun e w' ⟨n, h1, _, h3⟩ => ⟨n, h1, h3⟩

theorem opSz_lim {o : OpD} (he : opE o = 0) (hk : o.kind = 2) : 0 ≤ opSz o ∧ opSz o ≤ 20000 := by
  unfold opSz
  rw [if_pos hk]
  exact cnt_nonneg _
theorem opSz_n {o : OpD} (hk : o.kind ≠ 2) : opSz o = o.n := by
  unfold opSz
  rw [if_neg hk]
theorem drop_at {ops : List OpD} {k : Nat} (h : k < ops.length) : ops.drop k = ops[k] :: ops.drop (k + 1) := List.drop_eq_getElem_cons h
theorem scan_bad {o : OpD} {r : List OpD} {left u : Int} (h : opE o ≠ 0) : scan left u (o :: r) = (0, 0, opE o) := by rw [scan, if_pos h]
theorem scan_put {o : OpD} {r : List OpD} {left u : Int} (h : opE o = 0) (hk : o.kind = 2) : scan left u (o :: r) = scan left (u + opSz o) r := by rw [scan, if_neg (by simpa using h), if_pos hk]
theorem scan_over {o : OpD} {r : List OpD} {left u : Int} (h : opE o = 0) (hk : o.kind ≠ 2) (hl : left < o.n) : scan left u (o :: r) = (0, 0, 31) := by rw [scan, if_neg (by simpa using h), if_neg hk, if_pos hl]
theorem scan_cut {o : OpD} {r : List OpD} {left u : Int} (h : opE o = 0) (hk : o.kind = 3) (hl : ¬ left < o.n) : scan left u (o :: r) = scan (left - o.n) (u - o.n) r := by rw [scan, if_neg (by simpa using h), if_neg (by omega), if_neg hl, if_pos hk]
theorem scan_keep {o : OpD} {r : List OpD} {left u : Int} (h : opE o = 0) (hk : o.kind ≠ 2) (hk3 : o.kind ≠ 3) (hl : ¬ left < o.n) : scan left u (o :: r) = scan (left - o.n) u r := by rw [scan, if_neg (by simpa using h), if_neg hk, if_neg hl, if_neg hk3]

def ToOut (w : World) (f : Int) (ops : List OpD) (e : Ending) (w' : World) : Prop := e = .returned (.tuple #[.int .i64 (toN f ops), .int .i64 (toE f ops)]) ∧ Below w.heap.size w w'
theorem toOut_mk {w w' : World} {f n E : Int} {ops : List OpD} (h : toE f ops = E) (hn : toN f ops = n) (hb : Below w.heap.size w w') : ToOut w f ops (.returned (.tuple #[.int .i64 n, .int .i64 E])) w' := ⟨by rw [h, hn], hb⟩
theorem toOut_bad {w w' : World} {f E : Int} {ops : List OpD} (h : toE f ops = E) (hE : E ≠ 0) (hb : Below w.heap.size w w') : ToOut w f ops (.returned (.tuple #[.int .i64 0, .int .i64 E])) w' :=
  toOut_mk h (toN_bad (by rw [h]; exact hE)) hb
theorem toE_scan {f E : Int} {ops : List OpD} {l u : Int} (h0 : 0 ≤ f) (h1 : f ≤ 20000) (h2 : ops.length ≤ 2000) (h : scan f f ops = (l, u, E)) (hE : E ≠ 0) : toE f ops = E := by
  unfold toE
  rw [if_neg (by omega), if_neg (by omega), h, if_pos hE]
theorem toE_end {f : Int} {ops : List OpD} {l u : Int} (h0 : 0 ≤ f) (h1 : f ≤ 20000) (h2 : ops.length ≤ 2000) (h : scan f f ops = (l, u, 0)) : toE f ops = (if 20000 < u then 3 else 0) ∧ (¬ 20000 < u → toN f ops = u) := by
  have e : toE f ops = (if 20000 < u then 3 else 0) := by
    unfold toE
    rw [if_neg (by omega), if_neg (by omega), h, if_neg (by simp)]
  refine ⟨e, fun hu => ?_⟩
  rw [if_neg hu] at e
  unfold toN
  rw [if_pos e, h]

set_option maxRecDepth 100000 in
set_option maxHeartbeats 4000000 in
theorem to_any (f : Int) (v : Value) (ops : List OpD) (w : World) (hv : OpRow w v ops) (hz : OSized ops) :
    Calls Try.prog 8 #[chAgg f v] w (ToOut w f ops) := by
  have Hv := Lib.hid hv
  have Hz := Lib.hid hz
  obtain ⟨aa, acap, rfl, v1, v2, v3⟩ := hv
  have V3 := Lib.hid v3
  have hn : ops.length ≤ 9223372036854775807 := Nat.le_trans v1 v2
  obtain ⟨W, hW⟩ : ∃ W, W = w.alloc (.cells #[.int .i64 f, .slice aa ops.length acap] 24) := ⟨_, rfl⟩
  have BW := Lib.hid (show Below w.heap.size w W by rw [hW]; exact (Below.refl _ _).alloc (Nat.le_refl _) _)
  have c0 : W.cell? ⟨w.heap.size, 0, none⟩ = some (.int .i64 f) := by rw [hW]; go_simp
  have c1 : W.cell? ⟨w.heap.size, 1, none⟩ = some (.slice aa ops.length acap) := by rw [hW]; go_simp
  have HW := Lib.hid hW
  clear hz hW v1 v2 v3
  by_cases hf : f < 0
  · have e31 := Lib.hid (show toE f ops = 31 by unfold toE; rw [if_pos (.inl hf)])
    go_enter Try.func8, Try.ntmps8
    go_wp2_with fail
    rw [← HW.out]
    go_wp2_with fail
    go_ret2
    exact toOut_bad e31.out (by decide) BW.out
  · by_cases hf2 : 20000 < f
    · have e31 := Lib.hid (show toE f ops = 31 by unfold toE; rw [if_pos (.inr hf2)])
      have hf0 : 0 ≤ f := by omega
      clear hf
      go_enter Try.func8, Try.ntmps8
      go_wp2_with fail
      rw [← HW.out]
      go_wp2_with fail
      go_ret2
      exact toOut_bad e31.out (by decide) BW.out
    · have hf0 : 0 ≤ f := by omega
      have hf3 : f ≤ 20000 := by omega
      by_cases hl : 2000 < ops.length
      · have e2 := Lib.hid (show toE f ops = 2 by unfold toE; rw [if_neg (by omega), if_pos hl])
        have l0 : decide ((2000 : Int) < (ops.length : Int)) = true := decide_eq_true (by omega)
        have l1 : decide (2000 < ops.length) = true := decide_eq_true (by omega)
        clear hf hf2
        go_enter Try.func8, Try.ntmps8
        go_wp2_with fail
        rw [← HW.out]
        go_wp2_with fail
        go_ret2
        exact toOut_bad e2.out (by decide) BW.out
      · have hl2 : ops.length ≤ 2000 := by omega
        have l0 : decide ((2000 : Int) < (ops.length : Int)) = false := decide_eq_false (by omega)
        have l1 : decide (2000 < ops.length) = false := decide_eq_false (by omega)
        clear hf hf2 hl
        go_enter Try.func8, Try.ntmps8
        go_wp2_with fail
        rw [← HW.out]
        go_wp2_with fail
        go_quiet (fail)
        go_wp2_with fail
        go_loopw [4, 5, 29] (fun x y i wr => ∃ (left u : Int) (k : Nat), x = .int .i64 left ∧ y = .int .i64 u ∧ i = .int .i64 (k : Int) ∧ k ≤ ops.length ∧ scan f f ops = scan left u (ops.drop k) ∧ 0 ≤ left ∧ left ≤ 20000 ∧ left ≤ u ∧ u ≤ 20000 + 20000 * k ∧ Below w.heap.size w wr) (fun _ _ i _ => ops.length - (intOf i).toNat)
        case atStart => exact ⟨f, f, 0, rfl, rfl, rfl, Nat.zero_le _, rfl, hf0, hf3, Int.le_refl _, by omega, below_drewN BW.out _⟩
        case round =>
          obtain ⟨left, u, k, rfl, rfl, rfl, hk, hs, g1, g2, g3, g4, hb⟩ := hrel
          have HB := Lib.hid hb
          by_cases hlt : k < ops.length
          · have hlt' : (k : Int) < (ops.length : Int) := by omega
            obtain ⟨b, off, rfl, hbl, av, r0, _, x0, x1, x2, x3⟩ := V3.out k hlt
            have z := Hz.out _ (List.getElem_mem hlt)
            rw [drop_at hlt] at hs
            obtain ⟨o, ho⟩ : ∃ o, o = ops[k] := ⟨_, rfl⟩
            rw [← ho] at r0 x0 x1 x2 z hs
            obtain ⟨ar, cr, rfl⟩ := r0.shape
            have y0 : wr.cell? ⟨b, off + k * 4, none⟩ = some (.int .i64 o.kind) := (hb.cell (by exact hbl)).trans x0
            have y1 : wr.cell? ⟨b, off + k * 4 + 1, none⟩ = some (.int .i64 o.n) := (hb.cell (by exact hbl)).trans x1
            have y2 : wr.cell? ⟨b, off + k * 4 + 2, none⟩ = some (.string o.text) := (hb.cell (by exact hbl)).trans x2
            have y3 : wr.cell? ⟨b, off + k * 4 + 3, none⟩ = some (.slice ar o.attrs.length cr) := (hb.cell (by exact hbl)).trans x3
            have hs0 : w.heap.size ≤ wr.heap.size := hb.size
            obtain ⟨X, hX⟩ : ∃ X, X = wr.alloc (.cells #[.int .i64 o.kind, .int .i64 o.n, .string o.text, .slice ar o.attrs.length cr] 40) := ⟨_, rfl⟩
            have BX := Lib.hid (show Below w.heap.size w X by rw [hX]; exact hb.alloc hs0 _)
            have R0 := Lib.hid (r0.below BX.out)
            have Z := Lib.hid z
            have d0 : X.cell? ⟨wr.heap.size, 0, none⟩ = some (.int .i64 o.kind) := by rw [hX]; go_simp
            have d1 : X.cell? ⟨wr.heap.size, 1, none⟩ = some (.int .i64 o.n) := by rw [hX]; go_simp
            have d2 : X.cell? ⟨wr.heap.size, 2, none⟩ = some (.string o.text) := by rw [hX]; go_simp
            have d3 : X.cell? ⟨wr.heap.size, 3, none⟩ = some (.slice ar o.attrs.length cr) := by rw [hX]; go_simp
            have hXs : wr.heap.size < X.heap.size := by rw [hX]; simp
            have HX := Lib.hid hX
            have HS := Lib.hid hs
            clear ho r0 x0 x1 x2 x3 z hb hX hs
            by_cases he : opE o = 0
            · have He := Lib.hid he
              by_cases hk2 : o.kind = 2
              · have k2 : (o.kind == 2) = true := by rw [hk2]; rfl
                obtain ⟨s0, s1⟩ := opSz_lim he hk2
                have HS2 := Lib.hid (HS.out.trans (scan_put he hk2))
                have HC := Lib.hid (size_ok o _ X R0.out Z.out.1 Z.out.2 he)
                have w1' : IntKind.i64.wrap (u + opSz o) = u + opSz o := IntWalk.i64_in _ (by omega)
                clear he hk2
                go_wp2_with fail
                rw [← HX.out]
                go_wp2_with fail
                refine HC.out.mono ?_
                rintro e w2 ⟨rfl, b2⟩
                have e0 : w2.cell? ⟨wr.heap.size, 0, none⟩ = some (.int .i64 o.kind) := (b2.cell (by exact hXs)).trans d0
                have B2 := Lib.hid (BX.out.trans (b2.mono BX.out.size))
                clear b2
                go_wp2_with fail
                go_roundw
                case rel => exact ⟨left, u + opSz o, k + 1, rfl, rfl, by go_num, by omega, HS2.out, g1, g2, by omega, by omega, B2.out⟩
                case measure => simp [intOf]; omega
              · have k2 : (o.kind == 2) = false := by rw [beq_eq_false_iff_ne]; exact hk2
                have hn1 := opE_n he hk2
                have hsz := opSz_n hk2
                have HC := size_ok o _ X R0.out Z.out.1 Z.out.2 he
                rw [hsz] at HC
                have HC := Lib.hid HC
                by_cases hl3 : left < o.n
                · have HS2 := Lib.hid (toE_scan hf0 hf3 hl2 (HS.out.trans (scan_over he hk2 hl3)) (by decide))
                  clear he hk2 hsz
                  go_wp2_with fail
                  rw [← HX.out]
                  go_wp2_with fail
                  refine HC.out.mono ?_
                  rintro e w2 ⟨rfl, b2⟩
                  have e0 : w2.cell? ⟨wr.heap.size, 0, none⟩ = some (.int .i64 o.kind) := (b2.cell (by exact hXs)).trans d0
                  have B2 := Lib.hid (BX.out.trans (b2.mono BX.out.size))
                  clear b2
                  go_wp2_with fail
                  go_ret2
                  exact toOut_bad HS2.out (by decide) B2.out
                · have hl4 : o.n ≤ left := by omega
                  by_cases hk3 : o.kind = 3
                  · have k3 : (o.kind == 3) = true := by rw [hk3]; rfl
                    have HS2 := Lib.hid (HS.out.trans (scan_cut he hk3 hl3))
                    clear he hk2 hsz hk3 hl3
                    go_wp2_with fail
                    rw [← HX.out]
                    go_wp2_with fail
                    refine HC.out.mono ?_
                    rintro e w2 ⟨rfl, b2⟩
                    have e0 : w2.cell? ⟨wr.heap.size, 0, none⟩ = some (.int .i64 o.kind) := (b2.cell (by exact hXs)).trans d0
                    have B2 := Lib.hid (BX.out.trans (b2.mono BX.out.size))
                    clear b2
                    go_wp2_with fail
                    go_roundw
                    case rel => exact ⟨left - o.n, u - o.n, k + 1, rfl, rfl, by go_num, by omega, HS2.out, by omega, by omega, by omega, by omega, B2.out⟩
                    case measure => simp [intOf]; omega
                  · have k3 : (o.kind == 3) = false := by rw [beq_eq_false_iff_ne]; exact hk3
                    have HS2 := Lib.hid (HS.out.trans (scan_keep he hk2 hk3 hl3))
                    clear he hk2 hsz hk3 hl3
                    go_wp2_with fail
                    rw [← HX.out]
                    go_wp2_with fail
                    refine HC.out.mono ?_
                    rintro e w2 ⟨rfl, b2⟩
                    have e0 : w2.cell? ⟨wr.heap.size, 0, none⟩ = some (.int .i64 o.kind) := (b2.cell (by exact hXs)).trans d0
                    have B2 := Lib.hid (BX.out.trans (b2.mono BX.out.size))
                    clear b2
                    go_wp2_with fail
                    go_roundw
                    case rel => exact ⟨left - o.n, u, k + 1, rfl, rfl, by go_num, by omega, HS2.out, by omega, by omega, by omega, by omega, B2.out⟩
                    case measure => simp [intOf]; omega
            · have t1 : (opE o != 0) = true := by rw [bne_iff_ne]; exact he
              have HS2 := Lib.hid (toE_scan hf0 hf3 hl2 (HS.out.trans (scan_bad he)) he)
              have HC := Lib.hid (size_bad o _ X R0.out Z.out.1 Z.out.2)
              have He := Lib.hid he
              clear he
              go_wp2_with fail
              rw [← HX.out]
              go_wp2_with fail
              refine HC.out.mono ?_
              rintro e w2 ⟨n2, rfl, b2⟩
              have B2 := Lib.hid (BX.out.trans (b2.mono BX.out.size))
              clear b2
              go_wp2_with fail
              go_ret2
              exact toOut_bad HS2.out He.out B2.out
          · have hkn : k = ops.length := by omega
            subst hkn
            rw [List.drop_length] at hs
            obtain ⟨q1, q2⟩ := toE_end hf0 hf3 hl2 (hs.trans rfl)
            by_cases hu : 20000 < u
            · rw [if_pos hu] at q1
              have Q1 := Lib.hid q1
              clear q1 q2 hs hb
              go_wp2_with fail
              go_ret2
              exact toOut_bad Q1.out (by decide) HB.out
            · rw [if_neg hu] at q1
              have Q1 := Lib.hid (And.intro q1 (q2 hu))
              have hu2 : u ≤ 20000 := by omega
              clear q1 q2 hs hb
              go_wp2_with fail
              go_ret2
              exact toOut_mk Q1.out.1 Q1.out.2 HB.out

theorem changeRight_any (f : Int) (v : Value) (ops : List OpD) (w : World) (hv : OpRow w v ops) (hz : OSized ops) :
    Calls Try.prog 7 #[chAgg f v] w fun e w' => e = .returned (.int .i64 (toE f ops)) ∧ Below w.heap.size w w' := by
  have HC := Lib.hid (to_any f v ops _ (hv.below (below_box w (.cells #[.int .i64 f, v] 24))) hz)
  obtain ⟨aa, acap, rfl⟩ := hv.shape
  clear hv hz
  go_enter Try.func7, Try.ntmps7
  go_wp2_with fail
  refine HC.out.mono ?_
  rintro e w1 ⟨rfl, hb⟩
  go_wp2_with fail
  go_ret
  exact ⟨rfl, (below_box w _).trans (hb.mono (by simp))⟩
end Go.Proofs.Ytacgkbdldbppjaa

/- The program's Normal. -/
namespace Go.Proofs.Ytacgkbdldbppjaa
open Go.RowKit Ch

def NormOut (w : World) (f : Int) (ops : List OpD) (e : Ending) (w' : World) : Prop :=
  (toE f ops ≠ 0 ∧ e = .returned (.tuple #[chAgg 0 (.slice none 0 0), .int .i64 (toE f ops)]) ∧ Below w.heap.size w w') ∨
  (toE f ops = 0 ∧ ∃ v, e = .returned (.tuple #[chAgg f v, .int .i64 0]) ∧ OwnOps w' w.heap.size v (norm ops) ∧ Below w.heap.size w w')

set_option maxRecDepth 100000 in
set_option maxHeartbeats 4000000 in
theorem normal_any (f : Int) (v : Value) (ops : List OpD) (w : World) (hv : OpRow w v ops) (hz : OSized ops) :
    Calls Try.prog 16 #[chAgg f v] w (NormOut w f ops) := by
  have Hv := Lib.hid hv
  have Hz := Lib.hid hz
  obtain ⟨aa, acap, rfl, v1, v2, v3⟩ := hv
  have V3 := Lib.hid v3
  have hn : ops.length ≤ 9223372036854775807 := Nat.le_trans v1 v2
  obtain ⟨W, hW⟩ : ∃ W, W = (w.alloc (.cells #[.int .i64 f, .slice aa ops.length acap] 24)).alloc (.cells #[.int .i64 0, .slice none 0 0] 24) := ⟨_, rfl⟩
  have BW := Lib.hid (show Below w.heap.size w W by rw [hW]; exact ((Below.refl _ _).alloc (Nat.le_refl _) _).alloc (by simp) _)
  have c0 : W.cell? ⟨w.heap.size, 0, none⟩ = some (.int .i64 f) := by rw [hW]; go_simp
  have c1 : W.cell? ⟨w.heap.size, 1, none⟩ = some (.slice aa ops.length acap) := by rw [hW]; go_simp
  have r0 : W.heap[w.heap.size + 1]? = some (.cells #[.int .i64 0, .slice none 0 0] 24 (0, 0)) := by
    rw [hW]
    have := heap_new (w.alloc (.cells #[.int .i64 f, .slice aa ops.length acap] 24)) (.cells #[.int .i64 0, .slice none 0 0] 24)
    simpa using this
  have b0 : W.heap[w.heap.size]? = some (.cells #[.int .i64 f, .slice aa ops.length acap] 24 (0, 0)) := by
    rw [hW, Below.heap_alloc _ _ _ (by simp)]
    exact heap_new _ _
  have HW := Lib.hid hW
  have hlW : w.heap.size + 2 = W.heap.size := by rw [hW]; simp
  have HR := Lib.hid (changeRight_any f _ ops W (Hv.out.below BW.out) hz)
  have HR0 := Lib.hid r0
  have HB0 := Lib.hid b0
  clear hz hW v1 v2 v3 r0 b0
  by_cases he : toE f ops = 0
  · have hok := (toE_iff f ops).1 he
    have HOK := Lib.hid hok
    have HE := Lib.hid he
    have hl2 : ops.length ≤ 2000 := hok.2.2.1
    rw [he] at HR
    clear he hok
    go_enter Try.func16, Try.ntmps16
    go_wp2_with fail
    rw [← HW.out]
    go_wp2_with fail
    refine HR.out.mono ?_
    rintro e w1 ⟨rfl, b1⟩
    have hlt0 : w.heap.size < W.heap.size := by omega
    have c1' : w1.cell? ⟨w.heap.size, 1, none⟩ = some (.slice aa ops.length acap) := (b1.cell (by exact hlt0)).trans c1
    have HB1 := Lib.hid b1
    have hs1 := b1.size
    have hlt1 : w.heap.size < w1.heap.size := by omega
    clear b1 c0 c1
    go_wp2_with fail
    go_loopw [17] (fun i wr => ∃ (k : Nat) (ov : Value), i = .int .i64 (k : Int) ∧ k ≤ ops.length ∧ NSt wr w.heap.size w1.heap.size ov (fold (ops.take k)).1 (fold (ops.take k)).2 ∧ Keep w.heap.size TS W wr) (fun i _ => ops.length - (intOf i).toNat)
    case atStart =>
      refine ⟨0, .slice none 0 0, rfl, Nat.zero_le _, ⟨[], .pointer none, .slice none 0 0, [], ?_, .inl rfl, ⟨World.ownsRow_nil _ _ _ _, fun p hp => by cases hp⟩, holds8_nil _ _, .inl ⟨rfl, rfl, rfl⟩⟩, ?_⟩
      · exact heap_new _ _
      · exact (keep_below HB1.out BW.out.size).trans (keep_below (below_box _ _) (by omega))
    case round =>
      obtain ⟨k, ov, rfl, hk, hN, hK⟩ := hrel
      have HN := Lib.hid hN
      have HK := Lib.hid hK
      by_cases hlt : k < ops.length
      · have hlt' : (k : Int) < (ops.length : Int) := by omega
        obtain ⟨b, off, rfl, hbl, av, q0, _, x0, x1, x2, x3⟩ := V3.out k hlt
        have hvo := vop_of HOK.out (List.getElem_mem hlt)
        have hfs : fold (ops.take (k + 1)) = add (fold (ops.take k)) ops[k] := by rw [List.take_succ_eq_append_getElem hlt, fold_snoc]
        obtain ⟨L1, L2⟩ := lim_fold HOK.out k (by omega)
        have hfit := fitsS_of L1 L2 hvo (by omega)
        obtain ⟨o, ho⟩ : ∃ o, o = ops[k] := ⟨_, rfl⟩
        rw [← ho] at q0 x0 x1 x2 hfs hfit
        obtain ⟨ar, cr, rfl⟩ := q0.shape
        have BK : Below w.heap.size w wr := BW.out.trans hK.below
        have y0 : wr.cell? ⟨b, off + k * 4, none⟩ = some (.int .i64 o.kind) := (BK.cell (by exact hbl)).trans x0
        have y1 : wr.cell? ⟨b, off + k * 4 + 1, none⟩ = some (.int .i64 o.n) := (BK.cell (by exact hbl)).trans x1
        have y2 : wr.cell? ⟨b, off + k * 4 + 2, none⟩ = some (.string o.text) := (BK.cell (by exact hbl)).trans x2
        have y3 : wr.cell? ⟨b, off + k * 4 + 3, none⟩ = some (.slice ar o.attrs.length cr) := (BK.cell (by exact hbl)).trans x3
        obtain ⟨X, hX⟩ : ∃ X, X = wr.alloc (.cells #[.int .i64 o.kind, .int .i64 o.n, .string o.text, .slice ar o.attrs.length cr] 40) := ⟨_, rfl⟩
        have BX : Below wr.heap.size wr X := by rw [hX]; exact below_box _ _
        have d0 : X.cell? ⟨wr.heap.size, 0, none⟩ = some (.int .i64 o.kind) := by rw [hX]; go_simp
        have d1 : X.cell? ⟨wr.heap.size, 1, none⟩ = some (.int .i64 o.n) := by rw [hX]; go_simp
        have d2 : X.cell? ⟨wr.heap.size, 2, none⟩ = some (.string o.text) := by rw [hX]; go_simp
        have d3 : X.cell? ⟨wr.heap.size, 3, none⟩ = some (.slice ar o.attrs.length cr) := by rw [hX]; go_simp
        have HX := Lib.hid hX
        have HC := Lib.hid (add_any w.heap.size w1.heap.size ov (fold (ops.take k)) o (.slice ar o.attrs.length cr) X (hN.below BX) (by omega) hfit (fun w' hb => q0.below (BK.trans ((BX.mono BK.size).trans hb))))
        have HKX := Lib.hid (hK.trans (keep_below (B := w.heap.size) (ts := TS) BX BK.size))
        have HFS := Lib.hid hfs
        clear hN hK q0 x0 x1 x2 x3 hvo hfs L1 L2 hfit ho BK BX hX
        go_wp2_with fail
        rw [← HX.out]
        go_wp2_with fail
        refine HC.out.mono ?_
        rintro e w2 ⟨rfl, ov2, N2, K2⟩
        rw [← HFS.out] at N2
        have HN2 := Lib.hid N2
        have HK2 := Lib.hid (HKX.out.trans K2.keep)
        clear N2 K2
        go_wp2_with fail
        go_roundw
        case rel => exact ⟨k + 1, ov2, by go_num, by omega, HN2.out, HK2.out⟩
        case measure => simp [intOf]; omega
      · have hkn : k = ops.length := by omega
        subst hkn
        rw [List.take_length] at HN
        obtain ⟨L1, L2⟩ := lim_fold HOK.out ops.length (Nat.le_refl _)
        rw [List.take_length] at L1 L2
        have hfl := flush_len (fold ops)
        have hsz := siz_fold ops
        have HC := Lib.hid (fun X (hX : NSt X w.heap.size w1.heap.size ov (fold ops).1 (fold ops).2) => end_any w.heap.size w1.heap.size ov (fold ops) X hX (by omega) L1.g0 (fits_del L1 hl2) (by omega))
        have bF : wr.heap[w.heap.size]? = _ := HK.out.kept _ _ _ _ (HB0.out) (by decide)
        have rF : wr.heap[w.heap.size + 1]? = _ := HK.out.kept _ _ _ _ (HR0.out) (by decide)
        have HbF := Lib.hid bF
        have HrF := Lib.hid rF
        have g0 : wr.cell? ⟨w.heap.size, 0, none⟩ = some (.int .i64 f) := by rw [Lib.cell_of_heap bF]; rfl
        clear L1 L2 hfl hsz hN hK bF rF c1'
        go_wp2_with fail
        go_region_held3 (fun w' => w'.cell? ⟨w.heap.size, 0, none⟩ = some (.int .i64 f))
          (first
            | exact g0
            | exact g0A
            | exact set_other (by show w.heap.size + 1 ≠ w.heap.size; omega) g0A
            | exact set_other (by show w.heap.size + 1 ≠ w.heap.size; omega) (set_other (by show w.heap.size + 1 ≠ w.heap.size; omega) g0A))
          (first
            | (go_at_call 32; refine (HC.out _ (by exact HN.out)).mono ?_; rintro e wA ⟨vA, rfl, OA, KA⟩; obtain ⟨va, vc, rfl⟩ := (OwnOps.row OA).shape; have rA := KA.kept (w := wr.drew) _ _ _ _ HrF.out (by decide); have e0 : wA.cell? ⟨w.heap.size + 1, 0, none⟩ = some (.int .i64 0) := (Lib.cell_of_heap rA 0).trans rfl; have e1 : wA.cell? ⟨w.heap.size + 1, 1, none⟩ = some (.slice none 0 0) := (Lib.cell_of_heap rA 1).trans rfl; have e2 : wA.frozen? ⟨w.heap.size + 1, 0, none⟩ = false := Lib.frozen_of_heap rA 0; have e3 : wA.frozen? ⟨w.heap.size + 1, 1, none⟩ = false := Lib.frozen_of_heap rA 1; have g0A : wA.cell? ⟨w.heap.size, 0, none⟩ = some (.int .i64 f) := by rw [Lib.cell_of_heap (KA.kept (w := wr.drew) _ _ _ _ HbF.out (by decide))]; rfl))
        have hB1 : w.heap.size ≤ w.heap.size + 1 := Nat.le_succ _
        have S1 : Keep w.heap.size [24] wA (wA.setCell ⟨w.heap.size + 1, 0, none⟩ (.int .i64 f)) := keep_set rA (by simp) hB1 _ rfl _
        have rB := nblk_set (j := 0) (u := .int .i64 f) rA
        have S2 : Keep w.heap.size [24] (wA.setCell ⟨w.heap.size + 1, 0, none⟩ (.int .i64 f)) ((wA.setCell ⟨w.heap.size + 1, 0, none⟩ (.int .i64 f)).setCell ⟨w.heap.size + 1, 1, none⟩ (.slice va (trim (flush (fold ops))).length vc)) := keep_set rB (by simp) hB1 _ rfl _
        have rC := nblk_set (j := 1) (u := .slice va (trim (flush (fold ops))).length vc) rB
        obtain ⟨ps, hps, hP⟩ := OA
        have PZ := hP.keep (S1.trans S2) (by decide) (by decide)
        rw [List.length_reverse] at PZ
        have KZ : Below w.heap.size w ((wA.setCell ⟨w.heap.size + 1, 0, none⟩ (.int .i64 f)).setCell ⟨w.heap.size + 1, 1, none⟩ (.slice va (trim (flush (fold ops))).length vc)) := ((BW.out.trans HK.out.below).trans (of_drewK KA).below).trans (S1.trans S2).below
        obtain ⟨wZ, hwZ⟩ : ∃ wZ, wZ = (wA.setCell ⟨w.heap.size + 1, 0, none⟩ (.int .i64 f)).setCell ⟨w.heap.size + 1, 1, none⟩ (.slice va (trim (flush (fold ops))).length vc) := ⟨_, rfl⟩
        rw [← hwZ] at PZ KZ rC ⊢
        have z0 : wZ.cell? ⟨w.heap.size + 1, 0, none⟩ = some (.int .i64 f) := (Lib.cell_of_heap rC 0).trans rfl
        have z1 : wZ.cell? ⟨w.heap.size + 1, 1, none⟩ = some (.slice va (trim (flush (fold ops))).length vc) := (Lib.cell_of_heap rC 1).trans rfl
        have FIN : NormOut w f ops (.returned (.tuple #[chAgg f (.slice va (trim (flush (fold ops))).length vc), .int .i64 0])) wZ := .inr ⟨HE.out, _, rfl, ⟨ps, hps, PZ⟩, KZ⟩
        have HFIN := Lib.hid FIN
        clear FIN PZ KZ rC hwZ S1 S2 rB rA e0 e1 e2 e3 hP hps g0 g0A KA
        go_wp2_with fail
        exact bodyPost_ret (v := .tuple #[chAgg f (.slice va (trim (flush (fold ops))).length vc), .int .i64 0]) (by simp [results, Try.results16, go_sem, z0, z1]) rfl HFIN.out
  · have HE := Lib.hid he
    have t1 : (toE f ops != 0) = true := by rw [bne_iff_ne]; exact he
    clear he
    go_enter Try.func16, Try.ntmps16
    go_wp2_with fail
    rw [← HW.out]
    go_wp2_with fail
    refine HR.out.mono ?_
    rintro e w1 ⟨rfl, b1⟩
    have r1 := (b1.block _ (lt_of_heap HR0.out)).trans HR0.out
    have e0 : w1.cell? ⟨w.heap.size + 1, 0, none⟩ = some (.int .i64 0) := (Lib.cell_of_heap r1 0).trans rfl
    have e1 : w1.cell? ⟨w.heap.size + 1, 1, none⟩ = some (.slice none 0 0) := (Lib.cell_of_heap r1 1).trans rfl
    have e2 : w1.frozen? ⟨w.heap.size + 1, 0, none⟩ = false := Lib.frozen_of_heap r1 0
    have e3 : w1.frozen? ⟨w.heap.size + 1, 1, none⟩ = false := Lib.frozen_of_heap r1 1
    have B1 : Below w.heap.size w ((w1.setCell ⟨w.heap.size + 1, 0, none⟩ (.int .i64 0)).setCell ⟨w.heap.size + 1, 1, none⟩ (.slice none 0 0)) := ((BW.out.trans (b1.mono BW.out.size)).setCell (Nat.le_succ _) _).setCell (Nat.le_succ _) _
    have rC := nblk_set (j := 1) (u := .slice none 0 0) (nblk_set (j := 0) (u := .int .i64 0) r1)
    have HRC := Lib.hid rC
    have HB1 := Lib.hid B1
    clear b1 B1 r1 rC c0 c1
    go_wp2_with fail
    have z0 := (Lib.cell_of_heap HRC.out 0)
    have z1 := (Lib.cell_of_heap HRC.out 1)
    have FIN : NormOut w f ops (.returned (.tuple #[chAgg 0 (.slice none 0 0), .int .i64 (toE f ops)])) ((w1.setCell ⟨w.heap.size + 1, 0, none⟩ (.int .i64 0)).setCell ⟨w.heap.size + 1, 1, none⟩ (.slice none 0 0)) := .inl ⟨HE.out, rfl, HB1.out⟩
    exact bodyPost_ret (v := .tuple #[chAgg 0 (.slice none 0 0), .int .i64 (toE f ops)]) (by simp [results, Try.results16, go_sem, z0, z1]) rfl FIN
end Go.Proofs.Ytacgkbdldbppjaa

/- The program's Clone. -/
namespace Go.Proofs.Ytacgkbdldbppjaa
open Go.RowKit Ch

/-- Operations few and short enough to be copied. -/
def SmallO (ops : List OpD) : Prop := ops.length ≤ 1048576 ∧ ∀ o ∈ ops, o.text.size ≤ 1048576 ∧ SmallA o.attrs
theorem smallO_ok {f : Int} {ops : List OpD} (h : OkC f ops) : SmallO ops := ⟨by have := h.2.2.1; omega, fun o ho => by
  have hv := vop_of h ho
  have := hv.text
  exact ⟨by omega, hv.attrs⟩⟩
def CloneOut (w : World) (f : Int) (ops : List OpD) (e : Ending) (w' : World) : Prop := ∃ v, e = .returned (chAgg f v) ∧ OwnOps w' w.heap.size v ops ∧ Below w.heap.size w w'

set_option maxRecDepth 100000 in
set_option maxHeartbeats 4000000 in
theorem changeClone_any (f : Int) (v : Value) (ops : List OpD) (w : World) (hv : OpRow w v ops) (hz : SmallO ops) :
    Calls Try.prog 17 #[chAgg f v] w (CloneOut w f ops) := by
  obtain ⟨aa, acap, rfl, v1, v2, v3⟩ := hv
  have V3 := Lib.hid v3
  have Hz := Lib.hid hz
  have hn : ops.length ≤ 1048576 := hz.1
  obtain ⟨W, hW⟩ : ∃ W, W = (w.alloc (.cells #[.int .i64 f, .slice aa ops.length acap] 24)).alloc (.cells #[.int .i64 0, .slice none 0 0] 24) := ⟨_, rfl⟩
  have BW := Lib.hid (show Below w.heap.size w W by rw [hW]; exact ((Below.refl _ _).alloc (Nat.le_refl _) _).alloc (by simp) _)
  have r0 : W.heap[w.heap.size + 1]? = some (.cells #[.int .i64 0, .slice none 0 0] 24 (0, 0)) := by
    rw [hW]
    have := heap_new (w.alloc (.cells #[.int .i64 f, .slice aa ops.length acap] 24)) (.cells #[.int .i64 0, .slice none 0 0] 24)
    simpa using this
  have b0 : W.heap[w.heap.size]? = some (.cells #[.int .i64 f, .slice aa ops.length acap] 24 (0, 0)) := by
    rw [hW, Below.heap_alloc _ _ _ (by simp)]
    exact heap_new _ _
  have c0 : W.cell? ⟨w.heap.size, 0, none⟩ = some (.int .i64 f) := (Lib.cell_of_heap b0 0).trans rfl
  have c1 : W.cell? ⟨w.heap.size, 1, none⟩ = some (.slice aa ops.length acap) := (Lib.cell_of_heap b0 1).trans rfl
  have HW := Lib.hid hW
  have HR0 := Lib.hid r0
  have HB0 := Lib.hid b0
  obtain ⟨i0, hi, hz0, hz1, hz2⟩ := info_parts infoOp
  have Hi := Lib.hid (And.intro hi (And.intro hz0 (And.intro hz1 hz2)))
  clear hz hW v1 v2 v3 r0 b0 hi hz0 hz1 hz2
  go_enter Try.func17, Try.ntmps17
  go_wp2_with fail
  rw [← HW.out]
  go_wp2_with fail
  go_loopw [3, 9] (fun x i wr => ∃ (ps : List (OpD × Value)) (oa : Option Addr) (oc : Nat), i = .int .i64 (ps.length : Int) ∧ x = .slice oa ps.length oc ∧ ps.length ≤ ops.length ∧ ps.map (·.1) = ops.take ps.length ∧ OwnP wr w.heap.size (.slice oa ps.length oc) ps ∧ Keep w.heap.size [40] W wr) (fun _ i _ => ops.length - (intOf i).toNat)
  case atStart => exact ⟨[], none, 0, rfl, rfl, Nat.zero_le _, rfl, ⟨World.ownsRow_nil _ _ _ _, fun p hp => by cases hp⟩, Keep.refl _ _ _⟩
  case round =>
    obtain ⟨ps, oa, oc, rfl, rfl, hk, hps, hP, hK⟩ := hrel
    by_cases hlt : ps.length < ops.length
    · have hlt' : (ps.length : Int) < (ops.length : Int) := by omega
      obtain ⟨b, off, rfl, hbl, av, q0, _, x0, x1, x2, x3⟩ := V3.out ps.length hlt
      obtain ⟨z1, z2⟩ := Hz.out.2 _ (List.getElem_mem hlt)
      have htk : ops.take (ps.length + 1) = ops.take ps.length ++ [ops[ps.length]] := List.take_succ_eq_append_getElem hlt
      obtain ⟨o, ho⟩ : ∃ o, o = ops[ps.length] := ⟨_, rfl⟩
      rw [← ho] at q0 x0 x1 x2 z1 z2 htk
      obtain ⟨ar, cr, rfl⟩ := q0.shape
      have BK : Below w.heap.size w wr := BW.out.trans hK.below
      have y0 : wr.cell? ⟨b, off + ps.length * 4, none⟩ = some (.int .i64 o.kind) := (BK.cell (by exact hbl)).trans x0
      have y1 : wr.cell? ⟨b, off + ps.length * 4 + 1, none⟩ = some (.int .i64 o.n) := (BK.cell (by exact hbl)).trans x1
      have y2 : wr.cell? ⟨b, off + ps.length * 4 + 2, none⟩ = some (.string o.text) := (BK.cell (by exact hbl)).trans x2
      have y3 : wr.cell? ⟨b, off + ps.length * 4 + 3, none⟩ = some (.slice ar o.attrs.length cr) := (BK.cell (by exact hbl)).trans x3
      obtain ⟨X, hX⟩ : ∃ X, X = wr.alloc (.cells #[.int .i64 o.kind, .int .i64 o.n, .string o.text, .slice ar o.attrs.length cr] 40) := ⟨_, rfl⟩
      have BX := Lib.hid (show Below wr.heap.size wr X by rw [hX]; exact below_box _ _)
      have hbx : X.heap[wr.heap.size]? = some (.cells #[.int .i64 o.kind, .int .i64 o.n, .string o.text, .slice ar o.attrs.length cr] 40 (0, 0)) := by rw [hX]; exact heap_new _ _
      have d0 : X.cell? ⟨wr.heap.size, 0, none⟩ = some (.int .i64 o.kind) := (Lib.cell_of_heap hbx 0).trans rfl
      have d1 : X.cell? ⟨wr.heap.size, 1, none⟩ = some (.int .i64 o.n) := (Lib.cell_of_heap hbx 1).trans rfl
      have d2 : X.cell? ⟨wr.heap.size, 2, none⟩ = some (.string o.text) := (Lib.cell_of_heap hbx 2).trans rfl
      have d3 : X.cell? ⟨wr.heap.size, 3, none⟩ = some (.slice ar o.attrs.length cr) := (Lib.cell_of_heap hbx 3).trans rfl
      have hxl : wr.heap.size < X.heap.size := lt_of_heap hbx
      have HX := Lib.hid hX
      have HBK := Lib.hid BK
      have HK := Lib.hid hK
      have HP := Lib.hid hP
      have HPS := Lib.hid (show (ps ++ [(o, Value.slice none 0 0)]).map (·.1) = ops.take (ps.length + 1) by rw [List.map_append, hps, htk]; rfl)
      have HNE := Lib.hid (show some wr.heap.size ≠ (Value.slice oa ps.length oc).ownBlock from fun e => by have := (hP.1.lt _ e.symm).2; omega)
      have HZ := Lib.hid (And.intro z1 z2)
      have HQ := Lib.hid (fun W' (hb : Below w.heap.size w W') => cloneAttrs_any (.slice ar o.attrs.length cr) o.attrs W' (q0.below hb) z2)
      have hsz := BK.size
      clear q0 x0 x1 x2 x3 z1 z2 htk ho BK hX hK hP hps hbx
      go_wp2_with fail
      rw [← HX.out]
      go_region_held3 (fun w' => w'.cell? ⟨wr.heap.size, 0, none⟩ = some (.int .i64 o.kind) ∧ w'.cell? ⟨wr.heap.size, 1, none⟩ = some (.int .i64 o.n) ∧ w'.cell? ⟨wr.heap.size, 2, none⟩ = some (.string o.text) ∧ w'.cell? ⟨wr.heap.size, 3, none⟩ = some (.slice ar o.attrs.length cr))
        (first
          | exact ⟨d0, d1, d2, d3⟩
          | exact ⟨(BA.cell (by exact hxl)).trans d0, (BA.cell (by exact hxl)).trans d1, (BA.cell (by exact hxl)).trans d2, (BA.cell (by exact hxl)).trans d3⟩
          | exact ⟨(BB.cell (by exact hxl)).trans d0, (BB.cell (by exact hxl)).trans d1, (BB.cell (by exact hxl)).trans d2, (BB.cell (by exact hxl)).trans d3⟩
          | exact ⟨((BB.alloc BB.size _).cell (by exact hxl)).trans d0, ((BB.alloc BB.size _).cell (by exact hxl)).trans d1, ((BB.alloc BB.size _).cell (by exact hxl)).trans d2, ((BB.alloc BB.size _).cell (by exact hxl)).trans d3⟩
          | exact ⟨k0, k1, k2, k3⟩)
        (first
          | (go_at_call_of 33 (Value.string o.text); refine (clone_any _ _ (by have := HZ.out.1; omega)).mono ?_; rintro e wA ⟨rfl, hbA⟩; have BA : Below X.heap.size X wA := of_drew hbA)
          | (go_at_call 34; refine (HQ.out wA (HBK.out.trans ((BX.out.mono hsz).trans (BA.mono (Nat.le_trans hsz BX.out.size))))).mono ?_; rintro e wB ⟨vB, rfl, oB, hbB⟩; obtain ⟨ab, cb, rfl⟩ := own_slice oB; have BB : Below X.heap.size X wB := BA.trans (hbB.mono BA.size); have BWB : Below wr.heap.size wr wB := BX.out.trans (BB.mono BX.out.size); have PB := HP.out.keep (keep_below (B := w.heap.size) (ts := []) BWB hsz) (by simp) (by simp))
          | (refine step_append_new rfl (.tmp 13) (.tmp 25) 22 rfl 40 i0 (.agg #[.int .i64 0, .int .i64 0, .string ⟨#[]⟩, .slice none 0 0]) 4 56 Try.underlying22 Hi.out.1 Hi.out.2.1 Hi.out.2.2.1 Hi.out.2.2.2 rfl (by decide) w.heap.size (.slice oa ps.length oc) ps.length (flatO ps) rfl (PB.1.alloc _) ⟨wB.heap.size, 0, none⟩ 1 1 [.int .i64 o.kind, .int .i64 o.n, .string o.text, .slice ab o.attrs.length cb] rfl rfl (new_at4 _ _ _ _ _ _) (fun u hu => by simp at hu; rcases hu with rfl | rfl | rfl | rfl <;> rfl) (by unfold maxLen; omega) (by omega) (by have := BWB.size; simp; omega) ?_; intro v' wC oC gC _; have k0 := gC.cell (((BB.alloc BB.size _).cell (by exact hxl)).trans d0) HNE.out; have k1 := gC.cell (((BB.alloc BB.size _).cell (by exact hxl)).trans d1) HNE.out; have k2 := gC.cell (((BB.alloc BB.size _).cell (by exact hxl)).trans d2) HNE.out; have k3 := gC.cell (((BB.alloc BB.size _).cell (by exact hxl)).trans d3) HNE.out))
      obtain ⟨oa', oc', rfl⟩ := own_slice oC
      have KA : Keep w.heap.size [40] wB (wB.alloc (.cells #[.int .i64 o.kind, .int .i64 o.n, .string o.text, .slice ab o.attrs.length cb] 40)) := keep_below (below_box _ _) (by have := BWB.size; omega)
      have KC : Keep w.heap.size [40] _ wC := keep_row (PB.1.alloc _) gC (by simp) (by have := BWB.size; simp; omega)
      have oB2 := (KA.trans KC).own (own_base oB (show w.heap.size ≤ wA.heap.size from by have := BA.size; have := BX.out.size; omega)) (by decide)
      have PC : OwnP wC w.heap.size (.slice oa' (ps.length + 1) oc') (ps ++ [(o, .slice ab o.attrs.length cb)]) := ownP_mk (by rw [flatO_snoc]; exact oC) (fun q hq => (KA.trans KC).own (PB.2 q hq) (by decide)) oB2
      have KK := HK.out.trans ((keep_below (B := w.heap.size) BWB hsz).trans (KA.trans KC))
      have HPC := Lib.hid PC
      have HKK := Lib.hid KK
      clear KA KC oB2 PC KK oC gC PB BWB BB BA oB hbB hbA k0 k1 k2 k3 d0 d1 d2 d3 y0 y1 y2 y3
      go_wp2_with fail
      go_roundw
      case rel => exact ⟨ps ++ [(o, .slice ab o.attrs.length cb)], oa', oc', by simp, by simp, by simp; omega, by have := HPS.out; simp at this ⊢; exact this, by rw [List.length_append, List.length_singleton]; exact HPC.out, HKK.out⟩
      case measure => simp [intOf]; omega
    · have hkn : ps.length = ops.length := by omega
      rw [hkn, List.take_length] at hps
      have HPS := Lib.hid hps
      have b1 := hK.kept _ _ _ _ HB0.out (by decide)
      have r1 := hK.kept _ _ _ _ HR0.out (by decide)
      have e0 : wr.cell? ⟨w.heap.size, 0, none⟩ = some (.int .i64 f) := (Lib.cell_of_heap b1 0).trans rfl
      have e1 : wr.cell? ⟨w.heap.size + 1, 0, none⟩ = some (.int .i64 0) := (Lib.cell_of_heap r1 0).trans rfl
      have e2 : wr.cell? ⟨w.heap.size + 1, 1, none⟩ = some (.slice none 0 0) := (Lib.cell_of_heap r1 1).trans rfl
      have e3 : wr.frozen? ⟨w.heap.size + 1, 0, none⟩ = false := Lib.frozen_of_heap r1 0
      have e4 : wr.frozen? ⟨w.heap.size + 1, 1, none⟩ = false := Lib.frozen_of_heap r1 1
      have t1 : decide ((ps.length : Int) < (ops.length : Int)) = false := decide_eq_false (by omega)
      have t2 : decide (ps.length < ops.length) = false := decide_eq_false (by omega)
      have S1 : Keep w.heap.size [24] wr (wr.setCell ⟨w.heap.size + 1, 0, none⟩ (.int .i64 f)) := keep_set r1 (by simp) (Nat.le_succ _) _ rfl _
      have rB := nblk_set (j := 0) (u := .int .i64 f) r1
      have S2 : Keep w.heap.size [24] _ ((wr.setCell ⟨w.heap.size + 1, 0, none⟩ (.int .i64 f)).setCell ⟨w.heap.size + 1, 1, none⟩ (.slice oa ps.length oc)) := keep_set rB (by simp) (Nat.le_succ _) _ rfl _
      have HRC := Lib.hid (nblk_set (j := 1) (u := .slice oa ps.length oc) rB)
      have HPZ := Lib.hid (hP.keep (S1.trans S2) (by decide) (by decide))
      have HKZ := Lib.hid (BW.out.trans (hK.below.trans (S1.trans S2).below))
      clear hP hK hps b1 r1 S1 S2 rB hkn hk hlt c0 c1
      go_wp2_with fail
      have z0 := (Lib.cell_of_heap HRC.out 0)
      have z1 := (Lib.cell_of_heap HRC.out 1)
      exact bodyPost_ret (v := chAgg f (.slice oa ps.length oc)) (by simp [results, Try.results17, go_sem, z0, z1]) rfl ⟨_, rfl, ⟨ps, HPS.out, HPZ.out⟩, HKZ.out⟩
end Go.Proofs.Ytacgkbdldbppjaa

/- Lent, Kept, Spoil: attributes in memory of their own, whether they were kept, and their owner writes over them. -/
namespace Go.Proofs.Ytacgkbdldbppjaa
open Go.RowKit At

def mark : ByteArray × ByteArray := (⟨#[109, 97, 114, 107]⟩, ⟨#[]⟩)
def LentOut (W : World) (l : List (ByteArray × ByteArray)) (e : Ending) (w' : World) : Prop :=
  ∃ g, e = .returned (.slice (some ⟨g, 0, none⟩) l.length (l.length + 1)) ∧ w'.ownsRow W.heap.size 67 2 (.slice (some ⟨g, 0, none⟩) (l.length + 1) (l.length + 1)) (l.length + 1) (flat (l ++ [mark])) ∧ Below W.heap.size W w'

set_option maxHeartbeats 4000000 in
theorem lent_any (v : Value) (l : List (ByteArray × ByteArray)) (w : World) (hv : AtRow w v l) (hp : Proper v) (hr : l.length * 32 ≤ 140737488351232) :
    Calls Try.prog 23 #[v] w (LentOut w l) := by
  have Hv := Lib.hid hv
  have Hp := Lib.hid hp
  obtain ⟨ao, cap, rfl, _⟩ := hv
  have hnone := fun h : ao = none => by subst h; exact hp _ _ rfl
  have Hnone := Lib.hid hnone
  have Hr := Lib.hid hr
  have hn : l.length ≤ 4398046511104 := by omega
  have e0 : ([] : List Value) ++ flat l = flat l := rfl
  have e1 : 0 + l.length = l.length := Nat.zero_add _
  have E1 := Lib.hid (And.intro e0 e1)
  obtain ⟨i0, hi, hz0, hz1, hz2⟩ := info_parts infoAttr
  have Hi := Lib.hid (And.intro hi (And.intro hz0 (And.intro hz1 hz2)))
  have b1 : i0.bytes * (l.length + 1) ≤ 281474976710656 := by rw [hz2]; omega
  have b2 : l.length + 1 ≤ maxLen := by unfold maxLen; omega
  have Hb := Lib.hid (And.intro b1 b2)
  clear hp hr hnone hi hz0 hz1 hz2 b1 b2 e0 e1
  go_enter Try.func23, Try.ntmps23
  go_wp2_with (first
    | (at_make; refine wpList_make_own _ rfl _ _ 38 rfl w.heap.size 67 i0 (.agg #[.string ⟨#[]⟩, .string ⟨#[]⟩]) 2 Try.underlying38 Hi.out.1 Hi.out.2.1 Hi.out.2.2.1 .i64 .i64 _ (l.length + 1) rfl rfl rfl Hb.out.1 Hb.out.2 (Nat.le_refl _) ?_; intro w1 o1 g1; have O1 := Lib.hid o1; have B1 := Lib.hid ((Below.refl w.heap.size w).grown g1 (Nat.le_refl _) (fun k hk => by cases hk)); clear o1 g1)
    | (at_builtin; refine wpList_append_fits_any _ rfl (.tmp 7) (.tmp 8) 38 rfl w.heap.size 67 i0 2 Try.underlying38 Hi.out.1 Hi.out.2.2.1 w.heap.size 0 (l.length + 1) [] rfl O1.out ao l.length cap (flat l) rfl (flat_len l) Hnone.out (news_any (Hv.out.below B1.out)) flat_one (by omega) ?_; intro w2 o2 g2; rw [E1.out.1, E1.out.2] at o2; have O2 := Lib.hid o2; have B2 := Lib.hid (B1.out.grown g2 B1.out.size (fun k hk => by cases hk; exact Nat.le_refl _)); clear o2 g2)
    | (at_builtin; refine wpList_append_fits _ rfl (.tmp 10) (.tmp 12) 38 rfl w.heap.size 67 i0 2 Try.underlying38 Hi.out.1 Hi.out.2.2.1 w.heap.size l.length (l.length + 1) (flat l) rfl (O2.out.alloc _) ⟨w2.heap.size, 0, none⟩ 1 1 [.string mark.1, .string mark.2] rfl rfl (new_at2 _ _ _ _) (fun u hu => by simp at hu; rcases hu with rfl | rfl <;> rfl) (Nat.le_refl _) ?_; intro w3 o3 g3; rw [← flat_snoc] at o3; have O3 := Lib.hid o3; have B3 := Lib.hid ((B2.out.alloc B2.out.size _).grown g3 (Nat.le_trans B2.out.size (by simp)) (fun k hk => by cases hk; exact Nat.le_refl _)); clear o3 g3)
    | (refine wpList_sliced (.slice (some ⟨w.heap.size, 0, none⟩) (l.length + 1) (l.length + 1)) (.slice (some ⟨w.heap.size, 0, none⟩) l.length (l.length + 1)) rfl (slice_own _ _ _ _ (Nat.le_succ _) _) ?_))
  go_ret
  exact ⟨_, rfl, O3.out, B3.out⟩

/-- One cell pair written over in one's own row. -/
theorem own_stored2 {w : World} {B g n cap j : Nat} {xs : List Value} (h : w.ownsRow B 67 2 (.slice (some ⟨g, 0, none⟩) n cap) n xs) (u v : Value) :
    ∃ ys, ((w.setCell ⟨g, j * 2, none⟩ u).setCell ⟨g, j * 2 + 1, none⟩ v).ownsRow B 67 2 (.slice (some ⟨g, 0, none⟩) n cap) n ys :=
  ⟨_, ((h.stored (j * 2) u).1.stored (j * 2 + 1) v).1⟩
theorem own_cell {w : World} {B g n cap j : Nat} {xs : List Value} (h : w.ownsRow B 67 2 (.slice (some ⟨g, 0, none⟩) n cap) n xs) (hj : j < n * 2) : ∃ u, w.cell? ⟨g, j, none⟩ = some u := by
  have hl : j < xs.length := by rw [h.1]; exact hj
  exact ⟨xs[j], by rw [h.cellAt j hj]; exact List.getElem?_eq_getElem hl⟩

def SpoilOut (W : World) (v : Value) (n : Nat) (e : Ending) (w' : World) : Prop := e = .returned (.int .i64 ((n + 1 : Nat) : Int)) ∧ W.grownBy w' v.ownBlock
set_option maxHeartbeats 4000000 in
theorem spoil_any (v : Value) (B n : Nat) (xs : List Value) (w : World) (h : w.ownsRow B 67 2 v n xs) (hn : n ≤ 64) (hB : B ≤ w.heap.size) :
    Calls Try.prog 38 #[v] w (SpoilOut w v n) := by
  have H := Lib.hid h
  obtain ⟨ao, cap, rfl⟩ := own_slice h
  have hn' : n ≤ 9223372036854775807 := by omega
  have h63 : n + 1 ≤ 4096 := by omega
  have H63 := Lib.hid h63
  clear h h63
  go_enter Try.func38, Try.ntmps38
  go_wp2_with fail
  go_loopw [3] (fun i wr => ∃ (k : Nat) (ys : List Value), i = .int .i64 (k : Int) ∧ k ≤ n ∧ wr.ownsRow B 67 2 (.slice ao n cap) n ys ∧ w.grownBy wr (Value.slice ao n cap).ownBlock) (fun i _ => n - (intOf i).toNat)
  case atStart => exact ⟨0, xs, rfl, Nat.zero_le _, H.out, grown_refl _ _⟩
  case round =>
    obtain ⟨k, ys, rfl, hk, hown, hg⟩ := hrel
    by_cases hlt : k < n
    · have hlt' : (k : Int) < (n : Int) := by omega
      obtain ⟨g, cap', he⟩ := ownsRow_open hown (by omega)
      simp only [Value.slice.injEq, true_and] at he
      obtain ⟨rfl, rfl⟩ := he
      obtain ⟨u1, c1⟩ := own_cell hown (j := k * 2) (by omega)
      obtain ⟨u2, c2⟩ := own_cell hown (j := k * 2 + 1) (by omega)
      have f1 : wr.frozen? ⟨g, k * 2, none⟩ = false := hown.frozenAt _
      have f2 : wr.frozen? ⟨g, k * 2 + 1, none⟩ = false := hown.frozenAt _
      obtain ⟨zs, hz⟩ := own_stored2 (j := k) hown (.string ⟨#[115, 112, 111, 105, 108, 116]⟩) (.string ⟨#[]⟩)
      have Hz := Lib.hid hz
      have Hg := Lib.hid (only_setCell (only_setCell hg (p := ⟨g, k * 2, none⟩) rfl (.string ⟨#[115, 112, 111, 105, 108, 116]⟩)) (p := ⟨g, k * 2 + 1, none⟩) rfl (.string ⟨#[]⟩))
      clear hown hg hz
      go_wp2_with fail
      go_roundw
      case rel => exact ⟨k + 1, zs, by go_num, by omega, Hz.out, Hg.out⟩
      case measure => simp [intOf]; omega
    · have hkn : k = n := by omega
      subst hkn
      have Hown := Lib.hid hown
      have Hg := Lib.hid hg
      have hBw : B ≤ wr.heap.size := Nat.le_trans hB hg.size
      clear hown hg hk hlt
      go_wp2_with (at_builtin; refine wpList_append_one rfl (.tmp 14) (.tmp 16) rfl B (.slice ao k cap) k ys (⟨#[109, 111, 114, 101]⟩, ⟨#[]⟩) rfl rfl Hown.out (k + 1) _ rfl rfl H63.out hBw ?_; intro u2 w2 o2 g2; obtain ⟨a2, c2, rfl⟩ := own_slice o2; have G2 := Lib.hid (grown_trans (grown_trans Hg.out (World.grownBy_alloc _ _ _)) g2); clear o2 g2)
      go_ret
      exact ⟨by simp, G2.out⟩
end Go.Proofs.Ytacgkbdldbppjaa

/- Kept: were the attributes kept, and the mark behind them? -/
namespace Go.Proofs.Ytacgkbdldbppjaa
open Go.RowKit At

theorem row_lent {w : World} {B g : Nat} {l : List (ByteArray × ByteArray)} (h : w.ownsRow B 67 2 (.slice (some ⟨g, 0, none⟩) (l.length + 1) (l.length + 1)) (l.length + 1) (flat (l ++ [mark]))) :
    AtRow w (.slice (some ⟨g, 0, none⟩) l.length (l.length + 1)) l := by
  have hlt := (h.lt g rfl).2
  have hm : l.length + 1 ≤ maxLen := by
    rcases h.2 with ⟨h0, _⟩ | ⟨g', cap, cur, h0, _, _, _, hm, _⟩
    · simp at h0
    · simp only [Value.slice.injEq] at h0
      omega
  refine ⟨_, l.length + 1, rfl, Nat.le_succ _, hm, fun i hi => ⟨g, 0, rfl, hlt, ?_, ?_⟩⟩
  · rw [Nat.zero_add, h.cellAt _ (by omega), flat_append, List.getElem?_append_left (by rw [flat_len]; omega), flat_at0 hi]
  · rw [Nat.zero_add, h.cellAt _ (by omega), flat_append, List.getElem?_append_left (by rw [flat_len]; omega), flat_at1 hi]
theorem mark_lent {w : World} {B g : Nat} {l : List (ByteArray × ByteArray)} (h : w.ownsRow B 67 2 (.slice (some ⟨g, 0, none⟩) (l.length + 1) (l.length + 1)) (l.length + 1) (flat (l ++ [mark]))) :
    w.cell? ⟨g, l.length * 2, none⟩ = some (.string ⟨#[109, 97, 114, 107]⟩) := by
  rw [h.cellAt _ (by omega), flat_append, List.getElem?_append_right (by rw [flat_len]; omega), flat_len, Nat.sub_self]
  rfl

def KeptOut (W : World) (g : Nat) (e : Ending) (w' : World) : Prop := e = .returned (.bool true) ∧ W.grownBy w' (some g)
set_option maxHeartbeats 4000000 in
theorem kept_any (v : Value) (B g : Nat) (l : List (ByteArray × ByteArray)) (w : World) (h : w.ownsRow B 67 2 (.slice (some ⟨g, 0, none⟩) (l.length + 1) (l.length + 1)) (l.length + 1) (flat (l ++ [mark]))) (hv : AtRow w v l) (hr : l.length ≤ 4398046511104) :
    Calls Try.prog 28 #[.slice (some ⟨g, 0, none⟩) l.length (l.length + 1), v] w (KeptOut w g) := by
  have H := Lib.hid h
  have hs : sameB l l = true := decide_eq_true rfl
  have Hs := Lib.hid (refSame_any _ v l l w (row_lent h) hv)
  rw [hs] at Hs
  have hmk := mark_lent h
  have hn' : l.length + 1 ≤ 9223372036854775807 := by omega
  clear h hv hs
  go_enter Try.func28, Try.ntmps28
  go_wp2_with fail
  refine Hs.out.mono ?_
  rintro e w1 ⟨rfl, m, rfl⟩
  go_wp2_with (refine wpList_sliced (.slice (some ⟨g, 0, none⟩) l.length (l.length + 1)) (.slice (some ⟨g, 0, none⟩) (l.length + 1) (l.length + 1)) rfl (slice_own _ _ _ _ (Nat.le_refl _) _) ?_)
  go_loopw [8] (fun i wr => ∃ (k : Nat) (ys : List Value), i = .int .i64 (k : Int) ∧ k ≤ l.length + 1 ∧ wr.ownsRow B 67 2 (.slice (some ⟨g, 0, none⟩) (l.length + 1) (l.length + 1)) (l.length + 1) ys ∧ w.grownBy wr (some g)) (fun i _ => l.length + 1 - (intOf i).toNat)
  case atStart => exact ⟨0, _, rfl, Nat.zero_le _, row_below H.out (below_drewN (Below.refl _ _) _), only_drewN (grown_refl _ _) _⟩
  case round =>
    obtain ⟨k, ys, rfl, hk, hown, hg⟩ := hrel
    by_cases hlt : k < l.length + 1
    · have hlt' : (k : Int) < (l.length : Int) + 1 := by omega
      obtain ⟨u1, c1⟩ := own_cell hown (j := k * 2) (by omega)
      obtain ⟨u2, c2⟩ := own_cell hown (j := k * 2 + 1) (by omega)
      have f1 : wr.frozen? ⟨g, k * 2, none⟩ = false := hown.frozenAt _
      have f2 : wr.frozen? ⟨g, k * 2 + 1, none⟩ = false := hown.frozenAt _
      obtain ⟨zs, hz⟩ := own_stored2 (j := k) hown (.string ⟨#[115, 112, 111, 105, 108, 116]⟩) (.string ⟨#[]⟩)
      have Hz := Lib.hid hz
      have Hg := Lib.hid (only_setCell (only_setCell hg (p := ⟨g, k * 2, none⟩) rfl (.string ⟨#[115, 112, 111, 105, 108, 116]⟩)) (p := ⟨g, k * 2 + 1, none⟩) rfl (.string ⟨#[]⟩))
      clear hown hg hz hmk
      go_wp2_with fail
      go_roundw
      case rel => exact ⟨k + 1, zs, by go_num, by omega, Hz.out, Hg.out⟩
      case measure => simp [intOf]; omega
    · have hkn : k = l.length + 1 := by omega
      subst hkn
      have Hg := Lib.hid hg
      have t1 : decide ((l.length : Int) + 1 < (l.length : Int) + 1) = false := decide_eq_false (by omega)
      clear hown hg hk hlt hmk
      go_wp2_with fail
      go_ret
      exact ⟨rfl, Hg.out⟩
end Go.Proofs.Ytacgkbdldbppjaa
