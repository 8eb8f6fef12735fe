/- Are two operations, two changesets the same: the program's alike and Same. -/
import Derived.Test.YthcpagpiphemgaaChRow
namespace Go.Proofs.Ythcpagpiphemgaa
open Go.RowKit Ch

instance : DecidableEq OpD := fun x y => decidable_of_iff (x.kind = y.kind ∧ x.n = y.n ∧ x.text = y.text ∧ x.attrs = y.attrs)
  ⟨fun ⟨h1, h2, h3, h4⟩ => by cases x; cases y; simp_all, fun h => by subst h; exact ⟨rfl, rfl, rfl, rfl⟩⟩
def alikeB (x y : OpD) : Bool := decide (x.kind = y.kind ∧ x.attrs = y.attrs)
def sameOp (x y : OpD) : Bool := decide (x = y)
def sameOps (l m : List OpD) : Bool := decide (l = m)
def sameCh (f g : Int) (l m : List OpD) : Bool := decide (f = g ∧ l = m)
theorem sameOps_len {l m : List OpD} (h : l.length ≠ m.length) : sameOps l m = false := decide_eq_false fun e => h (by rw [e])
theorem sameOps_at {l m : List OpD} {n : Nat} (h1 : n < l.length) (h2 : n < m.length) (h : l[n] ≠ m[n]) : sameOps l m = false := decide_eq_false fun e => by
  subst e; exact h rfl
theorem sameOps_all {l m : List OpD} (hl : l.length = m.length) (h : ∀ j (h1 : j < l.length) (h2 : j < m.length), l[j] = m[j]) : sameOps l m = true := decide_eq_true (List.ext_getElem hl h)
theorem alikeB_kind {x y : OpD} (h : x.kind ≠ y.kind) : alikeB x y = false := decide_eq_false fun e => h e.1
theorem alikeB_same {x y : OpD} (h : x.kind = y.kind) : alikeB x y = sameB x.attrs y.attrs := by
  unfold alikeB sameB
  by_cases ha : x.attrs = y.attrs
  · rw [decide_eq_true ha, decide_eq_true ⟨h, ha⟩]
  · rw [decide_eq_false ha, decide_eq_false fun e => ha e.2]

def OutB (w : World) (r : Bool) (e : Ending) (w' : World) : Prop := e = .returned (.bool r) ∧ Below w.heap.size w w'
theorem outB_mk {w w' : World} {r r' : Bool} (h : r = r') (hb : Below w.heap.size w w') : OutB w r (.returned (.bool r')) w' := ⟨by rw [h], hb⟩

set_option maxRecDepth 100000 in
set_option maxHeartbeats 2000000 in
theorem alike_any (x y : OpD) (xv yv : Value) (w : World) (hx : AtRow w xv x.attrs) (hy : AtRow w yv y.attrs) :
    Calls Try.prog 31 #[opAgg x xv, opAgg y yv] w (OutB w (alikeB x y)) := by
  have Hx := Lib.hid hx
  have Hy := Lib.hid hy
  obtain ⟨a, c, rfl⟩ := hx.shape
  obtain ⟨b, d, rfl⟩ := hy.shape
  obtain ⟨W, hW⟩ : ∃ W, W = (w.alloc (.cells #[.int .i64 x.kind, .int .i64 x.n, .string x.text, .slice a x.attrs.length c] 40)).alloc (.cells #[.int .i64 y.kind, .int .i64 y.n, .string y.text, .slice b y.attrs.length d] 40) := ⟨_, rfl⟩
  have BW := Lib.hid (show Below w.heap.size w W by rw [hW]; exact ((Below.refl _ _).alloc (Nat.le_refl _) _).alloc (by simp) _)
  have c0 : W.cell? ⟨w.heap.size, 0, none⟩ = some (.int .i64 x.kind) := by rw [hW]; go_simp
  have c3 : W.cell? ⟨w.heap.size, 3, none⟩ = some (.slice a x.attrs.length c) := by rw [hW]; go_simp
  have d0 : W.cell? ⟨w.heap.size + 1, 0, none⟩ = some (.int .i64 y.kind) := by rw [hW]; go_simp
  have d3 : W.cell? ⟨w.heap.size + 1, 3, none⟩ = some (.slice b y.attrs.length d) := by rw [hW]; go_simp
  have HW := Lib.hid hW
  clear hx hy hW
  by_cases hk : x.kind = y.kind
  · have k1 : (x.kind == y.kind) = true := by rw [beq_iff_eq]; exact hk
    have hR := Lib.hid (alikeB_same hk)
    clear hk
    go_enter Try.func31, Try.ntmps31
    go_wp2_with fail
    rw [← HW.out]
    go_wp2_with fail
    refine (same_any _ _ x.attrs y.attrs _ (Hx.out.below BW.out) (Hy.out.below BW.out)).mono ?_
    rintro e w1 ⟨rfl, k, rfl⟩
    go_wp2_with fail
    go_ret
    exact outB_mk hR.out (below_drewN BW.out _)
  · have k1 : (x.kind == y.kind) = false := by rw [beq_eq_false_iff_ne]; exact hk
    have hR := Lib.hid (alikeB_kind hk)
    clear hk
    go_enter Try.func31, Try.ntmps31
    go_wp2_with fail
    rw [← HW.out]
    go_wp2_with fail
    go_ret
    exact outB_mk hR.out (BW.out)

theorem beq_text {a b : ByteArray} : (a.toList == b.toList) = decide (a = b) := by
  by_cases h : a = b
  · rw [h]; simp
  · rw [decide_eq_false h, beq_eq_false_iff_ne]
    exact fun e => h (toList_ba e)

set_option maxRecDepth 100000 in
set_option maxHeartbeats 2000000 in
theorem same1_any (x y : OpD) (xv yv : Value) (w : World) (hx : AtRow w xv x.attrs) (hy : AtRow w yv y.attrs) :
    Calls Try.prog 30 #[opAgg x xv, opAgg y yv] w (OutB w (sameOp x y)) := by
  have Hx := Lib.hid hx
  have Hy := Lib.hid hy
  obtain ⟨a, c, rfl⟩ := hx.shape
  obtain ⟨b, d, rfl⟩ := hy.shape
  obtain ⟨W, hW⟩ : ∃ W, W = (w.alloc (.cells #[.int .i64 x.kind, .int .i64 x.n, .string x.text, .slice a x.attrs.length c] 40)).alloc (.cells #[.int .i64 y.kind, .int .i64 y.n, .string y.text, .slice b y.attrs.length d] 40) := ⟨_, rfl⟩
  have BW := Lib.hid (show Below w.heap.size w W by rw [hW]; exact ((Below.refl _ _).alloc (Nat.le_refl _) _).alloc (by simp) _)
  have c0 : W.cell? ⟨w.heap.size, 0, none⟩ = some (.int .i64 x.kind) := by rw [hW]; go_simp
  have c1 : W.cell? ⟨w.heap.size, 1, none⟩ = some (.int .i64 x.n) := by rw [hW]; go_simp
  have c2 : W.cell? ⟨w.heap.size, 2, none⟩ = some (.string x.text) := by rw [hW]; go_simp
  have c3 : W.cell? ⟨w.heap.size, 3, none⟩ = some (.slice a x.attrs.length c) := by rw [hW]; go_simp
  have d0 : W.cell? ⟨w.heap.size + 1, 0, none⟩ = some (.int .i64 y.kind) := by rw [hW]; go_simp
  have d1 : W.cell? ⟨w.heap.size + 1, 1, none⟩ = some (.int .i64 y.n) := by rw [hW]; go_simp
  have d2 : W.cell? ⟨w.heap.size + 1, 2, none⟩ = some (.string y.text) := by rw [hW]; go_simp
  have d3 : W.cell? ⟨w.heap.size + 1, 3, none⟩ = some (.slice b y.attrs.length d) := by rw [hW]; go_simp
  have hs : w.heap.size + 1 < W.heap.size := by rw [hW]; simp
  have hs' : w.heap.size < W.heap.size := by omega
  have HW := Lib.hid hW
  have HC := Lib.hid (alike_any x y _ _ W (hx.below BW.out) (hy.below BW.out))
  clear hx hy hW
  cases hal : alikeB x y with
  | false =>
    rw [hal] at HC
    have hR := Lib.hid (show sameOp x y = false from decide_eq_false fun e => by rw [e] at hal; simp [alikeB] at hal)
    clear hal
    go_enter Try.func30, Try.ntmps30
    go_wp2_with fail
    rw [← HW.out]
    go_wp2_with fail
    refine HC.out.mono ?_
    rintro e w1 ⟨rfl, hb⟩
    go_wp2_with fail
    go_ret
    exact outB_mk hR.out (BW.out.trans (hb.mono BW.out.size))
  | true =>
    rw [hal] at HC
    have hal2 := of_decide_eq_true hal
    by_cases hn : x.n = y.n
    · have n1 : (x.n == y.n) = true := by rw [beq_iff_eq]; exact hn
      by_cases ht : x.text = y.text
      · have t1 : (x.text.toList == y.text.toList) = true := by rw [ht]; simp
        have hR := Lib.hid (show sameOp x y = true from decide_eq_true (by cases x; cases y; simp_all))
        clear hal hal2 hn ht
        go_enter Try.func30, Try.ntmps30
        go_wp2_with fail
        rw [← HW.out]
        go_wp2_with fail
        refine HC.out.mono ?_
        rintro e w1 ⟨rfl, hb⟩
        have c1' := (hb.cell (p := ⟨w.heap.size, 1, none⟩) (by exact hs')).trans c1
        have c2' := (hb.cell (p := ⟨w.heap.size, 2, none⟩) (by exact hs')).trans c2
        have d1' := (hb.cell (p := ⟨w.heap.size + 1, 1, none⟩) (by exact hs)).trans d1
        have d2' := (hb.cell (p := ⟨w.heap.size + 1, 2, none⟩) (by exact hs)).trans d2
        have B1 := Lib.hid (BW.out.trans (hb.mono BW.out.size))
        clear hb
        go_wp2_with fail
        go_ret
        exact outB_mk hR.out (B1.out)
      · have t1 : (x.text.toList == y.text.toList) = false := by rw [beq_text]; exact decide_eq_false ht
        have hR := Lib.hid (show sameOp x y = false from decide_eq_false fun e => ht (by rw [e]))
        clear hal hal2 hn ht
        go_enter Try.func30, Try.ntmps30
        go_wp2_with fail
        rw [← HW.out]
        go_wp2_with fail
        refine HC.out.mono ?_
        rintro e w1 ⟨rfl, hb⟩
        have c1' := (hb.cell (p := ⟨w.heap.size, 1, none⟩) (by exact hs')).trans c1
        have c2' := (hb.cell (p := ⟨w.heap.size, 2, none⟩) (by exact hs')).trans c2
        have d1' := (hb.cell (p := ⟨w.heap.size + 1, 1, none⟩) (by exact hs)).trans d1
        have d2' := (hb.cell (p := ⟨w.heap.size + 1, 2, none⟩) (by exact hs)).trans d2
        have B1 := Lib.hid (BW.out.trans (hb.mono BW.out.size))
        clear hb
        go_wp2_with fail
        go_ret
        exact outB_mk hR.out (B1.out)
    · have n1 : (x.n == y.n) = false := by rw [beq_eq_false_iff_ne]; exact hn
      have hR := Lib.hid (show sameOp x y = false from decide_eq_false fun e => hn (by rw [e]))
      clear hal hal2 hn
      go_enter Try.func30, Try.ntmps30
      go_wp2_with fail
      rw [← HW.out]
      go_wp2_with fail
      refine HC.out.mono ?_
      rintro e w1 ⟨rfl, hb⟩
      have c1' := (hb.cell (p := ⟨w.heap.size, 1, none⟩) (by exact hs')).trans c1
      have d1' := (hb.cell (p := ⟨w.heap.size + 1, 1, none⟩) (by exact hs)).trans d1
      have B1 := Lib.hid (BW.out.trans (hb.mono BW.out.size))
      clear hb
      go_wp2_with fail
      go_ret
      exact outB_mk hR.out (B1.out)

set_option maxRecDepth 100000 in
set_option maxHeartbeats 4000000 in
theorem eqFunc_any (v u : Value) (l m : List OpD) (w : World) (hv : OpRow w v l) (hu : OpRow w u m) :
    Calls Try.prog 29 #[v, u, .func (.func 30) #[] #[]] w (OutB w (sameOps l m)) := by
  obtain ⟨a, cap, rfl, h1, h2, h3⟩ := hv
  obtain ⟨a', cap', rfl, h1', h2', h3'⟩ := hu
  have hn : l.length ≤ 9223372036854775807 := Nat.le_trans h1 h2
  have hn' : m.length ≤ 9223372036854775807 := Nat.le_trans h1' h2'
  have H3 := Lib.hid h3
  have H3' := Lib.hid h3'
  clear h1 h2 h3 h1' h2' h3'
  by_cases hlen : l.length = m.length
  · have Hlen := Lib.hid hlen
    have hle2 : ((l.length : Int) == (m.length : Int)) = true := by rw [hlen]; simp
    have hle3 : ((l.length : Int) != (m.length : Int)) = false := by rw [hlen]; simp
    clear hlen
    go_enter Try.func29, Try.ntmps29
    go_wp2_with fail
    go_loopw [17] (fun i wr => ∃ n : Nat, i = .int .i64 (n : Int) ∧ n ≤ l.length ∧ (∀ j (h1 : j < l.length) (h2 : j < m.length), j < n → l[j] = m[j]) ∧ Below w.heap.size w wr) (fun i _ => l.length - (intOf i).toNat)
    case atStart => exact ⟨0, rfl, by omega, fun j _ _ h => by omega, Below.refl _ _⟩
    case round =>
      obtain ⟨n, rfl, hk, hall, hb⟩ := hrel
      have Hall := Lib.hid hall
      have HB := Lib.hid hb
      clear hall
      by_cases hlt : n < l.length
      · have hlt2 : n < m.length := by have := Hlen.out; omega
        have hlt' : (n : Int) < (l.length : Int) := by omega
        have hlt2' : (n : Int) < (m.length : Int) := by omega
        obtain ⟨b, off, rfl, hbl, xv, r0, _, x0, x1, x2, x3⟩ := H3.out n hlt
        obtain ⟨b', off', rfl, hbl', yv, q0, _, y0, y1, y2, y3⟩ := H3'.out n hlt2
        have step : l[n] = m[n] → ∀ j (h1 : j < l.length) (h2 : j < m.length), j < n + 1 → l[j] = m[j] := fun hh j hj1 hj2 hjk => by
          by_cases e : j = n
          · subst e; exact hh
          · exact Hall.out j hj1 hj2 (by omega)
        have Step := Lib.hid step
        have Bad := Lib.hid (sameOps_at hlt hlt2)
        have hab : sameOp l[n] m[n] = decide (l[n] = m[n]) := rfl
        obtain ⟨x, hx⟩ : ∃ x, x = l[n] := ⟨_, rfl⟩
        obtain ⟨y, hy⟩ : ∃ y, y = m[n] := ⟨_, rfl⟩
        rw [← hx] at r0 x0 x1 x2 Step Bad hab
        rw [← hy] at q0 y0 y1 y2 Step Bad hab
        obtain ⟨ar, cr, rfl⟩ := r0.shape
        obtain ⟨at2, cs, rfl⟩ := q0.shape
        have x0' := (hb.cell (p := ⟨b, off + n * 4, none⟩) (by exact hbl)).trans x0
        have x1' := (hb.cell (p := ⟨b, off + n * 4 + 1, none⟩) (by exact hbl)).trans x1
        have x2' := (hb.cell (p := ⟨b, off + n * 4 + 2, none⟩) (by exact hbl)).trans x2
        have x3' := (hb.cell (p := ⟨b, off + n * 4 + 3, none⟩) (by exact hbl)).trans x3
        have y0' := (hb.cell (p := ⟨b', off' + n * 4, none⟩) (by exact hbl')).trans y0
        have y1' := (hb.cell (p := ⟨b', off' + n * 4 + 1, none⟩) (by exact hbl')).trans y1
        have y2' := (hb.cell (p := ⟨b', off' + n * 4 + 2, none⟩) (by exact hbl')).trans y2
        have y3' := (hb.cell (p := ⟨b', off' + n * 4 + 3, none⟩) (by exact hbl')).trans y3
        have g1 := Nat.lt_of_lt_of_le hbl' hb.size
        have hs0 := hb.size
        obtain ⟨X, hX⟩ : ∃ X, X = (wr.alloc (.cells #[.int .i64 x.kind, .int .i64 x.n, .string x.text, .slice ar x.attrs.length cr] 40)).alloc (.cells #[.int .i64 y.kind, .int .i64 y.n, .string y.text, .slice at2 y.attrs.length cs] 40) := ⟨_, rfl⟩
        have BX := Lib.hid (show Below w.heap.size w X by rw [hX]; exact (hb.alloc hs0 _).alloc (by simp; omega) _)
        have e0 : X.cell? ⟨wr.heap.size, 0, none⟩ = some (.int .i64 x.kind) := by rw [hX]; go_simp
        have e1 : X.cell? ⟨wr.heap.size, 1, none⟩ = some (.int .i64 x.n) := by rw [hX]; go_simp
        have e2 : X.cell? ⟨wr.heap.size, 2, none⟩ = some (.string x.text) := by rw [hX]; go_simp
        have e3 : X.cell? ⟨wr.heap.size, 3, none⟩ = some (.slice ar x.attrs.length cr) := by rw [hX]; go_simp
        have f0 : X.cell? ⟨wr.heap.size + 1, 0, none⟩ = some (.int .i64 y.kind) := by rw [hX]; go_simp
        have f1 : X.cell? ⟨wr.heap.size + 1, 1, none⟩ = some (.int .i64 y.n) := by rw [hX]; go_simp
        have f2 : X.cell? ⟨wr.heap.size + 1, 2, none⟩ = some (.string y.text) := by rw [hX]; go_simp
        have f3 : X.cell? ⟨wr.heap.size + 1, 3, none⟩ = some (.slice at2 y.attrs.length cs) := by rw [hX]; go_simp
        have HX := Lib.hid hX
        have HC := Lib.hid (same1_any x y _ _ X (r0.below BX.out) (q0.below BX.out))
        clear hx hy r0 q0 x0 x1 x2 x3 y0 y1 y2 y3 hb hX step Hall
        by_cases hxy : x = y
        · rw [decide_eq_true hxy] at hab
          rw [hab] at HC
          have S := Lib.hid (Step.out hxy)
          clear hab hxy Step Bad
          go_wp2_with fail
          rw [← HX.out]
          go_wp2_with fail
          refine HC.out.mono ?_
          rintro e w2 ⟨rfl, b2⟩
          have B2 := Lib.hid (BX.out.trans (b2.mono BX.out.size))
          clear b2
          go_wp2_with fail
          go_roundw
          case rel => exact ⟨n + 1, by go_num, by omega, S.out, B2.out⟩
          case measure => simp [intOf]; omega
        · rw [decide_eq_false hxy] at hab
          rw [hab] at HC
          have S := Lib.hid (Bad.out hxy)
          clear hab hxy Step Bad
          go_wp2_with fail
          rw [← HX.out]
          go_wp2_with fail
          refine HC.out.mono ?_
          rintro e w2 ⟨rfl, b2⟩
          have B2 := Lib.hid (BX.out.trans (b2.mono BX.out.size))
          clear b2
          go_wp2_with fail
          go_ret
          exact outB_mk S.out (B2.out)
      · have hkn : n = l.length := by omega
        have hs := Lib.hid (sameOps_all Hlen.out fun j h1 h2 => Hall.out j h1 h2 (by omega))
        subst hkn
        clear Hall hb
        go_wp2_with fail
        go_ret
        exact outB_mk hs.out (HB.out)
  · have hs := Lib.hid (sameOps_len hlen)
    have hle2 : ((l.length : Int) == (m.length : Int)) = false := by rw [beq_eq_false_iff_ne]; omega
    have hle3 : ((l.length : Int) != (m.length : Int)) = true := by rw [bne_iff_ne]; omega
    clear hlen
    go_enter Try.func29, Try.ntmps29
    go_wp2_with fail
    go_ret
    exact outB_mk hs.out (Below.refl _ _)

set_option maxRecDepth 100000 in
set_option maxHeartbeats 2000000 in
theorem changeSame_any (f g : Int) (v u : Value) (l m : List OpD) (w : World) (hv : OpRow w v l) (hu : OpRow w u m) :
    Calls Try.prog 14 #[chAgg f v, chAgg g u] w (OutB w (sameCh f g l m)) := by
  have Hv := Lib.hid hv
  have Hu := Lib.hid hu
  obtain ⟨a, c, rfl⟩ := hv.shape
  obtain ⟨b, d, rfl⟩ := hu.shape
  obtain ⟨W, hW⟩ : ∃ W, W = (w.alloc (.cells #[.int .i64 f, .slice a l.length c] 24)).alloc (.cells #[.int .i64 g, .slice b m.length d] 24) := ⟨_, rfl⟩
  have BW := Lib.hid (show Below w.heap.size w W by rw [hW]; exact ((Below.refl _ _).alloc (Nat.le_refl _) _).alloc (by simp) _)
  have c0 : W.cell? ⟨w.heap.size, 0, none⟩ = some (.int .i64 f) := by rw [hW]; go_simp
  have c1 : W.cell? ⟨w.heap.size, 1, none⟩ = some (.slice a l.length c) := by rw [hW]; go_simp
  have d0 : W.cell? ⟨w.heap.size + 1, 0, none⟩ = some (.int .i64 g) := by rw [hW]; go_simp
  have d1 : W.cell? ⟨w.heap.size + 1, 1, none⟩ = some (.slice b m.length d) := by rw [hW]; go_simp
  have HW := Lib.hid hW
  have HC := Lib.hid (eqFunc_any _ _ l m W (hv.below BW.out) (hu.below BW.out))
  clear hv hu hW
  by_cases hf : f = g
  · have k1 : (f == g) = true := by rw [beq_iff_eq]; exact hf
    have hR := Lib.hid (show sameCh f g l m = sameOps l m by unfold sameCh sameOps; simp [hf])
    clear hf
    go_enter Try.func14, Try.ntmps14
    go_wp2_with fail
    rw [← HW.out]
    go_wp2_with fail
    refine HC.out.mono ?_
    rintro e w1 ⟨rfl, hb⟩
    go_wp2_with fail
    go_ret
    exact outB_mk hR.out (BW.out.trans (hb.mono BW.out.size))
  · have k1 : (f == g) = false := by rw [beq_eq_false_iff_ne]; exact hf
    have hR := Lib.hid (show sameCh f g l m = false from decide_eq_false fun e => hf e.1)
    clear hf
    go_enter Try.func14, Try.ntmps14
    go_wp2_with fail
    rw [← HW.out]
    go_wp2_with fail
    go_ret
    exact outB_mk hR.out (BW.out)
end Go.Proofs.Ythcpagpiphemgaa
