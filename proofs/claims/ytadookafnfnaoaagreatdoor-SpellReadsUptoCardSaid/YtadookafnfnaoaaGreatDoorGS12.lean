import Derived.Test.YtadookafnfnaoaaGreatDoorGS4
import Derived.Test.YtadookafnfnaoaaGreatDoorGS9
import Derived.Test.YtadookafnfnaoaaGreatDoorGS10
import Derived.Defers
import Derived.Recover
/- Are two changesets the same: the program's Same. -/
namespace Go.Proofs.YtadookafnfnaoaaGreatDoor
open Go.RowKit Ch

set_option maxRecDepth 100000 in
set_option maxHeartbeats 2000000 in
theorem same1_any (x y : OpD) (xv yv : Value) (w : World) (hx : AtRow w xv x.attrs) (hy : AtRow w yv y.attrs) :
    Calls Tryz.prog 77 #[opAgg x xv, opAgg y yv] w (OutB w (sameOp x y)) := by
  have Hx := Lib.hid hx
  have Hy := Lib.hid hy
  obtain ⟨a, c, rfl⟩ := hx.shape
  obtain ⟨b, d, rfl⟩ := hy.shape
  obtain ⟨W, hW⟩ : ∃ W, W = (w.alloc (.cells #[.int .i64 x.kind, .int .i64 x.n, .string x.text, .slice a x.attrs.length c] 48)).alloc (.cells #[.int .i64 y.kind, .int .i64 y.n, .string y.text, .slice b y.attrs.length d] 48) := ⟨_, rfl⟩
  have BW := Lib.hid (show Below w.heap.size w W by rw [hW]; exact ((Below.refl _ _).alloc (Nat.le_refl _) _).alloc (by simp) _)
  have c0 : W.cell? ⟨w.heap.size, 0, none⟩ = some (.int .i64 x.kind) := by rw [hW]; go_simp
  have c1 : W.cell? ⟨w.heap.size, 1, none⟩ = some (.int .i64 x.n) := by rw [hW]; go_simp
  have c2 : W.cell? ⟨w.heap.size, 2, none⟩ = some (.string x.text) := by rw [hW]; go_simp
  have c3 : W.cell? ⟨w.heap.size, 3, none⟩ = some (.slice a x.attrs.length c) := by rw [hW]; go_simp
  have d0 : W.cell? ⟨w.heap.size + 1, 0, none⟩ = some (.int .i64 y.kind) := by rw [hW]; go_simp
  have d1 : W.cell? ⟨w.heap.size + 1, 1, none⟩ = some (.int .i64 y.n) := by rw [hW]; go_simp
  have d2 : W.cell? ⟨w.heap.size + 1, 2, none⟩ = some (.string y.text) := by rw [hW]; go_simp
  have d3 : W.cell? ⟨w.heap.size + 1, 3, none⟩ = some (.slice b y.attrs.length d) := by rw [hW]; go_simp
  have hs : w.heap.size + 1 < W.heap.size := by rw [hW]; simp
  have hs' : w.heap.size < W.heap.size := by omega
  have HW := Lib.hid hW
  have Hx := Lib.hid (hx.below BW.out)
  have Hy := Lib.hid (hy.below BW.out)
  clear hx hy hW
  by_cases hk : x.kind = y.kind
  · have t0 : (x.kind == y.kind) = true := by rw [beq_iff_eq]; exact hk
    by_cases hn : x.n = y.n
    · have t1 : (x.n == y.n) = true := by rw [beq_iff_eq]; exact hn
      by_cases ht : x.text = y.text
      · have t2 : (x.text.toList == y.text.toList) = true := by rw [ht]; simp
        have hR := Lib.hid (show sameOp x y = sameB x.attrs y.attrs by unfold sameOp sameB; exact decide_eq_decide.2 ⟨fun e => by rw [e], fun e => by cases x; cases y; simp_all⟩)
        clear hk hn ht
        go_enter Tryz.func77, Tryz.ntmps77
        go_wp2_with fail
        rw [← HW.out]
        go_wp2_with fail
        refine (same_any _ _ x.attrs y.attrs _ Hx.out Hy.out).mono ?_
        rintro e w1 ⟨rfl, k, rfl⟩
        go_wp2_with fail
        go_ret
        exact outB_mk hR.out (below_drewN BW.out _)
      · have t2 : (x.text.toList == y.text.toList) = false := by rw [beq_text]; exact decide_eq_false ht
        have hR := Lib.hid (show sameOp x y = false from decide_eq_false fun e => ht (by rw [e]))
        clear hk hn ht
        go_enter Tryz.func77, Tryz.ntmps77
        go_wp2_with fail
        rw [← HW.out]
        go_wp2_with fail
        go_ret
        exact outB_mk hR.out BW.out
    · have t1 : (x.n == y.n) = false := by rw [beq_eq_false_iff_ne]; exact hn
      have hR := Lib.hid (show sameOp x y = false from decide_eq_false fun e => hn (by rw [e]))
      clear hk hn
      go_enter Tryz.func77, Tryz.ntmps77
      go_wp2_with fail
      rw [← HW.out]
      go_wp2_with fail
      go_ret
      exact outB_mk hR.out BW.out
  · have t0 : (x.kind == y.kind) = false := by rw [beq_eq_false_iff_ne]; exact hk
    have hR := Lib.hid (show sameOp x y = false from decide_eq_false fun e => hk (by rw [e]))
    clear hk
    go_enter Tryz.func77, Tryz.ntmps77
    go_wp2_with fail
    rw [← HW.out]
    go_wp2_with fail
    go_ret
    exact outB_mk hR.out BW.out

set_option maxRecDepth 100000 in
set_option maxHeartbeats 4000000 in
theorem eqFunc_any (v u : Value) (l m : List OpD) (w : World) (hv : OpRow w v l) (hu : OpRow w u m) :
    Calls Tryz.prog 76 #[v, u, .func (.func 77) #[] #[]] w (OutB w (sameOps l m)) := by
  obtain ⟨a, cap, rfl, h1, h2, h3⟩ := hv
  obtain ⟨a', cap', rfl, h1', h2', h3'⟩ := hu
  have hn : l.length ≤ 9223372036854775807 := Nat.le_trans h1 h2
  have hn' : m.length ≤ 9223372036854775807 := Nat.le_trans h1' h2'
  have H3 := Lib.hid h3
  have H3' := Lib.hid h3'
  clear h1 h2 h3 h1' h2' h3'
  by_cases hlen : l.length = m.length
  · have Hlen := Lib.hid hlen
    have hle2 : ((l.length : Int) == (m.length : Int)) = true := by rw [hlen]; simp
    have hle3 : ((l.length : Int) != (m.length : Int)) = false := by rw [hlen]; simp
    clear hlen
    go_enter Tryz.func76, Tryz.ntmps76
    go_wp2_with fail
    go_loopw [17] (fun i wr => ∃ n : Nat, i = .int .i64 (n : Int) ∧ n ≤ l.length ∧ (∀ j (h1 : j < l.length) (h2 : j < m.length), j < n → l[j] = m[j]) ∧ Below w.heap.size w wr) (fun i _ => l.length - (intOf i).toNat)
    case atStart => exact ⟨0, rfl, by omega, fun j _ _ h => by omega, Below.refl _ _⟩
    case round =>
      obtain ⟨n, rfl, hk, hall, hb⟩ := hrel
      have Hall := Lib.hid hall
      have HB := Lib.hid hb
      clear hall
      by_cases hlt : n < l.length
      · have hlt2 : n < m.length := by have := Hlen.out; omega
        have hlt' : (n : Int) < (l.length : Int) := by omega
        have hlt2' : (n : Int) < (m.length : Int) := by omega
        obtain ⟨b, off, rfl, hbl, xv, r0, _, x0, x1, x2, x3⟩ := H3.out n hlt
        obtain ⟨b', off', rfl, hbl', yv, q0, _, y0, y1, y2, y3⟩ := H3'.out n hlt2
        have step : l[n] = m[n] → ∀ j (h1 : j < l.length) (h2 : j < m.length), j < n + 1 → l[j] = m[j] := fun hh j hj1 hj2 hjk => by
          by_cases e : j = n
          · subst e; exact hh
          · exact Hall.out j hj1 hj2 (by omega)
        have Step := Lib.hid step
        have Bad := Lib.hid (sameOps_at hlt hlt2)
        have hab : sameOp l[n] m[n] = decide (l[n] = m[n]) := rfl
        obtain ⟨x, hx⟩ : ∃ x, x = l[n] := ⟨_, rfl⟩
        obtain ⟨y, hy⟩ : ∃ y, y = m[n] := ⟨_, rfl⟩
        rw [← hx] at r0 x0 x1 x2 Step Bad hab
        rw [← hy] at q0 y0 y1 y2 Step Bad hab
        obtain ⟨ar, cr, rfl⟩ := r0.shape
        obtain ⟨at2, cs, rfl⟩ := q0.shape
        have x0' := (hb.cell (p := ⟨b, off + n * 4, none⟩) (by exact hbl)).trans x0
        have x1' := (hb.cell (p := ⟨b, off + n * 4 + 1, none⟩) (by exact hbl)).trans x1
        have x2' := (hb.cell (p := ⟨b, off + n * 4 + 2, none⟩) (by exact hbl)).trans x2
        have x3' := (hb.cell (p := ⟨b, off + n * 4 + 3, none⟩) (by exact hbl)).trans x3
        have y0' := (hb.cell (p := ⟨b', off' + n * 4, none⟩) (by exact hbl')).trans y0
        have y1' := (hb.cell (p := ⟨b', off' + n * 4 + 1, none⟩) (by exact hbl')).trans y1
        have y2' := (hb.cell (p := ⟨b', off' + n * 4 + 2, none⟩) (by exact hbl')).trans y2
        have y3' := (hb.cell (p := ⟨b', off' + n * 4 + 3, none⟩) (by exact hbl')).trans y3
        have g1 := Nat.lt_of_lt_of_le hbl' hb.size
        have hs0 := hb.size
        obtain ⟨X, hX⟩ : ∃ X, X = (wr.alloc (.cells #[.int .i64 x.kind, .int .i64 x.n, .string x.text, .slice ar x.attrs.length cr] 48)).alloc (.cells #[.int .i64 y.kind, .int .i64 y.n, .string y.text, .slice at2 y.attrs.length cs] 48) := ⟨_, rfl⟩
        have BX := Lib.hid (show Below w.heap.size w X by rw [hX]; exact (hb.alloc hs0 _).alloc (by simp; omega) _)
        have e0 : X.cell? ⟨wr.heap.size, 0, none⟩ = some (.int .i64 x.kind) := by rw [hX]; go_simp
        have e1 : X.cell? ⟨wr.heap.size, 1, none⟩ = some (.int .i64 x.n) := by rw [hX]; go_simp
        have e2 : X.cell? ⟨wr.heap.size, 2, none⟩ = some (.string x.text) := by rw [hX]; go_simp
        have e3 : X.cell? ⟨wr.heap.size, 3, none⟩ = some (.slice ar x.attrs.length cr) := by rw [hX]; go_simp
        have f0 : X.cell? ⟨wr.heap.size + 1, 0, none⟩ = some (.int .i64 y.kind) := by rw [hX]; go_simp
        have f1 : X.cell? ⟨wr.heap.size + 1, 1, none⟩ = some (.int .i64 y.n) := by rw [hX]; go_simp
        have f2 : X.cell? ⟨wr.heap.size + 1, 2, none⟩ = some (.string y.text) := by rw [hX]; go_simp
        have f3 : X.cell? ⟨wr.heap.size + 1, 3, none⟩ = some (.slice at2 y.attrs.length cs) := by rw [hX]; go_simp
        have HX := Lib.hid hX
        have HC := Lib.hid (same1_any x y _ _ X (r0.below BX.out) (q0.below BX.out))
        clear hx hy r0 q0 x0 x1 x2 x3 y0 y1 y2 y3 hb hX step Hall
        by_cases hxy : x = y
        · rw [decide_eq_true hxy] at hab
          rw [hab] at HC
          have S := Lib.hid (Step.out hxy)
          clear hab hxy Step Bad
          go_wp2_with fail
          rw [← HX.out]
          go_wp2_with fail
          refine HC.out.mono ?_
          rintro e w2 ⟨rfl, b2⟩
          have B2 := Lib.hid (BX.out.trans (b2.mono BX.out.size))
          clear b2
          go_wp2_with fail
          go_roundw
          case rel => exact ⟨n + 1, by go_num, by omega, S.out, B2.out⟩
          case measure => simp [intOf]; omega
        · rw [decide_eq_false hxy] at hab
          rw [hab] at HC
          have S := Lib.hid (Bad.out hxy)
          clear hab hxy Step Bad
          go_wp2_with fail
          rw [← HX.out]
          go_wp2_with fail
          refine HC.out.mono ?_
          rintro e w2 ⟨rfl, b2⟩
          have B2 := Lib.hid (BX.out.trans (b2.mono BX.out.size))
          clear b2
          go_wp2_with fail
          go_ret
          exact outB_mk S.out (B2.out)
      · have hkn : n = l.length := by omega
        have hs := Lib.hid (sameOps_all Hlen.out fun j h1 h2 => Hall.out j h1 h2 (by omega))
        subst hkn
        clear Hall hb
        go_wp2_with fail
        go_ret
        exact outB_mk hs.out (HB.out)
  · have hs := Lib.hid (sameOps_len hlen)
    have hle2 : ((l.length : Int) == (m.length : Int)) = false := by rw [beq_eq_false_iff_ne]; omega
    have hle3 : ((l.length : Int) != (m.length : Int)) = true := by rw [bne_iff_ne]; omega
    clear hlen
    go_enter Tryz.func76, Tryz.ntmps76
    go_wp2_with fail
    go_ret
    exact outB_mk hs.out (Below.refl _ _)

set_option maxRecDepth 100000 in
set_option maxHeartbeats 2000000 in
theorem changeSame_any (f g : Int) (v u : Value) (l m : List OpD) (w : World) (hv : OpRow w v l) (hu : OpRow w u m) :
    Calls Tryz.prog 48 #[chAgg f v, chAgg g u] w (OutB w (sameCh f g l m)) := by
  have Hv := Lib.hid hv
  have Hu := Lib.hid hu
  obtain ⟨a, c, rfl⟩ := hv.shape
  obtain ⟨b, d, rfl⟩ := hu.shape
  obtain ⟨W, hW⟩ : ∃ W, W = (w.alloc (.cells #[.int .i64 f, .slice a l.length c] 24)).alloc (.cells #[.int .i64 g, .slice b m.length d] 24) := ⟨_, rfl⟩
  have BW := Lib.hid (show Below w.heap.size w W by rw [hW]; exact ((Below.refl _ _).alloc (Nat.le_refl _) _).alloc (by simp) _)
  have c0 : W.cell? ⟨w.heap.size, 0, none⟩ = some (.int .i64 f) := by rw [hW]; go_simp
  have c1 : W.cell? ⟨w.heap.size, 1, none⟩ = some (.slice a l.length c) := by rw [hW]; go_simp
  have d0 : W.cell? ⟨w.heap.size + 1, 0, none⟩ = some (.int .i64 g) := by rw [hW]; go_simp
  have d1 : W.cell? ⟨w.heap.size + 1, 1, none⟩ = some (.slice b m.length d) := by rw [hW]; go_simp
  have HW := Lib.hid hW
  have HC := Lib.hid (eqFunc_any _ _ l m W (hv.below BW.out) (hu.below BW.out))
  clear hv hu hW
  by_cases hf : f = g
  · have k1 : (f == g) = true := by rw [beq_iff_eq]; exact hf
    have hR := Lib.hid (show sameCh f g l m = sameOps l m by unfold sameCh sameOps; simp [hf])
    clear hf
    go_enter Tryz.func48, Tryz.ntmps48
    go_wp2_with fail
    rw [← HW.out]
    go_wp2_with fail
    refine HC.out.mono ?_
    rintro e w1 ⟨rfl, hb⟩
    go_wp2_with fail
    go_ret
    exact outB_mk hR.out (BW.out.trans (hb.mono BW.out.size))
  · have k1 : (f == g) = false := by rw [beq_eq_false_iff_ne]; exact hf
    have hR := Lib.hid (show sameCh f g l m = false from decide_eq_false fun e => hf e.1)
    clear hf
    go_enter Tryz.func48, Tryz.ntmps48
    go_wp2_with fail
    rw [← HW.out]
    go_wp2_with fail
    go_ret
    exact outB_mk hR.out (BW.out)
end Go.Proofs.YtadookafnfnaoaaGreatDoor
/- caught: the edge up to which a reader throws. -/
namespace Go.Proofs.YtadookafnfnaoaaGreatDoor
open Go.RowKit Ch

abbrev zeroF : Obj := .cells #[.int .i64 0, .int .i64 0] 34
abbrev put2 (w : World) (g : Nat) (x0 x1 : Value) : World := (w.setCell ⟨g, 0, none⟩ x0).setCell ⟨g, 1, none⟩ x1

set_option maxRecDepth 10000 in
theorem catch_thrown (g k : Nat) (older : List PanicEntry) (w : World) (h : w.heap[g]? = some zeroF) :
    CallsD Tryz.prog 66 #[.pointer (some ⟨g, 0, none⟩)] (.panicking ({ v := .iface 106 (.int .i64 k), recovered := false } :: older)) w fun e u' w' =>
      e = .returned (.tuple #[]) ∧ u' = .panicking ({ v := .iface 106 (.int .i64 k), recovered := true } :: older) ∧ w' = put2 w g (.int .i64 40) (.int .i64 k) := by
  have c0 : w.cell? ⟨g, 0, none⟩ = some (.int .i64 0) := (Lib.cell_of_heap h 0).trans rfl
  have c1 : w.cell? ⟨g, 1, none⟩ = some (.int .i64 0) := (Lib.cell_of_heap h 1).trans rfl
  have g0 := Joins.unfrozen_of_block h 0
  have g1 := Joins.unfrozen_of_block h 1
  refine callsD_of_wpS Tryz.func66 rfl fun c₀ cs hu => ?_
  apply wpS_seq
  apply wpS_region
  simp [wpOpsS, go_sem, recoverD, hu, Tryz.ntmps66, Exit.thenS]
  refine wpS_of_wp ?_
  rw [show (#[Value.pointer (some ⟨g, 0, none⟩)] ++ (Array.replicate 11 undef).setIfInBounds 3 (Value.iface 106 (Value.int IntKind.i64 k)) : Array Value) = #[Value.pointer (some ⟨g, 0, none⟩), undef, undef, undef, Value.iface 106 (Value.int IntKind.i64 k), undef, undef, undef, undef, undef, undef, undef] from rfl]
  have hta : ∀ (k : Int) (w : World), (Instr.typeAssert (.iface 106 (.int .i64 k)) 20 106 true).run Tryz.prog w = .ok (.tuple #[.int .i64 k, .bool true]) w := fun _ _ => by kernel_rfl
  clear h
  go_wp2
  exact ⟨rfl, _, rfl, .tuple #[], by simp [results, Tryz.results66], rfl, rfl, rfl⟩
set_option maxRecDepth 10000 in
theorem catch_idle (g : Nat) (w : World) :
    CallsD Tryz.prog 66 #[.pointer (some ⟨g, 0, none⟩)] .returning w fun e u' w' => e = .returned (.tuple #[]) ∧ u' = .returning ∧ w' = w := by
  refine callsD_of_wpS Tryz.func66 rfl fun c₀ cs hu => ?_
  apply wpS_seq
  apply wpS_region
  simp [wpOpsS, go_sem, recoverD, hu, Tryz.ntmps66, Exit.thenS]
  refine wpS_of_wp ?_
  rw [show (#[Value.pointer (some ⟨g, 0, none⟩)] ++ (Array.replicate 11 undef).setIfInBounds 3 Value.nilIface : Array Value) = #[Value.pointer (some ⟨g, 0, none⟩), undef, undef, undef, Value.nilIface, undef, undef, undef, undef, undef, undef, undef] from rfl]
  go_wp2
  refine ⟨rfl, .returning, ?_, .tuple #[], by simp [results, Tryz.results66], rfl, rfl, rfl⟩
  cases c₀
  simp_all

/-- What the function value does that caught calls: it returns. -/
theorem caught_ok (F : Nat) (cap : Array Value) (hE : ∀ args W, (callFunc F args).run Tryz.prog W = .ok (.enter F args) W) (w : World) (Rt : World → Prop)
    (h : Calls Tryz.prog F cap (w.alloc zeroF) fun e w' => e = .returned (.tuple #[]) ∧ w'.heap[w.heap.size]? = some zeroF ∧ Rt w') :
    Calls Tryz.prog 42 #[.func (.func F) #[] cap] w fun e w' => e = .returned (.agg #[.int .i64 0, .int .i64 0]) ∧ ∃ w1, Rt w1 ∧ w1.heap[w.heap.size]? = some zeroF ∧ w' = put2 w1 w.heap.size (.int .i64 0) (.int .i64 0) := by
  have H := Lib.hid h
  have hmf : ∀ (fn : Fn) (first cap : Array Value) (w : World), (Instr.makeFunc fn first cap).run Tryz.prog w = .ok (.func fn first cap) w := fun _ _ _ _ => rfl
  clear h
  go_enter_defers Tryz.func42, Tryz.ntmps42
  go_wp2_with fail
  refine H.out.mono ?_
  rintro e w1 ⟨rfl, h1, h2⟩
  have H1 := Lib.hid h1
  have H2 := Lib.hid h2
  have c0 : w1.cell? ⟨w.heap.size, 0, none⟩ = some (.int .i64 0) := (Lib.cell_of_heap h1 0).trans rfl
  have c1 : w1.cell? ⟨w.heap.size, 1, none⟩ = some (.int .i64 0) := (Lib.cell_of_heap h1 1).trans rfl
  have g0 := Joins.unfrozen_of_block h1 0
  have g1 := Joins.unfrozen_of_block h1 1
  clear h1 h2
  go_wp2_with fail
  refine leaves_cons (f := 66) (args := #[.pointer (some ⟨w.heap.size, 0, none⟩)]) (by simp) (by simp [go_sem]) ?_
  refine (catch_idle w.heap.size _).mono ?_
  rintro e u' w'' ⟨rfl, rfl, rfl⟩
  have HF := Joins.block_setCell (Joins.block_setCell (i := 0) H1.out (.int .i64 0)) (i := 1) (.int .i64 0)
  have z0 := (Lib.cell_of_heap HF 0).trans (show _ = some _ from rfl)
  have z1 := (Lib.cell_of_heap HF 1).trans (show _ = some _ from rfl)
  refine ⟨.agg #[.int .i64 0, .int .i64 0], by simp [results, Tryz.results42, go_sem, z0, z1], rfl, _, H2.out, H1.out, rfl⟩
/-- A reader throws. -/
theorem caught_bad (F : Nat) (cap : Array Value) (hE : ∀ args W, (callFunc F args).run Tryz.prog W = .ok (.enter F args) W) (w : World) (k : Nat) (Rt : World → Prop)
    (h : Calls Tryz.prog F cap (w.alloc zeroF) fun e w' => e = thrown k ∧ w'.heap[w.heap.size]? = some zeroF ∧ Rt w') :
    Calls Tryz.prog 42 #[.func (.func F) #[] cap] w fun e w' => e = .returned (.agg #[.int .i64 40, .int .i64 k]) ∧ ∃ w1, Rt w1 ∧ w1.heap[w.heap.size]? = some zeroF ∧ w' = put2 w1 w.heap.size (.int .i64 40) (.int .i64 k) := by
  have H := Lib.hid h
  have hmf : ∀ (fn : Fn) (first cap : Array Value) (w : World), (Instr.makeFunc fn first cap).run Tryz.prog w = .ok (.func fn first cap) w := fun _ _ _ _ => rfl
  clear h
  go_enter_defers Tryz.func42, Tryz.ntmps42
  go_wp2_with fail
  refine H.out.mono ?_
  rintro e w1 ⟨rfl, h1, h2⟩
  refine leaves_cons (f := 66) (args := #[.pointer (some ⟨w.heap.size, 0, none⟩)]) (by simp) (by simp [go_sem]) ?_
  refine (catch_thrown w.heap.size k [] w1 h1).mono ?_
  rintro e u' w'' ⟨rfl, rfl, rfl⟩
  have HF := Joins.block_setCell (Joins.block_setCell (i := 0) h1 (.int .i64 40)) (i := 1) (.int .i64 k)
  have z0 := (Lib.cell_of_heap HF 0).trans (show _ = some _ from rfl)
  have z1 := (Lib.cell_of_heap HF 1).trans (show _ = some _ from rfl)
  refine ⟨.agg #[.int .i64 40, .int .i64 k], by simp [results, Tryz.results42, go_sem, z0, z1], rfl, _, h2, h1, rfl⟩

end Go.Proofs.YtadookafnfnaoaaGreatDoor
/- The reader's quoted: a text in quotes. -/
namespace Go.Proofs.YtadookafnfnaoaaGreatDoor
open Go.RowKit Ch

namespace Sp
def pre (l : List UInt8) (d : Nat) : R (List UInt8) → R (List UInt8)
  | .ok v n => .ok (l ++ v) (d + n)
  | .bad k => .bad (d + k)
theorem pre_zero (x : R (List UInt8)) : pre [] 0 x = x := by cases x <;> simp [pre]
theorem body_34 (f : Nat) {l : List UInt8} (h : l.head? = some 34) : body (f + 1) l = .ok [] 1 := by unfold body; rw [if_pos h]
theorem body_bad (f : Nat) {l : List UInt8} {k : Nat} (h : l.head? ≠ some 34) (hi : inside l = .bad k) : body (f + 1) l = .bad k := by unfold body; rw [if_neg h, bnd_bad hi]
theorem body_ok (f : Nat) {l : List UInt8} {x : UInt8} {n : Nat} (h : l.head? ≠ some 34) (hi : inside l = .ok x n) (m : List UInt8) (d : Nat) : pre m d (body (f + 1) l) = pre (m ++ [x]) (d + n) (body f (l.drop n)) := by
  rw [show body (f + 1) l = bnd inside (fun b => bnd (body f) fun r => ret (b :: r)) l by show (if _ then _ else _) = _; rw [if_neg h]]
  rw [bnd_ok hi]
  cases hb : body f (l.drop n) with
  | bad k => rw [bnd_bad hb]; simp [pre, R.shift]; omega
  | ok v j => rw [bnd_ok hb]; simp [pre, R.shift, ret]; omega
theorem inside_len {l : List UInt8} {x : UInt8} {n : Nat} (h : l.head? ≠ some 34) (hi : inside l = .ok x n) : 1 ≤ n ∧ n ≤ l.length := by
  obtain ⟨h1, h2⟩ := says_inside hi h
  have h3 := (qb_head x).2
  have h4 : 1 ≤ (qb x).length := by cases hx : qb x with
    | nil => exact absurd hx h3
    | cons _ _ => simp
  have h5 := congrArg List.length h1
  rw [List.length_append] at h5
  omega
end Sp

abbrev valS : List UInt8 → World → Value → Prop := fun l _ u => u = .string (Sp.ba l)
theorem rst_len (s : ByteArray) (a : Nat) : (rst s a).length = s.size - a := by unfold rst; rw [List.length_drop]; rfl
theorem quoted_bad {l : List UInt8} (h : ¬ l.head? = some 34) : Sp.quoted l = .bad 0 := by
  unfold Sp.quoted
  exact Sp.bnd_bad (by unfold Sp.must; rw [if_neg h])
theorem quoted_go {l : List UInt8} (h : l.head? = some 34) : Sp.quoted l = (Sp.body ((l.drop 1).length + 1) (l.drop 1)).shift 1 := by
  unfold Sp.quoted
  rw [Sp.bnd_ok (v := ()) (n := 1) (by unfold Sp.must; rw [if_pos h])]

set_option maxHeartbeats 2000000 in
theorem quoted_any (b : Nat) (s : ByteArray) (a : Nat) (w : World) (h : RdAt w b s a) (hz : s.size ≤ 140737488355327) :
    Calls Tryz.prog 44 #[.pointer (some ⟨b, 0, none⟩)] w (RdGo b s a (Sp.quoted (rst s a)) valS w) := by
  have H := Lib.hid h
  by_cases hd : (rst s a).head? = some 34
  · have HM := Lib.hid (must_ok b s a 34 w h hd)
    have HX := Lib.hid (quoted_go hd)
    rw [rst_drop, rst_len] at HX
    have hlt := head_lt hd
    have hbl : b < w.heap.size := lt_of_heap h.1
    clear h hd
    go_enter Tryz.func44, Tryz.ntmps44
    go_wp2_with fail
    refine HM.out.mono ?_
    rintro e w1 ⟨rfl, hat1, hk1⟩
    have Hat1 := Lib.hid hat1
    have Hk1 := Lib.hid hk1
    have hbl1 : b < w1.heap.size := lt_of_heap hat1.1
    have hsz1 : w.heap.size ≤ w1.heap.size := hk1.below.size
    obtain ⟨W, hW⟩ : ∃ W, W = w1.alloc (.cells #[.pointer none, .slice none 0 0] 59) := ⟨_, rfl⟩
    have BW := Lib.hid (show Below w1.heap.size w1 W by rw [hW]; exact below_box _ _)
    have HB := Lib.hid (show IsB W w1.heap.size w1.heap.size [] by rw [hW]; exact IsB.fresh w1)
    have HW := Lib.hid hW
    clear hat1 hk1 hW
    go_wp2_with fail
    rw [← HW.out]
    go_loopg [] (s.size - (a + 1)) (fun gk wr => ∃ (k f : Nat) (l : List UInt8), gk = s.size - k ∧ RdAt wr b s k ∧ a + 1 ≤ k ∧ l.length ≤ k ∧ s.size - k < f ∧ Sp.body (s.size - (a + 1) + 1) (rst s (a + 1)) = Sp.pre l (k - (a + 1)) (Sp.body f (rst s k)) ∧ Keep b [RT] w wr ∧ IsB wr w1.heap.size w1.heap.size l ∧ w1.heap.size ≤ wr.heap.size)
    case atStart =>
      exact ⟨a + 1, s.size - (a + 1) + 1, [], rfl, Hat1.out.later BW.out hbl1, Nat.le_refl _, Nat.zero_le _, by omega, by rw [Nat.sub_self, Sp.pre_zero], Hk1.out.later BW.out (by omega) hsz1, HB.out, BW.out.size⟩
    case round =>
      obtain ⟨k, f, l, rfl, hat, hak, hll, hf, hbo, hkp, hib, hsz⟩ := hrel
      have hks : k ≤ s.size := hat.2.1
      have HS := Lib.hid (sees_any b s k 34 wr hat)
      have Hat := Lib.hid hat
      have Hkp := Lib.hid hkp
      have Hbo := Lib.hid hbo
      have Hib := Lib.hid hib
      clear hat hkp hbo hib
      cases f with
      | zero => omega
      | succ f =>
      by_cases h34 : (rst s k).head? = some 34
      · have hd' : decide ((rst s k).head? = some 34) = true := decide_eq_true h34
        go_wp2_with fail
        refine HS.out.mono ?_
        rintro e w2 ⟨rfl, n, rfl⟩
        rw [hd']
        have HM2 := Lib.hid (must_ok b s k 34 (wr.drewN n) (Hat.out.drewN n) h34)
        go_wp2_with fail
        refine HM2.out.mono ?_
        rintro e w3 ⟨rfl, hat3, hk3⟩
        have HT := Lib.hid (Tryz.Builder_String_any_k w1.heap.size w1.heap.size l w3 ((Hib.out.keep (keep_drewN (Keep.refl b [RT] wr) n) (by decide) (by decide)).keep hk3 (by decide) (by decide)) (Nat.le_trans hsz hk3.below.size))
        have Hat3 := Lib.hid hat3
        have Hk3 := Lib.hid ((keep_drewN Hkp.out n).trans hk3)
        have HE := Lib.hid (HX.out.trans (by rw [Hbo.out, Sp.body_34 f h34]))
        clear hat3 hk3
        go_wp2_with fail
        refine HT.out.mono ?_
        rintro e w4 ⟨rfl, hib4, hb4, _⟩
        have Hat4 := Lib.hid (Hat3.out.later hb4 hbl1)
        have Hk4 := Lib.hid (Hk3.out.later hb4 (by omega) hsz1)
        clear hib4 hb4
        go_wp2_with fail
        go_ret
        refine rdgo_ok HE.out rfl ?_ ?_ Hk4.out
        · show Value.string _ = Value.string _
          rw [List.append_nil]; rfl
        · have e : a + (1 + (k - (a + 1) + 1)) = k + 1 := by omega
          rw [e]; exact Hat4.out
      · have hd' : decide ((rst s k).head? = some 34) = false := decide_eq_false h34
        go_wp2_with fail
        refine HS.out.mono ?_
        rintro e w2 ⟨rfl, n, rfl⟩
        rw [hd']
        have HI := Lib.hid (inside_any b s k (wr.drewN n) (Hat.out.drewN n))
        go_wp2_with fail
        refine HI.out.mono ?_
        cases hi : Sp.inside (rst s k) with
        | bad j =>
          have HE := Lib.hid (HX.out.trans (by rw [Hbo.out, Sp.body_bad f h34 hi]))
          rintro e w3 ⟨rfl, hk3⟩
          refine ⟨rfl, rdgo_bad HE.out ?_ ((keep_drewN Hkp.out n).trans hk3)⟩
          have e : a + (1 + (k - (a + 1) + j)) = k + j := by omega
          rw [e]
        | ok x j =>
          rintro e w3 ⟨_, rfl, rfl, hat3, hk3⟩
          have hj := Sp.inside_len h34 hi
          have hib3 := ((Hib.out.keep (keep_drewN (Keep.refl b [RT] wr) n) (by decide) (by decide)).keep hk3 (by decide) (by decide))
          have hkj := hat3.2.1
          have HWb := Lib.hid (writeByte_l w1.heap.size w1.heap.size l x w3 hib3 (by omega))
          have Hat3 := Lib.hid hat3
          have Hk3 := Lib.hid ((keep_drewN Hkp.out n).trans hk3)
          have hsz3 : w1.heap.size ≤ w3.heap.size := Nat.le_trans hsz hk3.below.size
          have HE := Lib.hid (Hbo.out.trans (Sp.body_ok f h34 hi l (k - (a + 1))))
          rw [rst_drop] at HE
          clear hat3 hk3 hib3
          go_wp2_with fail
          refine HWb.out.mono ?_
          rintro e w4 ⟨rfl, hib4, hb4, _⟩
          have Hat4 := Lib.hid (Hat3.out.later hb4 hbl1)
          have Hk4 := Lib.hid (Hk3.out.later hb4 (by omega) hsz1)
          have Hib4 := Lib.hid hib4
          have hsz4 : w1.heap.size ≤ w4.heap.size := Nat.le_trans hsz3 hb4.size
          clear hib4 hb4
          go_wp2_with fail
          go_roundg (s.size - (k + j))
          case measure => omega
          case rel =>
            refine ⟨k + j, f, l ++ [x], rfl, Hat4.out, by omega, by simp; omega, by omega, ?_, Hk4.out, Hib4.out, hsz4⟩
            have e : k + j - (a + 1) = k - (a + 1) + j := by omega
            rw [e]; exact HE.out
  · have HM := Lib.hid (must_bad b s a 34 w h hd)
    have HX := Lib.hid (quoted_bad hd)
    clear h hd
    go_enter Tryz.func44, Tryz.ntmps44
    go_wp2_with fail
    refine HM.out.mono ?_
    rintro e w1 ⟨rfl, hk1⟩
    exact ⟨rfl, rdgo_bad HX.out rfl hk1⟩

end Go.Proofs.YtadookafnfnaoaaGreatDoor
/- The reader's number. -/
namespace Go.Proofs.YtadookafnfnaoaaGreatDoor
open Go.RowKit Ch

theorem enters_of {f : FuncId} {fn : Func} {c : Code} (hf : Tryz.prog.funcs[f]? = some fn) (hname : (fn.name == "runtime.NumGoroutine") = false) (hb : fn.body = some c) (args : Array Value) (w : World) :
    (callFunc f args).run Tryz.prog w = .ok (.enter f args) w := by
  have h1 : fn.name ≠ "runtime.NumGoroutine" := by simpa using hname
  simp [callFunc, hf, h1, hb]
theorem enters_digit (args : Array Value) (W : World) : (callFunc 94 args).run Tryz.prog W = .ok (.enter 94 args) W := enters_of Tryz.func94 (by kernel_rfl) (by rfl) args W
theorem enters_keyByte (args : Array Value) (W : World) : (callFunc 129 args).run Tryz.prog W = .ok (.enter 129 args) W := enters_of Tryz.func129 (by kernel_rfl) (by rfl) args W

/-- strconv.ErrSyntax holds something that an interface may hold. -/
def Syn (w : World) : Prop := ∃ ev, w.cell? ⟨3, 0, none⟩ = some ev ∧ (ev = .nilIface ∨ ∃ te pe, ev = .iface te pe)

theorem pu_val (d : List UInt8) (hd : ∀ b ∈ d, Sp.dig b = true) : ∀ acc : Nat, acc * 10 ^ d.length + 10 ^ d.length ≤ 10 ^ 18 → Lib.parseUint10 acc d = .ok (d.foldl (fun a b => a * 10 + (b.toNat - 48)) acc) := by
  induction d with
  | nil => intro acc _; rfl
  | cons b d ih =>
    intro acc h
    have hb := of_decide_eq_true (show Sp.dig b = true from hd b (List.mem_cons_self ..))
    have h1 : 1 ≤ 10 ^ d.length := Nat.one_le_pow _ _ (by omega)
    have e : (10 : Nat) ^ 18 = 1000000000000000000 := by decide
    rw [List.length_cons, Nat.pow_succ] at h
    have h2 : acc * (10 ^ d.length * 10) = acc * 10 * 10 ^ d.length := by rw [Nat.mul_comm (10 ^ d.length) 10, Nat.mul_assoc]
    have h3 : (acc * 10 + (b.toNat - 48)) * 10 ^ d.length + 10 ^ d.length ≤ 10 ^ 18 := by
      have h4 : (acc * 10 + (b.toNat - 48) + 1) * 10 ^ d.length ≤ (acc * 10 + 10) * 10 ^ d.length := Nat.mul_le_mul_right _ (by omega)
      rw [Nat.add_mul, Nat.one_mul] at h4
      rw [Nat.add_mul (acc * 10) 10] at h4
      omega
    have h5 : acc * 10 + (b.toNat - 48) + 1 ≤ 10 ^ 18 := by
      have : (acc * 10 + (b.toNat - 48) + 1) * 1 ≤ (acc * 10 + (b.toNat - 48) + 1) * 10 ^ d.length := Nat.mul_le_mul_left _ h1
      rw [Nat.mul_one, Nat.add_mul _ 1, Nat.one_mul] at this
      omega
    rw [Lib.parseUint10, if_pos hb, if_neg (by omega), if_neg (by omega), ih (fun c hc => hd c (List.mem_cons_of_mem _ hc)) _ h3]
    rfl
theorem atoi_val {d : List UInt8} (hd : ∀ b ∈ d, Sp.dig b = true) (h : Sp.numOk d) : Lib.atoiAll d = .ok (Sp.val d : Int) := by
  have hv := Sp.val_lt d hd
  have h18 : 10 ^ d.length ≤ 10 ^ 18 := Nat.pow_le_pow_right (by omega) h.2.1
  have e : (10 : Nat) ^ 18 = 1000000000000000000 := by decide
  cases d with
  | nil => exact absurd rfl h.1
  | cons c r =>
    have hc := of_decide_eq_true (show Sp.dig c = true from hd c (List.mem_cons_self ..))
    unfold Lib.atoiAll
    simp only
    rw [if_neg (by omega)]
    unfold Lib.parseMag
    rw [if_neg (by simp), pu_val _ hd 0 (by omega)]
    have hv2 : List.foldl (fun a (b : UInt8) => a * 10 + (b.toNat - 48)) 0 (c :: r) = Sp.val (c :: r) := rfl
    rw [hv2]
    simp only
    rw [if_neg (by omega), if_neg (by omega), if_neg (by omega)]
theorem pre_48 {d : List UInt8} : Lib.hasPrefix d [48] = decide (d.head? = some 48) := by
  unfold Lib.hasPrefix
  cases d with
  | nil => rfl
  | cons a t =>
    simp [List.isPrefixOf]
    rw [Bool.eq_iff_iff]
    simp
    exact ⟨fun h => h.symm, fun h => h.symm⟩

theorem ba_beq (d e : List UInt8) : ((Sp.ba d).toList == e) = decide (d = e) := by
  rw [ByteArray.toList_eq]
  show (d == e) = _
  by_cases h : d = e
  · rw [decide_eq_true h, beq_iff_eq]; exact h
  · rw [decide_eq_false h, beq_eq_false_iff_ne]; exact h

set_option maxHeartbeats 2000000 in
theorem number_any (b : Nat) (s : ByteArray) (a : Nat) (w : World) (h : RdAt w b s a) (hz : s.size ≤ 140737488355327) (hy : Syn w) (hyb : 3 < b) :
    Calls Tryz.prog 74 #[.pointer (some ⟨b, 0, none⟩)] w (RdGo b s a (Sp.number (rst s a)) (fun n _ u => u = .int .i64 (n : Int)) w) := by
  have c1 := h.c1
  have hbl : b < w.heap.size := lt_of_heap h.1
  have HA := Lib.hid (all_any 94 Sp.dig enters_digit digit_any b s a w h)
  have HM := Lib.hid (Sp.tw_mem (p := Sp.dig) (rst s a))
  have hlen : ((rst s a).takeWhile Sp.dig).length ≤ s.size := by
    have := (List.takeWhile_prefix (p := Sp.dig) (l := rst s a)).length_le
    rw [rst_len] at this; omega
  have HX := Lib.hid (show Sp.number (rst s a) = if Sp.numOk ((rst s a).takeWhile Sp.dig) then .ok (Sp.val ((rst s a).takeWhile Sp.dig)) ((rst s a).takeWhile Sp.dig).length else .bad 0 from rfl)
  obtain ⟨ev, hev, hev2⟩ := hy
  have Hev2 := Lib.hid hev2
  clear h hev2
  generalize Sp.number (rst s a) = X at *
  generalize (rst s a).takeWhile Sp.dig = d at *
  have hsz : (Sp.ba d).size = d.length := by simp [Sp.ba, ByteArray.size]
  have HP := Lib.hid fun w => Tryz.strings_HasPrefix (Sp.ba d) ⟨#[48]⟩ w
  rw [show (Sp.ba d).data.toList = d from rfl, show (⟨#[48]⟩ : ByteArray).data.toList = [48] from rfl, pre_48] at HP
  go_enter Tryz.func74, Tryz.ntmps74
  go_wp2_with fail
  refine HA.out.mono ?_
  rintro e w1 ⟨rfl, hat1, hk1⟩
  have Hat1 := Lib.hid hat1
  have Hk1 := Lib.hid hk1
  clear hat1 hk1
  by_cases h18 : 18 < d.length
  · have hg : (18 : Int) < ((Sp.ba d).size : Int) := by rw [hsz]; omega
    have HV := Lib.hid (HX.out.trans (if_neg fun h => by have := h.2.1; omega))
    go_wp2_with fail
    exact ⟨rfl, rdgo_bad HV.out rfl Hk1.out⟩
  have hg : ¬ (18 : Int) < ((Sp.ba d).size : Int) := by rw [hsz]; omega
  go_wp2_with fail
  refine (HP.out _).mono ?_
  rintro e w2 ⟨rfl, rfl⟩
  have hy2 : w2.cell? ⟨3, 0, none⟩ = some ev := (Hk1.out.below.cell (p := ⟨3, 0, none⟩) (by exact hyb)).trans hev
  have hh := ba_beq d [48]
  have Hd := Lib.hid HM.out
  by_cases hok : Sp.numOk d
  · have HV := Lib.hid (HX.out.trans (if_pos hok))
    have HAt := Lib.hid fun w => Tryz.strconv_Atoi_ok (Sp.ba d) (by rw [hsz]; omega) (Sp.val d) (atoi_val HM.out hok) w
    cases hp : decide (d.head? = some 48) with
    | true =>
      have hg2 : ((Sp.ba d).toList == [48]) = true := by rw [hh, decide_eq_true (hok.2.2 (of_decide_eq_true hp))]
      clear hh hok hp
      go_wp2_with fail
      refine (HAt.out _).mono ?_
      rintro e w3 ⟨rfl, hw3⟩
      have hb3 : Below w2.heap.size w2 w3 := by
        rcases hw3 with rfl | ⟨t, rfl⟩
        · exact Below.refl _ _
        · exact Lib.bytesWorld_below _ _ _
      have Hat3 := Lib.hid (Hat1.out.later hb3 (lt_of_heap Hat1.out.1))
      have Hk3 := Lib.hid (Hk1.out.later hb3 (Nat.le_of_lt (lt_of_heap Hat1.out.1)) Hk1.out.below.size)
      clear hw3 hb3
      go_wp2_with fail
      go_ret
      exact rdgo_ok HV.out rfl rfl Hat3.out Hk3.out
    | false =>
      clear hh hok hp
      go_wp2_with fail
      refine (HAt.out _).mono ?_
      rintro e w3 ⟨rfl, hw3⟩
      have hb3 : Below w2.heap.size w2 w3 := by
        rcases hw3 with rfl | ⟨t, rfl⟩
        · exact Below.refl _ _
        · exact Lib.bytesWorld_below _ _ _
      have Hat3 := Lib.hid (Hat1.out.later hb3 (lt_of_heap Hat1.out.1))
      have Hk3 := Lib.hid (Hk1.out.later hb3 (Nat.le_of_lt (lt_of_heap Hat1.out.1)) Hk1.out.below.size)
      clear hw3 hb3
      go_wp2_with fail
      go_ret
      exact rdgo_ok HV.out rfl rfl Hat3.out Hk3.out
  · by_cases hn : d = []
    · have HV := Lib.hid (HX.out.trans (if_neg hok))
      have HAs := Lib.hid fun w hv => Tryz.strconv_Atoi_syntax (Sp.ba d) (by rw [hsz]; omega) ((Sp.data_ba d).trans hn) ev w hv Hev2.out
      have hp : decide (d.head? = some 48) = false := by rw [hn]; rfl
      rw [hp]
      clear hh hok hp hn
      go_wp2_with fail
      refine (HAs.out _ hy2).mono ?_
      rintro e w3 ⟨N, rfl, _, _, hb3⟩
      have Hk3 := Lib.hid (Hk1.out.later hb3 (Nat.le_of_lt (lt_of_heap Hat1.out.1)) Hk1.out.below.size)
      clear hb3
      go_wp2_with fail
      exact ⟨rfl, rdgo_bad HV.out rfl Hk3.out⟩
    · have h0 : d.head? = some 48 ∧ d ≠ [48] := by
        refine Classical.byContradiction fun hc => hok ⟨hn, by omega, fun h1 => Classical.byContradiction fun h2 => hc ⟨h1, h2⟩⟩
      have HV := Lib.hid (HX.out.trans (if_neg hok))
      have hp : decide (d.head? = some 48) = true := decide_eq_true h0.1
      have hg2 : ((Sp.ba d).toList == [48]) = false := by rw [hh, decide_eq_false h0.2]
      rw [hp]
      clear hh hok hp hn h0
      go_wp2_with fail
      exact ⟨rfl, rdgo_bad HV.out rfl Hk1.out⟩

end Go.Proofs.YtadookafnfnaoaaGreatDoor
/- Read: a text in quotes, read at a place. -/
namespace Go.Proofs.YtadookafnfnaoaaGreatDoor
open Go.RowKit Ch

abbrev RS : List TypeId := [RT, 9]
theorem quotedClos_ok (b t : Nat) (s x : ByteArray) (a n : Nat) (v : List UInt8) (w : World) (h : RdAt w b s a) (ht : w.heap[t]? = some (.cells #[.string x] 9 (0, 0))) (hbt : b ≤ t) (hz : s.size ≤ 140737488355327) (hq : Sp.quoted (rst s a) = .ok v n) :
    Calls Tryz.prog 43 #[.pointer (some ⟨b, 0, none⟩), .pointer (some ⟨t, 0, none⟩)] w fun e w' => e = .returned (.tuple #[]) ∧ RdAt w' b s (a + n) ∧ w'.heap[t]? = some (.cells #[.string (Sp.ba v)] 9 (0, 0)) ∧ Keep b RS w w' := by
  have HQ := Lib.hid (quoted_any b s a w h hz)
  have Ht := Lib.hid ht
  clear h ht
  go_enter Tryz.func43, Tryz.ntmps43
  go_wp2_with fail
  rw [hq] at HQ
  refine HQ.out.mono ?_
  rintro e w1 ⟨_, rfl, rfl, hat, hk⟩
  have Hat := Lib.hid hat
  have Hk := Lib.hid hk
  have t1 := hk.kept _ _ _ _ Ht.out (by decide)
  have Ht1 := Lib.hid t1
  have g0 := Joins.unfrozen_of_block t1 0
  have y0 := (Lib.cell_of_heap t1 0).trans (show _ = some _ from rfl)
  have hne : b ≠ t := fun e => by
    have h1 := hat.1
    rw [e, t1] at h1
    simp only [Option.some.injEq, Obj.cells.injEq] at h1
    exact absurd h1.2.1 (by decide)
  clear hat hk t1
  go_wp2_with fail
  first | go_end0 | refine bodyPost_ret (results_none rfl _ _ _) rfl ?_
  refine ⟨rfl, Hat.out.keep (Below.heap_setCell _ _ _ _ (by simpa using hne)), Joins.block_setCell (i := 0) Ht1.out _, (Hk.out.more (by simp)).trans (keep_set Ht1.out (by simp) hbt ⟨t, 0, none⟩ rfl _)⟩
theorem quotedClos_bad (b t : Nat) (s : ByteArray) (a k : Nat) (w : World) (h : RdAt w b s a) (hz : s.size ≤ 140737488355327) (hq : Sp.quoted (rst s a) = .bad k) :
    Calls Tryz.prog 43 #[.pointer (some ⟨b, 0, none⟩), .pointer (some ⟨t, 0, none⟩)] w fun e w' => e = thrown (a + k) ∧ Keep b RS w w' := by
  have HQ := Lib.hid (quoted_any b s a w h hz)
  clear h
  go_enter Tryz.func43, Tryz.ntmps43
  go_wp2_with fail
  rw [hq] at HQ
  refine HQ.out.mono ?_
  rintro e w1 ⟨rfl, hk⟩
  exact ⟨rfl, rfl, hk.more (by simp)⟩
theorem enters_Read1 (args : Array Value) (W : World) : (callFunc 43 args).run Tryz.prog W = .ok (.enter 43 args) W := enters_of Tryz.func43 (by kernel_rfl) (by rfl) args W

theorem put2_heap (w : World) (g i : Nat) (x y : Value) (h : i ≠ g) : (put2 w g x y).heap[i]? = w.heap[i]? := by
  rw [put2, Below.heap_setCell _ _ _ _ (by simpa using h), Below.heap_setCell _ _ _ _ (by simpa using h)]
theorem put2_below {B : Nat} {a w : World} {g : Nat} (h : Below B a w) (hg : B ≤ g) (x y : Value) : Below B a (put2 w g x y) := (h.setCell (p := ⟨g, 0, none⟩) hg x).setCell (p := ⟨g, 1, none⟩) hg y

def SpReadOut (w : World) (s : ByteArray) (p : Int) (e : Ending) (w' : World) : Prop :=
  e = .returned (.tuple #[.string (Sp.ba (Sp.readF s.data.toList p).text), .int .i64 (Sp.readF s.data.toList p).fin, .agg #[.int .i64 (Sp.readF s.data.toList p).code, .int .i64 (Sp.readF s.data.toList p).at_]]) ∧ Below w.heap.size w w'
theorem readF_out {s : ByteArray} {p : Int} (h : p < 0 ∨ (s.size : Int) < p) : Sp.readF s.data.toList p = ⟨1, -1, [], 0⟩ := by unfold Sp.readF; exact if_pos h
theorem readF_bad {s : ByteArray} {a k : Nat} (h : a ≤ s.size) (hq : Sp.quoted (rst s a) = .bad k) : Sp.readF s.data.toList (a : Int) = ⟨40, ((a + k : Nat) : Int), [], 0⟩ := by
  unfold Sp.readF
  rw [if_neg (by show ¬ ((a : Int) < 0 ∨ (s.size : Int) < a); omega), Int.toNat_natCast]
  show Sp.readR a (Sp.quoted (rst s a)) = _
  rw [hq]; rfl
theorem readF_ok {s : ByteArray} {a n : Nat} {v : List UInt8} (h : a ≤ s.size) (hq : Sp.quoted (rst s a) = .ok v n) : Sp.readF s.data.toList (a : Int) = ⟨0, 0, v, ((a + n : Nat) : Int)⟩ := by
  unfold Sp.readF
  rw [if_neg (by show ¬ ((a : Int) < 0 ∨ (s.size : Int) < a); omega), Int.toNat_natCast]
  show Sp.readR a (Sp.quoted (rst s a)) = _
  rw [hq]; rfl

set_option maxHeartbeats 4000000 in
theorem spRead_any (s : ByteArray) (p : Int) (w : World) (hz : s.size ≤ 140737488355327) (hp0 : -9223372036854775808 ≤ p) (hp1 : p ≤ 9223372036854775807) :
    Calls Tryz.prog 17 #[.string s, .int .i64 p] w (SpReadOut w s p) := by
  by_cases hp : p < 0
  · have HE := Lib.hid (readF_out (s := s) (.inl hp))
    go_enter Tryz.func17, Tryz.ntmps17
    go_wp2_with fail
    refine bodyPost_ret (v := .tuple #[.string ⟨#[]⟩, .int .i64 0, .agg #[.int .i64 1, .int .i64 (-1)]]) (by simp [results, Tryz.results17, go_sem]) rfl ?_
    rw [SpReadOut, HE.out]
    exact ⟨rfl, below_box _ _⟩
  by_cases hp2 : (s.size : Int) < p
  · have HE := Lib.hid (readF_out (s := s) (.inr hp2))
    go_enter Tryz.func17, Tryz.ntmps17
    go_wp2_with fail
    refine bodyPost_ret (v := .tuple #[.string ⟨#[]⟩, .int .i64 0, .agg #[.int .i64 1, .int .i64 (-1)]]) (by simp [results, Tryz.results17, go_sem]) rfl ?_
    rw [SpReadOut, HE.out]
    exact ⟨rfl, below_box _ _⟩
  · obtain ⟨a, rfl⟩ : ∃ a : Nat, p = a := ⟨p.toNat, by omega⟩
    have ha : a ≤ s.size := by omega
    have hmf : ∀ (fn : Fn) (first cap : Array Value) (w : World), (Instr.makeFunc fn first cap).run Tryz.prog w = .ok (.func fn first cap) w := fun _ _ _ _ => rfl
    obtain ⟨X, hX⟩ : ∃ X, X = ((w.alloc zeroF).alloc (.cells #[.string s, .int .i64 a] 72)).alloc (.cells #[.string ⟨#[]⟩] 9) := ⟨_, rfl⟩
    have sX : X.heap.size = w.heap.size + 3 := by rw [hX]; simp
    have f0 : X.heap[w.heap.size]? = some zeroF := by
      rw [hX, Lib.alloc_old _ _ _ (by simp <;> omega), Lib.alloc_old _ _ _ (by simp)]; exact heap_new w _
    have f1 : X.heap[w.heap.size + 1]? = some (.cells #[.string s, .int .i64 a] 72 (0, 0)) := by
      rw [hX, Lib.alloc_old _ _ _ (by simp)]; have := heap_new (w.alloc zeroF) (.cells #[.string s, .int .i64 a] 72); simpa using this
    have f2 : X.heap[w.heap.size + 2]? = some (.cells #[.string ⟨#[]⟩] 9 (0, 0)) := by
      rw [hX]; have := heap_new ((w.alloc zeroF).alloc (.cells #[.string s, .int .i64 a] 72)) (.cells #[.string ⟨#[]⟩] 9); simpa using this
    have bX : Below w.heap.size w X := by rw [hX]; exact (((Below.refl _ _).alloc (Nat.le_refl _) _).alloc (by simp) _).alloc (by simp <;> omega) _
    have KX : Keep (w.heap.size + 1) RS X (X.alloc zeroF) := keep_below (below_box X zeroF) (by omega)
    have hat : RdAt (X.alloc zeroF) (w.heap.size + 1) s a := ⟨(Lib.alloc_old X _ _ (by omega)).trans f1, ha, Nat.le_trans hz (by unfold maxLen; omega)⟩
    have ht : (X.alloc zeroF).heap[w.heap.size + 2]? = some (.cells #[.string ⟨#[]⟩] 9 (0, 0)) := (Lib.alloc_old X _ _ (by omega)).trans f2
    have hg : (X.alloc zeroF).heap[X.heap.size]? = some zeroF := heap_new X zeroF
    have HX := Lib.hid hX
    have F0 := Lib.hid f0
    have BX := Lib.hid bX
    cases hq : Sp.quoted (rst s a) with
    | bad k =>
      have HC := Lib.hid (caught_bad 43 #[.pointer (some ⟨w.heap.size + 1, 0, none⟩), .pointer (some ⟨w.heap.size + 1 + 1, 0, none⟩)] enters_Read1 X (a + k) (fun w1 => Keep (w.heap.size + 1) RS X w1)
        ((quotedClos_bad (w.heap.size + 1) (w.heap.size + 2) s a k (X.alloc zeroF) hat hz hq).mono fun e w1 ⟨h1, h2⟩ => ⟨h1, h2.kept _ _ _ _ hg (by decide), KX.trans h2⟩))
      have HE := Lib.hid (readF_bad ha hq)
      clear hX f0 f1 f2 bX KX hat ht hg hq
      go_enter Tryz.func17, Tryz.ntmps17
      go_wp2_with fail
      rw [← HX.out]
      refine HC.out.mono ?_
      rintro e w2 ⟨rfl, w1, k1, g1, rfl⟩
      have K1 := Lib.hid k1
      have f1 := (put2_heap w1 X.heap.size w.heap.size (.int .i64 40) (.int .i64 ((a + k : Nat) : Int)) (by omega)).trans (k1.kept _ _ _ _ F0.out (by decide))
      have F1 := Lib.hid f1
      have B1 := Lib.hid (put2_below (BX.out.trans (k1.below.mono (by omega))) (show w.heap.size ≤ X.heap.size by omega) (.int .i64 40) (.int .i64 ((a + k : Nat) : Int)))
      clear k1 g1 f1
      generalize put2 w1 X.heap.size (.int .i64 40) (.int .i64 ((a + k : Nat) : Int)) = V at *
      have e0 := (Lib.cell_of_heap F1.out 0).trans (show _ = some _ from rfl)
      have e1 := (Lib.cell_of_heap F1.out 1).trans (show _ = some _ from rfl)
      have g0 := Joins.unfrozen_of_block F1.out 0
      have g1 := Joins.unfrozen_of_block F1.out 1
      have hlt := lt_of_heap F1.out
      go_wp2_with fail
      go_region
      go_wp2_with fail
      refine bodyPost_ret (v := .tuple #[.string ⟨#[]⟩, .int .i64 0, .agg #[.int .i64 40, .int .i64 ((a : Int) + k)]]) (by simp [results, Tryz.results17, go_sem, e0, e1, hlt]) rfl ?_
      rw [SpReadOut, HE.out]
      refine ⟨by simp [Sp.ba], ?_⟩
      exact Below.drew (below_alloc ((B1.out.setCell (p := ⟨w.heap.size, 0, none⟩) (Nat.le_refl w.heap.size) _).setCell (p := ⟨w.heap.size, 1, none⟩) (Nat.le_refl w.heap.size) _) (Nat.le_refl _) _)
    | ok v n =>
      have HC := Lib.hid (caught_ok 43 #[.pointer (some ⟨w.heap.size + 1, 0, none⟩), .pointer (some ⟨w.heap.size + 1 + 1, 0, none⟩)] enters_Read1 X (fun w1 => RdAt w1 (w.heap.size + 1) s (a + n) ∧ w1.heap[w.heap.size + 2]? = some (.cells #[.string (Sp.ba v)] 9 (0, 0)) ∧ Keep (w.heap.size + 1) RS X w1)
        ((quotedClos_ok (w.heap.size + 1) (w.heap.size + 2) s ⟨#[]⟩ a n v (X.alloc zeroF) hat ht (by omega) hz hq).mono fun e w1 ⟨h1, h2, h3, h4⟩ => ⟨h1, h4.kept _ _ _ _ hg (by decide), h2, h3, KX.trans h4⟩))
      have HE := Lib.hid (readF_ok ha hq)
      clear hX f0 f1 f2 bX KX hat ht hg hq
      go_enter Tryz.func17, Tryz.ntmps17
      go_wp2_with fail
      rw [← HX.out]
      refine HC.out.mono ?_
      rintro e w2 ⟨rfl, w1, ⟨q1, q2, k1⟩, g1, rfl⟩
      have f0 := (put2_heap w1 X.heap.size w.heap.size (.int .i64 0) (.int .i64 0) (by omega)).trans (k1.kept _ _ _ _ F0.out (by decide))
      have f1 := (put2_heap w1 X.heap.size (w.heap.size + 1) (.int .i64 0) (.int .i64 0) (by omega)).trans q1.1
      have f2 := (put2_heap w1 X.heap.size (w.heap.size + 2) (.int .i64 0) (.int .i64 0) (by omega)).trans q2
      have B1 := Lib.hid (put2_below (BX.out.trans (k1.below.mono (by omega))) (show w.heap.size ≤ X.heap.size by omega) (.int .i64 0) (.int .i64 0))
      clear k1 g1 q1 q2
      generalize put2 w1 X.heap.size (.int .i64 0) (.int .i64 0) = V at *
      have G0 := Lib.hid f0
      have G1 := Lib.hid f1
      have G2 := Lib.hid f2
      clear f0 f1 f2
      have e0 := (Lib.cell_of_heap G0.out 0).trans (show _ = some _ from rfl)
      have e1 := (Lib.cell_of_heap G0.out 1).trans (show _ = some _ from rfl)
      have g0 := Joins.unfrozen_of_block G0.out 0
      have g1 := Joins.unfrozen_of_block G0.out 1
      have hlt := lt_of_heap G2.out
      have hlt0 := lt_of_heap G0.out
      have hlt1 := lt_of_heap G1.out
      have hn1 : w.heap.size + 1 ≠ V.heap.size := by omega
      have hn2 : w.heap.size + 1 + 1 ≠ V.heap.size := by omega
      have hn0 : w.heap.size ≠ V.heap.size := by omega
      have r1 : V.cell? ⟨w.heap.size + 1, 1, none⟩ = some (.int .i64 ((a + n : Nat) : Int)) := (Lib.cell_of_heap G1.out 1).trans rfl
      have t0 : V.cell? ⟨w.heap.size + 1 + 1, 0, none⟩ = some (.string (Sp.ba v)) := (Lib.cell_of_heap G2.out 0).trans rfl
      go_wp2_with fail
      go_region
      go_wp2_with fail
      refine bodyPost_ret (v := .tuple #[.string (Sp.ba v), .int .i64 ((a : Int) + n), .agg #[.int .i64 0, .int .i64 0]]) (by simp [results, Tryz.results17, go_sem, e0, e1, hlt0]) rfl ?_
      rw [SpReadOut, HE.out]
      refine ⟨by simp, ?_⟩
      exact Below.drew (below_alloc ((B1.out.setCell (p := ⟨w.heap.size, 0, none⟩) (Nat.le_refl w.heap.size) _).setCell (p := ⟨w.heap.size, 1, none⟩) (Nat.le_refl w.heap.size) _) (Nat.le_refl _) _)
end Go.Proofs.YtadookafnfnaoaaGreatDoor
