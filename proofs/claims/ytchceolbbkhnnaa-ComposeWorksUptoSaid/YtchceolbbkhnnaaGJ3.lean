/- Texts of this seat, put together: Jn, Jp0, Jq, Jr. -/
import Derived.Test.YtchceolbbkhnnaaGJ1
import Derived.Test.YtchceolbbkhnnaaGB4
import Derived.Test.YtchceolbbkhnnaaGJ2
import Derived.Test.YtchceolbbkhnnaaGN2
import Derived.Test.YtchceolbbkhnnaaGC2
/- The document's met: a rune that one changeset keeps or puts meets what the other says of it. -/
namespace Go.Proofs.Ytchceolbbkhnnaa
open Go.RowKit Rn Ch

theorem box3J (w : World) (o1 o2 o3 : Obj) : (((w.alloc o1).alloc o2).alloc o3).heap[w.heap.size]? = some o1 ∧ (((w.alloc o1).alloc o2).alloc o3).heap[w.heap.size + 1]? = some o2 ∧ (((w.alloc o1).alloc o2).alloc o3).heap[w.heap.size + 1 + 1]? = some o3 ∧ Below w.heap.size w (((w.alloc o1).alloc o2).alloc o3) := by
 obtain ⟨h1, h2, hb⟩ := box2 w o1 o2
 have h3 := heap_new ((w.alloc o1).alloc o2) o3
 rw [World.size_alloc, World.size_alloc] at h3
 exact ⟨heap_up h1 (below_box _ _), heap_up h2 (below_box _ _), h3, hb.alloc hb.size _⟩
def MetOut (w : World) (o : OpD) (is : Bool) (E : Int) (e : Ending) (w' : World) : Prop :=
 Below w.heap.size w w' ∧ ∃ v, e = .returned (.tuple #[opAgg o v, .bool is, .int .i64 E]) ∧ w'.ownsRow w.heap.size 81 2 v o.attrs.length (flat o.attrs)
/-- The answer's box, written whole. -/
theorem box4_set {Y : World} {n : Nat} {t : TypeId} {a b c d : Value} (h : Y.heap[n]? = some (.cells #[a, b, c, d] t (0, 0))) (a' b' c' d' : Value) :
 ((((Y.setCell ⟨n, 0, none⟩ a').setCell ⟨n, 1, none⟩ b').setCell ⟨n, 2, none⟩ c').setCell ⟨n, 3, none⟩ d').heap[n]? = some (.cells #[a', b', c', d'] t (0, 0)) := nblk_set (j := 3) (nblk_set (j := 2) (nblk_set (j := 1) (nblk_set (j := 0) h)))
theorem below4_set {B n : Nat} {w Y : World} (h : Below B w Y) (hn : B ≤ n) (a b c d : Value) : Below B w ((((Y.setCell ⟨n, 0, none⟩ a).setCell ⟨n, 1, none⟩ b).setCell ⟨n, 2, none⟩ c).setCell ⟨n, 3, none⟩ d) :=
 (((h.setCell (p := ⟨n, 0, none⟩) hn _).setCell (p := ⟨n, 1, none⟩) hn _).setCell (p := ⟨n, 2, none⟩) hn _).setCell (p := ⟨n, 3, none⟩) hn _
set_option maxRecDepth 100000 in
set_option maxHeartbeats 8000000 in
theorem met_del (x y : OpD) (xa ya : Option Addr) (xc yc : Nat) (w : World) (hk : y.kind = 3) :
 Calls Try.prog 33 #[opAgg x (.slice xa x.attrs.length xc), opAgg y (.slice ya y.attrs.length yc)] w (fun e w' => Below w.heap.size w w' ∧ e = .returned (.tuple #[opAgg y (.slice ya y.attrs.length yc), .bool (x.kind == 1), .int .i64 0])) := by
 obtain ⟨W, hW⟩ : ∃ W, W = ((w.alloc (.cells #[.int .i64 x.kind, .int .i64 x.n, .string x.text, .slice xa x.attrs.length xc] 40)).alloc (.cells #[.int .i64 y.kind, .int .i64 y.n, .string y.text, .slice ya y.attrs.length yc] 40)).alloc (.cells #[.int .i64 0, .int .i64 0, .string ⟨#[]⟩, .slice none 0 0] 40) := ⟨_, rfl⟩
 obtain ⟨h0, h1, h2, bW⟩ := box3J w (.cells #[.int .i64 x.kind, .int .i64 x.n, .string x.text, .slice xa x.attrs.length xc] 40) (.cells #[.int .i64 y.kind, .int .i64 y.n, .string y.text, .slice ya y.attrs.length yc] 40) (.cells #[.int .i64 0, .int .i64 0, .string ⟨#[]⟩, .slice none 0 0] 40)
 rw [← hW] at h0 h1 h2 bW
 have HW := Lib.hid hW
 clear hW
 obtain ⟨a0, a1, a2, a3⟩ := cells4J h0
 obtain ⟨b0, b1, b2, b3⟩ := cells4J h1
 obtain ⟨m0, m1, m2, m3⟩ := cells4J h2
 have e0 : W.frozen? ⟨w.heap.size + 1 + 1, 0, none⟩ = false := Lib.frozen_of_heap h2 0
 have e1 : W.frozen? ⟨w.heap.size + 1 + 1, 1, none⟩ = false := Lib.frozen_of_heap h2 1
 have e2 : W.frozen? ⟨w.heap.size + 1 + 1, 2, none⟩ = false := Lib.frozen_of_heap h2 2
 have e3 : W.frozen? ⟨w.heap.size + 1 + 1, 3, none⟩ = false := Lib.frozen_of_heap h2 3
 have H0 := Lib.hid h0
 have H1 := Lib.hid h1
 have H2 := Lib.hid h2
 have BW := Lib.hid bW
 clear h0 h1 h2 bW
 have k2 : (y.kind == 3) = true := by rw [hk]; rfl
 have z := box4_set H2.out (.int .i64 y.kind) (.int .i64 y.n) (.string y.text) (.slice ya y.attrs.length yc)
 obtain ⟨Y, hY, z⟩ : ∃ Y : World, Y = ((((W.setCell ⟨w.heap.size + 1 + 1, 0, none⟩ (.int .i64 y.kind)).setCell ⟨w.heap.size + 1 + 1, 1, none⟩ (.int .i64 y.n)).setCell ⟨w.heap.size + 1 + 1, 2, none⟩ (.string y.text)).setCell ⟨w.heap.size + 1 + 1, 3, none⟩ (.slice ya y.attrs.length yc)).drew ∧ Y.heap[w.heap.size + 1 + 1]? = some (.cells #[.int .i64 y.kind, .int .i64 y.n, .string y.text, .slice ya y.attrs.length yc] 40 (0, 0)) := ⟨_, rfl, z⟩
 obtain ⟨z0, z1, z2, z3⟩ := cells4J z
 have HFY := Lib.hid (show Below w.heap.size w Y by rw [hY]; exact below_drewN (below4_set BW.out (n := w.heap.size + 1 + 1) (by omega) (.int .i64 y.kind) (.int .i64 y.n) (.string y.text) (.slice ya y.attrs.length yc)) 1)
 have HYY := Lib.hid hY
 clear hY
 clear hk z
 go_enter Try.func33, Try.ntmps33
 go_wp2_with fail
 rw [← HW.out]
 go_wp2_with fail
 go_region
 go_wp2_with fail
 rw [← HYY.out]
 exact bodyPost_ret (v := .tuple #[opAgg y (.slice ya y.attrs.length yc), .bool (x.kind == 1), .int .i64 0]) (by simp [results, Try.results33, go_sem, z0, z1, z2, z3]) rfl ⟨HFY.out, rfl⟩
set_option maxRecDepth 100000 in
set_option maxHeartbeats 8000000 in
theorem met_ins (x y : OpD) (xa ya : Option Addr) (xc yc : Nat) (w : World) (hx : AtRow w (.slice xa x.attrs.length xc) x.attrs) (hy : AtRow w (.slice ya y.attrs.length yc) y.attrs) (_hp : Proper (.slice ya y.attrs.length yc)) (zx : Sized x.attrs) (zy : Sized y.attrs) (hk : x.kind = 2) (hyk : y.kind = 1) :
 Calls Try.prog 33 #[opAgg x (.slice xa x.attrs.length xc), opAgg y (.slice ya y.attrs.length yc)] w (MetOut w { x with attrs := applyR x.attrs y.attrs } true (applyE x.attrs y.attrs)) := by
 obtain ⟨W, hW⟩ : ∃ W, W = ((w.alloc (.cells #[.int .i64 x.kind, .int .i64 x.n, .string x.text, .slice xa x.attrs.length xc] 40)).alloc (.cells #[.int .i64 y.kind, .int .i64 y.n, .string y.text, .slice ya y.attrs.length yc] 40)).alloc (.cells #[.int .i64 0, .int .i64 0, .string ⟨#[]⟩, .slice none 0 0] 40) := ⟨_, rfl⟩
 obtain ⟨h0, h1, h2, bW⟩ := box3J w (.cells #[.int .i64 x.kind, .int .i64 x.n, .string x.text, .slice xa x.attrs.length xc] 40) (.cells #[.int .i64 y.kind, .int .i64 y.n, .string y.text, .slice ya y.attrs.length yc] 40) (.cells #[.int .i64 0, .int .i64 0, .string ⟨#[]⟩, .slice none 0 0] 40)
 rw [← hW] at h0 h1 h2 bW
 have HW := Lib.hid hW
 clear hW
 obtain ⟨a0, a1, a2, a3⟩ := cells4J h0
 obtain ⟨b0, b1, b2, b3⟩ := cells4J h1
 obtain ⟨m0, m1, m2, m3⟩ := cells4J h2
 have e0 : W.frozen? ⟨w.heap.size + 1 + 1, 0, none⟩ = false := Lib.frozen_of_heap h2 0
 have e1 : W.frozen? ⟨w.heap.size + 1 + 1, 1, none⟩ = false := Lib.frozen_of_heap h2 1
 have e2 : W.frozen? ⟨w.heap.size + 1 + 1, 2, none⟩ = false := Lib.frozen_of_heap h2 2
 have e3 : W.frozen? ⟨w.heap.size + 1 + 1, 3, none⟩ = false := Lib.frozen_of_heap h2 3
 have H0 := Lib.hid h0
 have H1 := Lib.hid h1
 have H2 := Lib.hid h2
 have BW := Lib.hid bW
 clear h0 h1 h2 bW
 have k1 : (x.kind == 2) = true := by rw [hk]; rfl
 have k2 : (y.kind == 3) = false := by rw [hyk]; rfl
 have HC := Lib.hid (refApply_any (.slice xa x.attrs.length xc) (.slice ya y.attrs.length yc) x.attrs y.attrs W (hx.below BW.out) (hy.below BW.out) zx zy)
 clear hx hy hk hyk zx zy _hp
 go_enter Try.func33, Try.ntmps33
 go_wp2_with fail
 rw [← HW.out]
 go_wp2_with fail
 refine HC.out.mono ?_
 rintro e w1 ⟨v, rfl, O1, B1⟩
 obtain ⟨va, vc, rfl⟩ := own_slice O1
 have HB1 := Lib.hid (BW.out.trans (B1.mono BW.out.size))
 have g0 := heap_up H0.out B1
 have g2 := heap_up H2.out B1
 have HO := Lib.hid O1
 have x0 := nblk_set (j := 3) (u := .slice va (applyR x.attrs y.attrs).length vc) g0
 have S1 := Lib.hid (keep_set (B := w.heap.size) (ts := [40]) g0 (by simp) (Nat.le_refl _) ⟨w.heap.size, 3, none⟩ rfl (.slice va (applyR x.attrs y.attrs).length vc))
 have y2 := (Below.heap_setCell w1 ⟨w.heap.size, 3, none⟩ (.slice va (applyR x.attrs y.attrs).length vc) (w.heap.size + 1 + 1) (by show w.heap.size + 1 + 1 ≠ w.heap.size; omega)).trans g2
 have f3 := frozen4J g0
 obtain ⟨W2, hW2⟩ : ∃ W2, W2 = w1.setCell ⟨w.heap.size, 3, none⟩ (.slice va (applyR x.attrs y.attrs).length vc) := ⟨_, rfl⟩
 rw [← hW2] at x0 y2 S1
 have HW2 := Lib.hid hW2
 have HX0 := Lib.hid x0
 have HY2 := Lib.hid y2
 have z := box4_set y2 (.int .i64 x.kind) (.int .i64 x.n) (.string x.text) (.slice va (applyR x.attrs y.attrs).length vc)
 obtain ⟨z0, z1, z2, z3⟩ := cells4J z
 have FIN : MetOut w { x with attrs := applyR x.attrs y.attrs } true (applyE x.attrs y.attrs) (.returned (.tuple #[opAgg { x with attrs := applyR x.attrs y.attrs } (.slice va (applyR x.attrs y.attrs).length vc), .bool true, .int .i64 (applyE x.attrs y.attrs)])) ((((W2.setCell ⟨w.heap.size + 1 + 1, 0, none⟩ (.int .i64 x.kind)).setCell ⟨w.heap.size + 1 + 1, 1, none⟩ (.int .i64 x.n)).setCell ⟨w.heap.size + 1 + 1, 2, none⟩ (.string x.text)).setCell ⟨w.heap.size + 1 + 1, 3, none⟩ (.slice va (applyR x.attrs y.attrs).length vc)) := by
  refine ⟨below4_set (HB1.out.trans S1.out.below) (by omega) _ _ _ _, _, rfl, ?_⟩
  have o1 := S1.out.own (own_base HO.out BW.out.size) (by decide)
  exact ((((keep_set (B := w.heap.size) (ts := [40]) y2 (by simp) (by omega) _ rfl _).trans (keep_set (nblk_set (j := 0) y2) (by simp) (by omega) _ rfl _)).trans (keep_set (nblk_set (j := 1) (nblk_set (j := 0) y2)) (by simp) (by omega) _ rfl _)).trans (keep_set (nblk_set (j := 2) (nblk_set (j := 1) (nblk_set (j := 0) y2))) (by simp) (by omega) _ rfl _)).own o1 (by decide)
 have HF := Lib.hid FIN
 clear FIN z y2 x0 g2 hW2 O1 B1
 clear a0 a1 a2 a3 b0 b1 b2 b3 e0 e1 e2 e3 m0 m1 m2 m3
 obtain ⟨a0, a1, a2, a3⟩ := cells4J g0
 have hlt := lt_of_heap g0
 have hlt2 := lt_of_heap HY2.out
 clear g0
 go_upto_region 7 with fail
 rw [← HW2.out]
 clear a0 a1 a2 a3 f3 hlt hlt2
 obtain ⟨c0, c1, c2, c3⟩ := cells4J HX0.out
 have hlt := lt_of_heap HX0.out
 have hlt2 := lt_of_heap HY2.out
 obtain ⟨m0, m1, m2, m3⟩ := cells4J HY2.out
 have d0 : W2.frozen? ⟨w.heap.size + 1 + 1, 0, none⟩ = false := Lib.frozen_of_heap HY2.out 0
 have d1 : W2.frozen? ⟨w.heap.size + 1 + 1, 1, none⟩ = false := Lib.frozen_of_heap HY2.out 1
 have d2 : W2.frozen? ⟨w.heap.size + 1 + 1, 2, none⟩ = false := Lib.frozen_of_heap HY2.out 2
 have d3 : W2.frozen? ⟨w.heap.size + 1 + 1, 3, none⟩ = false := Lib.frozen_of_heap HY2.out 3
 go_wp2_with fail
 exact bodyPost_ret (v := .tuple #[opAgg { x with attrs := applyR x.attrs y.attrs } (.slice va (applyR x.attrs y.attrs).length vc), .bool true, .int .i64 (applyE x.attrs y.attrs)]) (by simp [results, Try.results33, go_sem, z0, z1, z2, z3]) rfl HF.out
set_option maxRecDepth 100000 in
set_option maxHeartbeats 8000000 in
theorem met_keep (x y : OpD) (xa ya : Option Addr) (xc yc : Nat) (w : World) (hx : AtRow w (.slice xa x.attrs.length xc) x.attrs) (hy : AtRow w (.slice ya y.attrs.length yc) y.attrs) (hp : Proper (.slice ya y.attrs.length yc)) (zx : Sized x.attrs) (zy : Sized y.attrs) (hk : x.kind = 1) (hyk : y.kind = 1) :
 Calls Try.prog 33 #[opAgg x (.slice xa x.attrs.length xc), opAgg y (.slice ya y.attrs.length yc)] w (MetOut w { x with attrs := composeR x.attrs y.attrs } true (composeE x.attrs y.attrs)) := by
 obtain ⟨W, hW⟩ : ∃ W, W = ((w.alloc (.cells #[.int .i64 x.kind, .int .i64 x.n, .string x.text, .slice xa x.attrs.length xc] 40)).alloc (.cells #[.int .i64 y.kind, .int .i64 y.n, .string y.text, .slice ya y.attrs.length yc] 40)).alloc (.cells #[.int .i64 0, .int .i64 0, .string ⟨#[]⟩, .slice none 0 0] 40) := ⟨_, rfl⟩
 obtain ⟨h0, h1, h2, bW⟩ := box3J w (.cells #[.int .i64 x.kind, .int .i64 x.n, .string x.text, .slice xa x.attrs.length xc] 40) (.cells #[.int .i64 y.kind, .int .i64 y.n, .string y.text, .slice ya y.attrs.length yc] 40) (.cells #[.int .i64 0, .int .i64 0, .string ⟨#[]⟩, .slice none 0 0] 40)
 rw [← hW] at h0 h1 h2 bW
 have HW := Lib.hid hW
 clear hW
 obtain ⟨a0, a1, a2, a3⟩ := cells4J h0
 obtain ⟨b0, b1, b2, b3⟩ := cells4J h1
 obtain ⟨m0, m1, m2, m3⟩ := cells4J h2
 have e0 : W.frozen? ⟨w.heap.size + 1 + 1, 0, none⟩ = false := Lib.frozen_of_heap h2 0
 have e1 : W.frozen? ⟨w.heap.size + 1 + 1, 1, none⟩ = false := Lib.frozen_of_heap h2 1
 have e2 : W.frozen? ⟨w.heap.size + 1 + 1, 2, none⟩ = false := Lib.frozen_of_heap h2 2
 have e3 : W.frozen? ⟨w.heap.size + 1 + 1, 3, none⟩ = false := Lib.frozen_of_heap h2 3
 have H0 := Lib.hid h0
 have H1 := Lib.hid h1
 have H2 := Lib.hid h2
 have BW := Lib.hid bW
 clear h0 h1 h2 bW
 have k1 : (x.kind == 2) = false := by rw [hk]; rfl
 have k2 : (y.kind == 3) = false := by rw [hyk]; rfl
 have HC := Lib.hid (refCompose_any (.slice xa x.attrs.length xc) (.slice ya y.attrs.length yc) x.attrs y.attrs W (hx.below BW.out) (hy.below BW.out) hp zx zy)
 clear hx hy hk hyk zx zy hp
 go_enter Try.func33, Try.ntmps33
 go_wp2_with fail
 rw [← HW.out]
 go_wp2_with fail
 refine HC.out.mono ?_
 rintro e w1 ⟨v, rfl, O1, B1⟩
 obtain ⟨va, vc, rfl⟩ := own_slice O1
 have HB1 := Lib.hid (BW.out.trans (B1.mono BW.out.size))
 have g0 := heap_up H0.out B1
 have g2 := heap_up H2.out B1
 have HO := Lib.hid O1
 have x0 := nblk_set (j := 3) (u := .slice va (composeR x.attrs y.attrs).length vc) g0
 have S1 := Lib.hid (keep_set (B := w.heap.size) (ts := [40]) g0 (by simp) (Nat.le_refl _) ⟨w.heap.size, 3, none⟩ rfl (.slice va (composeR x.attrs y.attrs).length vc))
 have y2 := (Below.heap_setCell w1 ⟨w.heap.size, 3, none⟩ (.slice va (composeR x.attrs y.attrs).length vc) (w.heap.size + 1 + 1) (by show w.heap.size + 1 + 1 ≠ w.heap.size; omega)).trans g2
 have f3 := frozen4J g0
 obtain ⟨W2, hW2⟩ : ∃ W2, W2 = w1.setCell ⟨w.heap.size, 3, none⟩ (.slice va (composeR x.attrs y.attrs).length vc) := ⟨_, rfl⟩
 rw [← hW2] at x0 y2 S1
 have HW2 := Lib.hid hW2
 have HX0 := Lib.hid x0
 have HY2 := Lib.hid y2
 have z := box4_set y2 (.int .i64 x.kind) (.int .i64 x.n) (.string x.text) (.slice va (composeR x.attrs y.attrs).length vc)
 obtain ⟨z0, z1, z2, z3⟩ := cells4J z
 have FIN : MetOut w { x with attrs := composeR x.attrs y.attrs } true (composeE x.attrs y.attrs) (.returned (.tuple #[opAgg { x with attrs := composeR x.attrs y.attrs } (.slice va (composeR x.attrs y.attrs).length vc), .bool true, .int .i64 (composeE x.attrs y.attrs)])) ((((W2.setCell ⟨w.heap.size + 1 + 1, 0, none⟩ (.int .i64 x.kind)).setCell ⟨w.heap.size + 1 + 1, 1, none⟩ (.int .i64 x.n)).setCell ⟨w.heap.size + 1 + 1, 2, none⟩ (.string x.text)).setCell ⟨w.heap.size + 1 + 1, 3, none⟩ (.slice va (composeR x.attrs y.attrs).length vc)) := by
  refine ⟨below4_set (HB1.out.trans S1.out.below) (by omega) _ _ _ _, _, rfl, ?_⟩
  have o1 := S1.out.own (own_base HO.out BW.out.size) (by decide)
  exact ((((keep_set (B := w.heap.size) (ts := [40]) y2 (by simp) (by omega) _ rfl _).trans (keep_set (nblk_set (j := 0) y2) (by simp) (by omega) _ rfl _)).trans (keep_set (nblk_set (j := 1) (nblk_set (j := 0) y2)) (by simp) (by omega) _ rfl _)).trans (keep_set (nblk_set (j := 2) (nblk_set (j := 1) (nblk_set (j := 0) y2))) (by simp) (by omega) _ rfl _)).own o1 (by decide)
 have HF := Lib.hid FIN
 clear FIN z y2 x0 g2 hW2 O1 B1
 clear a0 a1 a2 a3 b0 b1 b2 b3 e0 e1 e2 e3 m0 m1 m2 m3
 obtain ⟨a0, a1, a2, a3⟩ := cells4J g0
 have hlt := lt_of_heap g0
 have hlt2 := lt_of_heap HY2.out
 clear g0
 go_upto_region 7 with fail
 rw [← HW2.out]
 clear a0 a1 a2 a3 f3 hlt hlt2
 obtain ⟨c0, c1, c2, c3⟩ := cells4J HX0.out
 have hlt := lt_of_heap HX0.out
 have hlt2 := lt_of_heap HY2.out
 obtain ⟨m0, m1, m2, m3⟩ := cells4J HY2.out
 have d0 : W2.frozen? ⟨w.heap.size + 1 + 1, 0, none⟩ = false := Lib.frozen_of_heap HY2.out 0
 have d1 : W2.frozen? ⟨w.heap.size + 1 + 1, 1, none⟩ = false := Lib.frozen_of_heap HY2.out 1
 have d2 : W2.frozen? ⟨w.heap.size + 1 + 1, 2, none⟩ = false := Lib.frozen_of_heap HY2.out 2
 have d3 : W2.frozen? ⟨w.heap.size + 1 + 1, 3, none⟩ = false := Lib.frozen_of_heap HY2.out 3
 go_wp2_with fail
 exact bodyPost_ret (v := .tuple #[opAgg { x with attrs := composeR x.attrs y.attrs } (.slice va (composeR x.attrs y.attrs).length vc), .bool true, .int .i64 (composeE x.attrs y.attrs)]) (by simp [results, Try.results33, go_sem, z0, z1, z2, z3]) rfl HF.out
end Go.Proofs.Ytchceolbbkhnnaa

/- Toward the document's Compose: the row that its loop tells, and what stands in the two rows that it reads. -/
namespace Go.Proofs.Ytchceolbbkhnnaa
open Go.RowKit Rn Ch

/-- On the way: the row that is told lies behind wB, its attributes behind w0. -/
structure LS (w0 wB w : World) (ps : List PA) (oa : Option Addr) (oc : Nat) : Prop where
 own : w.ownsRow wB.heap.size 40 4 (.slice oa ps.length oc) ps.length (flatO ps)
 att : ∀ q ∈ ps, w.ownsRow w0.heap.size 81 2 q.2 q.1.attrs.length (flat q.1.attrs)
 below : Below wB.heap.size wB w
theorem LS.nil (w0 wB : World) : LS w0 wB wB [] none 0 := ⟨World.ownsRow_nil _ _ _ _, fun q h => (by cases h), Below.refl _ _⟩
theorem LS.grow {w0 wB w w' : World} {ps : List PA} {oa : Option Addr} {oc : Nat} (h : LS w0 wB w ps oa oc) (hb : Below w.heap.size w w') : LS w0 wB w' ps oa oc :=
 ⟨row_below h.own hb, fun q hq => row_below (h.att q hq) hb, h.below.trans (hb.mono h.below.size)⟩
theorem LS.row {w0 wB w : World} {ps : List PA} {oa : Option Addr} {oc : Nat} (h : LS w0 wB w ps oa oc) (h0 : w0.heap.size ≤ wB.heap.size) : OpRow w (.slice oa ps.length oc) (ps.map (·.1)) :=
 OwnP.row (B := w0.heap.size) ⟨own_base h.own h0, h.att⟩
/-- 'append(out, one)'. -/
theorem wpList_app_ls {w0 wB : World} {ops : Array Oper} {rest : List Oper} {o : Oper} {a : Act} {w : World} {Q : Exit → Act → World → Prop}
 (hg : o.guard = none) (s x : Operand) (hop : o.op = Op.call { callee := Callee.builtin Builtin.append, args := #[s, x], argTypes := #[22, 22] })
 (oa : Option Addr) (oc : Nat) (ps : List PA) (hs : a.eval s = .slice oa ps.length oc) (H : LS w0 wB w ps oa oc) (q : PA) (ad : Addr) (c : Nat) (hx : a.eval x = .slice (some ad) 1 c) (hc : ∀ j u, (opCells q)[j]? = some u → w.cell? (ad.add j) = some u)
 (hq : w.ownsRow w0.heap.size 81 2 q.2 q.1.attrs.length (flat q.1.attrs)) (hl : ps.length ≤ 1000000)
 (hK : ∀ oa' oc' w', LS w0 wB w' (ps ++ [q]) oa' oc' → wpList Try.prog ops Q rest (a.put o.dst (.slice oa' (ps ++ [q]).length oc')) w') : wpList Try.prog ops Q (o :: rest) a w := by
 obtain ⟨i0, hi, hz0, hz1, hz2⟩ := info_parts infoOp
 have hB := H.below.size
 refine wpList_append_new hg s x 22 hop 40 i0 (.agg #[.int .i64 0, .int .i64 0, .string ⟨#[]⟩, .slice none 0 0]) 4 56 Try.underlying22 hi hz0 hz1 hz2 rfl (by decide) wB.heap.size (.slice oa ps.length oc) ps.length (flatO ps) hs H.own ad 1 c (opCells q) hx rfl hc ?_ (by unfold maxLen; omega) (by omega) hB fun v' w' o1 g1 _ => ?_
 ·intro u hu
  simp [opCells] at hu
  rcases hu with rfl | rfl | rfl | rfl
  ·rfl
  ·rfl
  ·rfl
  ·exact own_one hq
 ·have kr := keep_row H.own g1 (ts := [40]) (by simp) hB
  have e : (ps ++ [q]).length = ps.length + 1 := by simp
  have o2 : w'.ownsRow wB.heap.size 40 4 v' (ps ++ [q]).length (flatO (ps ++ [q])) := by rw [e, flatO_snoc]; exact o1
  obtain ⟨oa', oc', rfl⟩ := own_slice o2
  refine hK oa' oc' w' ⟨o2, fun y hy => ?_, H.below.trans kr.below⟩
  rcases List.mem_append.1 hy with hy | hy
  ·exact kr.own (H.att y hy) (by decide)
  ·rw [List.mem_singleton.1 hy]; exact kr.own hq (by decide)
/-- One of a row's operations, in every world behind. -/
theorem px_at {w : World} {B cap : Nat} {a : Option Addr} {ps : List PA} (h : OwnP w B (.slice a ps.length cap) ps) {i : Nat} (hi : i < ps.length) :
 ∃ g ar cr, a = some ⟨g, 0, none⟩ ∧ g < w.heap.size ∧ ps[i].2 = .slice ar ps[i].1.attrs.length cr ∧ w.ownsRow B 81 2 (.slice ar ps[i].1.attrs.length cr) ps[i].1.attrs.length (flat ps[i].1.attrs) ∧
  ∀ X, Below w.heap.size w X → X.cell? ⟨g, i * 4, none⟩ = some (.int .i64 ps[i].1.kind) ∧ X.cell? ⟨g, i * 4 + 1, none⟩ = some (.int .i64 ps[i].1.n) ∧ X.cell? ⟨g, i * 4 + 2, none⟩ = some (.string ps[i].1.text) ∧ X.cell? ⟨g, i * 4 + 3, none⟩ = some (.slice ar ps[i].1.attrs.length cr) := by
 have ha := h.2 _ (List.getElem_mem hi)
 obtain ⟨ar, cr, hs⟩ := own_slice ha
 have h1 := h.1
 rcases h.1.2 with ⟨h', h0⟩ | ⟨g, cap', cur, h', _, hg, hn, hm, _⟩
 ·omega
 ·injection h' with e1 _ e3
  subst e1
  have e : ∀ j, j < 4 → w.cell? ⟨g, i * 4 + j, none⟩ = (opCells ps[i])[j]? := fun j hj => by
   rw [h1.cellAt _ (by omega), flatO_at hi j hj]
  refine ⟨g, ar, cr, rfl, lt_of_heap hg, hs, by rw [← hs]; exact ha, fun X hX => ?_⟩
  have hb := lt_of_heap hg
  exact ⟨(hX.cell (by exact hb)).trans (e 0 (by omega)), (hX.cell (by exact hb)).trans (e 1 (by omega)), (hX.cell (by exact hb)).trans (e 2 (by omega)), (hX.cell (by exact hb)).trans ((e 3 (by omega)).trans (by rw [← hs]; rfl))⟩
end Go.Proofs.Ytchceolbbkhnnaa

/- The atoms of two changesets as one: so many, each as an operation in its bounds; step by step. -/
namespace Go.Proofs.Ytchceolbbkhnnaa
namespace Cp
open Rn Ch
open At hiding put
open An (fullA)

theorem comp_len : ∀ (A B : List Atm), (comp A B).length ≤ A.length + B.length
 | [], B => by rw [comp_nil]; simp
 | .del :: A, B => by have := comp_len A B; rw [comp_del]; simp only [List.length_cons]; omega
 | .ins c a :: A, [] => by rw [comp_nilr]; simp
 | .keep a :: A, [] => by rw [comp_nilr]; simp
 | .ins c a :: A, .ins d b :: B => by have := comp_len (.ins c a :: A) B; rw [comp_ii]; simp only [List.length_cons] at this ⊢; omega
 | .keep a :: A, .ins d b :: B => by have := comp_len (.keep a :: A) B; rw [comp_ki]; simp only [List.length_cons] at this ⊢; omega
 | .ins c a :: A, .keep b :: B => by have := comp_len A B; rw [comp_ik]; simp only [List.length_cons]; omega
 | .keep a :: A, .keep b :: B => by have := comp_len A B; rw [comp_kk]; simp only [List.length_cons]; omega
 | .ins c a :: A, .del :: B => by have := comp_len A B; rw [comp_id]; simp only [List.length_cons]; omega
 | .keep a :: A, .del :: B => by have := comp_len A B; rw [comp_kd]; simp only [List.length_cons]; omega
termination_by A B => A.length + B.length
/-- The loop's way: R is told, X from i and Y from k are still to come. -/
structure Way (X Y R : List Atm) (i k : Nat) : Prop where
 hi : i ≤ X.length
 hk : k ≤ Y.length
 comp : Cp.comp X Y = R ++ Cp.comp (X.drop i) (Y.drop k)
 fit : Cp.fit X Y ↔ Cp.fit (X.drop i) (Y.drop k)
 bal : Bal (X.drop i) (Y.drop k)
theorem Way.start {X Y : List Atm} (h : Bal X Y) : Way X Y [] 0 0 := ⟨Nat.zero_le _, Nat.zero_le _, rfl, Iff.rfl, h⟩
theorem Way.del {X Y R : List Atm} {i k : Nat} (h : Way X Y R i k) (hi : i < X.length) (hx : X[i] = .del) : Way X Y (R ++ [X[i]]) (i + 1) k := by
 have e := List.drop_eq_getElem_cons hi
 have hc := h.comp
 have hf := h.fit
 have hb := h.bal
 rw [e, hx] at hc hf hb
 rw [comp_del] at hc
 rw [fit_del] at hf
 exact ⟨hi, h.hk, by rw [hc, hx, List.append_assoc]; rfl, hf, hb.del⟩
theorem comp_insr (A : List Atm) (c : Nat) (b : AL) (B : List Atm) (h : ∀ A', A ≠ .del :: A') : comp A (.ins c b :: B) = .ins c b :: comp A B := by
 cases A with
 | nil => rw [comp_nil, comp_nil]
 | cons x A =>
   cases x with
   | del => exact absurd rfl (h A)
   | ins d a => exact comp_ii ..
   | keep a => exact comp_ki ..
theorem Way.ins {X Y R : List Atm} {i k : Nat} (h : Way X Y R i k) (hk : k < Y.length) {c : Nat} {b : AL} (hy : Y[k] = .ins c b) (hx : ∀ (hi : i < X.length), X[i] ≠ .del) : Way X Y (R ++ [Y[k]]) i (k + 1) := by
 have e := List.drop_eq_getElem_cons hk
 have hc := h.comp
 have hf := h.fit
 have hb := h.bal
 rw [e, hy] at hc hf hb
 rw [fit_ni] at hf
 rw [comp_insr _ _ _ _ (fun A' e2 => by
  have hl := congrArg List.length e2
  rw [List.length_drop, List.length_cons] at hl
  have hi : i < X.length := by omega
  rw [List.drop_eq_getElem_cons hi] at e2
  injection e2 with e3 _
  exact hx hi e3)] at hc
 exact ⟨h.hi, hk, by rw [hc, hy, List.append_assoc]; rfl, hf, hb.ins⟩
theorem Way.both {X Y R : List Atm} {i k : Nat} (h : Way X Y R i k) (ht : i < X.length ∨ k < Y.length) (hx : ∀ (hi : i < X.length), X[i] ≠ .del) (hy : ∀ (hk : k < Y.length) c b, Y[k] ≠ .ins c b) : i < X.length ∧ k < Y.length := by
 have hb := h.bal
 rcases Nat.lt_or_ge i X.length with hi | hi <;> rcases Nat.lt_or_ge k Y.length with hk | hk
 ·exact ⟨hi, hk⟩
 ·rw [List.drop_eq_getElem_cons hi, List.drop_eq_nil_of_le hk] at hb
  exact absurd hb.nil_r (hx hi)
 ·rw [List.drop_eq_nil_of_le hi, List.drop_eq_getElem_cons hk] at hb
  obtain ⟨c, b, e⟩ := hb.nil_l
  exact absurd e (hy hk c b)
 ·omega
/-- The two runes that meet. -/
theorem Way.met {X Y R : List Atm} {i k : Nat} (h : Way X Y R i k) (hi : i < X.length) (hk : k < Y.length) :
 (∀ c a b, X[i] = .ins c a → Y[k] = .keep b → (apl a b).length ≤ 8 → Way X Y (R ++ [.ins c (apl a b)]) (i + 1) (k + 1)) ∧
 (∀ a b, X[i] = .keep a → Y[k] = .keep b → (cmp a b).length ≤ 8 → Way X Y (R ++ [.keep (cmp a b)]) (i + 1) (k + 1)) ∧
 (∀ c a, X[i] = .ins c a → Y[k] = .del → Way X Y R (i + 1) (k + 1)) ∧
 (∀ a, X[i] = .keep a → Y[k] = .del → Way X Y (R ++ [.del]) (i + 1) (k + 1)) ∧
 (∀ c a b, X[i] = .ins c a → Y[k] = .keep b → ¬ (apl a b).length ≤ 8 → ¬ Cp.fit X Y) ∧
 (∀ a b, X[i] = .keep a → Y[k] = .keep b → ¬ (cmp a b).length ≤ 8 → ¬ Cp.fit X Y) := by
 have e1 := List.drop_eq_getElem_cons hi
 have e2 := List.drop_eq_getElem_cons hk
 have hc := h.comp
 have hf := h.fit
 have hb := h.bal
 rw [e1, e2] at hc hf hb
 refine ⟨fun c a b hx hy hl => ?_, fun a b hx hy hl => ?_, fun c a hx hy => ?_, fun a hx hy => ?_, fun c a b hx hy hl => ?_, fun a b hx hy hl => ?_⟩ <;> rw [hx, hy] at hc hf hb
 ·rw [comp_ik] at hc; rw [fit_ik] at hf
  exact ⟨hi, hk, by rw [hc, List.append_assoc]; rfl, hf.trans ⟨fun h => h.2, fun h => ⟨hl, h⟩⟩, hb.met (by simp) (by simp)⟩
 ·rw [comp_kk] at hc; rw [fit_kk] at hf
  exact ⟨hi, hk, by rw [hc, List.append_assoc]; rfl, hf.trans ⟨fun h => h.2, fun h => ⟨hl, h⟩⟩, hb.met (by simp) (by simp)⟩
 ·rw [comp_id] at hc; rw [fit_id] at hf
  exact ⟨hi, hk, hc, hf, hb.met (by simp) (by simp)⟩
 ·rw [comp_kd] at hc; rw [fit_kd] at hf
  exact ⟨hi, hk, by rw [hc, List.append_assoc]; rfl, hf, hb.met (by simp) (by simp)⟩
 ·rw [fit_ik] at hf
  exact fun h => hl (hf.1 h).1
 ·rw [fit_kk] at hf
  exact fun h => hl (hf.1 h).1
theorem Way.done {X Y R : List Atm} {i k : Nat} (h : Way X Y R i k) (hi : ¬ i < X.length) (hk : ¬ k < Y.length) : Cp.comp X Y = R ∧ Cp.fit X Y := by
 have hc := h.comp
 have hf := h.fit
 rw [List.drop_eq_nil_of_le (Nat.not_lt.1 hi), List.drop_eq_nil_of_le (Nat.not_lt.1 hk)] at hc hf
 rw [comp_nil, List.append_nil] at hc
 exact ⟨hc, hf.2 (fit_nil _)⟩
end Cp
end Go.Proofs.Ytchceolbbkhnnaa

/- Two runes meet, in the document's words: which of the three ways. -/
namespace Go.Proofs.Ytchceolbbkhnnaa
open Go.RowKit Rn Ch
open Cp (Atm opA Bal OkX)

def MetL (w X : World) (o : OpD) (is : Bool) (E : Int) (e : Ending) (w' : World) : Prop :=
 Below X.heap.size X w' ∧ ∃ v, e = .returned (.tuple #[opAgg o v, .bool is, .int .i64 E]) ∧ w'.ownsRow w.heap.size 81 2 v o.attrs.length (flat o.attrs)
theorem MetOut.l {w X w' : World} {o : OpD} {is : Bool} {E : Int} {e : Ending} (h : MetOut X o is E e w') (hb : w.heap.size ≤ X.heap.size) : MetL w X o is E e w' := by
 obtain ⟨h1, v, h2, h3⟩ := h
 exact ⟨h1, v, h2, own_base h3 hb⟩
theorem chg08 {a : List (ByteArray × ByteArray)} (h : chgB a = true) : chgE a = 0 := by unfold chgE; rw [h]; rfl
theorem rgt08 {a : List (ByteArray × ByteArray)} (h : rgtB a = true) : rgtE a = 0 := by unfold rgtE; rw [h]; rfl
theorem apply8 {a b : List (ByteArray × ByteArray)} (ha : rgtB a = true) (hb : chgB b = true) : ((Cp.apl a b).length ≤ 8 → applyR a b = Cp.apl a b ∧ applyE a b = 0) ∧ (¬ (Cp.apl a b).length ≤ 8 → applyE a b = 3) := by
 unfold applyR applyE
 rw [ha, hb]
 exact ⟨fun h => ⟨(if_pos (show (true && true) = true from rfl)).trans (if_pos h), (if_pos (show (true && true) = true from rfl)).trans (if_pos h)⟩, fun h => (if_pos (show (true && true) = true from rfl)).trans (if_neg h)⟩
theorem compose8 {a b : List (ByteArray × ByteArray)} (ha : chgB a = true) (hb : chgB b = true) : ((Cp.cmp a b).length ≤ 8 → composeR a b = Cp.cmp a b ∧ composeE a b = 0) ∧ (¬ (Cp.cmp a b).length ≤ 8 → composeE a b = 3) := by
 unfold composeR composeE
 rw [ha, hb]
 exact ⟨fun h => ⟨(if_pos (show (true && true) = true from rfl)).trans (if_pos h), (if_pos (show (true && true) = true from rfl)).trans (if_pos h)⟩, fun h => (if_pos (show (true && true) = true from rfl)).trans (if_neg h)⟩
theorem met_both {w wr : World} {X Y R : List Atm} {m n : Nat} {ox oy : OpD} {xar yar : Option Addr} {xcr ycr : Nat} (hW : Cp.Way X Y R m n) (hi : m < X.length) (hk : n < Y.length) (okx : OkX X) (oky : OkX Y) (hox : ox = opA X[m]) (hoy : oy = opA Y[n]) (hx : X[m] ≠ .del) (hy : ∀ c b, Y[n] ≠ .ins c b)
 (rx : wr.ownsRow w.heap.size 81 2 (.slice xar ox.attrs.length xcr) ox.attrs.length (flat ox.attrs)) (ry : wr.ownsRow w.heap.size 81 2 (.slice yar oy.attrs.length ycr) oy.attrs.length (flat oy.attrs)) (hb : w.heap.size ≤ wr.heap.size) :
 ∃ (o : OpD) (is : Bool) (E : Int), (∀ Z, Below wr.heap.size wr Z → Calls Try.prog 33 #[opAgg ox (.slice xar ox.attrs.length xcr), opAgg oy (.slice yar oy.attrs.length ycr)] Z (MetL w Z o is E)) ∧
  ((E = 0 ∧ is = true ∧ ∃ z, o = opA z ∧ Cp.Way X Y (R ++ [z]) (m + 1) (n + 1)) ∨ (E = 0 ∧ is = false ∧ Cp.Way X Y R (m + 1) (n + 1)) ∨ (E = 3 ∧ is = true ∧ ¬ Cp.fit X Y)) := by
 obtain ⟨m1, m2, m3, m4, m5, m6⟩ := hW.met hi hk
 have ex := okx _ (List.getElem_mem hi)
 have ey := oky _ (List.getElem_mem hk)
 cases hxm : X[m] with
 | del => exact absurd hxm hx
 | ins c a =>
   rw [hxm] at ex hox
   cases hyn : Y[n] with
   | ins d b => exact absurd hyn (hy d b)
   | del =>
     rw [hyn] at hoy
     subst hox
     subst hoy
     refine ⟨opA .del, false, 0, fun Z hZ => ?_, .inr (.inl ⟨rfl, rfl, m3 c a hxm hyn⟩)⟩
     exact (met_del (opA (.ins c a)) (opA .del) xar yar xcr ycr Z rfl).mono fun e w' h => ⟨h.1, _, h.2, row_below (row_below ry hZ) h.1⟩
   | keep b =>
     rw [hyn] at ey hoy
     subst hox
     subst hoy
     have hm : ∀ Z, Below wr.heap.size wr Z → _ := fun Z hZ => (met_ins (opA (.ins c a)) (opA (.keep b)) xar yar xcr ycr Z (row_of_own (row_below rx hZ)) (row_of_own (row_below ry hZ)) (proper_own ry) (small_rgt (rgt08 ex.2)).sized (small_chg (chg08 ey)).sized rfl rfl).mono fun e w' h => h.l (w := w) (Nat.le_trans hb hZ.size)
     obtain ⟨f1, f2⟩ := apply8 ex.2 ey
     by_cases hl : (Cp.apl a b).length ≤ 8
     ·obtain ⟨g1, g2⟩ := f1 hl
      refine ⟨opA (.ins c (Cp.apl a b)), true, 0, fun Z hZ => ?_, .inl ⟨rfl, rfl, _, rfl, m1 c a b hxm hyn hl⟩⟩
      have h := hm Z hZ
      rw [show (opA (.ins c a)).attrs = a from rfl, show (opA (.keep b)).attrs = b from rfl, g1, g2] at h
      exact h
     ·refine ⟨{ opA (.ins c a) with attrs := applyR (opA (.ins c a)).attrs (opA (.keep b)).attrs }, true, 3, fun Z hZ => ?_, .inr (.inr ⟨rfl, rfl, m5 c a b hxm hyn hl⟩)⟩
      have h := hm Z hZ
      rw [show applyE (opA (.ins c a)).attrs (opA (.keep b)).attrs = 3 from f2 hl] at h
      exact h
 | keep a =>
   rw [hxm] at ex hox
   cases hyn : Y[n] with
   | ins d b => exact absurd hyn (hy d b)
   | del =>
     rw [hyn] at hoy
     subst hox
     subst hoy
     refine ⟨opA .del, true, 0, fun Z hZ => ?_, .inl ⟨rfl, rfl, _, rfl, m4 a hxm hyn⟩⟩
     exact (met_del (opA (.keep a)) (opA .del) xar yar xcr ycr Z rfl).mono fun e w' h => ⟨h.1, _, h.2, row_below (row_below ry hZ) h.1⟩
   | keep b =>
     rw [hyn] at ey hoy
     subst hox
     subst hoy
     have hm : ∀ Z, Below wr.heap.size wr Z → _ := fun Z hZ => (met_keep (opA (.keep a)) (opA (.keep b)) xar yar xcr ycr Z (row_of_own (row_below rx hZ)) (row_of_own (row_below ry hZ)) (proper_own ry) (small_chg (chg08 ex)).sized (small_chg (chg08 ey)).sized rfl rfl).mono fun e w' h => h.l (w := w) (Nat.le_trans hb hZ.size)
     obtain ⟨f1, f2⟩ := compose8 ex ey
     by_cases hl : (Cp.cmp a b).length ≤ 8
     ·obtain ⟨g1, g2⟩ := f1 hl
      refine ⟨opA (.keep (Cp.cmp a b)), true, 0, fun Z hZ => ?_, .inl ⟨rfl, rfl, _, rfl, m2 a b hxm hyn hl⟩⟩
      have h := hm Z hZ
      rw [show (opA (.keep a)).attrs = a from rfl, show (opA (.keep b)).attrs = b from rfl, g1, g2] at h
      exact h
     ·refine ⟨{ opA (.keep a) with attrs := composeR (opA (.keep a)).attrs (opA (.keep b)).attrs }, true, 3, fun Z hZ => ?_, .inr (.inr ⟨rfl, rfl, m6 a b hxm hyn hl⟩)⟩
      have h := hm Z hZ
      rw [show composeE (opA (.keep a)).attrs (opA (.keep b)).attrs = 3 from f2 hl] at h
      exact h
end Go.Proofs.Ytchceolbbkhnnaa
