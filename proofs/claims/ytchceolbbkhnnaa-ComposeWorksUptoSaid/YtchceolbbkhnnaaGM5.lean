/- Texts of this seat, put together: Mi, Mj, Mn, Mo. -/
import Derived.Test.YtchceolbbkhnnaaGP1
import Derived.Test.YtchceolbbkhnnaaGM1
import Derived.Test.YtchceolbbkhnnaaGD1
import Derived.Test.YtchceolbbkhnnaaGC1
import Derived.Test.YtchceolbbkhnnaaGM4
import Derived.Test.YtchceolbbkhnnaaGP2
import Derived.RegionTactic
import Derived.ChangeAlike
import Derived.BigRegion
import Derived.WalkKit
/- The program's one: what two operations that met are together; whose is met alone. -/
namespace Go.Proofs.Ytchceolbbkhnnaa
open Go.RowKit Rn Ch
open At hiding put
open Cp (oneO oneE alC zeroO)

/-- A row of attributes: one's own, or that of one of the two. -/
def RowS (w : World) (r : Value) (l : List (K × V)) (x y : QV5) : Prop := (∃ B, w.ownsRow B 81 2 r l.length (flat l)) ∨ (r = qv x ∧ l = x.1.attrs) ∨ (r = qv y ∧ l = y.1.attrs)
/-- What one answers. -/
def OneOut (w : World) (x y : QV5) (e : Ending) (w' : World) : Prop :=
 ∃ a c, e = .returned (.tuple #[opAgg (oneO x.1 y.1) (.slice a (oneO x.1 y.1).attrs.length c), .int .i64 (oneE x.1 y.1)]) ∧ RowS w' (.slice a (oneO x.1 y.1).attrs.length c) (oneO x.1 y.1).attrs x y ∧ Below w.heap.size w w'
theorem results_one {fn : Func} (h : fn.results = #[.cell 4 40, .tmp 5]) {tmps : Array Value} {w : World} {b4 : Nat} {x0 x1 x2 x3 v : Value} (h4 : tmps.getD 4 undef = .pointer (some ⟨b4, 0, none⟩)) (h5 : tmps.getD 5 undef = v)
 (a : w.heap[b4]? = some (.cells #[x0, x1, x2, x3] 40 (0, 0))) : (results fn tmps).run Try.prog w = .ok (.tuple #[.agg #[x0, x1, x2, x3], v]) w := by
 rw [Array.getD_eq_getD_getElem?] at h4 h5
 have a0 : w.cell? ⟨b4, 0, none⟩ = some x0 := by simp [World.cell?, a]
 have a1 : w.cell? ⟨b4, 1, none⟩ = some x1 := by simp [World.cell?, a]
 have a2 : w.cell? ⟨b4, 2, none⟩ = some x2 := by simp [World.cell?, a]
 have a3 : w.cell? ⟨b4, 3, none⟩ = some x3 := by simp [World.cell?, a]
 clear a
 simp [results, h, h4, h5, go_sem, a0, a1, a2, a3]
theorem three_new (w : World) (o1 o2 o3 : Obj) : (((w.alloc o1).alloc o2).alloc o3).heap[w.heap.size + 1 + 1]? = some o3 ∧ Below w.heap.size w (((w.alloc o1).alloc o2).alloc o3) := by
 have := heap_new ((w.alloc o1).alloc o2) o3
 rw [World.size_alloc, World.size_alloc] at this
 exact ⟨this, (((Below.refl _ _).alloc (Nat.le_refl _) _).alloc (by simp) _).alloc (by simp; omega) _⟩
theorem four_set {w : World} {a b B : Nat} {x0 x1 x2 x3 y0 y1 y2 y3 v u0 u1 u2 u3 : Value} (ha : w.heap[a]? = some (.cells #[x0, x1, x2, x3] 40 (0, 0))) (hb : w.heap[b]? = some (.cells #[y0, y1, y2, y3] 40 (0, 0))) (hne : b ≠ a) (hA : B ≤ a) (hB : B ≤ b) :
 (((((w.setCell ⟨a, 3, none⟩ v).setCell ⟨b, 0, none⟩ u0).setCell ⟨b, 1, none⟩ u1).setCell ⟨b, 2, none⟩ u2).setCell ⟨b, 3, none⟩ u3).heap[b]? = some (.cells #[u0, u1, u2, u3] 40 (0, 0)) ∧
 Keep B [40] w (((((w.setCell ⟨a, 3, none⟩ v).setCell ⟨b, 0, none⟩ u0).setCell ⟨b, 1, none⟩ u1).setCell ⟨b, 2, none⟩ u2).setCell ⟨b, 3, none⟩ u3) := by
 have k0 : (w.setCell ⟨a, 3, none⟩ v).heap[b]? = some (.cells #[y0, y1, y2, y3] 40 (0, 0)) := (Below.heap_setCell _ _ _ _ hne).trans hb
 have k1 : ((w.setCell ⟨a, 3, none⟩ v).setCell ⟨b, 0, none⟩ u0).heap[b]? = some (.cells #[u0, y1, y2, y3] 40 (0, 0)) := nblk_set k0
 have k2 : (((w.setCell ⟨a, 3, none⟩ v).setCell ⟨b, 0, none⟩ u0).setCell ⟨b, 1, none⟩ u1).heap[b]? = some (.cells #[u0, u1, y2, y3] 40 (0, 0)) := nblk_set k1
 have k3 : ((((w.setCell ⟨a, 3, none⟩ v).setCell ⟨b, 0, none⟩ u0).setCell ⟨b, 1, none⟩ u1).setCell ⟨b, 2, none⟩ u2).heap[b]? = some (.cells #[u0, u1, u2, y3] 40 (0, 0)) := nblk_set k2
 refine ⟨nblk_set k3, ?_⟩
 exact ((((keep_set (ts := [40]) ha (by simp) hA ⟨a, 3, none⟩ rfl v).trans (keep_set k0 (by simp) hB ⟨b, 0, none⟩ rfl u0)).trans (keep_set k1 (by simp) hB ⟨b, 1, none⟩ rfl u1)).trans (keep_set k2 (by simp) hB ⟨b, 2, none⟩ rfl u2)).trans (keep_set k3 (by simp) hB ⟨b, 3, none⟩ rfl u3)
set_option maxRecDepth 100000 in
set_option maxHeartbeats 4000000 in
theorem one_any (x y : QV5) (w : World) (hx : AtRow w (qv x) x.1.attrs) (hy : AtRow w (qv y) y.1.attrs) (sx : Sized x.1.attrs) (sy : Sized y.1.attrs) :
 Calls Try.prog 26 #[opAgg x.1 (qv x), opAgg y.1 (qv y)] w (OneOut w x y) := by
 obtain ⟨W, hW⟩ : ∃ W, W = ((w.alloc (.cells #[.int .i64 x.1.kind, .int .i64 x.1.n, .string x.1.text, qv x] 40)).alloc (.cells #[.int .i64 y.1.kind, .int .i64 y.1.n, .string y.1.text, qv y] 40)).alloc (.cells #[.int .i64 0, .int .i64 0, .string ⟨#[]⟩, .slice none 0 0] 40) := ⟨_, rfl⟩
 have BW := Lib.hid (show Below w.heap.size w W by rw [hW]; exact (((Below.refl _ _).alloc (Nat.le_refl _) _).alloc (by simp) _).alloc (by simp; omega) _)
 have HX := Lib.hid hx
 have HY := Lib.hid hy
 have HAP := Lib.hid (applyD_any (qv x) (qv y) x.1.attrs y.1.attrs W (hx.below BW.out) (hy.below BW.out) sx sy)
 have HCO := Lib.hid (composeD_any (qv x) (qv y) x.1.attrs y.1.attrs W (hx.below BW.out) (hy.below BW.out) sx sy)
 have hX : W.heap[w.heap.size]? = some (.cells #[.int .i64 x.1.kind, .int .i64 x.1.n, .string x.1.text, qv x] 40 (0, 0)) := by rw [hW]; exact (Below.heap_alloc _ _ _ (by simp; omega)).trans ((Below.heap_alloc _ _ _ (by simp)).trans (heap_new _ _))
 have hR : W.heap[w.heap.size + 1 + 1]? = some (.cells #[.int .i64 0, .int .i64 0, .string ⟨#[]⟩, .slice none 0 0] 40 (0, 0)) := by
  rw [hW]
  have := heap_new ((w.alloc (.cells #[.int .i64 x.1.kind, .int .i64 x.1.n, .string x.1.text, qv x] 40)).alloc (.cells #[.int .i64 y.1.kind, .int .i64 y.1.n, .string y.1.text, qv y] 40)) (.cells #[.int .i64 0, .int .i64 0, .string ⟨#[]⟩, .slice none 0 0] 40)
  rwa [World.size_alloc, World.size_alloc] at this
 have HXX := Lib.hid hX
 have HRR := Lib.hid hR
 have HW := Lib.hid hW
 clear hW hx hy sx sy hX hR
 unfold OneOut
 by_cases k1 : x.1.kind = 3
 ·have t1 : (x.1.kind == 3) = true := by rw [k1]; rfl
  have eO : oneO x.1 y.1 = x.1 := by unfold oneO; rw [if_pos k1]
  have eE : oneE x.1 y.1 = 0 := by unfold oneE; rw [if_pos k1]
  rw [eO, eE]
  clear k1 eO eE
  go_enter Try.func26, Try.ntmps26
  go_wp2_with fail
  refine bodyPost_ret (results_one rfl rfl rfl (three_new _ _ _ _).1) rfl ?_
  exact ⟨_, _, rfl, .inr (.inl ⟨rfl, rfl⟩), (three_new _ _ _ _).2⟩
 ·have t1 : (x.1.kind == 3) = false := by rw [beq_eq_false_iff_ne]; exact k1
  by_cases k2 : y.1.kind = 2
  ·have t2 : (y.1.kind == 2) = true := by rw [k2]; rfl
   have eO : oneO x.1 y.1 = y.1 := by unfold oneO; rw [if_neg k1, if_pos k2]
   have eE : oneE x.1 y.1 = 0 := by unfold oneE; rw [if_neg k1, if_pos k2]
   rw [eO, eE]
   clear k1 k2 eO eE
   go_enter Try.func26, Try.ntmps26
   go_wp2_with fail
   refine bodyPost_ret (results_one rfl rfl rfl (three_new _ _ _ _).1) rfl ?_
   exact ⟨_, _, rfl, .inr (.inr ⟨rfl, rfl⟩), (three_new _ _ _ _).2⟩
  ·have t2 : (y.1.kind == 2) = false := by rw [beq_eq_false_iff_ne]; exact k2
   by_cases k3 : y.1.kind = 3
   ·have t3 : (y.1.kind == 3) = true := by rw [k3]; rfl
    by_cases k4 : x.1.kind = 2
    ·have t4 : (x.1.kind == 2) = true := by rw [k4]; rfl
     have eO : oneO x.1 y.1 = zeroO := by unfold oneO; rw [if_neg k1, if_neg k2, if_pos k3, if_pos k4]
     have eE : oneE x.1 y.1 = 0 := by unfold oneE; rw [if_neg k1, if_neg k2, if_pos k3]
     rw [eO, eE]
     clear k1 k2 k3 k4 eO eE
     go_enter Try.func26, Try.ntmps26
     go_wp2_with fail
     refine bodyPost_ret (results_one rfl rfl rfl (three_new _ _ _ _).1) rfl ?_
     exact ⟨_, _, rfl, .inl ⟨0, World.ownsRow_nil _ _ _ _⟩, (three_new _ _ _ _).2⟩
    ·have t4 : (x.1.kind == 2) = false := by rw [beq_eq_false_iff_ne]; exact k4
     have eO : oneO x.1 y.1 = y.1 := by unfold oneO; rw [if_neg k1, if_neg k2, if_pos k3, if_neg k4]
     have eE : oneE x.1 y.1 = 0 := by unfold oneE; rw [if_neg k1, if_neg k2, if_pos k3]
     rw [eO, eE]
     clear k1 k2 k3 k4 eO eE
     go_enter Try.func26, Try.ntmps26
     go_wp2_with fail
     refine bodyPost_ret (results_one rfl rfl rfl (three_new _ _ _ _).1) rfl ?_
     exact ⟨_, _, rfl, .inr (.inr ⟨rfl, rfl⟩), (three_new _ _ _ _).2⟩
   ·have t3 : (y.1.kind == 3) = false := by rw [beq_eq_false_iff_ne]; exact k3
    by_cases k4 : x.1.kind = 2
    ·have t4 : (x.1.kind == 2) = true := by rw [k4]; rfl
     have eO : oneO x.1 y.1 = { x.1 with attrs := applyR x.1.attrs y.1.attrs } := by unfold oneO; rw [if_neg k1, if_neg k2, if_neg k3, if_pos k4]
     have eE : oneE x.1 y.1 = applyE x.1.attrs y.1.attrs := by unfold oneE; rw [if_neg k1, if_neg k2, if_neg k3, if_pos k4]
     rw [eO, eE]
     clear k1 k2 k3 k4 eO eE
     go_enter Try.func26, Try.ntmps26
     go_wp2_with fail
     rw [show ((w.alloc (Obj.cells #[Value.int IntKind.i64 x.1.kind, Value.int IntKind.i64 x.1.n, Value.string x.1.text, qv x] 40)).alloc (Obj.cells #[Value.int IntKind.i64 y.1.kind, Value.int IntKind.i64 y.1.n, Value.string y.1.text, qv y] 40)).alloc (Obj.cells #[Value.int IntKind.i64 0, Value.int IntKind.i64 0, Value.string ⟨#[]⟩, Value.slice none 0 0] 40) = W from HW.out.symm]
     refine HAP.out.mono ?_
     rintro e w1 ⟨rv, rfl, hRow, b⟩
     obtain ⟨ra, rcap, rfl⟩ := own_slice hRow
     have B1 := Lib.hid (BW.out.trans (b.mono BW.out.size))
     have z0 := (b.block _ (lt_of_heap HXX.out)).trans HXX.out
     have z2 := (b.block _ (lt_of_heap HRR.out)).trans HRR.out
     have Z0 := Lib.hid z0
     have Z2 := Lib.hid z2
     have HROW := Lib.hid hRow
     have l2 := lt_of_heap z2
     have a0 : w1.cell? ⟨w.heap.size, 0, none⟩ = some (.int .i64 x.1.kind) := by simp [World.cell?, z0]
     have a1 : w1.cell? ⟨w.heap.size, 1, none⟩ = some (.int .i64 x.1.n) := by simp [World.cell?, z0]
     have a2 : w1.cell? ⟨w.heap.size, 2, none⟩ = some (.string x.1.text) := by simp [World.cell?, z0]
     have a3 : w1.cell? ⟨w.heap.size, 3, none⟩ = some (.slice x.2.1 x.1.attrs.length x.2.2) := by simp [World.cell?, z0]
     have f0 : ∀ j, w1.frozen? ⟨w.heap.size, j, none⟩ = false := fun j => by simp [World.frozen?, z0]
     have g0 : w1.cell? ⟨w.heap.size + 1 + 1, 0, none⟩ = some (.int .i64 0) := by simp [World.cell?, z2]
     have g1 : w1.cell? ⟨w.heap.size + 1 + 1, 1, none⟩ = some (.int .i64 0) := by simp [World.cell?, z2]
     have g2 : w1.cell? ⟨w.heap.size + 1 + 1, 2, none⟩ = some (.string ⟨#[]⟩) := by simp [World.cell?, z2]
     have g3 : w1.cell? ⟨w.heap.size + 1 + 1, 3, none⟩ = some (.slice none 0 0) := by simp [World.cell?, z2]
     have g4 : ∀ j, w1.frozen? ⟨w.heap.size + 1 + 1, j, none⟩ = false := fun j => by simp [World.frozen?, z2]
     clear b z0 z2 hRow
     go_wp2_with fail
     obtain ⟨q1, q2⟩ := four_set (v := .slice ra (applyR x.1.attrs y.1.attrs).length rcap) (u0 := .int .i64 x.1.kind) (u1 := .int .i64 x.1.n) (u2 := .string x.1.text) (u3 := .slice ra (applyR x.1.attrs y.1.attrs).length rcap) Z0.out Z2.out (show w.heap.size + 1 + 1 ≠ w.heap.size by omega) (Nat.le_refl _) (by omega)
     refine bodyPost_ret (results_one rfl rfl rfl q1) rfl ?_
     exact ⟨ra, rcap, rfl, .inl ⟨_, q2.own HROW.out (by decide)⟩, B1.out.trans q2.below⟩
    ·have t4 : (x.1.kind == 2) = false := by rw [beq_eq_false_iff_ne]; exact k4
     have eO : oneO x.1 y.1 = { x.1 with attrs := composeR x.1.attrs y.1.attrs } := by unfold oneO; rw [if_neg k1, if_neg k2, if_neg k3, if_neg k4]
     have eE : oneE x.1 y.1 = composeE x.1.attrs y.1.attrs := by unfold oneE; rw [if_neg k1, if_neg k2, if_neg k3, if_neg k4]
     rw [eO, eE]
     clear k1 k2 k3 k4 eO eE
     go_enter Try.func26, Try.ntmps26
     go_wp2_with fail
     rw [show ((w.alloc (Obj.cells #[Value.int IntKind.i64 x.1.kind, Value.int IntKind.i64 x.1.n, Value.string x.1.text, qv x] 40)).alloc (Obj.cells #[Value.int IntKind.i64 y.1.kind, Value.int IntKind.i64 y.1.n, Value.string y.1.text, qv y] 40)).alloc (Obj.cells #[Value.int IntKind.i64 0, Value.int IntKind.i64 0, Value.string ⟨#[]⟩, Value.slice none 0 0] 40) = W from HW.out.symm]
     refine HCO.out.mono ?_
     rintro e w1 ⟨rv, rfl, hRow, b⟩
     obtain ⟨ra, rcap, rfl⟩ := own_slice hRow
     have B1 := Lib.hid (BW.out.trans (b.mono BW.out.size))
     have z0 := (b.block _ (lt_of_heap HXX.out)).trans HXX.out
     have z2 := (b.block _ (lt_of_heap HRR.out)).trans HRR.out
     have Z0 := Lib.hid z0
     have Z2 := Lib.hid z2
     have HROW := Lib.hid hRow
     have l2 := lt_of_heap z2
     have a0 : w1.cell? ⟨w.heap.size, 0, none⟩ = some (.int .i64 x.1.kind) := by simp [World.cell?, z0]
     have a1 : w1.cell? ⟨w.heap.size, 1, none⟩ = some (.int .i64 x.1.n) := by simp [World.cell?, z0]
     have a2 : w1.cell? ⟨w.heap.size, 2, none⟩ = some (.string x.1.text) := by simp [World.cell?, z0]
     have a3 : w1.cell? ⟨w.heap.size, 3, none⟩ = some (.slice x.2.1 x.1.attrs.length x.2.2) := by simp [World.cell?, z0]
     have f0 : ∀ j, w1.frozen? ⟨w.heap.size, j, none⟩ = false := fun j => by simp [World.frozen?, z0]
     have g0 : w1.cell? ⟨w.heap.size + 1 + 1, 0, none⟩ = some (.int .i64 0) := by simp [World.cell?, z2]
     have g1 : w1.cell? ⟨w.heap.size + 1 + 1, 1, none⟩ = some (.int .i64 0) := by simp [World.cell?, z2]
     have g2 : w1.cell? ⟨w.heap.size + 1 + 1, 2, none⟩ = some (.string ⟨#[]⟩) := by simp [World.cell?, z2]
     have g3 : w1.cell? ⟨w.heap.size + 1 + 1, 3, none⟩ = some (.slice none 0 0) := by simp [World.cell?, z2]
     have g4 : ∀ j, w1.frozen? ⟨w.heap.size + 1 + 1, j, none⟩ = false := fun j => by simp [World.frozen?, z2]
     clear b z0 z2 hRow
     go_wp2_with fail
     obtain ⟨q1, q2⟩ := four_set (v := .slice ra (composeR x.1.attrs y.1.attrs).length rcap) (u0 := .int .i64 x.1.kind) (u1 := .int .i64 x.1.n) (u2 := .string x.1.text) (u3 := .slice ra (composeR x.1.attrs y.1.attrs).length rcap) Z0.out Z2.out (show w.heap.size + 1 + 1 ≠ w.heap.size by omega) (Nat.le_refl _) (by omega)
     refine bodyPost_ret (results_one rfl rfl rfl q1) rfl ?_
     exact ⟨ra, rcap, rfl, .inl ⟨_, q2.own HROW.out (by decide)⟩, B1.out.trans q2.below⟩
end Go.Proofs.Ytchceolbbkhnnaa

/- The program's normal: two changesets in their normal forms, if the one goes on where the other ends. -/
namespace Go.Proofs.Ytchceolbbkhnnaa
open Go.RowKit Rn Ch
open At hiding put

def nrmE (f g : Int) (A C : List OpD) : Int := if toE f A ≠ 0 then toE f A else if toE g C ≠ 0 then toE g C else if toN f A ≠ g then 31 else 0
def Nrm5Out (w : World) (f g : Int) (A C : List OpD) (e : Ending) (w' : World) : Prop :=
 Below w.heap.size w w' ∧ ∃ (x0 y0 : Int) (ua va : Option Addr) (un uc vn vc : Nat), e = .returned (.tuple #[chAgg x0 (.slice ua un uc), chAgg y0 (.slice va vn vc), .int .i64 (nrmE f g A C)]) ∧
  (nrmE f g A C = 0 → x0 = f ∧ y0 = g ∧ OwnOps w' w.heap.size (.slice ua un uc) (norm A) ∧ OwnOps w' w.heap.size (.slice va vn vc) (norm C))
theorem results_nrm {fn : Func} (h : fn.results = #[.cell 4 24, .cell 5 24, .tmp 6]) {tmps : Array Value} {w : World} {b4 b5 : Nat} {x0 x1 y0 y1 v : Value} (h4 : tmps.getD 4 undef = .pointer (some ⟨b4, 0, none⟩)) (h5 : tmps.getD 5 undef = .pointer (some ⟨b5, 0, none⟩)) (h6 : tmps.getD 6 undef = v)
 (a : w.heap[b4]? = some (.cells #[x0, x1] 24 (0, 0))) (b : w.heap[b5]? = some (.cells #[y0, y1] 24 (0, 0))) : (results fn tmps).run Try.prog w = .ok (.tuple #[.agg #[x0, x1], .agg #[y0, y1], v]) w := by
 rw [Array.getD_eq_getD_getElem?] at h4 h5 h6
 have a0 : w.cell? ⟨b4, 0, none⟩ = some x0 := by simp [World.cell?, a]
 have a1 : w.cell? ⟨b4, 1, none⟩ = some x1 := by simp [World.cell?, a]
 have c0 : w.cell? ⟨b5, 0, none⟩ = some y0 := by simp [World.cell?, b]
 have c1 : w.cell? ⟨b5, 1, none⟩ = some y1 := by simp [World.cell?, b]
 clear a b
 simp [results, h, h4, h5, h6, go_sem, a0, a1, c0, c1]
theorem own_nil_slice {w : World} {B : Nat} {v : Value} {l : List OpD} (h : OwnOps w B v l) : ∃ a c, v = .slice a l.length c := by
 obtain ⟨ps, hps, hP⟩ := h
 obtain ⟨a, c, rfl⟩ := own_slice hP.1
 exact ⟨a, c, by rw [← hps, List.length_map]⟩
theorem OwnOps.keep' {w w' : World} {B C : Nat} {v : Value} {l : List OpD} {ts : List TypeId} (h : OwnOps w B v l) (hk : Keep C ts w w') (h1 : 40 ∉ ts) (h2 : 81 ∉ ts) : OwnOps w' B v l := by
 obtain ⟨ps, hps, hP⟩ := h
 exact ⟨ps, hps, hk.own hP.1 h1, fun p hp => hk.own (hP.2 p hp) h2⟩
theorem OwnOps.base' {w : World} {B C : Nat} {v : Value} {l : List OpD} (h : OwnOps w B v l) (hC : C ≤ B) : OwnOps w C v l := by
 obtain ⟨ps, hps, hP⟩ := h
 exact ⟨ps, hps, own_base hP.1 hC, fun p hp => own_base (hP.2 p hp) hC⟩
/-- Two cells of each of two blocks are written. -/
theorem set22 {w : World} {a b B : Nat} {x0 x1 y0 y1 u0 u1 v0 v1 : Value} (ha : w.heap[a]? = some (.cells #[x0, x1] 24 (0, 0))) (hb : w.heap[b]? = some (.cells #[y0, y1] 24 (0, 0))) (hne : b ≠ a) (hA : B ≤ a) (hB : B ≤ b) :
 ((((w.setCell ⟨a, 0, none⟩ u0).setCell ⟨a, 1, none⟩ u1).setCell ⟨b, 0, none⟩ v0).setCell ⟨b, 1, none⟩ v1).heap[a]? = some (.cells #[u0, u1] 24 (0, 0)) ∧ ((((w.setCell ⟨a, 0, none⟩ u0).setCell ⟨a, 1, none⟩ u1).setCell ⟨b, 0, none⟩ v0).setCell ⟨b, 1, none⟩ v1).heap[b]? = some (.cells #[v0, v1] 24 (0, 0)) ∧
 Keep B [24] w ((((w.setCell ⟨a, 0, none⟩ u0).setCell ⟨a, 1, none⟩ u1).setCell ⟨b, 0, none⟩ v0).setCell ⟨b, 1, none⟩ v1) := by
 have k1 : (w.setCell ⟨a, 0, none⟩ u0).heap[a]? = some (.cells #[u0, x1] 24 (0, 0)) := nblk_set ha
 have k2 : ((w.setCell ⟨a, 0, none⟩ u0).setCell ⟨a, 1, none⟩ u1).heap[a]? = some (.cells #[u0, u1] 24 (0, 0)) := nblk_set k1
 have j2 : ((w.setCell ⟨a, 0, none⟩ u0).setCell ⟨a, 1, none⟩ u1).heap[b]? = some (.cells #[y0, y1] 24 (0, 0)) := (Below.heap_setCell _ _ _ _ hne).trans ((Below.heap_setCell _ _ _ _ hne).trans hb)
 have j3 : (((w.setCell ⟨a, 0, none⟩ u0).setCell ⟨a, 1, none⟩ u1).setCell ⟨b, 0, none⟩ v0).heap[b]? = some (.cells #[v0, y1] 24 (0, 0)) := nblk_set j2
 refine ⟨(Below.heap_setCell _ _ _ _ (Ne.symm hne)).trans ((Below.heap_setCell _ _ _ _ (Ne.symm hne)).trans k2), nblk_set j3, ?_⟩
 exact (((keep_set (ts := [24]) ha (by simp) hA ⟨a, 0, none⟩ rfl u0).trans (keep_set k1 (by simp) hA ⟨a, 1, none⟩ rfl u1)).trans (keep_set j2 (by simp) hB ⟨b, 0, none⟩ rfl v0)).trans (keep_set j3 (by simp) hB ⟨b, 1, none⟩ rfl v1)
set_option maxRecDepth 100000 in
set_option maxHeartbeats 4000000 in
theorem normal5_any (f g : Int) (va vb : Value) (A C : List OpD) (w : World) (hv : OpRow w va A) (hz : OSized A) (hu : OpRow w vb C) (hy : OSized C) :
 Calls Try.prog 23 #[chAgg f va, chAgg g vb] w (Nrm5Out w f g A C) := by
 obtain ⟨W, hW⟩ : ∃ W, W = (((w.alloc (.cells #[.int .i64 f, va] 24)).alloc (.cells #[.int .i64 g, vb] 24)).alloc (.cells #[.int .i64 0, .slice none 0 0] 24)).alloc (.cells #[.int .i64 0, .slice none 0 0] 24) := ⟨_, rfl⟩
 have BW := Lib.hid (show Below w.heap.size w W by rw [hW]; exact ((((Below.refl _ _).alloc (Nat.le_refl _) _).alloc (by simp) _).alloc (by simp; omega) _).alloc (by simp; omega) _)
 have k1 : W.heap[w.heap.size + 1]? = some (.cells #[.int .i64 g, vb] 24 (0, 0)) := by
  rw [hW]
  have := heap_new (w.alloc (.cells #[.int .i64 f, va] 24)) (.cells #[.int .i64 g, vb] 24)
  rw [World.size_alloc] at this
  exact (Below.heap_alloc _ _ _ (by simp)).trans ((Below.heap_alloc _ _ _ (by simp)).trans this)
 have k2 : W.heap[w.heap.size + 1 + 1]? = some (.cells #[.int .i64 0, .slice none 0 0] 24 (0, 0)) := by
  rw [hW]
  exact (Below.heap_alloc _ _ _ (by simp)).trans (by
   have := heap_new ((w.alloc (.cells #[.int .i64 f, va] 24)).alloc (.cells #[.int .i64 g, vb] 24)) (.cells #[.int .i64 0, .slice none 0 0] 24)
   rwa [World.size_alloc, World.size_alloc] at this)
 have k3 : W.heap[w.heap.size + 1 + 1 + 1]? = some (.cells #[.int .i64 0, .slice none 0 0] 24 (0, 0)) := by
  rw [hW]
  have := heap_new (((w.alloc (.cells #[.int .i64 f, va] 24)).alloc (.cells #[.int .i64 g, vb] 24)).alloc (.cells #[.int .i64 0, .slice none 0 0] 24)) (.cells #[.int .i64 0, .slice none 0 0] 24)
  rwa [World.size_alloc, World.size_alloc, World.size_alloc] at this
 have HK := Lib.hid (And.intro k1 (And.intro k2 k3))
 have HU := Lib.hid (fun X (hb : Below w.heap.size w X) => hu.below hb)
 have HV := Lib.hid (hv.below BW.out)
 have HZ := Lib.hid hz
 have HYZ := Lib.hid hy
 obtain ⟨aa, ac, rfl⟩ := hv.shape
 obtain ⟨ca, cc, rfl⟩ := hu.shape
 have HW := Lib.hid hW
 clear hW k1 k2 k3 hv hu hz hy
 by_cases hA : toE f A = 0
 ·have HN := Lib.hid (normal_ok f _ A W HV.out HZ.out hA)
  have HEA := Lib.hid hA
  clear hA
  by_cases hC : toE g C = 0
  ·have HNB := Lib.hid (fun Y (h : Below w.heap.size w Y) => normal_ok g _ C Y (HU.out Y h) HYZ.out hC)
   have hEE : nrmE f g A C = if toN f A ≠ g then 31 else 0 := by unfold nrmE; rw [if_neg (by rw [HEA.out]; simp), if_neg (by rw [hC]; simp)]
   have HNT := Lib.hid (And.intro (norm_to HEA.out).2 (norm_to HEA.out).1)
   have HNS := Lib.hid (show OSized (norm A) from fun o ho => by
    have hvo := vop_of ((toE_iff f (norm A)).1 (norm_to HEA.out).1) ho
    exact ⟨by have := hvo.text; unfold maxLen; omega, hvo.attrs.sized⟩)
   unfold Nrm5Out
   rw [hEE]
   clear hC hEE
   generalize toN f A = nn at HNT ⊢
   by_cases hm : nn = g
   ·have tm : (nn != g) = false := by rw [hm]; simp
    rw [if_neg (by simpa using hm)]
    have HM := Lib.hid hm
    clear hm
    go_enter Try.func23, Try.ntmps23
    go_wp2_with fail
    rw [← HW.out]
    refine HN.out.mono ?_
    rintro e w1 ⟨u, rfl, hO, b⟩
    obtain ⟨ua, uc, rfl⟩ := own_nil_slice hO
    have B1 := Lib.hid (BW.out.trans (b.mono BW.out.size))
    have z1 := (b.block _ (lt_of_heap HK.out.1)).trans HK.out.1
    have z2 := (b.block _ (lt_of_heap HK.out.2.1)).trans HK.out.2.1
    have z3 := (b.block _ (lt_of_heap HK.out.2.2)).trans HK.out.2.2
    obtain ⟨p0, p1, p2, p3⟩ := cells2 z2
    obtain ⟨n0, n1, _, _⟩ := cells2 z1
    have l1 := lt_of_heap z1
    have l2 := lt_of_heap z2
    have l3 := lt_of_heap z3
    obtain ⟨Y, hY, y2, y1, y3, yk⟩ : ∃ Y, Y = (w1.setCell ⟨w.heap.size + 1 + 1, 0, none⟩ (.int .i64 f)).setCell ⟨w.heap.size + 1 + 1, 1, none⟩ (.slice ua (norm A).length uc) ∧ Y.heap[w.heap.size + 1 + 1]? = some (.cells #[.int .i64 f, .slice ua (norm A).length uc] 24 (0, 0)) ∧ Y.heap[w.heap.size + 1]? = some (.cells #[.int .i64 g, .slice ca C.length cc] 24 (0, 0)) ∧ Y.heap[w.heap.size + 1 + 1 + 1]? = some (.cells #[.int .i64 0, .slice none 0 0] 24 (0, 0)) ∧ Keep (w.heap.size + 1 + 1) [24] w1 Y := by
     obtain ⟨r1, r2, r3⟩ := agg_set (.int .i64 f) (.slice ua (norm A).length uc) z2
     exact ⟨_, rfl, r1, (r3 _ (by omega)).trans z1, (r3 _ (by omega)).trans z3, r2⟩
    have BY := Lib.hid (B1.out.trans (yk.below.mono (by omega)))
    have OY := Lib.hid ((hO.keep' yk (by decide) (by decide)).base' (show w.heap.size ≤ W.heap.size from BW.out.size))
    have YY := Lib.hid (And.intro y2 (And.intro y1 y3))
    have HYE := Lib.hid hY
    clear b hO z1 z2 z3 y1 y2 y3 yk hY HK HN
    go_wp2_with fail
    rw [← HYE.out]
    refine (HNB.out Y BY.out).mono ?_
    rintro e w2 ⟨u2, rfl, hO2, b⟩
    obtain ⟨va, vc, rfl⟩ := own_nil_slice hO2
    have B2 := Lib.hid (BY.out.trans (b.mono BY.out.size))
    have z2 := (b.block _ (lt_of_heap YY.out.1)).trans YY.out.1
    have z3 := (b.block _ (lt_of_heap YY.out.2.2)).trans YY.out.2.2
    obtain ⟨g0, g1, g2, g3⟩ := cells2 z2
    obtain ⟨q0, q1, q2, q3⟩ := cells2 z3
    have m2 := lt_of_heap z2
    have m3 := lt_of_heap z3
    obtain ⟨X, hX, x3, x2, xk⟩ : ∃ X, X = (w2.setCell ⟨w.heap.size + 1 + 1 + 1, 0, none⟩ (.int .i64 g)).setCell ⟨w.heap.size + 1 + 1 + 1, 1, none⟩ (.slice va (norm C).length vc) ∧ X.heap[w.heap.size + 1 + 1 + 1]? = some (.cells #[.int .i64 g, .slice va (norm C).length vc] 24 (0, 0)) ∧ X.heap[w.heap.size + 1 + 1]? = some (.cells #[.int .i64 f, .slice ua (norm A).length uc] 24 (0, 0)) ∧ Keep (w.heap.size + 1 + 1 + 1) [24] w2 X := by
     obtain ⟨r1, r2, r3⟩ := agg_set (.int .i64 g) (.slice va (norm C).length vc) z3
     exact ⟨_, rfl, r1, (r3 _ (by omega)).trans z2, r2⟩
    have BX := Lib.hid (B2.out.trans (xk.below.mono (by omega)))
    have OX := Lib.hid (And.intro ((OwnOps.keep' (ts := []) OY.out (keep_below (B := w.heap.size) b (by have := BY.out.size; omega)) (by simp) (by simp)).keep' xk (by decide) (by decide)) ((hO2.keep' xk (by decide) (by decide)).base' (show w.heap.size ≤ Y.heap.size from BY.out.size)))
    have HTO := Lib.hid (to_any f (.slice ua (norm A).length uc) (norm A) X (by obtain ⟨ps, hps, hP⟩ := OX.out.1; rw [← hps]; rw [← hps] at hP; exact hP.row) HNS.out)
    unfold ToOut at HTO
    rw [HNT.out.1, HNT.out.2] at HTO
    have XX := Lib.hid (And.intro x2 x3)
    have HXE := Lib.hid hX
    clear b hO2 z2 z3 x2 x3 xk hX HNB
    go_wp2_with fail
    rw [← HXE.out]
    refine HTO.out.mono ?_
    rintro e w3 ⟨rfl, b⟩
    have B3 := Lib.hid (BX.out.trans (b.mono BX.out.size))
    have z2 := (b.block _ (lt_of_heap XX.out.1)).trans XX.out.1
    have z3 := (b.block _ (lt_of_heap XX.out.2)).trans XX.out.2
    have O3 := Lib.hid (And.intro (OwnOps.keep' (ts := []) OX.out.1 (keep_below (B := w.heap.size) b (by have := BX.out.size; omega)) (by simp) (by simp)) (OwnOps.keep' (ts := []) OX.out.2 (keep_below (B := w.heap.size) b (by have := BX.out.size; omega)) (by simp) (by simp)))
    obtain ⟨g0', g1', g2', g3'⟩ := cells2 z2
    obtain ⟨q0', q1', q2', q3'⟩ := cells2 z3
    have m2' := lt_of_heap z2
    have m3' := lt_of_heap z3
    have Z2 := Lib.hid z2
    have Z3 := Lib.hid z3
    clear b z2 z3 HTO
    go_wp2_with fail
    go_region
    go_wp2_with fail
    obtain ⟨s1, s2, s3⟩ := set22 (u0 := .int .i64 f) (u1 := .slice ua (norm A).length uc) (v0 := .int .i64 g) (v1 := .slice va (norm C).length vc) Z2.out Z3.out (show w.heap.size + 1 + 1 + 1 ≠ w.heap.size + 1 + 1 by omega) (show w.heap.size ≤ w.heap.size + 1 + 1 by omega) (by omega)
    refine bodyPost_ret (results_nrm rfl rfl rfl rfl s1 s2) rfl ?_
    have o1 := O3.out.1.keep' (ts := [24]) s3 (by decide) (by decide)
    have o2 := O3.out.2.keep' (ts := [24]) s3 (by decide) (by decide)
    exact ⟨(B3.out.trans (s3.below.mono (by omega))).drew, f, g, ua, va, (norm A).length, uc, (norm C).length, vc, rfl, fun _ => ⟨rfl, rfl, o1, o2⟩⟩
   ·have tm : (nn != g) = true := by rw [bne_iff_ne]; exact hm
    rw [if_pos hm]
    have HM := Lib.hid hm
    clear hm
    go_enter Try.func23, Try.ntmps23
    go_wp2_with fail
    rw [← HW.out]
    refine HN.out.mono ?_
    rintro e w1 ⟨u, rfl, hO, b⟩
    obtain ⟨ua, uc, rfl⟩ := own_nil_slice hO
    have B1 := Lib.hid (BW.out.trans (b.mono BW.out.size))
    have z1 := (b.block _ (lt_of_heap HK.out.1)).trans HK.out.1
    have z2 := (b.block _ (lt_of_heap HK.out.2.1)).trans HK.out.2.1
    have z3 := (b.block _ (lt_of_heap HK.out.2.2)).trans HK.out.2.2
    obtain ⟨p0, p1, p2, p3⟩ := cells2 z2
    obtain ⟨n0, n1, _, _⟩ := cells2 z1
    have l1 := lt_of_heap z1
    have l2 := lt_of_heap z2
    have l3 := lt_of_heap z3
    obtain ⟨Y, hY, y2, y1, y3, yk⟩ : ∃ Y, Y = (w1.setCell ⟨w.heap.size + 1 + 1, 0, none⟩ (.int .i64 f)).setCell ⟨w.heap.size + 1 + 1, 1, none⟩ (.slice ua (norm A).length uc) ∧ Y.heap[w.heap.size + 1 + 1]? = some (.cells #[.int .i64 f, .slice ua (norm A).length uc] 24 (0, 0)) ∧ Y.heap[w.heap.size + 1]? = some (.cells #[.int .i64 g, .slice ca C.length cc] 24 (0, 0)) ∧ Y.heap[w.heap.size + 1 + 1 + 1]? = some (.cells #[.int .i64 0, .slice none 0 0] 24 (0, 0)) ∧ Keep (w.heap.size + 1 + 1) [24] w1 Y := by
     obtain ⟨r1, r2, r3⟩ := agg_set (.int .i64 f) (.slice ua (norm A).length uc) z2
     exact ⟨_, rfl, r1, (r3 _ (by omega)).trans z1, (r3 _ (by omega)).trans z3, r2⟩
    have BY := Lib.hid (B1.out.trans (yk.below.mono (by omega)))
    have OY := Lib.hid ((hO.keep' yk (by decide) (by decide)).base' (show w.heap.size ≤ W.heap.size from BW.out.size))
    have YY := Lib.hid (And.intro y2 (And.intro y1 y3))
    have HYE := Lib.hid hY
    clear b hO z1 z2 z3 y1 y2 y3 yk hY HK HN
    go_wp2_with fail
    rw [← HYE.out]
    refine (HNB.out Y BY.out).mono ?_
    rintro e w2 ⟨u2, rfl, hO2, b⟩
    obtain ⟨va, vc, rfl⟩ := own_nil_slice hO2
    have B2 := Lib.hid (BY.out.trans (b.mono BY.out.size))
    have z2 := (b.block _ (lt_of_heap YY.out.1)).trans YY.out.1
    have z3 := (b.block _ (lt_of_heap YY.out.2.2)).trans YY.out.2.2
    obtain ⟨g0, g1, g2, g3⟩ := cells2 z2
    obtain ⟨q0, q1, q2, q3⟩ := cells2 z3
    have m2 := lt_of_heap z2
    have m3 := lt_of_heap z3
    obtain ⟨X, hX, x3, x2, xk⟩ : ∃ X, X = (w2.setCell ⟨w.heap.size + 1 + 1 + 1, 0, none⟩ (.int .i64 g)).setCell ⟨w.heap.size + 1 + 1 + 1, 1, none⟩ (.slice va (norm C).length vc) ∧ X.heap[w.heap.size + 1 + 1 + 1]? = some (.cells #[.int .i64 g, .slice va (norm C).length vc] 24 (0, 0)) ∧ X.heap[w.heap.size + 1 + 1]? = some (.cells #[.int .i64 f, .slice ua (norm A).length uc] 24 (0, 0)) ∧ Keep (w.heap.size + 1 + 1 + 1) [24] w2 X := by
     obtain ⟨r1, r2, r3⟩ := agg_set (.int .i64 g) (.slice va (norm C).length vc) z3
     exact ⟨_, rfl, r1, (r3 _ (by omega)).trans z2, r2⟩
    have BX := Lib.hid (B2.out.trans (xk.below.mono (by omega)))
    have OX := Lib.hid (And.intro ((OwnOps.keep' (ts := []) OY.out (keep_below (B := w.heap.size) b (by have := BY.out.size; omega)) (by simp) (by simp)).keep' xk (by decide) (by decide)) ((hO2.keep' xk (by decide) (by decide)).base' (show w.heap.size ≤ Y.heap.size from BY.out.size)))
    have HTO := Lib.hid (to_any f (.slice ua (norm A).length uc) (norm A) X (by obtain ⟨ps, hps, hP⟩ := OX.out.1; rw [← hps]; rw [← hps] at hP; exact hP.row) HNS.out)
    unfold ToOut at HTO
    rw [HNT.out.1, HNT.out.2] at HTO
    have XX := Lib.hid (And.intro x2 x3)
    have HXE := Lib.hid hX
    clear b hO2 z2 z3 x2 x3 xk hX HNB
    go_wp2_with fail
    rw [← HXE.out]
    refine HTO.out.mono ?_
    rintro e w3 ⟨rfl, b⟩
    have B3 := Lib.hid (BX.out.trans (b.mono BX.out.size))
    have z2 := (b.block _ (lt_of_heap XX.out.1)).trans XX.out.1
    have z3 := (b.block _ (lt_of_heap XX.out.2)).trans XX.out.2
    have O3 := Lib.hid (And.intro (OwnOps.keep' (ts := []) OX.out.1 (keep_below (B := w.heap.size) b (by have := BX.out.size; omega)) (by simp) (by simp)) (OwnOps.keep' (ts := []) OX.out.2 (keep_below (B := w.heap.size) b (by have := BX.out.size; omega)) (by simp) (by simp)))
    obtain ⟨g0', g1', g2', g3'⟩ := cells2 z2
    obtain ⟨q0', q1', q2', q3'⟩ := cells2 z3
    have m2' := lt_of_heap z2
    have m3' := lt_of_heap z3
    have Z2 := Lib.hid z2
    have Z3 := Lib.hid z3
    clear b z2 z3 HTO
    go_wp2_with fail
    go_region
    go_wp2_with fail
    obtain ⟨s1, s2, s3⟩ := set22 (u0 := .int .i64 f) (u1 := .slice ua (norm A).length uc) (v0 := .int .i64 g) (v1 := .slice va (norm C).length vc) Z2.out Z3.out (show w.heap.size + 1 + 1 + 1 ≠ w.heap.size + 1 + 1 by omega) (show w.heap.size ≤ w.heap.size + 1 + 1 by omega) (by omega)
    refine bodyPost_ret (results_nrm rfl rfl rfl rfl s1 s2) rfl ?_
    exact ⟨(B3.out.trans (s3.below.mono (by omega))).drew, f, g, ua, va, (norm A).length, uc, (norm C).length, vc, rfl, fun h => by omega⟩
  ·have HNB := Lib.hid (fun Y (h : Below w.heap.size w Y) => normal_bad g _ C Y (HU.out Y h) HYZ.out hC)
   have te : (toE g C != 0) = true := by rw [bne_iff_ne]; exact hC
   have hE : nrmE f g A C = toE g C := by unfold nrmE; rw [if_neg (by rw [HEA.out]; simp), if_pos hC]
   have HC0 := Lib.hid hC
   unfold Nrm5Out
   rw [hE]
   clear hC hE
   generalize toE g C = z at te HC0 HNB ⊢
   go_enter Try.func23, Try.ntmps23
   go_wp2_with fail
   rw [← HW.out]
   refine HN.out.mono ?_
   rintro e w1 ⟨u, rfl, hO, b⟩
   obtain ⟨ua, uc, rfl⟩ := own_nil_slice hO
   have B1 := Lib.hid (BW.out.trans (b.mono BW.out.size))
   have z1 := (b.block _ (lt_of_heap HK.out.1)).trans HK.out.1
   have z2 := (b.block _ (lt_of_heap HK.out.2.1)).trans HK.out.2.1
   have z3 := (b.block _ (lt_of_heap HK.out.2.2)).trans HK.out.2.2
   obtain ⟨p0, p1, p2, p3⟩ := cells2 z2
   obtain ⟨n0, n1, _, _⟩ := cells2 z1
   have l1 := lt_of_heap z1
   have l2 := lt_of_heap z2
   have l3 := lt_of_heap z3
   obtain ⟨Y, hY, y2, y1, y3, yk⟩ : ∃ Y, Y = (w1.setCell ⟨w.heap.size + 1 + 1, 0, none⟩ (.int .i64 f)).setCell ⟨w.heap.size + 1 + 1, 1, none⟩ (.slice ua (norm A).length uc) ∧ Y.heap[w.heap.size + 1 + 1]? = some (.cells #[.int .i64 f, .slice ua (norm A).length uc] 24 (0, 0)) ∧ Y.heap[w.heap.size + 1]? = some (.cells #[.int .i64 g, .slice ca C.length cc] 24 (0, 0)) ∧ Y.heap[w.heap.size + 1 + 1 + 1]? = some (.cells #[.int .i64 0, .slice none 0 0] 24 (0, 0)) ∧ Keep (w.heap.size + 1 + 1) [24] w1 Y := by
    obtain ⟨r1, r2, r3⟩ := agg_set (.int .i64 f) (.slice ua (norm A).length uc) z2
    exact ⟨_, rfl, r1, (r3 _ (by omega)).trans z1, (r3 _ (by omega)).trans z3, r2⟩
   have BY := Lib.hid (B1.out.trans (yk.below.mono (by omega)))
   have OY := Lib.hid ((hO.keep' yk (by decide) (by decide)).base' (show w.heap.size ≤ W.heap.size from BW.out.size))
   have YY := Lib.hid (And.intro y2 (And.intro y1 y3))
   have HYE := Lib.hid hY
   clear b hO z1 z2 z3 y1 y2 y3 yk hY HK HN
   go_wp2_with fail
   rw [← HYE.out]
   refine (HNB.out Y BY.out).mono ?_
   rintro e w2 ⟨rfl, b⟩
   have B2 := Lib.hid (BY.out.trans (b.mono BY.out.size))
   have z2 := (b.block _ (lt_of_heap YY.out.1)).trans YY.out.1
   have z3 := (b.block _ (lt_of_heap YY.out.2.2)).trans YY.out.2.2
   obtain ⟨g0, g1, g2, g3⟩ := cells2 z2
   obtain ⟨q0, q1, q2, q3⟩ := cells2 z3
   have m2 := lt_of_heap z2
   have m3 := lt_of_heap z3
   have Z2 := Lib.hid z2
   have Z3 := Lib.hid z3
   clear b z2 z3 HNB
   go_wp2_with fail
   go_region
   go_wp2_with fail
   obtain ⟨X, hX⟩ : ∃ X, X = (w2.setCell ⟨w.heap.size + 1 + 1 + 1, 0, none⟩ (.int .i64 0)).setCell ⟨w.heap.size + 1 + 1 + 1, 1, none⟩ (.slice none 0 0) := ⟨_, rfl⟩
   obtain ⟨r1, r2, r3⟩ := agg_set (.int .i64 0) (.slice none 0 0) Z3.out
   have r4 := (r3 (w.heap.size + 1 + 1) (by omega)).trans Z2.out
   rw [← hX] at r1 r2 r4 ⊢
   clear hX r3
   obtain ⟨s1, s2, s3⟩ := set22 (u0 := .int .i64 f) (u1 := .slice ua (norm A).length uc) (v0 := .int .i64 0) (v1 := .slice none 0 0) r4 r1 (show w.heap.size + 1 + 1 + 1 ≠ w.heap.size + 1 + 1 by omega) (show w.heap.size ≤ w.heap.size + 1 + 1 by omega) (by omega)
   refine bodyPost_ret (results_nrm rfl rfl rfl rfl s1 s2) rfl ?_
   exact ⟨((B2.out.trans (r2.below.mono (by omega))).trans s3.below).drew, f, 0, ua, none, (norm A).length, uc, 0, 0, rfl, fun h => absurd h HC0.out⟩
 ·have HN := Lib.hid (normal_bad f _ A W HV.out HZ.out hA)
  have te : (toE f A != 0) = true := by rw [bne_iff_ne]; exact hA
  have hE : nrmE f g A C = toE f A := by unfold nrmE; rw [if_pos hA]
  have HA0 := Lib.hid hA
  unfold Nrm5Out
  rw [hE]
  clear hA hE
  generalize toE f A = z at te HA0 HN ⊢
  go_enter Try.func23, Try.ntmps23
  go_wp2_with fail
  rw [← HW.out]
  refine HN.out.mono ?_
  rintro e w1 ⟨rfl, b⟩
  have B1 := Lib.hid (BW.out.trans (b.mono BW.out.size))
  have z2 := (b.block _ (lt_of_heap HK.out.2.1)).trans HK.out.2.1
  have z3 := (b.block _ (lt_of_heap HK.out.2.2)).trans HK.out.2.2
  obtain ⟨p0, p1, p2, p3⟩ := cells2 z2
  obtain ⟨q0, q1, q2, q3⟩ := cells2 z3
  have l2 := lt_of_heap z2
  have l3 := lt_of_heap z3
  have Z2 := Lib.hid z2
  have Z3 := Lib.hid z3
  clear b z2 z3 HK
  go_wp2_with fail
  go_region
  go_wp2_with fail
  obtain ⟨Y, hY⟩ : ∃ Y, Y = (w1.setCell ⟨w.heap.size + 1 + 1, 0, none⟩ (.int .i64 0)).setCell ⟨w.heap.size + 1 + 1, 1, none⟩ (.slice none 0 0) := ⟨_, rfl⟩
  obtain ⟨r1, r2, r3⟩ := agg_set (.int .i64 0) (.slice none 0 0) Z2.out
  have r4 := (r3 (w.heap.size + 1 + 1 + 1) (by omega)).trans Z3.out
  rw [← hY] at r1 r2 r4 ⊢
  clear hY r3
  obtain ⟨s1, s2, s3⟩ := set22 (u0 := .int .i64 0) (u1 := .slice none 0 0) (v0 := .int .i64 0) (v1 := .slice none 0 0) r1 r4 (show w.heap.size + 1 + 1 + 1 ≠ w.heap.size + 1 + 1 by omega) (show w.heap.size ≤ w.heap.size + 1 + 1 by omega) (by omega)
  refine bodyPost_ret (results_nrm rfl rfl rfl rfl s1 s2) rfl ?_
  exact ⟨((B1.out.trans (r2.below.mono (by omega))).trans s3.below).drew, 0, 0, none, none, 0, 0, 0, 0, rfl, fun h => absurd h HA0.out⟩
end Go.Proofs.Ytchceolbbkhnnaa

/- What Compose's loop stands on: operations of one's own as pieces; what is added, of what is met. -/
namespace Go.Proofs.Ytchceolbbkhnnaa
open Go.RowKit Rn Ch
open At hiding put
open Cp (Piece oneO oneE alC zeroO atm atms)

def addrOf : Value → Option Addr × Nat
 | .slice a _ c => (a, c)
 | _ => (none, 0)
theorem qs_of {w : World} {B : Nat} {v : Value} {ps : List (OpD × Value)} (h : OwnP w B v ps) : ∃ qs : List QV5, qs.map (·.1) = ps.map (·.1) ∧ RowQ w v qs ∧ ∀ q ∈ qs, w.ownsRow B 81 2 (qv q) q.1.attrs.length (flat q.1.attrs) := by
 have hq : ∀ p ∈ ps, qv (p.1, addrOf p.2) = p.2 := fun p hp => by
  obtain ⟨a, c, e⟩ := own_slice (h.2 p hp)
  show Value.slice (addrOf p.2).1 p.1.attrs.length (addrOf p.2).2 = p.2
  rw [e]; rfl
 refine ⟨ps.map fun p => (p.1, addrOf p.2), by rw [List.map_map]; rfl, ?_, fun q hm => ?_⟩
 ·rcases h.1.2 with ⟨rfl, h0⟩ | ⟨g, cap, cur, rfl, _, hg, hn, hm, _⟩
  ·have : ps = [] := List.length_eq_zero_iff.1 h0
   subst this
   exact ⟨none, 0, rfl, Nat.le_refl _, Nat.zero_le _, fun i hi => absurd hi (Nat.not_lt_zero _)⟩
  ·refine ⟨some ⟨g, 0, none⟩, cap, by rw [List.length_map], by rw [List.length_map]; exact hn, hm, fun i hi => ?_⟩
   have hi' : i < ps.length := by rwa [List.length_map] at hi
   have e : ∀ j, j < 4 → w.cell? ⟨g, 0 + i * 4 + j, none⟩ = (opCells ps[i])[j]? := fun j hj => by
    rw [Nat.zero_add, h.1.cellAt _ (by omega), flatO_at hi' j hj]
   refine ⟨g, 0, rfl, lt_of_heap hg, ?_, ?_, ?_, ?_⟩
   ·rw [List.getElem_map]; exact e 0 (by omega)
   ·rw [List.getElem_map]; exact e 1 (by omega)
   ·rw [List.getElem_map]; exact e 2 (by omega)
   ·rw [List.getElem_map, hq _ (List.getElem_mem hi')]; exact e 3 (by omega)
 ·obtain ⟨p, hp, rfl⟩ := List.mem_map.1 hm
  rw [hq p hp]
  exact h.2 p hp
/-- What has been added of the first k pairs. -/
def sM (ps : List (QV5 × QV5)) (k : Nat) : List OpD × Int := (ps.take k).foldl (fun s p => addG s (oneO p.1.1 p.2.1)) ([], 0)
theorem sM_succ {ps : List (QV5 × QV5)} {k : Nat} (h : k < ps.length) : sM ps (k + 1) = addG (sM ps k) (oneO ps[k].1.1 ps[k].2.1) := by
 unfold sM
 rw [List.take_succ_eq_append_getElem h, List.foldl_append]; rfl
theorem sM_sm {A C : List QV5} {ps : List (QV5 × QV5)} (h : MetF A C ps) : ∀ k, k ≤ ps.length → (∀ i (_hi : i < k) (hl : i < ps.length), oneE ps[i].1.1 ps[i].2.1 = 0) → SmI (20000 * (k : Int)) (80000 * k) k (sM ps k) := by
 intro k
 induction k with
 | zero => intro _ _; exact smI_nil
 | succ k ih =>
   intro hk ha
   obtain ⟨a, b, c, _⟩ := h.small ps[k] (List.getElem_mem (by omega)) (ha k (by omega) (by omega))
   rw [sM_succ (by omega)]
   exact ((ih (by omega) fun i hi hl => ha i (by omega) hl).addG a).more (by rw [Int.natCast_add]; omega) (by omega) (Nat.le_refl _)
theorem sM_all {A C : List QV5} {ps : List (QV5 × QV5)} (h : MetF A C ps) (ha : ∀ p ∈ ps, oneE p.1.1 p.2.1 = 0) : chgL (sM ps ps.length) = Cp.cmpN (A.map (·.1)) (C.map (·.1)) := by
 unfold chgL sM Cp.cmpN Cp.normA
 rw [List.take_length, ← h.fold ha]
theorem small_one {l : List (K × V)} (h : rgtB l = true ∨ chgB l = true) : SmallA l := by
 rcases h with h | h
 ·exact small_rgt (by unfold rgtE; rw [if_pos h])
 ·exact small_chg (by unfold chgE; rw [if_pos h])
/-- Two normal forms, the one behind the other. -/
theorem nrm_zero {f g : Int} {A C : List OpD} (h1 : toE f A = 0) (h2 : toE g C = 0) (h3 : toN f A = g) : Cp.CmpF f (norm A) (norm C) g := by
 have o1 := (toE_iff f A).1 h1
 have o2 := (toE_iff g C).1 h2
 obtain ⟨n1, d1, i1⟩ := norm_ok o1
 obtain ⟨n2, d2, i2⟩ := norm_ok o2
 have := toN_ok h1
 exact ⟨n1, n2, by omega⟩
theorem vq_of {f : Int} {ops : List OpD} (h : OkC f ops) {qs : List QV5} (e : qs.map (·.1) = ops) : VQ qs := fun q hq => by
 have hm : q.1 ∈ ops := by rw [← e]; exact List.mem_map.2 ⟨q, hq, rfl⟩
 exact ⟨h.2.2.2.1 _ hm, (vop_of h hm).n1⟩
end Go.Proofs.Ytchceolbbkhnnaa

/- What Compose keeps on the way: its loop over what is met. -/
namespace Go.Proofs.Ytchceolbbkhnnaa
open Go.RowKit Rn Ch
open At hiding put
open Cp (Piece oneO oneE alC zeroO atm atms)

theorem own_cells5 {w w' : World} {C k n : Nat} {e : TypeId} {v : Value} {xs : List Value} (h : w.ownsRow C e k v n xs) (hk : ∀ (i : Nat) (cs : Array Value) (fr : Nat × Nat), w.heap[i]? = some (.cells cs e fr) → w'.heap[i]? = some (.cells cs e fr)) : w'.ownsRow C e k v n xs :=
 ⟨h.1, h.2.imp id fun ⟨g, cap, cur, a, b, c, d⟩ => ⟨g, cap, cur, a, b, hk g cur (0, 0) c, d⟩⟩
theorem NSt.step5 {w w' : World} {B C N b : Nat} {own : List Nat} {ov : Value} {l : List OpD} {g : Int} (h : NSt w B b ov l g) (hs : Step C N WT5 own w w') : NSt w' B b ov l g := by
 obtain ⟨ps, ad, bv, bt, a1, a2, a3, a4, a5⟩ := h
 have hk : ∀ {e : TypeId}, e ∉ WT5 → ∀ (i : Nat) (cs : Array Value) (fr : Nat × Nat), w.heap[i]? = some (.cells cs e fr) → w'.heap[i]? = some (.cells cs e fr) := fun he i cs fr hi => hs.cells _ _ _ _ hi (.inl he)
 exact ⟨ps, ad, bv, bt, hk (by decide) _ _ _ a1, a2, ⟨own_cells5 a3.1 (hk (by decide)), fun p hp => own_cells5 (a3.2 p hp) (hk (by decide))⟩, ⟨own_cells5 a4.1 (hk (by decide)), a4.2⟩, a5⟩
abbrev TB5 : List TypeId := [40, 56, 5, 24, 28]
structure StM (w W : World) (tb : Nat) (f : Int) (u : Value) (qA qC : List QV5) (ps : List (QV5 × QV5)) (k : Nat) : Prop where
 below : Below w.heap.size w W
 gat : ∃ ov, NSt W w.heap.size tb ov (sM ps k).1 (sM ps k).2
 ba : W.heap[w.heap.size]? = some (.cells #[.int .i64 f, u] 24 (0, 0))
 r4 : W.heap[w.heap.size + 1 + 1]? = some (.cells #[.int .i64 0, .slice none 0 0] 24 (0, 0))
 r5 : Boxed W (w.heap.size + 1 + 1 + 1) 28 (.int .i64 0)
 own : ∀ q, q ∈ qA ∨ q ∈ qC → ∃ B, W.ownsRow B 81 2 (qv q) q.1.attrs.length (flat q.1.attrs)
 ok : ∀ i (h : i < ps.length), i < k → oneE ps[i].1.1 ps[i].2.1 = 0
structure EndM (w W : World) (ps : List (QV5 × QV5)) : Prop where
 below : Below w.heap.size w W
 r4 : W.heap[w.heap.size + 1 + 1]? = some (.cells #[.int .i64 0, .slice none 0 0] 24 (0, 0))
 r5 : Boxed W (w.heap.size + 1 + 1 + 1) 28 (.int .i64 3)
 bad : ∃ p ∈ ps, oneE p.1.1 p.2.1 ≠ 0
theorem StM.step {w W W' : World} {tb N : Nat} {f : Int} {u : Value} {qA qC : List QV5} {ps : List (QV5 × QV5)} {k : Nat} {own : List Nat} (h : StM w W tb f u qA qC ps k) (hs : Step w.heap.size N WT5 own W W') : StM w W' tb f u qA qC ps k where
 below := h.below.trans hs.below
 gat := by obtain ⟨ov, hg⟩ := h.gat; exact ⟨ov, hg.step5 hs⟩
 ba := hs.cells _ _ _ _ h.ba (.inl (by decide))
 r4 := hs.cells _ _ _ _ h.r4 (.inl (by decide))
 r5 := hs.cells _ _ _ _ h.r5 (.inl (by decide))
 own := fun q hq => by obtain ⟨B, ho⟩ := h.own q hq; exact ⟨B, own_cells5 ho fun i cs fr hi => hs.cells _ _ _ _ hi (.inl (by decide))⟩
 ok := h.ok
theorem EndM.step {w W W' : World} {N : Nat} {ps : List (QV5 × QV5)} {own : List Nat} (h : EndM w W ps) (hs : Step w.heap.size N WT5 own W W') : EndM w W' ps :=
 ⟨h.below.trans hs.below, hs.cells _ _ _ _ h.r4 (.inl (by decide)), hs.cells _ _ _ _ h.r5 (.inl (by decide)), h.bad⟩
/-- The attributes of what is met lie where they lay, and are small. -/
theorem src_row {W : World} {l : List QV5} {q : QV5} (h : SrcOf l q) (ho : ∀ z ∈ l, ∃ B, W.ownsRow B 81 2 (qv z) z.1.attrs.length (flat z.1.attrs)) : ∃ B, W.ownsRow B 81 2 (qv q) q.1.attrs.length (flat q.1.attrs) := by
 rcases h with ⟨h1, h2⟩ | ⟨z, hz, h1, h2⟩
 ·refine ⟨0, ?_⟩
  show W.ownsRow 0 _ 2 (.slice q.2.1 q.1.attrs.length q.2.2) q.1.attrs.length (flat q.1.attrs)
  rw [h1, h2]
  exact World.ownsRow_nil _ _ _ _
 ·obtain ⟨B, hB⟩ := ho z hz
  refine ⟨B, ?_⟩
  show W.ownsRow B _ 2 (.slice q.2.1 q.1.attrs.length q.2.2) q.1.attrs.length (flat q.1.attrs)
  rw [h1, h2]
  exact hB
theorem src_sized {l : List QV5} {q : QV5} (h : SrcOf l q) (hl : VQ l) : Sized q.1.attrs := by
 rcases h with ⟨h1, _⟩ | ⟨z, hz, h1, _⟩
 ·rw [h1]; exact sized_nil
 ·rw [h1]
  exact (small_one (piece_small (hl z hz)).2.2.2).sized
end Go.Proofs.Ytchceolbbkhnnaa
