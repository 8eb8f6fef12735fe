import Derived.Test.YtchceolbbkhnnaaGR1
import Derived.Test.YtchceolbbkhnnaaGD1
import Derived.Test.YtchceolbbkhnnaaGM7
import Derived.Test.YtchceolbbkhnnaaGN1
import Derived.Deep.DeepCutAuto
import Derived.Deep.CutBlock
import Derived.StillTailTactics
import Derived.Deep.QuietTactic
import Derived.BigQuiet
namespace Go.Proofs.Ytchceolbbkhnnaa
section
open Go.RowKit Rn Ch
theorem wpList_app_op {ops : Array Oper} {rest : List Oper} {o : Oper} {a : Act} {w : World} {Q : Exit → Act → World → Prop}
 (hg : o.guard = none) (s x : Operand) (hop : o.op = Op.call { callee := Callee.builtin Builtin.append, args := #[s, x], argTypes := #[22, 22] })
 (B : Nat) (v : Value) (ps : List PA) (hs : a.eval s = v) (H : OwnP w B v ps) (q : PA) (ad : Addr) (c : Nat) (hx : a.eval x = .slice (some ad) 1 c) (hc : ∀ j u, (opCells q)[j]? = some u → w.cell? (ad.add j) = some u)
 (hq : w.ownsRow B 81 2 q.2 q.1.attrs.length (flat q.1.attrs)) (hl : ps.length ≤ 1000000) (hB : B ≤ w.heap.size)
 (hK : ∀ v' w', OwnP w' B v' (ps ++ [q]) → KeepO B w w' v v' → wpList Try.prog ops Q rest (a.put o.dst v') w') : wpList Try.prog ops Q (o :: rest) a w := by
 obtain ⟨i0, hi, hz0, hz1, hz2⟩ := info_parts infoOp; refine wpList_append_new hg s x 22 hop 40 i0 (.agg #[.int .i64 0, .int .i64 0, .string ⟨#[]⟩, .slice none 0 0]) 4 56 Try.underlying22 hi hz0 hz1 hz2 rfl (by decide) B v ps.length (flatO ps) hs H.1 ad 1 c (opCells q) hx rfl hc ?_ (by unfold maxLen; omega) (by omega) hB fun v' w' o1 g1 n1 => ?_
 ·intro u hu
  simp [opCells] at hu; rcases hu with rfl | rfl | rfl | rfl
  ·rfl
  ·rfl
  ·rfl
  ·exact own_one hq
 ·have kr := keep_row H.1 g1 (ts := [40]) (by simp) hB
  refine hK v' w' (ownP_mk (by rw [flatO_snoc]; exact o1) (fun y hy => kr.own (H.2 y hy) (by decide)) (kr.own hq (by decide))) (keepO_grown H.1 g1 hB n1)
def flushK (s : List OpD × Int) (o : OpD) : List OpD × Int := if o.kind = 1 then (flush s, 0) else s
theorem add_flushK (s : List OpD × Int) (o : OpD) : add s o = if o.kind = 3 then (s.1, s.2 + o.n) else (put (flushK s o).1 o, (flushK s o).2) := by
 unfold add flushK
 by_cases h3 : o.kind = 3
 ·rw [if_pos h3, if_pos h3]
 ·rw [if_neg h3, if_neg h3]
  by_cases h1 : o.kind = 1
  ·rw [if_pos h1, if_pos h1]
  ·rw [if_neg h1, if_neg h1]
theorem flush_push {s : List OpD × Int} (h : St s) (hg : 0 < s.2) : flush s = delO s.2 :: s.1 := by
 unfold flush; rw [if_pos hg, put_fresh]; intro x r e hx; exact h.2 x r e hx.1
theorem flush_same {s : List OpD × Int} (hg : ¬ 0 < s.2) : flush s = s.1 := by unfold flush; rw [if_neg hg]
theorem fold_sm {l : List OpD} (hv : ∀ o ∈ l, VOp o) : ∀ k, k ≤ l.length → SmI (20000 * (k : Int)) (80000 * k) k (fold (l.take k)) := by
 intro k; induction k with
 | zero => intro _; exact smI_nil
 | succ k ih =>
   intro h; have h1 := hv l[k] (List.getElem_mem (by omega)); have h2 := h1.n0; have h3 := h1.n1; have h4 := h1.text; rw [List.take_succ_eq_append_getElem (by omega), fold_snoc]; exact ((ih (by omega)).add h2).more (by rw [Int.natCast_add]; omega) (by omega) (Nat.le_refl _)
theorem fold_succ {l : List OpD} {k : Nat} (h : k < l.length) : fold (l.take (k + 1)) = add (fold (l.take k)) l[k] := by
 rw [List.take_succ_eq_append_getElem h, fold_snoc]
theorem take_St {l : List OpD} (h : allE l) (k : Nat) : St (fold (l.take k)) := fold_St fun o ho => h o (List.take_subset _ _ ho)
theorem tot_nonneg8 : ∀ {r : List OpD}, (∀ x ∈ r, 0 ≤ x.n) → 0 ≤ tot r
 | [], _ => Int.le_refl _
 | x :: r, h => by have h1 := h x (List.mem_cons_self ..); have h2 := tot_nonneg8 (r := r) fun y hy => h y (List.mem_cons_of_mem _ hy); simp only [tot]; omega
theorem cells4J {W : World} {n : Nat} {t : TypeId} {a b c d : Value} (h : W.heap[n]? = some (.cells #[a, b, c, d] t (0, 0))) : W.cell? ⟨n, 0, none⟩ = some a ∧ W.cell? ⟨n, 1, none⟩ = some b ∧ W.cell? ⟨n, 2, none⟩ = some c ∧ W.cell? ⟨n, 3, none⟩ = some d :=
 ⟨by simp [World.cell?, h], by simp [World.cell?, h], by simp [World.cell?, h], by simp [World.cell?, h]⟩
theorem frozen4J {W : World} {n : Nat} {t : TypeId} {a b c d : Value} (h : W.heap[n]? = some (.cells #[a, b, c, d] t (0, 0))) : W.frozen? ⟨n, 3, none⟩ = false := by simp [World.frozen?, h]
structure JS (w0 w : World) (f : Int) (ps : List PA) (oa : Option Addr) (oc : Nat) : Prop where
 own : OwnP w w0.heap.size (.slice oa ps.length oc) ps
 out : w.heap[w0.heap.size + 1]? = some (.cells #[.int .i64 f, .slice oa ps.length oc] 24 (0, 0))
 res : w.heap[w0.heap.size]? = some (.cells #[.int .i64 0, .slice none 0 0] 24 (0, 0))
 below : Below w0.heap.size w0 w
theorem JS.drew {w0 w : World} {f : Int} {ps : List PA} {oa : Option Addr} {oc : Nat} (h : JS w0 w f ps oa oc) (n : Nat) : JS w0 (w.drewN n) f ps oa oc := ⟨h.own, h.out, h.res, below_drewN h.below n⟩
theorem JS.keep {w0 w w' : World} {f : Int} {ps ps' : List PA} {oa oa' : Option Addr} {oc oc' : Nat} (h : JS w0 w f ps oa oc) (hk : KeepO w0.heap.size w w' (.slice oa ps.length oc) (.slice oa' ps'.length oc')) (ho : OwnP w' w0.heap.size (.slice oa' ps'.length oc') ps') :
 JS w0 (w'.setCell ⟨w0.heap.size + 1, 1, none⟩ (.slice oa' ps'.length oc')) f ps' oa' oc' := by
 have h1 := hk.keep.kept _ _ _ _ h.out (by decide); have h2 := hk.keep.kept _ _ _ _ h.res (by decide); have kk := keep_set (B := w0.heap.size) (ts := [24]) h1 (by simp) (by omega) ⟨w0.heap.size + 1, 1, none⟩ rfl (.slice oa' ps'.length oc'); exact ⟨ho.keep kk (by decide) (by decide), nblk_set (j := 1) h1, (Below.heap_setCell _ _ _ _ (by simp)).trans h2, (h.below.trans hk.keep.below).trans kk.below⟩
theorem JS.same {w0 w w' : World} {f : Int} {ps ps' : List PA} {oa : Option Addr} {oc : Nat} (h : JS w0 w f ps oa oc) (hl : ps'.length = ps.length) (hk : KeepO w0.heap.size w w' (.slice oa ps.length oc) (.slice oa ps.length oc)) (ho : OwnP w' w0.heap.size (.slice oa ps.length oc) ps') :
 JS w0 w' f ps' oa oc := by
 have h1 := hk.keep.kept _ _ _ _ h.out (by decide); have h2 := hk.keep.kept _ _ _ _ h.res (by decide); exact ⟨by rw [hl]; exact ho, by rw [hl]; exact h1, h2, h.below.trans hk.keep.below⟩
theorem JS.grow {w0 w w' : World} {f : Int} {ps : List PA} {oa : Option Addr} {oc : Nat} (h : JS w0 w f ps oa oc) (hb : Below w.heap.size w w') : JS w0 w' f ps oa oc :=
 h.same rfl (keepO_below hb h.below.size _) (h.own.keep (keep_below (ts := []) hb (Nat.le_refl _)) (by simp) (by simp))
theorem JS.setLast {w0 w : World} {f : Int} {c0 : List PA} {x y : OpD} {xv : Value} {gg cap : Nat} (h : JS w0 w f (c0 ++ [(x, xv)]) (some ⟨gg, 0, none⟩) cap) (j : Nat) (u : Value) (hq : (opCells (x, xv)).set j u = opCells (y, xv)) (ha : y.attrs = x.attrs) :
 JS w0 (w.setCell ⟨gg, c0.length * 4 + j, none⟩ u) f (c0 ++ [(y, xv)]) (some ⟨gg, 0, none⟩) cap := by
 have e : ∀ z : PA, (c0 ++ [z]).length = c0.length + 1 := fun z => by simp
 have ho := h.own; rw [e] at ho; obtain ⟨P1, K1⟩ := OwnP.setLast (y := y) ho j u hq ha; exact h.same (by rw [e, e]) (by rw [e]; exact K1) (by rw [e]; exact P1)
theorem JS.snoc {w0 w : World} {f : Int} {c0 : List PA} {x : OpD} {xv : Value} {gg cap : Nat} (h : JS w0 w f (c0 ++ [(x, xv)]) (some ⟨gg, 0, none⟩) cap) : OwnP w w0.heap.size (.slice (some ⟨gg, 0, none⟩) (c0.length + 1) cap) (c0 ++ [(x, xv)]) := by
 have ho := h.own
 rwa [show (c0 ++ [(x, xv)]).length = c0.length + 1 by simp] at ho
theorem map_snoc8 {c0 : List PA} {x : OpD} {xv : Value} {l : List OpD} (h : (c0 ++ [(x, xv)]).map (·.1) = l.reverse) : l = x :: (c0.map (·.1)).reverse := by
 have h := congrArg List.reverse h; rw [List.map_append, List.reverse_append, List.reverse_reverse] at h; exact h.symm
theorem map_nil8 {ps : List PA} {l : List OpD} (hp : ps = []) (h : ps.map (·.1) = l.reverse) : l = [] := by
 rw [hp] at h; exact List.reverse_eq_nil_iff.1 h.symm
theorem put_nil8 {l : List OpD} {o : OpD} (h : l = []) : put l o = o :: l := put_fresh fun x r e => by rw [h] at e; cases e
theorem put_ne8 {l r : List OpD} {x o : OpD} (h : l = x :: r) (hn : ¬ (x.kind = o.kind ∧ x.attrs = o.attrs)) : put l o = o :: l := put_fresh fun y s e => by rw [h] at e; injection e with e1 _; rw [← e1]; exact hn
theorem put_eq8 {l r : List OpD} {x o : OpD} (h : l = x :: r) (hk : x.kind = o.kind) (ha : x.attrs = o.attrs) : put l o = { x with n := x.n + o.n, text := cat x.text o.text } :: r := by rw [h, put, if_pos ⟨hk, ha⟩]
end
section
namespace Cp
open Rn Ch
open At hiding put
open An (fullA)
theorem okX_keeps (n : Nat) : OkX (List.replicate n (.keep [])) := fun x hx => by rw [List.eq_of_mem_replicate hx]; decide
theorem okX_full {f : Int} {ops : List OpD} (h : allE ops) : OkX (fullA f ops) := okX_append.2 ⟨okX_atms h, okX_keeps _⟩
theorem full_sums {f : Int} {ops : List OpD} (h : OkC f ops) : (kA (fullA f ops) : Int) = f ∧ (dA (fullA f ops) : Int) = dl ops ∧ (iA (fullA f ops) : Int) = ins ops := by
 obtain ⟨a1, a2, a3⟩ := sums_atms h.2.2.2.1; obtain ⟨b1, b2, b3⟩ := sums_append (atms ops) (List.replicate (f - kd ops).toNat (.keep [])); obtain ⟨c1, c2, c3⟩ := sums_keep [] (f - kd ops).toNat; have hk := h.2.2.2.2.1; unfold fullA; rw [b1, b2, b3, c1, c2, c3]; omega
theorem full_len (X : List Atm) : X.length = kA X + iA X := by
 induction X with
 | nil => rfl
 | cons x r ih => cases x <;> simp only [List.length_cons, kA, iA, ih] <;> omega
def Bal (X Y : List Atm) : Prop := kA X + iA X = kA Y + dA X
theorem Bal.del {X Y : List Atm} (h : Bal (.del :: X) Y) : Bal X Y := by unfold Bal at *; simp only [kA, iA, dA] at h; omega
theorem Bal.ins {X Y : List Atm} {c : Nat} {b : AL} (h : Bal X (.ins c b :: Y)) : Bal X Y := h
theorem Bal.met {x y : Atm} {X Y : List Atm} (h : Bal (x :: X) (y :: Y)) (hx : x ≠ .del) (hy : ∀ c b, y ≠ .ins c b) : Bal X Y := by
 unfold Bal at *; cases x <;> cases y <;> first | exact absurd rfl hx | exact absurd rfl (hy _ _) | (simp only [kA, iA, dA] at h; omega)
theorem dA_le (X : List Atm) : dA X ≤ kA X := by
 induction X with
 | nil => exact Nat.le_refl _
 | cons x r ih => cases x <;> simp only [dA, kA] <;> omega
theorem Bal.nil_r {x : Atm} {X : List Atm} (h : Bal (x :: X) []) : x = .del := by
 have := dA_le X; unfold Bal at h; cases x <;> first | rfl | (simp only [kA, iA, dA] at h; omega)
theorem Bal.nil_l {y : Atm} {Y : List Atm} (h : Bal [] (y :: Y)) : ∃ c b, y = .ins c b := by
 unfold Bal at h; cases y <;> first | exact ⟨_, _, rfl⟩ | (simp only [kA, iA, dA] at h; omega)
structure FullF (f g : Int) (A C : List OpD) (X Y : List Atm) : Prop where
 okx : OkX X
 oky : OkX Y
 bal : Bal X Y
 lenx : X.length ≤ 40000
 leny : Y.length ≤ 40000
 fit : Cp.fit X Y ↔ Cp.fit (atms (norm A)) (atms (norm C))
 cmp : Cp.normA (comp X Y) = Cp.cmpN (norm A) (norm C)
end Cp
end
end Go.Proofs.Ytchceolbbkhnnaa
