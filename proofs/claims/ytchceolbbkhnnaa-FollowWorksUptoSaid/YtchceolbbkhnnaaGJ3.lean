import Derived.Test.YtchceolbbkhnnaaGJ1
import Derived.Test.YtchceolbbkhnnaaGB4
import Derived.Test.YtchceolbbkhnnaaGJ2
import Derived.Test.YtchceolbbkhnnaaGN2
import Derived.Test.YtchceolbbkhnnaaGC2
namespace Go.Proofs.Ytchceolbbkhnnaa
section
open Go.RowKit Rn Ch
theorem box3J (w : World) (o1 o2 o3 : Obj) : (((w.alloc o1).alloc o2).alloc o3).heap[w.heap.size]? = some o1 ∧ (((w.alloc o1).alloc o2).alloc o3).heap[w.heap.size + 1]? = some o2 ∧ (((w.alloc o1).alloc o2).alloc o3).heap[w.heap.size + 1 + 1]? = some o3 ∧ Below w.heap.size w (((w.alloc o1).alloc o2).alloc o3) := by
 obtain ⟨h1, h2, hb⟩ := box2 w o1 o2; have h3 := heap_new ((w.alloc o1).alloc o2) o3; rw [World.size_alloc, World.size_alloc] at h3; exact ⟨heap_up h1 (below_box _ _), heap_up h2 (below_box _ _), h3, hb.alloc hb.size _⟩
end
section
open Go.RowKit Rn Ch
structure LS (w0 wB w : World) (ps : List PA) (oa : Option Addr) (oc : Nat) : Prop where
 own : w.ownsRow wB.heap.size 40 4 (.slice oa ps.length oc) ps.length (flatO ps)
 att : ∀ q ∈ ps, w.ownsRow w0.heap.size 81 2 q.2 q.1.attrs.length (flat q.1.attrs)
 below : Below wB.heap.size wB w
theorem LS.nil (w0 wB : World) : LS w0 wB wB [] none 0 := ⟨World.ownsRow_nil _ _ _ _, fun q h => (by cases h), Below.refl _ _⟩
theorem LS.grow {w0 wB w w' : World} {ps : List PA} {oa : Option Addr} {oc : Nat} (h : LS w0 wB w ps oa oc) (hb : Below w.heap.size w w') : LS w0 wB w' ps oa oc :=
 ⟨row_below h.own hb, fun q hq => row_below (h.att q hq) hb, h.below.trans (hb.mono h.below.size)⟩
theorem LS.row {w0 wB w : World} {ps : List PA} {oa : Option Addr} {oc : Nat} (h : LS w0 wB w ps oa oc) (h0 : w0.heap.size ≤ wB.heap.size) : OpRow w (.slice oa ps.length oc) (ps.map (·.1)) :=
 OwnP.row (B := w0.heap.size) ⟨own_base h.own h0, h.att⟩
theorem wpList_app_ls {w0 wB : World} {ops : Array Oper} {rest : List Oper} {o : Oper} {a : Act} {w : World} {Q : Exit → Act → World → Prop}
 (hg : o.guard = none) (s x : Operand) (hop : o.op = Op.call { callee := Callee.builtin Builtin.append, args := #[s, x], argTypes := #[22, 22] })
 (oa : Option Addr) (oc : Nat) (ps : List PA) (hs : a.eval s = .slice oa ps.length oc) (H : LS w0 wB w ps oa oc) (q : PA) (ad : Addr) (c : Nat) (hx : a.eval x = .slice (some ad) 1 c) (hc : ∀ j u, (opCells q)[j]? = some u → w.cell? (ad.add j) = some u)
 (hq : w.ownsRow w0.heap.size 81 2 q.2 q.1.attrs.length (flat q.1.attrs)) (hl : ps.length ≤ 1000000)
 (hK : ∀ oa' oc' w', LS w0 wB w' (ps ++ [q]) oa' oc' → wpList Try.prog ops Q rest (a.put o.dst (.slice oa' (ps ++ [q]).length oc')) w') : wpList Try.prog ops Q (o :: rest) a w := by
 obtain ⟨i0, hi, hz0, hz1, hz2⟩ := info_parts infoOp; have hB := H.below.size; refine wpList_append_new hg s x 22 hop 40 i0 (.agg #[.int .i64 0, .int .i64 0, .string ⟨#[]⟩, .slice none 0 0]) 4 56 Try.underlying22 hi hz0 hz1 hz2 rfl (by decide) wB.heap.size (.slice oa ps.length oc) ps.length (flatO ps) hs H.own ad 1 c (opCells q) hx rfl hc ?_ (by unfold maxLen; omega) (by omega) hB fun v' w' o1 g1 _ => ?_
 ·intro u hu
  simp [opCells] at hu; rcases hu with rfl | rfl | rfl | rfl
  ·rfl
  ·rfl
  ·rfl
  ·exact own_one hq
 ·have kr := keep_row H.own g1 (ts := [40]) (by simp) hB
  have e : (ps ++ [q]).length = ps.length + 1 := by simp
  have o2 : w'.ownsRow wB.heap.size 40 4 v' (ps ++ [q]).length (flatO (ps ++ [q])) := by rw [e, flatO_snoc]; exact o1
  obtain ⟨oa', oc', rfl⟩ := own_slice o2; refine hK oa' oc' w' ⟨o2, fun y hy => ?_, H.below.trans kr.below⟩; rcases List.mem_append.1 hy with hy | hy
  ·exact kr.own (H.att y hy) (by decide)
  ·rw [List.mem_singleton.1 hy]; exact kr.own hq (by decide)
theorem px_at {w : World} {B cap : Nat} {a : Option Addr} {ps : List PA} (h : OwnP w B (.slice a ps.length cap) ps) {i : Nat} (hi : i < ps.length) :
 ∃ g ar cr, a = some ⟨g, 0, none⟩ ∧ g < w.heap.size ∧ ps[i].2 = .slice ar ps[i].1.attrs.length cr ∧ w.ownsRow B 81 2 (.slice ar ps[i].1.attrs.length cr) ps[i].1.attrs.length (flat ps[i].1.attrs) ∧
  ∀ X, Below w.heap.size w X → X.cell? ⟨g, i * 4, none⟩ = some (.int .i64 ps[i].1.kind) ∧ X.cell? ⟨g, i * 4 + 1, none⟩ = some (.int .i64 ps[i].1.n) ∧ X.cell? ⟨g, i * 4 + 2, none⟩ = some (.string ps[i].1.text) ∧ X.cell? ⟨g, i * 4 + 3, none⟩ = some (.slice ar ps[i].1.attrs.length cr) := by
 have ha := h.2 _ (List.getElem_mem hi); obtain ⟨ar, cr, hs⟩ := own_slice ha; have h1 := h.1; rcases h.1.2 with ⟨h', h0⟩ | ⟨g, cap', cur, h', _, hg, hn, hm, _⟩
 ·omega
 ·injection h' with e1 _ e3
  subst e1; have e : ∀ j, j < 4 → w.cell? ⟨g, i * 4 + j, none⟩ = (opCells ps[i])[j]? := fun j hj => by
   rw [h1.cellAt _ (by omega), flatO_at hi j hj]
  refine ⟨g, ar, cr, rfl, lt_of_heap hg, hs, by rw [← hs]; exact ha, fun X hX => ?_⟩; have hb := lt_of_heap hg; exact ⟨(hX.cell (by exact hb)).trans (e 0 (by omega)), (hX.cell (by exact hb)).trans (e 1 (by omega)), (hX.cell (by exact hb)).trans (e 2 (by omega)), (hX.cell (by exact hb)).trans ((e 3 (by omega)).trans (by rw [← hs]; rfl))⟩
end
section
namespace Cp
open Rn Ch
open At hiding put
open An (fullA)
structure Way (X Y R : List Atm) (i k : Nat) : Prop where
 hi : i ≤ X.length
 hk : k ≤ Y.length
 comp : Cp.comp X Y = R ++ Cp.comp (X.drop i) (Y.drop k)
 fit : Cp.fit X Y ↔ Cp.fit (X.drop i) (Y.drop k)
 bal : Bal (X.drop i) (Y.drop k)
theorem Way.start {X Y : List Atm} (h : Bal X Y) : Way X Y [] 0 0 := ⟨Nat.zero_le _, Nat.zero_le _, rfl, Iff.rfl, h⟩
theorem Way.del {X Y R : List Atm} {i k : Nat} (h : Way X Y R i k) (hi : i < X.length) (hx : X[i] = .del) : Way X Y (R ++ [X[i]]) (i + 1) k := by
 have e := List.drop_eq_getElem_cons hi; have hc := h.comp; have hf := h.fit; have hb := h.bal; rw [e, hx] at hc hf hb; rw [comp_del] at hc; rw [fit_del] at hf; exact ⟨hi, h.hk, by rw [hc, hx, List.append_assoc]; rfl, hf, hb.del⟩
theorem comp_insr (A : List Atm) (c : Nat) (b : AL) (B : List Atm) (h : ∀ A', A ≠ .del :: A') : comp A (.ins c b :: B) = .ins c b :: comp A B := by
 cases A with
 | nil => rw [comp_nil, comp_nil]
 | cons x A =>
   cases x with
   | del => exact absurd rfl (h A)
   | ins d a => exact comp_ii ..
   | keep a => exact comp_ki ..
theorem Way.ins {X Y R : List Atm} {i k : Nat} (h : Way X Y R i k) (hk : k < Y.length) {c : Nat} {b : AL} (hy : Y[k] = .ins c b) (hx : ∀ (hi : i < X.length), X[i] ≠ .del) : Way X Y (R ++ [Y[k]]) i (k + 1) := by
 have e := List.drop_eq_getElem_cons hk; have hc := h.comp; have hf := h.fit; have hb := h.bal; rw [e, hy] at hc hf hb; rw [fit_ni] at hf; rw [comp_insr _ _ _ _ (fun A' e2 => by
  have hl := congrArg List.length e2; rw [List.length_drop, List.length_cons] at hl; have hi : i < X.length := by omega
  rw [List.drop_eq_getElem_cons hi] at e2; injection e2 with e3 _; exact hx hi e3)] at hc
 exact ⟨h.hi, hk, by rw [hc, hy, List.append_assoc]; rfl, hf, hb.ins⟩
theorem Way.both {X Y R : List Atm} {i k : Nat} (h : Way X Y R i k) (ht : i < X.length ∨ k < Y.length) (hx : ∀ (hi : i < X.length), X[i] ≠ .del) (hy : ∀ (hk : k < Y.length) c b, Y[k] ≠ .ins c b) : i < X.length ∧ k < Y.length := by
 have hb := h.bal; rcases Nat.lt_or_ge i X.length with hi | hi <;> rcases Nat.lt_or_ge k Y.length with hk | hk
 ·exact ⟨hi, hk⟩
 ·rw [List.drop_eq_getElem_cons hi, List.drop_eq_nil_of_le hk] at hb
  exact absurd hb.nil_r (hx hi)
 ·rw [List.drop_eq_nil_of_le hi, List.drop_eq_getElem_cons hk] at hb
  obtain ⟨c, b, e⟩ := hb.nil_l; exact absurd e (hy hk c b)
 ·omega
theorem Way.met {X Y R : List Atm} {i k : Nat} (h : Way X Y R i k) (hi : i < X.length) (hk : k < Y.length) :
 (∀ c a b, X[i] = .ins c a → Y[k] = .keep b → (apl a b).length ≤ 8 → Way X Y (R ++ [.ins c (apl a b)]) (i + 1) (k + 1)) ∧
 (∀ a b, X[i] = .keep a → Y[k] = .keep b → (cmp a b).length ≤ 8 → Way X Y (R ++ [.keep (cmp a b)]) (i + 1) (k + 1)) ∧
 (∀ c a, X[i] = .ins c a → Y[k] = .del → Way X Y R (i + 1) (k + 1)) ∧
 (∀ a, X[i] = .keep a → Y[k] = .del → Way X Y (R ++ [.del]) (i + 1) (k + 1)) ∧
 (∀ c a b, X[i] = .ins c a → Y[k] = .keep b → ¬ (apl a b).length ≤ 8 → ¬ Cp.fit X Y) ∧
 (∀ a b, X[i] = .keep a → Y[k] = .keep b → ¬ (cmp a b).length ≤ 8 → ¬ Cp.fit X Y) := by
 have e1 := List.drop_eq_getElem_cons hi; have e2 := List.drop_eq_getElem_cons hk; have hc := h.comp; have hf := h.fit; have hb := h.bal; rw [e1, e2] at hc hf hb; refine ⟨fun c a b hx hy hl => ?_, fun a b hx hy hl => ?_, fun c a hx hy => ?_, fun a hx hy => ?_, fun c a b hx hy hl => ?_, fun a b hx hy hl => ?_⟩ <;> rw [hx, hy] at hc hf hb
 ·rw [comp_ik] at hc; rw [fit_ik] at hf
  exact ⟨hi, hk, by rw [hc, List.append_assoc]; rfl, hf.trans ⟨fun h => h.2, fun h => ⟨hl, h⟩⟩, hb.met (by simp) (by simp)⟩
 ·rw [comp_kk] at hc; rw [fit_kk] at hf
  exact ⟨hi, hk, by rw [hc, List.append_assoc]; rfl, hf.trans ⟨fun h => h.2, fun h => ⟨hl, h⟩⟩, hb.met (by simp) (by simp)⟩
 ·rw [comp_id] at hc; rw [fit_id] at hf
  exact ⟨hi, hk, hc, hf, hb.met (by simp) (by simp)⟩
 ·rw [comp_kd] at hc; rw [fit_kd] at hf
  exact ⟨hi, hk, by rw [hc, List.append_assoc]; rfl, hf, hb.met (by simp) (by simp)⟩
 ·rw [fit_ik] at hf
  exact fun h => hl (hf.1 h).1
 ·rw [fit_kk] at hf
  exact fun h => hl (hf.1 h).1
theorem Way.done {X Y R : List Atm} {i k : Nat} (h : Way X Y R i k) (hi : ¬ i < X.length) (hk : ¬ k < Y.length) : Cp.comp X Y = R ∧ Cp.fit X Y := by
 have hc := h.comp; have hf := h.fit; rw [List.drop_eq_nil_of_le (Nat.not_lt.1 hi), List.drop_eq_nil_of_le (Nat.not_lt.1 hk)] at hc hf; rw [comp_nil, List.append_nil] at hc; exact ⟨hc, hf.2 (fit_nil _)⟩
end Cp
end
section
open Go.RowKit Rn Ch
open Cp (Atm opA Bal OkX)
theorem chg08 {a : List (ByteArray × ByteArray)} (h : chgB a = true) : chgE a = 0 := by unfold chgE; rw [h]; rfl
end
end Go.Proofs.Ytchceolbbkhnnaa
