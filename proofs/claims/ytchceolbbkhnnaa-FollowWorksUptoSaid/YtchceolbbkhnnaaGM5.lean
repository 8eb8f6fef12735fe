import Derived.Test.YtchceolbbkhnnaaGP1
import Derived.Test.YtchceolbbkhnnaaGM1
import Derived.Test.YtchceolbbkhnnaaGD1
import Derived.Test.YtchceolbbkhnnaaGC1
import Derived.Test.YtchceolbbkhnnaaGM4
import Derived.Test.YtchceolbbkhnnaaGP2
import Derived.RegionTactic
import Derived.ChangeAlike
import Derived.BigRegion
import Derived.WalkKit
namespace Go.Proofs.Ytchceolbbkhnnaa
section
open Go.RowKit Rn Ch
open At hiding put
open Cp (oneO oneE alC zeroO)
end
section
open Go.RowKit Rn Ch
open At hiding put
def nrmE (f g : Int) (A C : List OpD) : Int := if toE f A ≠ 0 then toE f A else if toE g C ≠ 0 then toE g C else if toN f A ≠ g then 31 else 0
theorem results_nrm {fn : Func} (h : fn.results = #[.cell 4 24, .cell 5 24, .tmp 6]) {tmps : Array Value} {w : World} {b4 b5 : Nat} {x0 x1 y0 y1 v : Value} (h4 : tmps.getD 4 undef = .pointer (some ⟨b4, 0, none⟩)) (h5 : tmps.getD 5 undef = .pointer (some ⟨b5, 0, none⟩)) (h6 : tmps.getD 6 undef = v)
 (a : w.heap[b4]? = some (.cells #[x0, x1] 24 (0, 0))) (b : w.heap[b5]? = some (.cells #[y0, y1] 24 (0, 0))) : (results fn tmps).run Try.prog w = .ok (.tuple #[.agg #[x0, x1], .agg #[y0, y1], v]) w := by
 rw [Array.getD_eq_getD_getElem?] at h4 h5 h6; have a0 : w.cell? ⟨b4, 0, none⟩ = some x0 := by simp [World.cell?, a]
 have a1 : w.cell? ⟨b4, 1, none⟩ = some x1 := by simp [World.cell?, a]
 have c0 : w.cell? ⟨b5, 0, none⟩ = some y0 := by simp [World.cell?, b]
 have c1 : w.cell? ⟨b5, 1, none⟩ = some y1 := by simp [World.cell?, b]
 clear a b; simp [results, h, h4, h5, h6, go_sem, a0, a1, c0, c1]
theorem own_nil_slice {w : World} {B : Nat} {v : Value} {l : List OpD} (h : OwnOps w B v l) : ∃ a c, v = .slice a l.length c := by
 obtain ⟨ps, hps, hP⟩ := h; obtain ⟨a, c, rfl⟩ := own_slice hP.1; exact ⟨a, c, by rw [← hps, List.length_map]⟩
theorem OwnOps.keep' {w w' : World} {B C : Nat} {v : Value} {l : List OpD} {ts : List TypeId} (h : OwnOps w B v l) (hk : Keep C ts w w') (h1 : 40 ∉ ts) (h2 : 81 ∉ ts) : OwnOps w' B v l := by
 obtain ⟨ps, hps, hP⟩ := h; exact ⟨ps, hps, hk.own hP.1 h1, fun p hp => hk.own (hP.2 p hp) h2⟩
theorem OwnOps.base' {w : World} {B C : Nat} {v : Value} {l : List OpD} (h : OwnOps w B v l) (hC : C ≤ B) : OwnOps w C v l := by
 obtain ⟨ps, hps, hP⟩ := h; exact ⟨ps, hps, own_base hP.1 hC, fun p hp => own_base (hP.2 p hp) hC⟩
theorem set22 {w : World} {a b B : Nat} {x0 x1 y0 y1 u0 u1 v0 v1 : Value} (ha : w.heap[a]? = some (.cells #[x0, x1] 24 (0, 0))) (hb : w.heap[b]? = some (.cells #[y0, y1] 24 (0, 0))) (hne : b ≠ a) (hA : B ≤ a) (hB : B ≤ b) :
 ((((w.setCell ⟨a, 0, none⟩ u0).setCell ⟨a, 1, none⟩ u1).setCell ⟨b, 0, none⟩ v0).setCell ⟨b, 1, none⟩ v1).heap[a]? = some (.cells #[u0, u1] 24 (0, 0)) ∧ ((((w.setCell ⟨a, 0, none⟩ u0).setCell ⟨a, 1, none⟩ u1).setCell ⟨b, 0, none⟩ v0).setCell ⟨b, 1, none⟩ v1).heap[b]? = some (.cells #[v0, v1] 24 (0, 0)) ∧
 Keep B [24] w ((((w.setCell ⟨a, 0, none⟩ u0).setCell ⟨a, 1, none⟩ u1).setCell ⟨b, 0, none⟩ v0).setCell ⟨b, 1, none⟩ v1) := by
 have k1 : (w.setCell ⟨a, 0, none⟩ u0).heap[a]? = some (.cells #[u0, x1] 24 (0, 0)) := nblk_set ha; have k2 : ((w.setCell ⟨a, 0, none⟩ u0).setCell ⟨a, 1, none⟩ u1).heap[a]? = some (.cells #[u0, u1] 24 (0, 0)) := nblk_set k1; have j2 : ((w.setCell ⟨a, 0, none⟩ u0).setCell ⟨a, 1, none⟩ u1).heap[b]? = some (.cells #[y0, y1] 24 (0, 0)) := (Below.heap_setCell _ _ _ _ hne).trans ((Below.heap_setCell _ _ _ _ hne).trans hb); have j3 : (((w.setCell ⟨a, 0, none⟩ u0).setCell ⟨a, 1, none⟩ u1).setCell ⟨b, 0, none⟩ v0).heap[b]? = some (.cells #[v0, y1] 24 (0, 0)) := nblk_set j2; refine ⟨(Below.heap_setCell _ _ _ _ (Ne.symm hne)).trans ((Below.heap_setCell _ _ _ _ (Ne.symm hne)).trans k2), nblk_set j3, ?_⟩; exact (((keep_set (ts := [24]) ha (by simp) hA ⟨a, 0, none⟩ rfl u0).trans (keep_set k1 (by simp) hA ⟨a, 1, none⟩ rfl u1)).trans (keep_set j2 (by simp) hB ⟨b, 0, none⟩ rfl v0)).trans (keep_set j3 (by simp) hB ⟨b, 1, none⟩ rfl v1)
end
section
open Go.RowKit Rn Ch
open At hiding put
open Cp (Piece oneO oneE alC zeroO atm atms)
def addrOf : Value → Option Addr × Nat
 | .slice a _ c => (a, c)
 | _ => (none, 0)
theorem qs_of {w : World} {B : Nat} {v : Value} {ps : List (OpD × Value)} (h : OwnP w B v ps) : ∃ qs : List QV5, qs.map (·.1) = ps.map (·.1) ∧ RowQ w v qs ∧ ∀ q ∈ qs, w.ownsRow B 81 2 (qv q) q.1.attrs.length (flat q.1.attrs) := by
 have hq : ∀ p ∈ ps, qv (p.1, addrOf p.2) = p.2 := fun p hp => by
  obtain ⟨a, c, e⟩ := own_slice (h.2 p hp); show Value.slice (addrOf p.2).1 p.1.attrs.length (addrOf p.2).2 = p.2
  rw [e]; rfl
 refine ⟨ps.map fun p => (p.1, addrOf p.2), by rw [List.map_map]; rfl, ?_, fun q hm => ?_⟩
 ·rcases h.1.2 with ⟨rfl, h0⟩ | ⟨g, cap, cur, rfl, _, hg, hn, hm, _⟩
  ·have : ps = [] := List.length_eq_zero_iff.1 h0
   subst this; exact ⟨none, 0, rfl, Nat.le_refl _, Nat.zero_le _, fun i hi => absurd hi (Nat.not_lt_zero _)⟩
  ·refine ⟨some ⟨g, 0, none⟩, cap, by rw [List.length_map], by rw [List.length_map]; exact hn, hm, fun i hi => ?_⟩
   have hi' : i < ps.length := by rwa [List.length_map] at hi
   have e : ∀ j, j < 4 → w.cell? ⟨g, 0 + i * 4 + j, none⟩ = (opCells ps[i])[j]? := fun j hj => by
    rw [Nat.zero_add, h.1.cellAt _ (by omega), flatO_at hi' j hj]
   refine ⟨g, 0, rfl, lt_of_heap hg, ?_, ?_, ?_, ?_⟩
   ·rw [List.getElem_map]; exact e 0 (by omega)
   ·rw [List.getElem_map]; exact e 1 (by omega)
   ·rw [List.getElem_map]; exact e 2 (by omega)
   ·rw [List.getElem_map, hq _ (List.getElem_mem hi')]; exact e 3 (by omega)
 ·obtain ⟨p, hp, rfl⟩ := List.mem_map.1 hm
  rw [hq p hp]; exact h.2 p hp
def sM (ps : List (QV5 × QV5)) (k : Nat) : List OpD × Int := (ps.take k).foldl (fun s p => addG s (oneO p.1.1 p.2.1)) ([], 0)
theorem small_one {l : List (K × V)} (h : rgtB l = true ∨ chgB l = true) : SmallA l := by
 rcases h with h | h
 ·exact small_rgt (by unfold rgtE; rw [if_pos h])
 ·exact small_chg (by unfold chgE; rw [if_pos h])
theorem vq_of {f : Int} {ops : List OpD} (h : OkC f ops) {qs : List QV5} (e : qs.map (·.1) = ops) : VQ qs := fun q hq => by
 have hm : q.1 ∈ ops := by rw [← e]; exact List.mem_map.2 ⟨q, hq, rfl⟩
 exact ⟨h.2.2.2.1 _ hm, (vop_of h hm).n1⟩
end
section
open Go.RowKit Rn Ch
open At hiding put
open Cp (Piece oneO oneE alC zeroO atm atms)
theorem own_cells5 {w w' : World} {C k n : Nat} {e : TypeId} {v : Value} {xs : List Value} (h : w.ownsRow C e k v n xs) (hk : ∀ (i : Nat) (cs : Array Value) (fr : Nat × Nat), w.heap[i]? = some (.cells cs e fr) → w'.heap[i]? = some (.cells cs e fr)) : w'.ownsRow C e k v n xs :=
 ⟨h.1, h.2.imp id fun ⟨g, cap, cur, a, b, c, d⟩ => ⟨g, cap, cur, a, b, hk g cur (0, 0) c, d⟩⟩
theorem NSt.step5 {w w' : World} {B C N b : Nat} {own : List Nat} {ov : Value} {l : List OpD} {g : Int} (h : NSt w B b ov l g) (hs : Step C N WT5 own w w') : NSt w' B b ov l g := by
 obtain ⟨ps, ad, bv, bt, a1, a2, a3, a4, a5⟩ := h; have hk : ∀ {e : TypeId}, e ∉ WT5 → ∀ (i : Nat) (cs : Array Value) (fr : Nat × Nat), w.heap[i]? = some (.cells cs e fr) → w'.heap[i]? = some (.cells cs e fr) := fun he i cs fr hi => hs.cells _ _ _ _ hi (.inl he); exact ⟨ps, ad, bv, bt, hk (by decide) _ _ _ a1, a2, ⟨own_cells5 a3.1 (hk (by decide)), fun p hp => own_cells5 (a3.2 p hp) (hk (by decide))⟩, ⟨own_cells5 a4.1 (hk (by decide)), a4.2⟩, a5⟩
structure StM (w W : World) (tb : Nat) (f : Int) (u : Value) (qA qC : List QV5) (ps : List (QV5 × QV5)) (k : Nat) : Prop where
 below : Below w.heap.size w W
 gat : ∃ ov, NSt W w.heap.size tb ov (sM ps k).1 (sM ps k).2
 ba : W.heap[w.heap.size]? = some (.cells #[.int .i64 f, u] 24 (0, 0))
 r4 : W.heap[w.heap.size + 1 + 1]? = some (.cells #[.int .i64 0, .slice none 0 0] 24 (0, 0))
 r5 : Boxed W (w.heap.size + 1 + 1 + 1) 28 (.int .i64 0)
 own : ∀ q, q ∈ qA ∨ q ∈ qC → ∃ B, W.ownsRow B 81 2 (qv q) q.1.attrs.length (flat q.1.attrs)
 ok : ∀ i (h : i < ps.length), i < k → oneE ps[i].1.1 ps[i].2.1 = 0
structure EndM (w W : World) (ps : List (QV5 × QV5)) : Prop where
 below : Below w.heap.size w W
 r4 : W.heap[w.heap.size + 1 + 1]? = some (.cells #[.int .i64 0, .slice none 0 0] 24 (0, 0))
 r5 : Boxed W (w.heap.size + 1 + 1 + 1) 28 (.int .i64 3)
 bad : ∃ p ∈ ps, oneE p.1.1 p.2.1 ≠ 0
theorem StM.step {w W W' : World} {tb N : Nat} {f : Int} {u : Value} {qA qC : List QV5} {ps : List (QV5 × QV5)} {k : Nat} {own : List Nat} (h : StM w W tb f u qA qC ps k) (hs : Step w.heap.size N WT5 own W W') : StM w W' tb f u qA qC ps k where
 below := h.below.trans hs.below
 gat := by obtain ⟨ov, hg⟩ := h.gat; exact ⟨ov, hg.step5 hs⟩
 ba := hs.cells _ _ _ _ h.ba (.inl (by decide))
 r4 := hs.cells _ _ _ _ h.r4 (.inl (by decide))
 r5 := hs.cells _ _ _ _ h.r5 (.inl (by decide))
 own := fun q hq => by obtain ⟨B, ho⟩ := h.own q hq; exact ⟨B, own_cells5 ho fun i cs fr hi => hs.cells _ _ _ _ hi (.inl (by decide))⟩
 ok := h.ok
theorem EndM.step {w W W' : World} {N : Nat} {ps : List (QV5 × QV5)} {own : List Nat} (h : EndM w W ps) (hs : Step w.heap.size N WT5 own W W') : EndM w W' ps :=
 ⟨h.below.trans hs.below, hs.cells _ _ _ _ h.r4 (.inl (by decide)), hs.cells _ _ _ _ h.r5 (.inl (by decide)), h.bad⟩
theorem src_row {W : World} {l : List QV5} {q : QV5} (h : SrcOf l q) (ho : ∀ z ∈ l, ∃ B, W.ownsRow B 81 2 (qv z) z.1.attrs.length (flat z.1.attrs)) : ∃ B, W.ownsRow B 81 2 (qv q) q.1.attrs.length (flat q.1.attrs) := by
 rcases h with ⟨h1, h2⟩ | ⟨z, hz, h1, h2⟩
 ·refine ⟨0, ?_⟩
  show W.ownsRow 0 _ 2 (.slice q.2.1 q.1.attrs.length q.2.2) q.1.attrs.length (flat q.1.attrs)
  rw [h1, h2]; exact World.ownsRow_nil _ _ _ _
 ·obtain ⟨B, hB⟩ := ho z hz
  refine ⟨B, ?_⟩; show W.ownsRow B _ 2 (.slice q.2.1 q.1.attrs.length q.2.2) q.1.attrs.length (flat q.1.attrs)
  rw [h1, h2]; exact hB
theorem src_sized {l : List QV5} {q : QV5} (h : SrcOf l q) (hl : VQ l) : Sized q.1.attrs := by
 rcases h with ⟨h1, _⟩ | ⟨z, hz, h1, _⟩
 ·rw [h1]; exact sized_nil
 ·rw [h1]
  exact (small_one (piece_small (hl z hz)).2.2.2).sized
end
end Go.Proofs.Ytchceolbbkhnnaa
