import Derived.Test.YtchceolbbkhnnaaGM7
import Derived.StillTailTactics
namespace Go.Proofs.Ytchceolbbkhnnaa
open Go.RowKit Rn Ch
open At hiding put
open Cp (atms)
def ChsRow (w : World) (v : Value) (L : List (Int × List OpD)) : Prop :=
 ∃ a cap, v = .slice a L.length cap ∧ L.length ≤ cap ∧ cap ≤ maxLen ∧ ∀ i (h : i < L.length), ∃ b off u, a = some ⟨b, off, none⟩ ∧ b < w.heap.size ∧ w.cell? ⟨b, off + i * 2, none⟩ = some (.int .i64 L[i].1) ∧ w.cell? ⟨b, off + i * 2 + 1, none⟩ = some u ∧ OpRow w u L[i].2
theorem ChsRow.below {w w' : World} {v : Value} {L : List (Int × List OpD)} (h : ChsRow w v L) (hb : Below w.heap.size w w') : ChsRow w' v L := by
 obtain ⟨a, c, h0, h1, h2, h3⟩ := h; refine ⟨a, c, h0, h1, h2, fun i hi => ?_⟩; obtain ⟨b, off, u, e, hl, x0, x1, x2⟩ := h3 i hi; exact ⟨b, off, u, e, Nat.lt_of_lt_of_le hl hb.size, (hb.cell (by exact hl)).trans x0, (hb.cell (by exact hl)).trans x1, x2.below hb⟩
theorem ChsRow.at {w : World} {a : Option Addr} {n c : Nat} {L : List (Int × List OpD)} (h : ChsRow w (.slice a n c) L) (k : Nat) (hk : k < L.length) :
 ∃ b off u, a = some ⟨b, off, none⟩ ∧ b < w.heap.size ∧ w.cell? ⟨b, off + k * 2, none⟩ = some (.int .i64 L[k].1) ∧ w.cell? ⟨b, off + k * 2 + 1, none⟩ = some u ∧ OpRow w u L[k].2 := by
 obtain ⟨a', c', h0, _, _, h3⟩ := h; injection h0 with e1 _ _; subst e1; exact h3 k hk
def CsSized (L : List (Int × List OpD)) : Prop := ∀ c ∈ L, OSized c.2
noncomputable def allR : List (Int × List OpD) → Int → List OpD → Int × Int × List OpD
 | [], f, R => (0, f, R)
 | c :: L, f, R => if cmpE f c.1 R c.2 = 0 then allR L f (cmpR f c.1 R c.2) else (cmpE f c.1 R c.2, 0, [])
noncomputable def allF (n : Int) (L : List (Int × List OpD)) : Int × Int × List OpD := if n < 0 ∨ 20000 < n then (31, 0, []) else allR L n []
theorem results_all {fn : Func} {i j : Nat} (h : fn.results = #[.cell i 24, .tmp j]) {tmps : Array Value} {w : World} {b4 : Nat} {v x y : Value} (h4 : tmps.getD i undef = .pointer (some ⟨b4, 0, none⟩)) (h5 : tmps.getD j undef = v)
 (z4 : w.cell? ⟨b4, 0, none⟩ = some x) (z5 : w.cell? ⟨b4, 1, none⟩ = some y) : (results fn tmps).run Try.prog w = .ok (.tuple #[.agg #[x, y], v]) w := by
 rw [Array.getD_eq_getD_getElem?] at h4 h5; simp [results, h, h4, h5, go_sem, z4, z5]
theorem not_int {E : Int} (h : ¬ E = 0) : (E == 0) = false := by rw [beq_eq_false_iff_ne]; exact h
end Go.Proofs.Ytchceolbbkhnnaa
