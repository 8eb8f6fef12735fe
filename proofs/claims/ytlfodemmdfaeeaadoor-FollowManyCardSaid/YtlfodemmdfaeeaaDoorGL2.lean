/- Texts of this seat, put together: Ld, Le, Lf. -/
import Derived.Test.YtlfodemmdfaeeaaDoorGM7
import Derived.StillTailTactics
/- The program's All: one for many. -/
namespace Go.Proofs.YtlfodemmdfaeeaaDoor
open Go.RowKit Rn Ch
open At hiding put
open Cp (atms)

/-- A row of changesets. -/
def ChsRow (w : World) (v : Value) (L : List (Int × List OpD)) : Prop :=
  ∃ a cap, v = .slice a L.length cap ∧ L.length ≤ cap ∧ cap ≤ maxLen ∧ ∀ i (h : i < L.length), ∃ b off u, a = some ⟨b, off, none⟩ ∧ b < w.heap.size ∧ w.cell? ⟨b, off + i * 2, none⟩ = some (.int .i64 L[i].1) ∧ w.cell? ⟨b, off + i * 2 + 1, none⟩ = some u ∧ OpRow w u L[i].2
theorem ChsRow.below {w w' : World} {v : Value} {L : List (Int × List OpD)} (h : ChsRow w v L) (hb : Below w.heap.size w w') : ChsRow w' v L := by
  obtain ⟨a, c, h0, h1, h2, h3⟩ := h
  refine ⟨a, c, h0, h1, h2, fun i hi => ?_⟩
  obtain ⟨b, off, u, e, hl, x0, x1, x2⟩ := h3 i hi
  exact ⟨b, off, u, e, Nat.lt_of_lt_of_le hl hb.size, (hb.cell (by exact hl)).trans x0, (hb.cell (by exact hl)).trans x1, x2.below hb⟩
theorem ChsRow.at {w : World} {a : Option Addr} {n c : Nat} {L : List (Int × List OpD)} (h : ChsRow w (.slice a n c) L) (k : Nat) (hk : k < L.length) :
    ∃ b off u, a = some ⟨b, off, none⟩ ∧ b < w.heap.size ∧ w.cell? ⟨b, off + k * 2, none⟩ = some (.int .i64 L[k].1) ∧ w.cell? ⟨b, off + k * 2 + 1, none⟩ = some u ∧ OpRow w u L[k].2 := by
  obtain ⟨a', c', h0, _, _, h3⟩ := h
  injection h0 with e1 _ _
  subst e1
  exact h3 k hk
def CsSized (L : List (Int × List OpD)) : Prop := ∀ c ∈ L, OSized c.2
/-- One for many: the error, the From, the operations. -/
noncomputable def allR : List (Int × List OpD) → Int → List OpD → Int × Int × List OpD
  | [], f, R => (0, f, R)
  | c :: L, f, R => if cmpE f c.1 R c.2 = 0 then allR L f (cmpR f c.1 R c.2) else (cmpE f c.1 R c.2, 0, [])
noncomputable def allF (n : Int) (L : List (Int × List OpD)) : Int × Int × List OpD := if n < 0 ∨ 20000 < n then (31, 0, []) else allR L n []
theorem results_all {fn : Func} {i j : Nat} (h : fn.results = #[.cell i 25, .tmp j]) {tmps : Array Value} {w : World} {b4 : Nat} {v x y : Value} (h4 : tmps.getD i undef = .pointer (some ⟨b4, 0, none⟩)) (h5 : tmps.getD j undef = v)
    (z4 : w.cell? ⟨b4, 0, none⟩ = some x) (z5 : w.cell? ⟨b4, 1, none⟩ = some y) : (results fn tmps).run Tryd.prog w = .ok (.tuple #[.agg #[x, y], v]) w := by
  rw [Array.getD_eq_getD_getElem?] at h4 h5
  simp [results, h, h4, h5, go_sem, z4, z5]
theorem not_int {E : Int} (h : ¬ E = 0) : (E == 0) = false := by rw [beq_eq_false_iff_ne]; exact h
end Go.Proofs.YtlfodemmdfaeeaaDoor


namespace Go.Proofs.YtlfodemmdfaeeaaDoor
open Go.RowKit Rn Ch
open At hiding put
open Cp (atms)

theorem ok_lims {f : Int} {A : List OpD} (h : toE f A = 0) : 0 ≤ f ∧ f ≤ 20000 ∧ 0 ≤ toN f A ∧ toN f A ≤ 20000 ∧ allE A ∧ Ch.ins A ≤ 20000 ∧ (norm A).length ≤ 2000 ∧ norm (norm A) = norm A := by
  have ho := (toE_iff f A).1 h
  obtain ⟨hn, _, _⟩ := norm_ok ho
  obtain ⟨a1, a2, a3, a4, a5, a6⟩ := ho
  have hd : dl A ≤ kd A := by
    obtain ⟨s1, s2, _⟩ := Cp.sums_atms a4
    have key : ∀ X : List Cp.Atm, Cp.dA X ≤ Cp.kA X := by
      intro X
      induction X with
      | nil => exact Nat.le_refl _
      | cons x r ih => cases x <;> simp only [Cp.dA, Cp.kA] <;> omega
    have := key (atms A)
    omega
  have hi : 0 ≤ Ch.ins A := ins_nonneg A
  rw [toN_ok h]
  exact ⟨a1, a2, by omega, a6, a4, by omega, hn.2.2.1, norm_once a4 (by omega)⟩
theorem sameH {f : Int} {v u : Value} {l : List OpD} {w : World} (hv : OpRow w v l) (hu : OpRow w u l) : Calls Tryd.prog 15 #[chAgg f v, chAgg f u] w (OutB w true) := by
  have := changeSame_any f f v u l l w hv hu
  rwa [show sameCh f f l l = true from decide_eq_true ⟨rfl, rfl⟩] at this
theorem box3 (w : World) (o1 o2 o3 : Obj) : (((w.alloc o1).alloc o2).alloc o3).heap[w.heap.size]? = some o1 ∧ (((w.alloc o1).alloc o2).alloc o3).heap[w.heap.size + 1]? = some o2 ∧ (((w.alloc o1).alloc o2).alloc o3).heap[w.heap.size + 1 + 1]? = some o3 ∧ Below w.heap.size w (((w.alloc o1).alloc o2).alloc o3) := by
  obtain ⟨h1, h2, h3⟩ := box2 w o1 o2
  have := heap_new ((w.alloc o1).alloc o2) o3
  rw [World.size_alloc, World.size_alloc] at this
  exact ⟨heap_up h1 (below_box _ _), heap_up h2 (below_box _ _), this, h3.alloc (by simp; omega) _⟩
end Go.Proofs.YtlfodemmdfaeeaaDoor


namespace Go.Proofs.YtlfodemmdfaeeaaDoor
open Go.RowKit Rn Ch
open At hiding put
open Cp (atms)

theorem norm_to7 {f : Int} {A : List OpD} (h : toE f A = 0) : toE f (norm A) = 0 ∧ toN f (norm A) = toN f A ∧ norm (norm A) = norm A := by
  obtain ⟨h1, h2, h3⟩ := norm_ok ((toE_iff _ _).1 h)
  have h4 := (toE_iff _ _).2 h1
  exact ⟨h4, by rw [toN_ok h4, toN_ok h, h2, h3], (ok_lims h).2.2.2.2.2.2.2⟩
/-- Three, where the first two, and the last two, may be composed. -/
structure ThreeF (f g k : Int) (A B C : List OpD) : Prop where
  all : allF f [(f, A), (g, B), (k, C)] = (cmpE f k (cmpR f g A B) C, if cmpE f k (cmpR f g A B) C = 0 then f else 0, cmpR f k (cmpR f g A B) C)
  l : cmpE f k (cmpR f g A B) C ≠ 31
  r : cmpE f g A (cmpR g k B C) ≠ 31
  same : cmpE f k (cmpR f g A B) C = 0 → cmpE f g A (cmpR g k B C) = 0 → cmpR f k (cmpR f g A B) C = cmpR f g A (cmpR g k B C)
end Go.Proofs.YtlfodemmdfaeeaaDoor
