import Derived.Test.YtchceolbbkhnnaaGJ4
import Derived.Test.YtchceolbbkhnnaaGL2
import Derived.Test.YtchceolbbkhnnaaGK3
import Derived.Test.YtchceolbbkhnnaaGR1
namespace Go.Proofs.Ytchceolbbkhnnaa
section
open Go.RowKit Rn Ch
end
section
open Go.RowKit Ch
theorem LRow.span {w w' : World} {B lo hi gg gc : Nat} {ps : List PA} (h : LRow w B gg gc ps) (hs : Span lo hi w w') (hb : hi ≤ B) : LRow w' B gg gc ps :=
 ⟨hs.own h.row hb, fun q hq => by
  obtain ⟨g, e, h⟩ := h.att q hq; exact ⟨g, e, hs.own h hb⟩, h.pw⟩
structure OwnU (w : World) (B U : Nat) (v : Value) (l : List OpD) : Prop where
 own : ∃ ps : List PA, ps.map (·.1) = l ∧ OwnP w B v ps ∧ (∀ j, v.ownBlock = some j → j < U) ∧ ∀ q ∈ ps, ∀ j, q.2.ownBlock = some j → j < U
theorem ownU_mk {w : World} {B : Nat} {v : Value} {l : List OpD} (h : OwnOps w B v l) : OwnU w B w.heap.size v l := by
 obtain ⟨ps, e, h⟩ := h; exact ⟨ps, e, h, fun j hj => (h.1.lt j hj).2, fun q hq j hj => ((h.2 q hq).lt j hj).2⟩
theorem OwnU.span {w w' : World} {B U lo hi : Nat} {v : Value} {l : List OpD} (h : OwnU w B U v l) (hs : Span lo hi w w') (hb : hi ≤ B) : OwnU w' B U v l := by
 obtain ⟨ps, e, h1, h2, h3⟩ := h; exact ⟨ps, e, h1.span hs hb, h2, h3⟩
theorem OwnU.below {w w' : World} {B U : Nat} {v : Value} {l : List OpD} (h : OwnU w B U v l) (hb : Below w.heap.size w w') : OwnU w' B U v l := by
 obtain ⟨ps, e, h1, h2, h3⟩ := h; exact ⟨ps, e, h1.keep (keep_below (ts := []) hb (Nat.le_refl _)) (by simp) (by simp), h2, h3⟩
theorem OwnU.row {w : World} {B U : Nat} {v : Value} {l : List OpD} (h : OwnU w B U v l) : OpRow w v l := by
 obtain ⟨ps, e, h1, h2, h3⟩ := h; rw [← e]; exact h1.row
theorem spoilU_any (f : Int) (v : Value) (B E : Nat) (l : List OpD) (w : World) (h : OwnU w B E v l) (hz : SmallO l) (hEw : E ≤ w.heap.size) (hBw : B ≤ w.heap.size) :
 Calls Try.prog 11 #[chAgg f v] w (SpoilOutC w B E) := by
 obtain ⟨ps, e, h1, h2, h3⟩ := h; exact spoilC_any f v B E ps w h1 (by rw [e]; exact hz) h2 h3 hEw hBw
theorem refSame_yes (f : Int) (v u : Value) (l : List OpD) (w : World) (hv : OpRow w v l) (hu : OpRow w u l) : Calls Try.prog 10 #[chAgg f v, chAgg f u] w (OutB w true) := by
 have := refSameCh_any f f v u l l w hv hu
 rwa [show sameCh f f l l = true from decide_eq_true ⟨rfl, rfl⟩] at this
theorem ChOwn.shapeW {w : World} {F E : Int} {R : List OpD} {e : Ending} {w' : World} (h : ChOwn w F E R e w') : ∃ a n c, e = .returned (.tuple #[chAgg F (.slice a n c), .int .i64 E]) ∧ OwnU w' w.heap.size w'.heap.size (.slice a n c) R ∧ Below w.heap.size w w' := by
 obtain ⟨a, c, h1, h2, h3⟩ := h; exact ⟨a, _, c, h1, ownU_mk h2, h3⟩
theorem LentOutC.shapeW {w : World} {f : Int} {ops : List OpD} {e : Ending} {w' : World} (h : LentOutC w f ops e w') : ∃ gg gc ps, e = .returned (chAgg f (.slice (some ⟨gg, 0, none⟩) ops.length gc)) ∧ ps.map (·.1) = ops ∧ LRow w' w.heap.size gg gc ps ∧ Below w.heap.size w w' ∧ gg < w'.heap.size ∧ ∀ q ∈ ps, ∀ j, q.2.ownBlock = some j → j < w'.heap.size := by
 obtain ⟨gg, gc, ps, h1, h2, h3, h4⟩ := h; exact ⟨gg, gc, ps, h1, h2, h3, h4, (h3.row.lt gg rfl).2, fun q hq j hj => ((h3.att q hq).lt j hj).2⟩
theorem LRow.opsE {w : World} {B gg gc : Nat} {ps : List PA} {ops : List OpD} (h : LRow w B gg gc ps) (e : ps.map (·.1) = ops) : OpRow w (.slice (some ⟨gg, 0, none⟩) ops.length gc) ops := by
 have := h.ops; rw [e] at this
 rwa [show ps.length = ops.length by rw [← e]; simp] at this
end
end Go.Proofs.Ytchceolbbkhnnaa
