/- Operations in memory: a row of them, whosever it is; changesets as values. -/
import Derived.Test.YthcpagpiphemgaaCh
import Derived.Test.YthcpagpiphemgaaAtOwn
import Derived.Test.YthcpagpiphemgaaAtSame
namespace Go.Proofs.Ythcpagpiphemgaa
open Go.RowKit Ch

abbrev opAgg (o : OpD) (av : Value) : Value := .agg #[.int .i64 o.kind, .int .i64 o.n, .string o.text, av]
abbrev chAgg (f : Int) (v : Value) : Value := .agg #[.int .i64 f, v]
/-- The operation o lies at the place p of block b. -/
def OpAt (w : World) (b p : Nat) (o : OpD) : Prop := ∃ av, AtRow w av o.attrs ∧ Proper av ∧ w.cell? ⟨b, p, none⟩ = some (.int .i64 o.kind) ∧ w.cell? ⟨b, p + 1, none⟩ = some (.int .i64 o.n) ∧ w.cell? ⟨b, p + 2, none⟩ = some (.string o.text) ∧ w.cell? ⟨b, p + 3, none⟩ = some av
/-- A row of operations, nil or not. -/
def OpRow (w : World) (v : Value) (ops : List OpD) : Prop :=
  ∃ a cap, v = .slice a ops.length cap ∧ ops.length ≤ cap ∧ cap ≤ maxLen ∧ ∀ i (h : i < ops.length), ∃ b off, a = some ⟨b, off, none⟩ ∧ b < w.heap.size ∧ OpAt w b (off + i * 4) ops[i]
theorem OpAt.below {w w' : World} {b p : Nat} {o : OpD} (h : OpAt w b p o) (hlt : b < w.heap.size) (hb : Below w.heap.size w w') : OpAt w' b p o := by
  obtain ⟨av, h0, hp, h1, h2, h3, h4⟩ := h
  exact ⟨av, h0.below hb, hp, by rw [hb.cell (by exact hlt)]; exact h1, by rw [hb.cell (by exact hlt)]; exact h2, by rw [hb.cell (by exact hlt)]; exact h3, by rw [hb.cell (by exact hlt)]; exact h4⟩
theorem OpRow.below {w w' : World} {v : Value} {ops : List OpD} (h : OpRow w v ops) (hb : Below w.heap.size w w') : OpRow w' v ops := by
  obtain ⟨a, cap, rfl, h1, h2, h3⟩ := h
  refine ⟨a, cap, rfl, h1, h2, fun i hi => ?_⟩
  obtain ⟨b, off, rfl, hlt, ho⟩ := h3 i hi
  exact ⟨b, off, rfl, Nat.lt_of_lt_of_le hlt hb.size, ho.below hlt hb⟩
theorem OpRow.nil (w : World) : OpRow w (.slice none 0 0) [] := ⟨none, 0, rfl, Nat.le_refl _, Nat.zero_le _, fun i h => absurd h (Nat.not_lt_zero _)⟩
/-- Each text is such as memory holds. -/
def OSized (ops : List OpD) : Prop := ∀ o ∈ ops, o.text.size ≤ maxLen ∧ Sized o.attrs

theorem text_empty {s : ByteArray} (h : s.size = 0) : s.toList.isEmpty = true ∧ s.toList = [] := by
  have e : s = ⟨#[]⟩ := ba_eq (List.length_eq_zero_iff.1 (show s.data.toList.length = 0 from h))
  rw [e]
  exact ⟨by rw [ByteArray.toList_eq]; rfl, by rw [ByteArray.toList_eq]⟩
theorem text_full {s : ByteArray} (h : s.size ≠ 0) : s.toList.isEmpty = false := by
  rw [ByteArray.toList_eq]
  cases hl : s.data.toList with
  | nil => exact absurd (by rw [size_data, hl]; rfl) h
  | cons _ _ => rfl
theorem AtRow.shape {w : World} {v : Value} {l : List (ByteArray × ByteArray)} (h : AtRow w v l) : ∃ a cap, v = .slice a l.length cap := by
  obtain ⟨a, cap, rfl, _⟩ := h
  exact ⟨a, cap, rfl⟩
theorem OpRow.shape {w : World} {v : Value} {l : List OpD} (h : OpRow w v l) : ∃ a cap, v = .slice a l.length cap := by
  obtain ⟨a, cap, rfl, _⟩ := h
  exact ⟨a, cap, rfl⟩
theorem below_box (w : World) (o : Obj) : Below w.heap.size w (w.alloc o) := (Below.refl _ _).alloc (Nat.le_refl _) _
/-- Whatever was there stays, and all rows of attributes: what a call does that writes into operations of its own. -/
theorem below_alloc {B : Nat} {w w' : World} (h : Below B w w') (hB : B ≤ w.heap.size) (o : Obj) : Below B w (w'.alloc o) := h.alloc (Nat.le_trans hB h.size) o
end Go.Proofs.Ythcpagpiphemgaa
