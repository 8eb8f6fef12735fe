/- Rows of attributes in memory; their order. -/
import Derived.Test.YthcpagpiphemgaaAtKey
import Derived.Deep.QuietTactic
namespace Go.Proofs.Ythcpagpiphemgaa
open Go.RowKit

/-- A row of attributes, nil or not: each element is two cells, a key's and a value's. -/
def AtRow (w : World) (v : Value) (l : List (ByteArray × ByteArray)) : Prop :=
  ∃ a cap, v = .slice a l.length cap ∧ l.length ≤ cap ∧ cap ≤ maxLen ∧ ∀ i (h : i < l.length), ∃ b off, a = some ⟨b, off, none⟩ ∧ b < w.heap.size ∧ w.cell? ⟨b, off + i * 2, none⟩ = some (.string l[i].1) ∧ w.cell? ⟨b, off + i * 2 + 1, none⟩ = some (.string l[i].2)
theorem AtRow.below {w w' : World} {v : Value} {l : List (ByteArray × ByteArray)} (h : AtRow w v l) (hb : Below w.heap.size w w') : AtRow w' v l := by
  obtain ⟨a, cap, rfl, h1, h2, h3⟩ := h
  refine ⟨a, cap, rfl, h1, h2, fun i hi => ?_⟩
  obtain ⟨b, off, rfl, hlt, hc, hd⟩ := h3 i hi
  exact ⟨b, off, rfl, Nat.lt_of_lt_of_le hlt hb.size, by rw [hb.cell (by exact hlt)]; exact hc, by rw [hb.cell (by exact hlt)]; exact hd⟩

theorem look_step (l : List (ByteArray × ByteArray)) (k : ByteArray) (i : Nat) (hi : i < l.length) (h : ∀ j (hj : j < l.length), j < i → l[j].1 ≠ k) (he : l[i].1 = k) : At.look l k = some l[i].2 := by
  induction l generalizing i with
  | nil => simp at hi
  | cons x r ih =>
    cases i with
    | zero => rw [At.look, if_pos (show x.1 = k from he)]; rfl
    | succ i =>
      have h0 := h 0 (by simp) (by omega)
      rw [At.look, if_neg (show ¬ x.1 = k from h0)]
      exact ih i (by simpa using hi) (fun j hj hji => h (j + 1) (by simpa using hj) (by omega)) he
theorem look_all (l : List (ByteArray × ByteArray)) (k : ByteArray) (h : ∀ j (hj : j < l.length), l[j].1 ≠ k) : At.look l k = none :=
  At.look_none fun x hx => by
    obtain ⟨j, hj, rfl⟩ := List.getElem_of_mem hx
    exact h j hj

theorem toList_ba {a b : ByteArray} (h : a.toList = b.toList) : a = b := by
  rw [ByteArray.toList_eq, ByteArray.toList_eq] at h
  cases a; cases b; simp_all

/-- Are the first n a change's, and the rest? -/
def chgOne (l : List (ByteArray × ByteArray)) (i : Nat) (h : i < l.length) : Bool := keyB l[i].1 && valB l[i].2 && (if h0 : 0 < i then Op.bytesLess (l[i - 1]'(by omega)).1.toList l[i].1.toList else true)
def chgB (l : List (ByteArray × ByteArray)) : Bool := decide (l.length ≤ 8 ∧ ∀ i (h : i < l.length), chgOne l i h = true)
def chgE (l : List (ByteArray × ByteArray)) : Int := if chgB l = true then 0 else 20
theorem chgE_bad {l : List (ByteArray × ByteArray)} {i : Nat} (h : i < l.length) (hb : chgOne l i h = false) : chgE l = 20 := by
  have : chgB l = false := decide_eq_false fun hh => by
    have := hh.2 i h
    rw [hb] at this
    cases this
  unfold chgE
  rw [this]; rfl
theorem chgE_long {l : List (ByteArray × ByteArray)} (h : 8 < l.length) : chgE l = 20 := by
  have : chgB l = false := decide_eq_false fun hh => by have := hh.1; omega
  unfold chgE
  rw [this]; rfl
theorem chgE_ok {l : List (ByteArray × ByteArray)} (h : l.length ≤ 8) (hh : ∀ i (h : i < l.length), chgOne l i h = true) : chgE l = 0 := by
  have : chgB l = true := decide_eq_true ⟨h, hh⟩
  unfold chgE
  rw [this]; rfl
theorem less_not : ∀ x y : List UInt8, (Op.bytesLess x y || x == y) = !(Op.bytesLess y x)
  | [], [] => rfl
  | [], _ :: _ => rfl
  | _ :: _, [] => rfl
  | a :: x, b :: y => by
    have ih := less_not x y
    rw [Op.bytesLess, Op.bytesLess]
    by_cases hab : a = b
    · subst hab
      simp only [UInt8.lt_irrefl, decide_false, Bool.false_or, beq_self_eq_true, Bool.true_and]
      rw [← ih]
      simp
    · have hba : ¬ b = a := fun e => hab e.symm
      have h1 : ((a :: x) == (b :: y)) = false := by simp [hab]
      have h2 : (a == b) = false := by simp [hab]
      have h3 : (b == a) = false := by simp [hba]
      rw [h1, h2, h3]
      simp only [Bool.false_and, Bool.or_false]
      rcases Nat.lt_trichotomy a.toNat b.toNat with h | h | h
      · rw [decide_eq_true (show a < b from h), decide_eq_false (show ¬ b < a from fun h' => absurd (show b.toNat < a.toNat from h') (by omega))]; rfl
      · exact absurd (UInt8.toNat_inj.1 h) hab
      · rw [decide_eq_false (show ¬ a < b from fun h' => absurd (show a.toNat < b.toNat from h') (by omega)), decide_eq_true (show b < a from h)]; rfl
theorem leq_not (a b : ByteArray) : (Op.bytesLess a.toList b.toList || a.toList == b.toList) = !(Op.bytesLess b.toList a.toList) := less_not _ _

end Go.Proofs.Ythcpagpiphemgaa
