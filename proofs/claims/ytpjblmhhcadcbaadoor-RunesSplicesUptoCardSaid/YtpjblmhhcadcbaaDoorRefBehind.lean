/- The document's own answers: Behind, Splice. -/
import Derived.Test.YtpjblmhhcadcbaaDoorRefAlike
namespace Go.Proofs.YtpjblmhhcadcbaaDoor
open Go.RowKit Rn

theorem elemInts : Tryd.prog.elem 41 = 3 := by kernel_rfl
theorem undInts : Tryd.prog.underlying 41 = some (.slice (Tryd.prog.elem 41)) := by rw [elemInts]; exact Tryd.underlying41
theorem add_eq (g off n : Nat) : (⟨g, off, none⟩ : Addr).add n = ⟨g, off + n, none⟩ := by cases n <;> simp [Addr.add]
theorem slice_from {w : World} {v : Value} {cs : List Nat} (h : Row w v cs) (n : Nat) (hn : n ≤ cs.length) :
    ∃ v', (∀ W, (Instr.slice 41 v (some (.int .i64 (n : Int))) none none).run Tryd.prog W = .ok v' W) ∧ Row w v' (cs.drop n) := by
  rcases h with ⟨rfl, rfl⟩ | ⟨g, off, cap, rfl, h1, h2, h3, h4⟩
  · obtain rfl : n = 0 := by simpa using hn
    exact ⟨.slice none 0 0, fun W => by rw [run_slice_l W _ _ _ _ undInts .i64 _ (by omega) (by simp), elemInts, Tryd.sizeOf3]; rfl, Or.inl ⟨rfl, rfl⟩⟩
  · refine ⟨sliced (some ⟨g, off, none⟩) n cs.length cap 1, fun W => by rw [run_slice_l W _ _ _ _ undInts .i64 _ (by omega) (by omega), elemInts, Tryd.sizeOf3, Int.toNat_natCast]; rfl, Or.inr ?_⟩
    unfold sliced
    by_cases hc : cap = n
    · rw [if_pos hc]
      exact ⟨g, off, cap - n, by rw [List.length_drop], by rw [List.length_drop]; omega, by omega, h3, fun i hi => by rw [List.length_drop] at hi; omega⟩
    · rw [if_neg hc]
      refine ⟨g, off + n, cap - n, by rw [List.length_drop, Nat.mul_one]; simp only [Option.map_some, add_eq], by rw [List.length_drop]; omega, by omega, h3, fun i hi => ?_⟩
      rw [List.length_drop] at hi
      rw [Nat.add_assoc, h4 (n + i) (by omega), List.getD_eq_getElem?_getD, List.getD_eq_getElem?_getD, List.getElem?_drop]
theorem slice_to {w : World} {v : Value} {cs : List Nat} (h : Row w v cs) (n : Nat) (hn : n ≤ cs.length) :
    ∃ v', (∀ W, (Instr.slice 41 v none (some (.int .i64 (n : Int))) none).run Tryd.prog W = .ok v' W) ∧ Row w v' (cs.take n) := by
  rcases h with ⟨rfl, rfl⟩ | ⟨g, off, cap, rfl, h1, h2, h3, h4⟩
  · obtain rfl : n = 0 := by simpa using hn
    exact ⟨.slice none 0 0, fun W => by rw [run_slice_h W _ _ _ _ undInts .i64 _ (by omega) (by simp), elemInts, Tryd.sizeOf3]; rfl, Or.inl ⟨rfl, rfl⟩⟩
  · refine ⟨sliced (some ⟨g, off, none⟩) 0 n cap 1, fun W => by rw [run_slice_h W _ _ _ _ undInts .i64 _ (by omega) (by omega), elemInts, Tryd.sizeOf3, Int.toNat_natCast]; rfl, Or.inr ?_⟩
    unfold sliced
    have hl : (cs.take n).length = n := by rw [List.length_take]; omega
    have hcell : ∀ i, i < n → w.cell? ⟨g, off + i, none⟩ = some (.int .i64 ((cs.take n).getD i 0 : Nat)) := fun i hi => by
      rw [h4 i (by omega), List.getD_eq_getElem?_getD, List.getD_eq_getElem?_getD, List.getElem?_take_of_lt hi]
    by_cases hc : cap = 0
    · rw [if_pos hc]
      exact ⟨g, off, cap - 0, by rw [hl, Nat.sub_zero], by rw [hl]; omega, by omega, h3, fun i hi => hcell i (by omega)⟩
    · rw [if_neg hc]
      exact ⟨g, off, cap - 0, by rw [hl, Nat.sub_zero, Nat.zero_mul]; simp only [Option.map_some, add_eq, Nat.add_zero], by rw [hl]; omega, by omega, h3, fun i hi => hcell i (by omega)⟩

/-- What two rows end with alike, said of their ends turned round. -/
theorem post_turned (cs ds : List Nat) : pre (cs.drop (pre cs ds)).reverse (ds.drop (pre cs ds)).reverse = post cs ds := by
  have h0 := pre_le cs ds
  have key : ∀ i, i < min cs.length ds.length - pre cs ds → same (cs.drop (pre cs ds)).reverse (ds.drop (pre cs ds)).reverse i = sameB cs ds i := by
    intro i hi
    unfold same sameB
    have e : ∀ l : List Nat, pre cs ds + i < l.length → ((l.drop (pre cs ds)).reverse).getD i 0 = l.getD (l.length - 1 - i) 0 := by
      intro l hl
      rw [List.getD_eq_getElem?_getD, List.getD_eq_getElem?_getD, List.getElem?_reverse (by rw [List.length_drop]; omega), List.getElem?_drop, List.length_drop]
      congr 2; omega
    rw [e cs (by omega), e ds (by omega)]
  have hl : min (cs.drop (pre cs ds)).reverse.length (ds.drop (pre cs ds)).reverse.length = min cs.length ds.length - pre cs ds := by
    rw [List.length_reverse, List.length_reverse, List.length_drop, List.length_drop]; omega
  unfold post
  rw [show pre (cs.drop (pre cs ds)).reverse (ds.drop (pre cs ds)).reverse = lead (same (cs.drop (pre cs ds)).reverse (ds.drop (pre cs ds)).reverse) (min cs.length ds.length - pre cs ds) from by rw [← hl]; rfl]
  obtain ⟨i1, i2, i3⟩ := lead_spec (sameB cs ds) (min cs.length ds.length - pre cs ds)
  refine lead_eq i1 (fun j hj => by rw [key j (by omega)]; exact i2 j hj) ?_
  rcases i3 with i3 | i3
  · exact Or.inl i3
  · rcases Nat.lt_or_eq_of_le i1 with h | h
    · exact Or.inr (by rw [key _ h]; exact i3)
    · exact Or.inl h
end Go.Proofs.YtpjblmhhcadcbaaDoor
