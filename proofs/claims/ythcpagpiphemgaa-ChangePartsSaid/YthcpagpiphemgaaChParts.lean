/- A changeset's operations cut in two, or exchanged: what stays; rows of one's own whose attributes are another's. -/
import Derived.Test.YthcpagpiphemgaaChNothWalk
namespace Go.Proofs.Ythcpagpiphemgaa
open Go.RowKit Ch

structure Parts (D pre : List OpD) : Prop where
  fold : fold D = fold pre
  allE : allE D
  kd : kd D = kd pre
  dl : dl D = dl pre
  ins : Ch.ins D = Ch.ins pre
  len : D.length ≤ 2 * pre.length
theorem Parts.nil : Parts [] [] := ⟨rfl, (fun o h => by cases h), rfl, rfl, rfl, Nat.zero_le _⟩
theorem Parts.one {D pre : List OpD} {o : OpD} (h : Parts D pre) (ho : opE o = 0) : Parts (D ++ [o]) (pre ++ [o]) :=
  ⟨by rw [fold_snoc, fold_snoc, h.fold], fun x hx => by
    rcases List.mem_append.1 hx with hx | hx
    · exact h.allE x hx
    · obtain rfl : x = o := by simpa using hx
      exact ho, by rw [kd_append, kd_append, h.kd], by rw [dl_append, dl_append, h.dl], by rw [ins_append, ins_append, h.ins], by have := h.len; simp; omega⟩
theorem opE_with {o : OpD} {n : Int} (ho : opE o = 0) (hk : o.kind ≠ 2) (hn : 1 ≤ n) : opE { o with n := n } = 0 := by
  rcases opE_kind ho with k | k | k
  · have h := (opE_keep k).1 ho
    exact (opE_keep (o := { o with n := n }) k).2 ⟨hn, h.2.1, h.2.2⟩
  · exact absurd k hk
  · have h := (opE_cut k).1 ho
    exact (opE_cut (o := { o with n := n }) k).2 ⟨hn, h.2.1, h.2.2⟩
theorem Parts.two {D pre : List OpD} {o : OpD} (h : Parts D pre) (hs : 0 ≤ (Ch.fold pre).2) (ho : opE o = 0) (hk : o.kind ≠ 2) (h1 : 1 < o.n) : Parts (D ++ [{ o with n := 1 }, { o with n := o.n - 1 }]) (pre ++ [o]) := by
  have e : D ++ [{ o with n := 1 }, { o with n := o.n - 1 }] = (D ++ [{ o with n := 1 }]) ++ [{ o with n := o.n - 1 }] := by simp
  refine ⟨?_, fun x hx => ?_, ?_, ?_, ?_, by have := h.len; simp; omega⟩
  · rw [e, fold_snoc, fold_snoc, fold_snoc, h.fold]
    exact add_two ho hk hs h1
  · rcases List.mem_append.1 hx with hx | hx
    · exact h.allE x hx
    · simp only [List.mem_cons, List.not_mem_nil, or_false] at hx
      rcases hx with rfl | rfl
      · exact opE_with ho hk (by omega)
      · exact opE_with ho hk (by omega)
  · rw [kd_append, kd_append, h.kd]; simp only [Ch.kd, if_neg hk]; omega
  · rw [dl_append, dl_append, h.dl]; simp only [Ch.dl]; split <;> omega
  · rw [ins_append, ins_append, h.ins]; simp only [Ch.ins, if_neg hk]; omega
theorem Parts.swap {D pre : List OpD} {o d : OpD} (h : Parts (D ++ [d]) pre) (ho : opE o = 0) (hk : o.kind = 2) (hd : d.kind = 3) : Parts (D ++ [o] ++ [d]) (pre ++ [o]) := by
  refine ⟨?_, fun x hx => ?_, ?_, ?_, ?_, by have := h.len; simp at this ⊢; omega⟩
  · rw [fold_snoc, fold_snoc, fold_snoc, ← h.fold, fold_snoc]
    exact add_swap hk hd
  · have := h.allE x
    simp only [List.mem_append, List.mem_singleton] at hx this
    rcases hx with (hx | rfl) | hx
    · exact this (.inl hx)
    · exact ho
    · exact this (.inr hx)
  · have := h.kd; rw [kd_append] at this; rw [kd_append, kd_append, kd_append]; omega
  · have := h.dl; rw [dl_append] at this; rw [dl_append, dl_append, dl_append]; omega
  · have := h.ins; rw [ins_append] at this; rw [ins_append, ins_append, ins_append]; omega
theorem Parts.done {f : Int} {D ops : List OpD} (h : Parts D ops) (hc : OkC f ops) : (2000 < D.length ∧ toE f D = 2) ∨ (toE f D = 0 ∧ norm D = norm ops) := by
  obtain ⟨h1, h2, h3, h4, h5, h6⟩ := hc
  by_cases hl : 2000 < D.length
  · exact .inl ⟨hl, by unfold toE; rw [if_neg (by omega), if_pos hl]⟩
  · exact .inr ⟨(toE_iff f D).2 ⟨h1, h2, by omega, h.allE, by rw [h.kd]; exact h5, by rw [h.dl, h.ins]; exact h6⟩, by unfold norm; rw [h.fold]⟩
theorem fold_pos {ops : List OpD} (i : Nat) {f : Int} (hc : OkC f ops) : 0 ≤ (Ch.fold (ops.take i)).2 := by
  have ha : allE (ops.take i) := fun o ho => hc.2.2.2.1 o (List.mem_of_mem_take ho)
  have hi : Ch.ins (ops.take i) ≤ 20000 := by
    have e : Ch.ins ops = Ch.ins (ops.take i) + Ch.ins (ops.drop i) := by rw [← ins_append, List.take_append_drop]
    have := ins_nonneg (ops.drop i)
    have := hc.ins
    omega
  exact (fold_all ha hi).2.1

/-- A row of operations of one's own, whose attributes are others' rows below a base. -/
def LentP (w0 w : World) (v : Value) (ps : List (OpD × Value)) : Prop :=
  w.ownsRow w0.heap.size 40 4 v ps.length (flatO ps) ∧ ∀ p ∈ ps, AtRow w0 p.2 p.1.attrs ∧ Proper p.2 ∧ p.1.text.size ≤ maxLen ∧ Sized p.1.attrs
theorem LentP.row {w0 w : World} {v : Value} {ps : List (OpD × Value)} (h : LentP w0 w v ps) (hb : Below w0.heap.size w0 w) : OpRow w v (ps.map (·.1)) := by
  have hl : (ps.map (·.1)).length = ps.length := by simp
  rcases h.1.2 with ⟨rfl, h0⟩ | ⟨g, cap, cur, rfl, _, hg, hn, hm, _⟩
  · have : ps = [] := List.length_eq_zero_iff.1 h0
    subst this
    exact OpRow.nil w
  · refine ⟨_, cap, by rw [hl], by omega, hm, fun i hi => ?_⟩
    have hi' : i < ps.length := by omega
    refine ⟨g, 0, rfl, lt_of_heap hg, ps[i].2, ?_, ?_, ?_⟩
    · rw [List.getElem_map]
      exact (h.2 _ (List.getElem_mem hi')).1.below hb
    · exact (h.2 _ (List.getElem_mem hi')).2.1
    · have e : ∀ j, j < 4 → w.cell? ⟨g, 0 + i * 4 + j, none⟩ = (opCells ps[i])[j]? := fun j hj => by
        rw [Nat.zero_add, h.1.cellAt _ (by omega), flatO_at hi' j hj]
      rw [List.getElem_map]
      exact ⟨e 0 (by omega), e 1 (by omega), e 2 (by omega), e 3 (by omega)⟩
theorem LentP.more {w0 w w' : World} {v v' : Value} {ps qs : List (OpD × Value)} (h : LentP w0 w v ps) (ho : w'.ownsRow w0.heap.size 40 4 v' (ps.length + qs.length) (flatO ps ++ flatO qs)) (hq : ∀ p ∈ qs, AtRow w0 p.2 p.1.attrs ∧ Proper p.2 ∧ p.1.text.size ≤ maxLen ∧ Sized p.1.attrs) : LentP w0 w' v' (ps ++ qs) :=
  ⟨by rw [List.length_append]; unfold flatO at ho ⊢; rw [List.flatMap_append]; exact ho, fun p hp => by
    rcases List.mem_append.1 hp with hp | hp
    · exact h.2 p hp
    · exact hq p hp⟩
theorem LentP.sized {w0 w : World} {v : Value} {ps : List (OpD × Value)} (h : LentP w0 w v ps) : OSized (ps.map (·.1)) := fun o ho => by
  obtain ⟨p, hp, rfl⟩ := List.mem_map.1 ho
  exact (h.2 p hp).2.2
end Go.Proofs.Ythcpagpiphemgaa
