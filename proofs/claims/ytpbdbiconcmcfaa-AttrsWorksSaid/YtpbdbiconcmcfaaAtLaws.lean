/- What follows of the four works, in plain words, and their contracts as the laws' walks take them. -/
import Derived.Test.YtpbdbiconcmcfaaAtAwake
namespace Go.Proofs.Ytpbdbiconcmcfaa
open Go.RowKit At

theorem applyE_zero {l c : List (K × V)} (h : applyE l c = 0) : rgtB l = true ∧ chgB c = true ∧ (applyL ltB emp l c).length ≤ 8 ∧ applyR l c = applyL ltB emp l c := by
  unfold applyE at h
  unfold applyR
  split at h
  · rename_i h1
    rw [if_pos h1]
    split at h
    · rename_i h2
      rw [if_pos h2]
      simp only [Bool.and_eq_true] at h1
      exact ⟨h1.1, h1.2, h2, rfl⟩
    · cases h
  · cases h
theorem applyE_mk {l c : List (K × V)} (h1 : rgtB l = true) (h2 : chgB c = true) (h3 : (applyL ltB emp l c).length ≤ 8) : applyE l c = 0 ∧ applyR l c = applyL ltB emp l c := by
  unfold applyE applyR
  rw [h1, h2]
  simp [h3]
theorem applyR_bad {l c : List (K × V)} (h : applyE l c ≠ 0) : applyR l c = [] := by
  unfold applyE at h
  unfold applyR
  split
  · rename_i h1
    rw [if_pos h1] at h
    split
    · rename_i h2
      rw [if_pos h2] at h
      exact absurd rfl h
    · rfl
  · rfl
theorem composeE_zero {a b : List (K × V)} (h : composeE a b = 0) : chgB a = true ∧ chgB b = true ∧ (composeL ltB a b).length ≤ 8 ∧ composeR a b = composeL ltB a b := by
  unfold composeE at h
  unfold composeR
  split at h
  · rename_i h1
    rw [if_pos h1]
    split at h
    · rename_i h2
      rw [if_pos h2]
      simp only [Bool.and_eq_true] at h1
      exact ⟨h1.1, h1.2, h2, rfl⟩
    · cases h
  · cases h
theorem composeE_mk {a b : List (K × V)} (h1 : chgB a = true) (h2 : chgB b = true) (h3 : (composeL ltB a b).length ≤ 8) : composeE a b = 0 ∧ composeR a b = composeL ltB a b := by
  unfold composeE composeR
  rw [h1, h2]
  simp [h3]
theorem composeE_big {a b : List (K × V)} (h1 : chgB a = true) (h2 : chgB b = true) (h3 : ¬ (composeL ltB a b).length ≤ 8) : composeE a b = 3 ∧ composeR a b = [] := by
  unfold composeE composeR
  rw [h1, h2]
  simp [h3]
theorem applyE_big {l c : List (K × V)} (h1 : rgtB l = true) (h2 : chgB c = true) (h3 : ¬ (applyL ltB emp l c).length ≤ 8) : applyE l c = 3 ∧ applyR l c = [] := by
  unfold applyE applyR
  rw [h1, h2]
  simp [h3]
theorem followE_mk {a b : List (K × V)} (first : Bool) (h1 : chgB a = true) (h2 : chgB b = true) : followE a b = 0 ∧ followR first a b = followL a b first := by
  unfold followE followR
  rw [h1, h2]
  simp
theorem invertE_mk {l c : List (K × V)} (h1 : rgtB l = true) (h2 : chgB c = true) : invertE l c = 0 ∧ invertR l c = invertL emp l c := by
  unfold invertE invertR
  rw [h1, h2]
  simp

theorem rgt_apply {l c : List (K × V)} (hl : rgtB l = true) (hc : chgB c = true) (h8 : (applyL ltB emp l c).length ≤ 8) : rgtB (applyL ltB emp l c) = true := by
  obtain ⟨_, l2, l3⟩ := rgt_iff.1 hl
  obtain ⟨_, c2, c3⟩ := chg_iff.1 hc
  refine rgt_iff.2 ⟨h8, fun x hx => ?_, (apply_all strictB emp l3 c3).1⟩
  rcases mem_applyL hx with h | ⟨h, hn⟩
  · exact l2 x h
  · exact ⟨(c2 x h).1, valNE_iff.2 ⟨hn, (c2 x h).2⟩⟩
theorem chg_compose {a b : List (K × V)} (ha : chgB a = true) (hb : chgB b = true) (h8 : (composeL ltB a b).length ≤ 8) : chgB (composeL ltB a b) = true := by
  obtain ⟨_, l2, l3⟩ := chg_iff.1 ha
  obtain ⟨_, c2, c3⟩ := chg_iff.1 hb
  refine chg_iff.2 ⟨h8, fun x hx => ?_, (compose_all strictB l3 c3).1⟩
  rcases mem_composeL hx with h | h
  · exact l2 x h
  · exact c2 x h
theorem chg_follow {a b : List (K × V)} (first : Bool) (hb : chgB b = true) : chgB (followL a b first) = true := by
  obtain ⟨c1, c2, c3⟩ := chg_iff.1 hb
  exact chg_iff.2 ⟨Nat.le_trans (List.length_filter_le _ _) c1, fun x hx => c2 x (mem_followL hx), (follow_all first c3).1⟩
theorem chg_invert {l c : List (K × V)} (hl : rgtB l = true) (hc : chgB c = true) : chgB (invertL emp l c) = true := by
  obtain ⟨_, l2, l3⟩ := rgt_iff.1 hl
  obtain ⟨c1, c2, c3⟩ := chg_iff.1 hc
  refine chg_iff.2 ⟨Nat.le_trans (List.length_filterMap_le _ _) c1, fun x hx => ?_, (invert_all strictB emp c3).1⟩
  obtain ⟨⟨q, h1⟩, h2⟩ := mem_invertL hx
  refine ⟨(c2 _ h1).1, ?_⟩
  rcases h2 with h2 | h2
  · rw [h2]; exact valB_emp
  · exact (valNE_iff.1 (l2 x h2).2).2

theorem back_all {l a : List (K × V)} (h : applyE l a = 0) : invertE l a = 0 ∧ applyE (applyR l a) (invertR l a) = 0 ∧ applyR (applyR l a) (invertR l a) = l := by
  obtain ⟨h1, h2, h3, h4⟩ := applyE_zero h
  obtain ⟨i1, i2⟩ := invertE_mk h1 h2
  obtain ⟨l1, l2, l3⟩ := rgt_iff.1 h1
  obtain ⟨_, _, a3⟩ := chg_iff.1 h2
  have hb := back strictB emp l3 a3 fun x hx => (valNE_iff.1 (l2 x hx).2).1
  rw [h4, i2]
  obtain ⟨j1, j2⟩ := applyE_mk (rgt_apply h1 h2 h3) (chg_invert h1 h2) (by rw [hb]; exact l1)
  exact ⟨i1, j1, by rw [j2, hb]⟩
theorem two_all {l a b : List (K × V)} (h : applyE l a = 0) (h' : applyE (applyR l a) b = 0) (h'' : composeE a b = 0) : applyE l (composeR a b) = 0 ∧ applyR l (composeR a b) = applyR (applyR l a) b := by
  obtain ⟨h1, h2, h3, h4⟩ := applyE_zero h
  obtain ⟨k1, k2, k3, k4⟩ := applyE_zero h'
  obtain ⟨c1, c2, c3, c4⟩ := composeE_zero h''
  obtain ⟨_, _, l3⟩ := rgt_iff.1 h1
  obtain ⟨_, _, a3⟩ := chg_iff.1 h2
  obtain ⟨_, _, b3⟩ := chg_iff.1 k2
  have ht := two strictB emp l3 a3 b3
  rw [k4, c4]
  rw [h4] at k3 ⊢
  obtain ⟨j1, j2⟩ := applyE_mk h1 (chg_compose c1 c2 c3) (by rw [← ht]; exact k3)
  exact ⟨j1, by rw [j2, ht]⟩
theorem meets_all {l a b : List (K × V)} (first : Bool) (h : applyE l a = 0) (h' : applyE l b = 0) :
    followE a b = 0 ∧ followE b a = 0 ∧ applyE (applyR l a) (followR first a b) = applyE (applyR l b) (followR (!first) b a) ∧ applyR (applyR l a) (followR first a b) = applyR (applyR l b) (followR (!first) b a) := by
  obtain ⟨h1, h2, h3, h4⟩ := applyE_zero h
  obtain ⟨_, k2, k3, k4⟩ := applyE_zero h'
  obtain ⟨f1, f2⟩ := followE_mk first h2 k2
  obtain ⟨g1, g2⟩ := followE_mk (!first) k2 h2
  obtain ⟨_, _, l3⟩ := rgt_iff.1 h1
  obtain ⟨_, _, a3⟩ := chg_iff.1 h2
  obtain ⟨_, _, b3⟩ := chg_iff.1 k2
  have hm := meets strictB emp first l3 a3 b3
  rw [f2, g2, h4, k4]
  refine ⟨f1, g1, ?_⟩
  by_cases h8 : (applyL ltB emp (applyL ltB emp l a) (followL a b first)).length ≤ 8
  · obtain ⟨j1, j2⟩ := applyE_mk (rgt_apply h1 h2 h3) (chg_follow (a := a) first k2) h8
    obtain ⟨m1, m2⟩ := applyE_mk (rgt_apply h1 k2 k3) (chg_follow (a := b) (!first) h2) (by rw [← hm]; exact h8)
    rw [j1, m1, j2, m2]
    exact ⟨rfl, hm⟩
  · obtain ⟨j1, j2⟩ := applyE_big (rgt_apply h1 h2 h3) (chg_follow (a := a) first k2) h8
    obtain ⟨m1, m2⟩ := applyE_big (rgt_apply h1 k2 k3) (chg_follow (a := b) (!first) h2) (by rw [← hm]; exact h8)
    rw [j1, m1, j2, m2]
    exact ⟨rfl, rfl⟩
theorem three_all {a b c : List (K × V)} (h : composeE a b = 0) (h' : composeE b c = 0) :
    composeE (composeR a b) c = composeE a (composeR b c) ∧ composeR (composeR a b) c = composeR a (composeR b c) := by
  obtain ⟨h1, h2, h3, h4⟩ := composeE_zero h
  obtain ⟨_, k2, k3, k4⟩ := composeE_zero h'
  obtain ⟨_, _, a3⟩ := chg_iff.1 h1
  obtain ⟨_, _, b3⟩ := chg_iff.1 h2
  obtain ⟨_, _, c3⟩ := chg_iff.1 k2
  have ht := three strictB a3 b3 c3
  rw [h4, k4]
  by_cases h8 : (composeL ltB (composeL ltB a b) c).length ≤ 8
  · obtain ⟨j1, j2⟩ := composeE_mk (chg_compose h1 h2 h3) k2 h8
    obtain ⟨m1, m2⟩ := composeE_mk h1 (chg_compose h2 k2 k3) (by rw [← ht]; exact h8)
    rw [j1, m1, j2, m2]
    exact ⟨rfl, ht⟩
  · obtain ⟨j1, j2⟩ := composeE_big (chg_compose h1 h2 h3) k2 h8
    obtain ⟨m1, m2⟩ := composeE_big h1 (chg_compose h2 k2 k3) (by rw [← ht]; exact h8)
    rw [j1, m1, j2, m2]
    exact ⟨rfl, rfl⟩
theorem chg_nil : chgB [] = true := by decide +kernel
theorem nothing_l {l : List (K × V)} (h : rgtB l = true) : applyE l [] = 0 ∧ applyR l [] = l ∧ invertE l [] = 0 ∧ invertR l [] = [] := by
  obtain ⟨l1, _, l3⟩ := rgt_iff.1 h
  have he := apply_nil strictB emp l3
  obtain ⟨j1, j2⟩ := applyE_mk h chg_nil (by rw [he]; exact l1)
  obtain ⟨i1, i2⟩ := invertE_mk h chg_nil
  exact ⟨j1, by rw [j2, he], i1, by rw [i2]; rfl⟩
theorem nothing_c {c : List (K × V)} (first : Bool) (h : chgB c = true) : (composeE [] c = 0 ∧ composeR [] c = c) ∧ (composeE c [] = 0 ∧ composeR c [] = c) ∧ (followE [] c = 0 ∧ followR first [] c = c) ∧ (followE c [] = 0 ∧ followR first c [] = []) := by
  obtain ⟨c1, _, c3⟩ := chg_iff.1 h
  obtain ⟨e1, e2⟩ := compose_nil strictB c3
  obtain ⟨j1, j2⟩ := composeE_mk chg_nil h (by rw [e1]; exact c1)
  obtain ⟨k1, k2⟩ := composeE_mk h chg_nil (by rw [e2]; exact c1)
  obtain ⟨f1, f2⟩ := followE_mk first chg_nil h
  obtain ⟨g1, g2⟩ := followE_mk first h chg_nil
  obtain ⟨n1, n2⟩ := follow_nil c first
  exact ⟨⟨j1, by rw [j2, e1]⟩, ⟨k1, by rw [k2, e2]⟩, ⟨f1, by rw [f2, n1]⟩, ⟨g1, by rw [g2, n2]⟩⟩

theorem sized64 {l : List (K × V)} (h : ∀ x ∈ l, x.1.size ≤ 64 ∧ x.2.size ≤ 64) : Sized l := fun x hx => by
  have := h x hx
  unfold maxLen
  omega
theorem sized_rgt {l : List (K × V)} (h : rgtB l = true) : Sized l := sized64 fun x hx => ⟨keyB_size ((rgt_iff.1 h).2.1 x hx).1, valB_size (valNE_iff.1 ((rgt_iff.1 h).2.1 x hx).2).2⟩
theorem sized_chg {l : List (K × V)} (h : chgB l = true) : Sized l := sized64 fun x hx => ⟨keyB_size ((chg_iff.1 h).2.1 x hx).1, valB_size ((chg_iff.1 h).2.1 x hx).2⟩
theorem sized_nil : Sized [] := fun x hx => by cases hx
theorem sized_applyR (l c : List (K × V)) : Sized (applyR l c) := by
  unfold applyR
  split
  · rename_i h
    simp only [Bool.and_eq_true] at h
    split
    · rename_i h8
      exact sized_rgt (rgt_apply h.1 h.2 h8)
    · exact sized_nil
  · exact sized_nil
theorem sized_composeR (l c : List (K × V)) : Sized (composeR l c) := by
  unfold composeR
  split
  · rename_i h
    simp only [Bool.and_eq_true] at h
    split
    · rename_i h8
      exact sized_chg (chg_compose h.1 h.2 h8)
    · exact sized_nil
  · exact sized_nil
theorem sized_followR (first : Bool) (l c : List (K × V)) : Sized (followR first l c) := by
  unfold followR
  split
  · rename_i h
    simp only [Bool.and_eq_true] at h
    exact sized_chg (chg_follow first h.2)
  · exact sized_nil
theorem sized_invertR (l c : List (K × V)) : Sized (invertR l c) := by
  unfold invertR
  split
  · rename_i h
    simp only [Bool.and_eq_true] at h
    exact sized_chg (chg_invert h.1 h.2)
  · exact sized_nil

/-- A row of one's own is a row in memory. -/
theorem row_of_own {w : World} {B : Nat} {v : Value} {R : List (K × V)} (h : w.ownsRow B 33 2 v R.length (flat R)) : AtRow w v R := by
  rcases h.2 with ⟨rfl, h0⟩ | ⟨g, cap, cur, rfl, _, hg, hn, hm, _⟩
  · exact ⟨none, 0, by rw [h0], by omega, by simp [maxLen], fun i hi => by omega⟩
  · refine ⟨_, cap, rfl, hn, hm, fun i hi => ⟨g, 0, rfl, (Array.getElem?_eq_some_iff.1 hg).1, ?_, ?_⟩⟩
    · rw [Nat.zero_add, h.cellAt _ (by omega), flat_at0 hi]
    · rw [Nat.zero_add, h.cellAt _ (by omega), flat_at1 hi]
def RowHas (W : World) (R : List (K × V)) (E : Int) (e : Ending) (w' : World) : Prop := ∃ a cap, e = .returned (.tuple #[.slice a R.length cap, .int .i64 E]) ∧ AtRow w' (.slice a R.length cap) R ∧ Below W.heap.size W w'
theorem rowHas {W : World} {R : List (K × V)} {E : Int} : ∀ e w', RowOut W R E e w' → RowHas W R E e w' := fun e w' ⟨v, h1, h2, h3⟩ => by
  obtain ⟨a, cap, rfl⟩ := own_slice h2
  exact ⟨a, cap, h1, row_of_own h2, h3⟩
theorem applyH (v u : Value) (l c : List (K × V)) (w : World) (hv : AtRow w v l) (hu : AtRow w u c) (hl : Sized l) (hc : Sized c) : Calls Try.prog 6 #[v, u] w (RowHas w (applyR l c) (applyE l c)) := (applyD_any v u l c w hv hu hl hc).mono rowHas
theorem composeH (v u : Value) (l c : List (K × V)) (w : World) (hv : AtRow w v l) (hu : AtRow w u c) (hl : Sized l) (hc : Sized c) : Calls Try.prog 7 #[v, u] w (RowHas w (composeR l c) (composeE l c)) := (composeD_any v u l c w hv hu hl hc).mono rowHas
theorem followH (first : Bool) (v u : Value) (l c : List (K × V)) (w : World) (hv : AtRow w v l) (hu : AtRow w u c) (hl : Sized l) (hc : Sized c) : Calls Try.prog 8 #[v, u, .bool first] w (RowHas w (followR first l c) (followE l c)) := (followD_any first v u l c w hv hu hl hc).mono rowHas
theorem invertH (v u : Value) (l c : List (K × V)) (w : World) (hv : AtRow w v l) (hu : AtRow w u c) (hl : Sized l) (hc : Sized c) : Calls Try.prog 9 #[v, u] w (RowHas w (invertR l c) (invertE l c)) := (invertD_any v u l c w hv hu hl hc).mono rowHas
theorem row_nil (w : World) : AtRow w (.slice none 0 0) [] := ⟨none, 0, rfl, Nat.le_refl _, by simp [maxLen], fun i hi => by simp at hi⟩
end Go.Proofs.Ytpbdbiconcmcfaa
