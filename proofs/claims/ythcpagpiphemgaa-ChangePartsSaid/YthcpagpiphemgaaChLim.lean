/- How large the normal form's parts are on the way. -/
import Derived.Test.YthcpagpiphemgaaChAdd
namespace Go.Proofs.Ythcpagpiphemgaa
open Go.RowKit Ch Rn

structure VOp (o : OpD) : Prop where
  n0 : 0 ≤ o.n
  n1 : o.n ≤ 20000
  text : o.text.size ≤ 80000
  kind : o.kind = 1 ∨ o.kind = 2 ∨ o.kind = 3
  attrs : SmallA o.attrs
theorem small_chg {l : List (ByteArray × ByteArray)} (h : chgE l = 0) : SmallA l := by
  unfold chgE at h
  split at h
  · rename_i hb
    obtain ⟨h1, h2⟩ := of_decide_eq_true hb
    refine ⟨by omega, fun x hx => ?_⟩
    obtain ⟨i, hi, rfl⟩ := List.getElem_of_mem hx
    have h3 := h2 i hi
    unfold chgOne at h3
    rw [Bool.and_eq_true, Bool.and_eq_true] at h3
    have hk := h3.1.1
    have hv := h3.1.2
    unfold keyB at hk
    unfold valB at hv
    simp only [Bool.and_eq_true, decide_eq_true_eq] at hk hv
    omega
  · omega
theorem small_rgt {l : List (ByteArray × ByteArray)} (h : rgtE l = 0) : SmallA l := by
  unfold rgtE at h
  split at h
  · rename_i hb
    obtain ⟨h1, h2⟩ := of_decide_eq_true hb
    refine ⟨by omega, fun x hx => ?_⟩
    obtain ⟨i, hi, rfl⟩ := List.getElem_of_mem hx
    have h3 := h2 i hi
    unfold rgtOne at h3
    rw [Bool.and_eq_true, Bool.and_eq_true] at h3
    have hk := h3.1.1
    have hv := h3.1.2
    unfold keyB at hk
    unfold valNE valB at hv
    simp only [Bool.and_eq_true, decide_eq_true_eq] at hk hv
    omega
  · omega
theorem text_lim {s : ByteArray} (h : er s.data.toList = 0) : s.size ≤ 80000 := by
  cases hr : rd s.data.toList with
  | none => rw [er_none hr] at h; omega
  | some cs =>
    rw [rd_T hr, T_size]
    have h1 := (rd_some hr).2.2
    have h2 := (txt_len cs).2
    omega
theorem n_le_kd {ops : List OpD} (h : allE ops) : ∀ o ∈ ops, o.kind ≠ 2 → o.n ≤ kd ops := by
  induction ops with
  | nil => intro o ho; cases ho
  | cons x r ih =>
    intro o ho hk
    have hr : allE r := fun y hy => h y (List.mem_cons_of_mem _ hy)
    have h0 := kd_nonneg hr
    rw [kd]
    rcases List.mem_cons.1 ho with rfl | ho
    · rw [if_neg hk]; omega
    · have := ih hr o ho hk
      split
      · omega
      · have := opE_n (h x (List.mem_cons_self ..)) (by assumption); omega
theorem vop_of {f : Int} {ops : List OpD} (h : OkC f ops) {o : OpD} (ho : o ∈ ops) : VOp o := by
  obtain ⟨h1, h2, _, h4, h5, _⟩ := h
  have he := h4 o ho
  rcases opE_kind he with k | k | k
  · obtain ⟨a, b, c⟩ := (opE_keep k).1 he
    have := n_le_kd h4 o ho (by omega)
    exact ⟨by omega, by omega, by omega, .inl k, small_chg c⟩
  · obtain ⟨a, b, c, d⟩ := (opE_put k).1 he
    exact ⟨by omega, by omega, text_lim c, .inr (.inl k), small_rgt d⟩
  · obtain ⟨a, b, c⟩ := (opE_cut k).1 he
    have := n_le_kd h4 o ho (by omega)
    refine ⟨by omega, by omega, by omega, .inr (.inr k), ?_⟩
    rw [List.length_eq_zero_iff.1 c]
    exact ⟨by simp, fun x hx => by cases hx⟩

def InB (a : Int) (c : Nat) (l : List OpD) : Prop := ∀ x ∈ l, 0 ≤ x.n ∧ x.n ≤ a ∧ x.text.size ≤ c
theorem put_in {a a' : Int} {c c' : Nat} {l : List OpD} {o : OpD} (hl : InB a c l) (h0 : 0 ≤ o.n) (h1 : o.n ≤ a') (h2 : o.text.size ≤ c') (ha : 0 ≤ a) : InB (a + a') (c + c') (put l o) := by
  cases l with
  | nil =>
    intro y hy
    simp only [put, List.mem_singleton] at hy
    subst hy
    omega
  | cons x r =>
    have hx := hl x (List.mem_cons_self ..)
    rw [put]
    split
    · intro y hy
      rcases List.mem_cons.1 hy with rfl | hy
      · refine ⟨by show 0 ≤ x.n + o.n; omega, by show x.n + o.n ≤ _; omega, ?_⟩
        show (cat x.text o.text).size ≤ _
        rw [cat_size]
        omega
      · have := hl y (List.mem_cons_of_mem _ hy); omega
    · intro y hy
      rcases List.mem_cons.1 hy with rfl | hy
      · omega
      · have := hl y hy; omega
/-- How large a state is behind k operations. -/
structure Lim (k : Nat) (s : List OpD × Int) : Prop where
  ops : InB (20000 * k) (80000 * k) s.1
  g0 : 0 ≤ s.2
  g1 : s.2 ≤ 20000 * k
  siz : siz s ≤ k
theorem flush_in {k : Nat} {s : List OpD × Int} (h : Lim k s) (hs : St s) : InB (20000 * k) (80000 * k) (flush s) := by
  unfold flush
  split
  · rw [put_fresh fun x r e h3 => hs.2 x r e h3.1]
    intro y hy
    rcases List.mem_cons.1 hy with rfl | hy
    · refine ⟨h.g0, h.g1, ?_⟩
      show (0 : Nat) ≤ _
      omega
    · exact h.ops y hy
  · exact h.ops
theorem lim_add {k : Nat} {s : List OpD × Int} {o : OpD} (h : Lim k s) (hs : St s) (ho : VOp o) : Lim (k + 1) (Ch.add s o) := by
  have hz := Nat.le_trans (siz_add s o) (Nat.add_le_add_right h.siz 1)
  have hg0 := h.g0
  have hg1 := h.g1
  have e1 : (20000 : Int) * ((k + 1 : Nat) : Int) = 20000 * k + 20000 := by omega
  have e2 : 80000 * (k + 1) = 80000 * k + 80000 := by omega
  have hk : (0 : Int) ≤ 20000 * (k : Int) := by omega
  have n0 := ho.n0
  have n1 := ho.n1
  by_cases h3 : o.kind = 3
  · have e : Ch.add s o = (s.1, s.2 + o.n) := by unfold Ch.add; rw [if_pos h3]
    rw [e] at hz ⊢
    refine ⟨fun x hx => ?_, by show 0 ≤ s.2 + o.n; omega, by show s.2 + o.n ≤ _; omega, hz⟩
    have := h.ops x hx
    rw [e1, e2]; omega
  · by_cases h1 : o.kind = 1
    · have e : Ch.add s o = (put (flush s) o, 0) := by unfold Ch.add; rw [if_neg h3, if_pos h1]
      rw [e] at hz ⊢
      refine ⟨?_, Int.le_refl _, by show (0 : Int) ≤ _; omega, hz⟩
      rw [e1, e2]
      exact put_in (flush_in h hs) n0 n1 ho.text hk
    · have e : Ch.add s o = (put s.1 o, s.2) := by unfold Ch.add; rw [if_neg h3, if_neg h1]
      rw [e] at hz ⊢
      refine ⟨?_, hg0, by show s.2 ≤ _; omega, hz⟩
      rw [e1, e2]
      exact put_in h.ops n0 n1 ho.text hk
theorem small_nil : SmallA [] := ⟨by simp, fun x hx => by cases hx⟩
theorem fits_mk {k : Nat} {l : List OpD} {o : OpD} (hk : k ≤ 2000) (hl : InB (20000 * k) (80000 * k) l) (hn : l.length ≤ 4000) (h0 : 0 ≤ o.n) (h1 : o.n ≤ 1073741824) (h2 : o.text.size ≤ 1073741824) (h3 : SmallA o.attrs) : Fits l o :=
  ⟨hn, fun x r e => by
    have := hl x (by rw [e]; exact List.mem_cons_self ..)
    omega, h0, h1, h2, h3⟩
theorem fits_del {k : Nat} {s : List OpD × Int} (h : Lim k s) (hk : k ≤ 2000) : Fits s.1 (delO s.2) := by
  have hz := h.siz
  have hg := h.g1
  have hl : s.1.length ≤ siz s := by unfold siz; omega
  exact fits_mk hk h.ops (by omega) h.g0 (by show s.2 ≤ _; omega) (by show (0 : Nat) ≤ _; omega) small_nil
theorem fitsS_of {k : Nat} {s : List OpD × Int} {o : OpD} (h : Lim k s) (hs : St s) (ho : VOp o) (hk : k ≤ 2000) : FitsS s o := by
  have hz := h.siz
  have hg := h.g1
  have hl : s.1.length ≤ siz s := by unfold siz; omega
  have hf := flush_len s
  have n1 := ho.n1
  have n2 := ho.text
  exact ⟨h.g0, by omega, fits_del h hk, fits_mk hk h.ops (by omega) ho.n0 (by omega) (by omega) ho.attrs, fits_mk hk (flush_in h hs) (by omega) ho.n0 (by omega) (by omega) ho.attrs, by omega⟩
/-- Behind k operations of a right changeset. -/
theorem lim_fold {f : Int} {ops : List OpD} (h : OkC f ops) (k : Nat) (hk : k ≤ ops.length) : Lim k (fold (ops.take k)) ∧ St (fold (ops.take k)) := by
  induction k with
  | zero => exact ⟨⟨(fun x hx => by cases hx), Int.le_refl _, Int.le_refl _, Nat.le_refl _⟩, trivial, (fun x r e => by cases e)⟩
  | succ k ih =>
    obtain ⟨h1, h2⟩ := ih (by omega)
    have hlt : k < ops.length := by omega
    rw [List.take_succ_eq_append_getElem hlt, fold_snoc]
    have hv := vop_of h (List.getElem_mem hlt)
    exact ⟨lim_add h1 h2 hv, h2.add hv.kind⟩
end Go.Proofs.Ythcpagpiphemgaa
