/- What the document's Read keeps between two parts, two bytes of a text: plain maths. -/
import Derived.Test.YtpinmkoaihjhfaaTu
import Derived.Test.YtpinmkoaihjhfaaTo
namespace Go.Proofs.Ytpinmkoaihjhfaa
open Go.RowKit Su Tp

/-- Whatever tuple the key is of, it begins with what has been read. -/
def InvR (s : List UInt8) (o : List Pt) (i : Nat) : Prop := ∀ l, allP l → keyB l = s → ∃ r, l = o ++ r ∧ keyB r = s.drop i
theorem inv_start (s : List UInt8) : InvR s [] 0 := fun l _ hk => ⟨l, rfl, hk⟩
theorem inv_end {s : List UInt8} {o : List Pt} {i : Nat} (h : InvR s o i) (hi : s.length ≤ i) {l : List Pt} (ha : allP l) (hk : keyB l = s) : l = o := by
  obtain ⟨r, rfl, hr⟩ := h l ha hk
  rw [List.drop_eq_nil_of_le hi] at hr
  rw [keyB_nil hr, List.append_nil]
theorem inv_part {s : List UInt8} {o : List Pt} {i : Nat} (h : InvR s o i) (hi : i < s.length) {l : List Pt} (ha : allP l) (hk : keyB l = s) : ∃ p r, l = o ++ p :: r ∧ (okP p ∧ InP p) ∧ s.drop i = partK p ++ keyB r := by
  obtain ⟨r, rfl, hr⟩ := h l ha hk
  cases r with
  | nil =>
    have := congrArg List.length hr
    rw [List.length_drop] at this
    simp [keyB] at this
    omega
  | cons p r => exact ⟨p, r, rfl, ha p (by simp), by rw [← hr]; rfl⟩
theorem inv_none {s : List UInt8} {o : List Pt} {i : Nat} (h : InvR s o i) (hi : i < s.length) (hf : fst (s.drop i) = none) : ∀ l, allP l → right l → keyB l ≠ s := by
  intro l ha _ hk
  obtain ⟨p, r, _, hp, e⟩ := inv_part h hi ha hk
  rw [e, fst_part hp] at hf
  cases hf
theorem fst_num {s : List UInt8} {i : Nat} (hi : i < s.length) (hc : s[i] = 1) : fst (s.drop i) = if (s.drop (i + 1)).length < 8 then none else some ((1, numV (s.drop (i + 1)), []), 9) := by
  rw [List.drop_eq_getElem_cons hi, hc]
  unfold fst
  rw [List.head?_cons, if_pos rfl, List.drop_succ_cons, List.drop_zero]
theorem fst_oth {s : List UInt8} {i : Nat} (hi : i < s.length) (hc : s[i] ≠ 1) (hc' : s[i] ≠ 2) : fst (s.drop i) = none := by
  rw [List.drop_eq_getElem_cons hi]
  unfold fst
  rw [List.head?_cons, if_neg (by simpa using hc), if_neg (by simpa using hc')]
theorem inv_num {s : List UInt8} {o : List Pt} {i : Nat} (h : InvR s o i) (hi : i + 9 ≤ s.length) (hc : s[i] = 1) : InvR s (o ++ [(1, numV (s.drop (i + 1)), [])]) (i + 9) := by
  intro l ha hk
  obtain ⟨p, r, rfl, hp, e⟩ := inv_part h (by omega) ha hk
  have h1 := fst_part hp (keyB r)
  rw [← e, fst_num (by omega) hc, if_neg (by rw [List.length_drop]; omega)] at h1
  simp only [Option.some.injEq, Prod.mk.injEq] at h1
  obtain ⟨h2, h3⟩ := h1
  subst h2
  refine ⟨r, by simp, ?_⟩
  have e2 := congrArg (List.drop 9) e
  rw [List.drop_drop] at e2
  rw [e2, h3, List.drop_left]
theorem inP_num {s : List UInt8} {i : Nat} (hi : i + 9 ≤ s.length) : InP (1, numV (s.drop (i + 1)), []) := ⟨by unfold inI; simp, (lift_num _ (by rw [List.length_drop]; omega)).2⟩
theorem inP_txt (t : List UInt8) : InP (2, 0, t) := ⟨by unfold inI; simp, by unfold inI; simp⟩
/-- Whatever text stands there, it begins with what has been read. -/
def InvT (s : List UInt8) (i : Nat) (t : List UInt8) (k : Nat) : Prop := ∀ T x, s.drop (i + 1) = esc T ++ 0 :: 0 :: x → ∃ T', T = t ++ T' ∧ s.drop k = esc T' ++ 0 :: 0 :: x
theorem invT_start (s : List UInt8) (i : Nat) : InvT s i [] (i + 1) := fun T _x h => ⟨T, rfl, h⟩
theorem invT_step1 {s t : List UInt8} {i k : Nat} (h : InvT s i t k) (hk : k < s.length) (hc : s[k] ≠ 0) : InvT s i (t ++ [s[k]]) (k + 1) := by
  intro T x hT
  obtain ⟨T', rfl, e⟩ := h T x hT
  rw [List.drop_eq_getElem_cons hk] at e
  cases T' with
  | nil => exact absurd (List.cons.inj (show s[k] :: s.drop (k + 1) = 0 :: 0 :: x from e)).1 hc
  | cons c T' =>
    by_cases h0 : c = 0
    · subst h0
      rw [esc_z] at e
      exact absurd (List.cons.inj (show s[k] :: s.drop (k + 1) = 0 :: 255 :: (esc T' ++ 0 :: 0 :: x) from e)).1 hc
    · rw [esc_nz h0] at e
      simp only [List.cons_append, List.cons.injEq] at e
      exact ⟨T', by rw [e.1]; simp, e.2⟩
theorem invT_step2 {s t : List UInt8} {i k : Nat} (h : InvT s i t k) (hk : k + 1 < s.length) (hc : s[k] = 0) (hd : s[k + 1] = 255) : InvT s i (t ++ [0]) (k + 2) := by
  intro T x hT
  obtain ⟨T', rfl, e⟩ := h T x hT
  rw [List.drop_eq_getElem_cons (show k < s.length by omega), List.drop_eq_getElem_cons hk, hc, hd] at e
  cases T' with
  | nil => simp [esc] at e
  | cons c T' =>
    by_cases h0 : c = 0
    · subst h0
      rw [esc_z] at e
      simp only [List.cons_append, List.cons.injEq, true_and] at e
      exact ⟨T', by simp, e⟩
    · rw [esc_nz h0] at e
      simp only [List.cons_append, List.cons.injEq] at e
      exact absurd e.1.symm h0
theorem invT_end {s t : List UInt8} {i k : Nat} (h : InvT s i t k) (hx : s.length ≤ k ∨ ∃ hk : k < s.length, s[k] = 0 ∧ ∀ hd : k + 1 < s.length, s[k + 1] ≠ 255) {T x : List UInt8} (hT : s.drop (i + 1) = esc T ++ 0 :: 0 :: x) : T = t ∧ s.drop (k + 2) = x := by
  obtain ⟨T', rfl, e⟩ := h T x hT
  rcases hx with hx | ⟨hk, hc, hd⟩
  · rw [List.drop_eq_nil_of_le hx] at e
    simp at e
  · cases T' with
    | nil =>
      have e2 := congrArg (List.drop 2) e
      rw [List.drop_drop] at e2
      exact ⟨by simp, by rw [e2]; rfl⟩
    | cons c T' =>
      rw [List.drop_eq_getElem_cons hk, hc] at e
      by_cases h0 : c = 0
      · subst h0
        rw [esc_z] at e
        simp only [List.cons_append, List.cons.injEq, true_and] at e
        have hk1 : k + 1 < s.length := by
          have := congrArg List.length e
          rw [List.length_drop] at this
          simp at this
          omega
        rw [List.drop_eq_getElem_cons hk1] at e
        simp only [List.cons.injEq] at e
        exact absurd e.1 (hd hk1)
      · rw [esc_nz h0] at e
        simp only [List.cons_append, List.cons.injEq] at e
        exact absurd e.1.symm h0
theorem inv_txt {s t : List UInt8} {o : List Pt} {i k : Nat} (h : InvR s o i) (hi : i < s.length) (hc : s[i] = 2) (ht : InvT s i t k) (hx : s.length ≤ k ∨ ∃ hk : k < s.length, s[k] = 0 ∧ ∀ hd : k + 1 < s.length, s[k + 1] ≠ 255) : InvR s (o ++ [(2, 0, t)]) (k + 2) := by
  intro l ha hk
  obtain ⟨p, r, rfl, hp, e⟩ := inv_part h hi ha hk
  rw [List.drop_eq_getElem_cons hi, hc] at e
  obtain ⟨p0, p1, ps⟩ := p
  obtain ⟨⟨h1, _⟩ | ⟨h1, h2⟩, _⟩ := hp
  · obtain rfl : p0 = 1 := h1
    have : partK (1, p1, ps) = 1 :: be 8 (lift p1) := rfl
    rw [this] at e
    simp at e
  · obtain rfl : p0 = 2 := h1
    obtain rfl : p1 = 0 := h2
    have e0 : partK (2, 0, ps) = 2 :: (esc ps ++ [0, 0]) := rfl
    rw [e0] at e
    simp only [List.cons_append, List.cons.injEq, true_and, List.append_assoc, List.nil_append] at e
    obtain ⟨rfl, h4⟩ := invT_end ht hx e
    exact ⟨r, by simp, h4.symm⟩
/-- What the reading answers: it is the tuple's key, or no tuple's. -/
theorem inv_yes {s : List UInt8} {o : List Pt} (hin : ∀ p ∈ o, InP p) (he : keyE o = 0) (ht : keyT o = s) : right o ∧ allP o ∧ keyB o = s := by
  obtain ⟨h1, h2⟩ := keyE_zero.1 he
  exact ⟨h1, fun p hp => ⟨h1.2.2 p hp, hin p hp⟩, by rw [← ht, keyT_ok h1 h2]⟩
theorem inv_no {s : List UInt8} {o : List Pt} {i : Nat} (h : InvR s o i) (hi : s.length ≤ i) (hs : s.length ≤ 100) (hn : ¬ (keyE o = 0 ∧ keyT o = s)) : ∀ l, allP l → right l → keyB l ≠ s := by
  intro l ha hr hk
  obtain rfl := inv_end h hi ha hk
  exact hn ⟨keyE_ok hr (by rw [hk]; exact hs), by rw [keyT_ok hr (by rw [hk]; exact hs), hk]⟩
theorem OwnT.other {w : World} {B b o : Nat} {v u : Value} {l : List Pt} (h : OwnT w B v l) (hb : ∀ g, v.ownBlock = some g → g ≠ b) : OwnT (w.setCell ⟨b, o, none⟩ u) B v l :=
  ⟨⟨h.1.1, h.1.2.imp id fun ⟨g, cap, cur, e, hB, hh, r⟩ => ⟨g, cap, cur, e, hB, by
    rw [Below.heap_setCell w ⟨b, o, none⟩ u g (hb g (by rw [e]; rfl))]; exact hh, r⟩⟩, h.2⟩
end Go.Proofs.Ytpinmkoaihjhfaa
