/- The part that bytes begin with: the program's first. -/
import Derived.Test.YtpinmkoaihjhfaaTq
import Derived.Test.YtpinmkoaihjhfaaTr
namespace Go.Proofs.Ytpinmkoaihjhfaa
open Go.RowKit Su Tp

/-- The part that bytes begin with, and how many of them it takes. -/
def fst (s : List UInt8) : Option (Pt × Nat) :=
  if s.head? = some 1 then (if (s.drop 1).length < 8 then none else some ((1, numV (s.drop 1), []), 9))
  else if s.head? = some 2 then (rdT (s.drop 1)).map fun x => ((2, 0, x.1), x.2 + 1)
  else none
theorem rdT_esc : ∀ (t x : List UInt8), rdT (esc t ++ 0 :: 0 :: x) = some (t, (esc t).length + 2)
  | [], x => rdT_end x
  | c :: t, x => by
    by_cases h : c = 0
    · subst h
      rw [esc_z, List.cons_append, List.cons_append, rdT_top, rdT_esc t x]; rfl
    · rw [esc_nz h, List.cons_append, rdT_nz h, rdT_esc t x]
      simp
theorem rdT_inv : ∀ (s t : List UInt8) (n : Nat), rdT s = some (t, n) → ∃ x, s = esc t ++ 0 :: 0 :: x ∧ n = (esc t).length + 2
  | [], _, _, h => by cases h
  | [_], _, _, h => by cases h
  | c :: d :: s, t, n, h => by
    by_cases hc : c = 0
    · subst hc
      by_cases hd : d = 255
      · subst hd
        rw [rdT_top] at h
        cases hr : rdT s with
        | none => rw [hr] at h; cases h
        | some y =>
          rw [hr] at h
          obtain ⟨y1, y2⟩ := y
          simp only [Option.map_some, Option.some.injEq, Prod.mk.injEq] at h
          obtain ⟨rfl, rfl⟩ := h
          obtain ⟨x, e1, e2⟩ := rdT_inv s y1 y2 hr
          exact ⟨x, by rw [e1, esc_z]; rfl, by rw [e2, esc_z]; simp⟩
      · by_cases hd0 : d = 0
        · subst hd0
          rw [rdT_end] at h
          cases h
          exact ⟨s, rfl, rfl⟩
        · rw [rdT_bad hd hd0] at h; cases h
    · rw [rdT_nz hc] at h
      cases hr : rdT (d :: s) with
      | none => rw [hr] at h; cases h
      | some y =>
        rw [hr] at h
        obtain ⟨y1, y2⟩ := y
        simp only [Option.map_some, Option.some.injEq, Prod.mk.injEq] at h
        obtain ⟨rfl, rfl⟩ := h
        obtain ⟨x, e1, e2⟩ := rdT_inv (d :: s) y1 y2 hr
        exact ⟨x, by rw [e1, esc_nz hc]; rfl, by rw [e2, esc_nz hc]; simp⟩
theorem lift_num (s : List UInt8) (_h : 8 ≤ s.length) : lift (numV s) = val (s.take 8) ∧ inI (numV s) := by
  have h2 := val_take_lt s 8 (Nat.le_refl _)
  unfold lift numV inI
  omega
theorem num_lift (n : Int) (h : inI n) (x : List UInt8) : numV (be 8 (lift n) ++ x) = n := by
  unfold numV
  rw [List.take_append_of_le_length (by rw [be_len]; exact Nat.le_refl _), List.take_of_length_le (by rw [be_len]; exact Nat.le_refl _), val_be 8 _ (lift_lt h)]
  unfold lift inI at *
  omega
theorem fst_part {p : Pt} (h : okP p ∧ InP p) (x : List UInt8) : fst (partK p ++ x) = some (p, (partK p).length) := by
  obtain ⟨k, n, t⟩ := p
  obtain ⟨⟨h1, h2⟩ | ⟨h1, h2⟩, h3⟩ := h
  · obtain rfl : k = 1 := h1
    obtain rfl : t = [] := h2
    have e : partK (1, n, []) = 1 :: be 8 (lift n) := rfl
    rw [e]
    unfold fst
    rw [List.cons_append, List.head?_cons, if_pos rfl, List.drop_succ_cons, List.drop_zero, if_neg (by rw [List.length_append, be_len]; omega), num_lift n h3.2]
    simp [be_len]
  · obtain rfl : k = 2 := h1
    obtain rfl : n = 0 := h2
    have e : partK (2, 0, t) = 2 :: (esc t ++ [0, 0]) := rfl
    rw [e]
    unfold fst
    rw [List.cons_append, List.head?_cons, if_neg (by decide), if_pos rfl, List.drop_succ_cons, List.drop_zero, List.append_assoc]
    have := rdT_esc t x
    rw [show [0, 0] ++ x = 0 :: 0 :: x from rfl, this]
    simp
theorem fst_inv {s : List UInt8} {p : Pt} {n : Nat} (h : fst s = some (p, n)) : (okP p ∧ InP p) ∧ n = (partK p).length ∧ ∃ x, s = partK p ++ x := by
  unfold fst at h
  cases s with
  | nil => cases h
  | cons c s =>
    simp only [List.head?_cons, Option.some.injEq, List.drop_succ_cons, List.drop_zero] at h
    by_cases h1 : c = 1
    · rw [if_pos h1] at h
      by_cases h8 : s.length < 8
      · rw [if_pos h8] at h; cases h
      · rw [if_neg h8] at h
        cases h
        subst h1
        obtain ⟨e1, e2⟩ := lift_num s (by omega)
        have e : partK (1, numV s, []) = 1 :: be 8 (lift (numV s)) := rfl
        refine ⟨⟨.inl ⟨rfl, rfl⟩, ⟨by unfold inI; simp, e2⟩⟩, by rw [e]; simp [be_len], s.drop 8, ?_⟩
        rw [e, e1]
        have hb := be_val (s.take 8)
        rw [List.length_take, Nat.min_eq_left (by omega)] at hb
        rw [hb, List.cons_append, List.take_append_drop]
    · rw [if_neg h1] at h
      by_cases h2 : c = 2
      · rw [if_pos h2] at h
        cases hr : rdT s with
        | none => rw [hr] at h; cases h
        | some y =>
          rw [hr] at h
          obtain ⟨y1, y2⟩ := y
          simp only [Option.map_some, Option.some.injEq, Prod.mk.injEq] at h
          obtain ⟨rfl, rfl⟩ := h
          subst h2
          obtain ⟨x, e1, e2⟩ := rdT_inv s y1 y2 hr
          have e : partK (2, 0, y1) = 2 :: (esc y1 ++ [0, 0]) := rfl
          exact ⟨⟨.inr ⟨rfl, rfl⟩, ⟨by unfold inI; simp, by unfold inI; simp⟩⟩, by rw [e, e2]; simp, x, by rw [e, e1]; simp⟩
      · rw [if_neg h2] at h; cases h
end Go.Proofs.Ytpinmkoaihjhfaa
