import Derived.Test.YtchceolbbkhnnaaGJ3
import Derived.Test.YtchceolbbkhnnaaGF8
namespace Go.Proofs.Ytchceolbbkhnnaa
section
namespace Cp
open Rn Ch
open At hiding put
open An (fullA)
theorem flw_nill (fi : Bool) (b : AL) : flw fi [] b = b := (follow_nil b fi).1
theorem flw_nilr (fi : Bool) (a : AL) : flw fi a [] = [] := rfl
theorem fol_one_l (fi : Bool) : ∀ (A B : List Atm), Sim (fol fi (A ++ [.keep []]) B) (fol fi A B)
 | [], [] => by rw [List.nil_append, fol_kn, fol_nil]; exact Sim.tail []
 | [], .ins d b :: B => by rw [List.nil_append, fol_ki, fol_nil]; have := fol_one_l fi [] B; rw [List.nil_append, fol_nil] at this; exact this.cons _
 | [], .keep b :: B => by rw [List.nil_append, fol_kk, fol_nil, fol_nil, flw_nill]; exact .refl _
 | [], .del :: B => by rw [List.nil_append, fol_kd, fol_nil, fol_nil]; exact .refl _
 | .ins c a :: A, [] => by rw [List.cons_append, fol_in, fol_in]; exact (fol_one_l fi A []).cons _
 | .keep a :: A, [] => by rw [List.cons_append, fol_kn, fol_kn]; exact (fol_one_l fi A []).cons _
 | .del :: A, [] => by rw [List.cons_append, fol_dn, fol_dn]; exact fol_one_l fi A []
 | .ins c a :: A, .ins d b :: B => by
   cases fi with
   | true => rw [List.cons_append, fol_iit, fol_iit, ← List.cons_append]; exact (fol_one_l true (.ins c a :: A) B).cons _
   | false => rw [List.cons_append, fol_iif, fol_iif]; exact (fol_one_l false A (.ins d b :: B)).cons _
 | .keep a :: A, .ins d b :: B => by rw [List.cons_append, fol_ki, fol_ki, ← List.cons_append]; exact (fol_one_l fi (.keep a :: A) B).cons _
 | .del :: A, .ins d b :: B => by rw [List.cons_append, fol_di, fol_di, ← List.cons_append]; exact (fol_one_l fi (.del :: A) B).cons _
 | .ins c a :: A, .keep b :: B => by rw [List.cons_append, fol_ik, fol_ik]; exact (fol_one_l fi A (.keep b :: B)).cons _
 | .ins c a :: A, .del :: B => by rw [List.cons_append, fol_id, fol_id]; exact (fol_one_l fi A (.del :: B)).cons _
 | .del :: A, .keep b :: B => by rw [List.cons_append, fol_dk, fol_dk]; exact fol_one_l fi A B
 | .del :: A, .del :: B => by rw [List.cons_append, fol_dd, fol_dd]; exact fol_one_l fi A B
 | .keep a :: A, .keep b :: B => by rw [List.cons_append, fol_kk, fol_kk]; exact (fol_one_l fi A B).cons _
 | .keep a :: A, .del :: B => by rw [List.cons_append, fol_kd, fol_kd]; exact (fol_one_l fi A B).cons _
termination_by A B => A.length + B.length
theorem fol_one_r (fi : Bool) : ∀ (A B : List Atm), Sim (fol fi A (B ++ [.keep []])) (fol fi A B)
 | [], B => by rw [fol_nil, fol_nil]; exact Sim.tail B
 | .ins c a :: A, [] => by rw [List.nil_append, fol_ik, fol_in]; have := fol_one_r fi A []; rw [List.nil_append] at this; exact this.cons _
 | .keep a :: A, [] => by rw [List.nil_append, fol_kk, fol_kn, flw_nilr]; exact .refl _
 | .del :: A, [] => by rw [List.nil_append, fol_dk, fol_dn]; exact .refl _
 | .ins c a :: A, .ins d b :: B => by
   cases fi with
   | true => rw [List.cons_append, fol_iit, fol_iit]; exact (fol_one_r true (.ins c a :: A) B).cons _
   | false => rw [List.cons_append, fol_iif, fol_iif, ← List.cons_append]; exact (fol_one_r false A (.ins d b :: B)).cons _
 | .keep a :: A, .ins d b :: B => by rw [List.cons_append, fol_ki, fol_ki]; exact (fol_one_r fi (.keep a :: A) B).cons _
 | .del :: A, .ins d b :: B => by rw [List.cons_append, fol_di, fol_di]; exact (fol_one_r fi (.del :: A) B).cons _
 | .ins c a :: A, .keep b :: B => by rw [List.cons_append, fol_ik, fol_ik, ← List.cons_append]; exact (fol_one_r fi A (.keep b :: B)).cons _
 | .ins c a :: A, .del :: B => by rw [List.cons_append, fol_id, fol_id, ← List.cons_append]; exact (fol_one_r fi A (.del :: B)).cons _
 | .del :: A, .keep b :: B => by rw [List.cons_append, fol_dk, fol_dk]; exact fol_one_r fi A B
 | .del :: A, .del :: B => by rw [List.cons_append, fol_dd, fol_dd]; exact fol_one_r fi A B
 | .keep a :: A, .keep b :: B => by rw [List.cons_append, fol_kk, fol_kk]; exact (fol_one_r fi A B).cons _
 | .keep a :: A, .del :: B => by rw [List.cons_append, fol_kd, fol_kd]; exact (fol_one_r fi A B).cons _
termination_by A B => A.length + B.length
theorem fol_keeps_l (fi : Bool) (A B : List Atm) : ∀ n, Sim (fol fi (A ++ List.replicate n (.keep [])) B) (fol fi A B)
 | 0 => by rw [List.replicate_zero, List.append_nil]; exact .refl _
 | n + 1 => by rw [List.replicate_succ', ← List.append_assoc]; exact (fol_one_l fi _ B).trans (fol_keeps_l fi A B n)
theorem fol_keeps_r (fi : Bool) (A B : List Atm) : ∀ n, Sim (fol fi A (B ++ List.replicate n (.keep []))) (fol fi A B)
 | 0 => by rw [List.replicate_zero, List.append_nil]; exact .refl _
 | n + 1 => by rw [List.replicate_succ', ← List.append_assoc]; exact (fol_one_r fi A _).trans (fol_keeps_r fi A B n)
theorem fol_full (fi : Bool) (f g : Int) (A C : List OpD) : Sim (fol fi (fullA f A) (fullA g C)) (fol fi (atms A) (atms C)) := by
 unfold fullA; exact (fol_keeps_l fi _ _ _).trans (fol_keeps_r fi _ _ _)
structure FullG (fi : Bool) (f : Int) (A C : List OpD) (X Y : List Atm) : Prop where
 okx : OkX X
 oky : OkX Y
 bal : kA X = kA Y
 lenx : X.length ≤ 40000
 leny : Y.length ≤ 40000
 nrm : Cp.normA (fol fi X Y) = folN fi (norm A) (norm C)
 siz : sizF fi f (norm A) (norm C) = f - dl (norm A) + Ch.ins (norm A) - (dA (fol fi X Y) : Int) + (iA (fol fi X Y) : Int)
theorem full_g (fi : Bool) {f : Int} {A C : List OpD} (hA : toE f A = 0) (hC : toE f C = 0) : FullG fi f A C (fullA f (norm A)) (fullA f (norm C)) := by
 obtain ⟨a0, a1, a2⟩ := norm_ok ((toE_iff _ _).1 hA); obtain ⟨c0, c1, c2⟩ := norm_ok ((toE_iff _ _).1 hC); obtain ⟨x1, x2, x3⟩ := full_sums a0; obtain ⟨y1, y2, y3⟩ := full_sums c0; have lx := full_len (fullA f (norm A)); have ly := full_len (fullA f (norm C)); have hs := fol_full fi f f (norm A) (norm C); obtain ⟨q1, q2⟩ := sim_sums hs; refine ⟨okX_full a0.2.2.2.1, okX_full c0.2.2.2.1, by omega, ?_, ?_, normA_sim hs, by unfold sizF; rw [q1, q2]⟩
 ·have := a0.2.2.2.2.2; have := a0.2.1; have := a0.2.2.2.2.1; have := dl_le_kd a0.2.2.2.1; omega
 ·have := c0.2.2.2.2.2; have := c0.2.1; have := c0.2.2.2.2.1; have := dl_le_kd c0.2.2.2.1; omega
end Cp
end
section
namespace Cp
open Rn Ch
open At hiding put
structure WayG (fi : Bool) (X Y R : List Atm) (i k : Nat) : Prop where
 hi : i ≤ X.length
 hk : k ≤ Y.length
 fol : Cp.fol fi X Y = R ++ Cp.fol fi (X.drop i) (Y.drop k)
 bal : kA (X.drop i) = kA (Y.drop k)
theorem WayG.start {fi : Bool} {X Y : List Atm} (h : kA X = kA Y) : WayG fi X Y [] 0 0 := ⟨Nat.zero_le _, Nat.zero_le _, rfl, h⟩
theorem WayG.mine {fi : Bool} {X Y R : List Atm} {i k : Nat} (h : WayG fi X Y R i k) (hk : k < Y.length) {c : Nat} {b : AL} (hy : Y[k] = .ins c b) (hx : fi = true ∨ ∀ (hi : i < X.length) d a, X[i] ≠ .ins d a) : WayG fi X Y (R ++ [Y[k]]) i (k + 1) := by
 have e := List.drop_eq_getElem_cons hk; have hc := h.fol; have hb := h.bal; rw [e, hy] at hc hb; refine ⟨h.hi, hk, ?_, hb⟩; rcases Nat.lt_or_ge i X.length with hi | hi
 ·rw [List.drop_eq_getElem_cons hi, fol_ni fi _ _ _ _ _ (hx.imp id fun h => h hi), ← List.drop_eq_getElem_cons hi] at hc
  rw [hc, hy, List.append_assoc]; rfl
 ·rw [List.drop_eq_nil_of_le hi, fol_nil] at hc
  rw [List.drop_eq_nil_of_le hi, fol_nil, hc, hy, List.append_assoc]; rfl
theorem WayG.theirs {fi : Bool} {X Y R : List Atm} {i k : Nat} (h : WayG fi X Y R i k) (hi : i < X.length) {c : Nat} {a : AL} (hx : X[i] = .ins c a) (hy : fi = false ∨ ∀ (hk : k < Y.length) d b, Y[k] ≠ .ins d b) : WayG fi X Y (R ++ [.keep []]) (i + 1) k := by
 have e := List.drop_eq_getElem_cons hi; have hc := h.fol; have hb := h.bal; rw [e, hx] at hc hb; refine ⟨hi, h.hk, ?_, hb⟩; rcases Nat.lt_or_ge k Y.length with hk | hk
 ·rw [List.drop_eq_getElem_cons hk, fol_in1 fi _ _ _ _ _ (hy.imp id fun h => h hk), ← List.drop_eq_getElem_cons hk] at hc
  rw [hc, List.append_assoc]; rfl
 ·rw [List.drop_eq_nil_of_le hk, fol_in] at hc
  rw [List.drop_eq_nil_of_le hk, hc, List.append_assoc]; rfl
theorem WayG.both {fi : Bool} {X Y R : List Atm} {i k : Nat} (h : WayG fi X Y R i k) (ht : i < X.length ∨ k < Y.length) (hx : ∀ (hi : i < X.length) d a, X[i] ≠ .ins d a) (hy : ∀ (hk : k < Y.length) c b, Y[k] ≠ .ins c b) : i < X.length ∧ k < Y.length := by
 have hb := h.bal; rcases Nat.lt_or_ge i X.length with hi | hi <;> rcases Nat.lt_or_ge k Y.length with hk | hk
 ·exact ⟨hi, hk⟩
 ·rw [List.drop_eq_getElem_cons hi, List.drop_eq_nil_of_le hk] at hb
  have hx := hx hi; cases e : X[i] with
  | ins d a => exact absurd e (hx d a)
  | keep a => rw [e] at hb; simp only [kA] at hb; omega
  | del => rw [e] at hb; simp only [kA] at hb; omega
 ·rw [List.drop_eq_nil_of_le hi, List.drop_eq_getElem_cons hk] at hb
  have hy := hy hk; cases e : Y[k] with
  | ins d a => exact absurd e (hy d a)
  | keep a => rw [e] at hb; simp only [kA] at hb; omega
  | del => rw [e] at hb; simp only [kA] at hb; omega
 ·omega
theorem WayG.met {fi : Bool} {X Y R : List Atm} {i k : Nat} (h : WayG fi X Y R i k) (hi : i < X.length) (hk : k < Y.length) :
 (∀ a b, X[i] = .keep a → Y[k] = .keep b → WayG fi X Y (R ++ [.keep (flw fi a b)]) (i + 1) (k + 1)) ∧
 (∀ a, X[i] = .keep a → Y[k] = .del → WayG fi X Y (R ++ [.del]) (i + 1) (k + 1)) ∧
 (X[i] = .del → (∀ c b, Y[k] ≠ .ins c b) → WayG fi X Y R (i + 1) (k + 1)) := by
 have e1 := List.drop_eq_getElem_cons hi; have e2 := List.drop_eq_getElem_cons hk; have hc := h.fol; have hb := h.bal; rw [e1, e2] at hc hb; refine ⟨fun a b hx hy => ?_, fun a hx hy => ?_, fun hx hy => ?_⟩
 ·rw [hx, hy] at hc hb; rw [fol_kk] at hc; simp only [kA] at hb
  exact ⟨hi, hk, by rw [hc, List.append_assoc]; rfl, by omega⟩
 ·rw [hx, hy] at hc hb; rw [fol_kd] at hc; simp only [kA] at hb
  exact ⟨hi, hk, by rw [hc, List.append_assoc]; rfl, by omega⟩
 ·rw [hx] at hc hb
  cases e : Y[k] with
  | ins c b => exact absurd e (hy c b)
  | keep b => rw [e] at hc hb; rw [fol_dk] at hc; simp only [kA] at hb; exact ⟨hi, hk, hc, by omega⟩
  | del => rw [e] at hc hb; rw [fol_dd] at hc; simp only [kA] at hb; exact ⟨hi, hk, hc, by omega⟩
theorem WayG.done {fi : Bool} {X Y R : List Atm} {i k : Nat} (h : WayG fi X Y R i k) (hi : ¬ i < X.length) (hk : ¬ k < Y.length) : Cp.fol fi X Y = R := by
 have hc := h.fol
 rwa [List.drop_eq_nil_of_le (Nat.not_lt.1 hi), List.drop_eq_nil_of_le (Nat.not_lt.1 hk), fol_nil, List.append_nil] at hc
theorem fol_len (fi : Bool) : ∀ (A B : List Atm), (fol fi A B).length ≤ A.length + B.length
 | [], B => by rw [fol_nil]; simp
 | .ins c a :: A, [] => by have := fol_len fi A []; rw [fol_in]; simp only [List.length_cons, List.length_nil] at *; omega
 | .keep a :: A, [] => by have := fol_len fi A []; rw [fol_kn]; simp only [List.length_cons, List.length_nil] at *; omega
 | .del :: A, [] => by have := fol_len fi A []; rw [fol_dn]; simp only [List.length_cons, List.length_nil] at *; omega
 | .ins c a :: A, .ins d b :: B => by
   cases fi with
   | true => have := fol_len true (.ins c a :: A) B; rw [fol_iit]; simp only [List.length_cons] at *; omega
   | false => have := fol_len false A (.ins d b :: B); rw [fol_iif]; simp only [List.length_cons] at *; omega
 | .keep a :: A, .ins d b :: B => by have := fol_len fi (.keep a :: A) B; rw [fol_ki]; simp only [List.length_cons] at *; omega
 | .del :: A, .ins d b :: B => by have := fol_len fi (.del :: A) B; rw [fol_di]; simp only [List.length_cons] at *; omega
 | .ins c a :: A, .keep b :: B => by have := fol_len fi A (.keep b :: B); rw [fol_ik]; simp only [List.length_cons] at *; omega
 | .ins c a :: A, .del :: B => by have := fol_len fi A (.del :: B); rw [fol_id]; simp only [List.length_cons] at *; omega
 | .del :: A, .keep b :: B => by have := fol_len fi A B; rw [fol_dk]; simp only [List.length_cons] at *; omega
 | .del :: A, .del :: B => by have := fol_len fi A B; rw [fol_dd]; simp only [List.length_cons] at *; omega
 | .keep a :: A, .keep b :: B => by have := fol_len fi A B; rw [fol_kk]; simp only [List.length_cons] at *; omega
 | .keep a :: A, .del :: B => by have := fol_len fi A B; rw [fol_kd]; simp only [List.length_cons] at *; omega
termination_by A B => A.length + B.length
end Cp
end
end Go.Proofs.Ytchceolbbkhnnaa
