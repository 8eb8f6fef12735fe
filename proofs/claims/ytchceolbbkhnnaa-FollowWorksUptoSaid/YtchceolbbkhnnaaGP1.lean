import Derived.Test.YtchceolbbkhnnaaGB1
import Derived.Test.YtchceolbbkhnnaaGC1
import Derived.Test.YtchceolbbkhnnaaGB3
namespace Go.Proofs.Ytchceolbbkhnnaa
section
namespace Cp
open Rn Ch
open At hiding put
abbrev AL := List (ByteArray × ByteArray)
inductive Atm where
 | ins (c : Nat) (a : AL)
 | keep (a : AL)
 | del
def opA : Atm → OpD
 | .ins c a => ⟨2, 0, T [c], a⟩
 | .keep a => ⟨1, 1, ⟨#[]⟩, a⟩
 | .del => ⟨3, 1, ⟨#[]⟩, []⟩
def rns1 (t : ByteArray) : List Nat := (rd t.data.toList).getD []
def atm (o : OpD) : List Atm :=
 if o.kind = 2 then (rns1 o.text).map (fun c => .ins c o.attrs) else if o.kind = 1 then List.replicate o.n.toNat (.keep o.attrs) else List.replicate o.n.toNat .del
def atms (ops : List OpD) : List Atm := ops.flatMap atm
def addA (s : List OpD × Int) (x : Atm) : List OpD × Int := add s (opA x)
def normA (l : List Atm) : List OpD := (trim (flush (l.foldl addA ([], 0)))).reverse
theorem atms_cons (o : OpD) (r : List OpD) : atms (o :: r) = atm o ++ atms r := rfl
theorem atms_append (a b : List OpD) : atms (a ++ b) = atms a ++ atms b := by simp [atms]
theorem catT (a b : List Nat) : cat (T a) (T b) = T (a ++ b) := ba_eq (by rw [cat_data, T_data, T_data, T_data, txt_append])
theorem cat_assoc (a b c : ByteArray) : cat (cat a b) c = cat a (cat b c) := ba_eq (by simp only [cat_data, List.append_assoc])
theorem size0 {t : ByteArray} (h : t.size = 0) : t = ⟨#[]⟩ := ba_eq (by rw [List.length_eq_zero_iff.1 (show t.data.toList.length = 0 from h)])
theorem put_put (l : List OpD) {x y : OpD} (hk : x.kind = y.kind) (ha : x.attrs = y.attrs) : put (put l x) y = put l { x with n := x.n + y.n, text := cat x.text y.text } := by
 cases l with
 | nil =>
   have e : ∀ z : OpD, put [] z = [z] := fun _ => rfl; rw [e, e, put, if_pos ⟨hk, ha⟩]
 | cons z r =>
   by_cases h : z.kind = x.kind ∧ z.attrs = x.attrs
   ·rw [put, if_pos h, put, if_pos ⟨by show z.kind = y.kind; omega, by show z.attrs = y.attrs; rw [h.2, ha]⟩, put, if_pos h, cat_assoc]
    simp only [Int.add_assoc]
   ·rw [put, if_neg h, put, if_pos ⟨hk, ha⟩, put, if_neg h]
theorem rns_some {t : ByteArray} (h : er t.data.toList = 0) : allOk (rns1 t) ∧ t = T (rns1 t) ∧ (rns1 t).length ≤ 20000 ∧ cnt t.data.toList = ((rns1 t).length : Int) := by
 cases hr : rd t.data.toList with
 | none => rw [er_none hr] at h; omega
 | some cs =>
   have e : rns1 t = cs := by unfold rns1; rw [hr]; rfl
   rw [e]; exact ⟨(rd_some hr).1, rd_T hr, (rd_some hr).2.2, cnt_some hr⟩
theorem rns1_T {cs : List Nat} (h : allOk cs) (hn : cs.length ≤ 20000) : rns1 (T cs) = cs := by
 unfold rns1; rw [T_data, rd_txt cs h hn]; rfl
theorem atm_ins {o : OpD} (h : o.kind = 2) : atm o = (rns1 o.text).map (fun c => .ins c o.attrs) := if_pos h
theorem atm_keep {o : OpD} (h : o.kind = 1) : atm o = List.replicate o.n.toNat (.keep o.attrs) := by unfold atm; rw [if_neg (by omega), if_pos h]
theorem atm_del {o : OpD} (h : o.kind = 3) : atm o = List.replicate o.n.toNat .del := by unfold atm; rw [if_neg (by omega), if_neg (by omega)]
theorem add_keep (s : List OpD × Int) {o : OpD} (h : o.kind = 1) : add s o = (put (flush s) o, 0) := by unfold add; rw [if_neg (by omega), if_pos h]
theorem add_ins (s : List OpD × Int) {o : OpD} (h : o.kind = 2) : add s o = (put s.1 o, s.2) := by unfold add; rw [if_neg (by omega), if_neg (by omega)]
theorem add_del (s : List OpD × Int) {o : OpD} (h : o.kind = 3) : add s o = (s.1, s.2 + o.n) := by unfold add; rw [if_pos h]
theorem fold_keep (a : AL) (n : Nat) : ∀ s, (List.replicate (n + 1) (Atm.keep a)).foldl addA s = (put (flush s) ⟨1, ((n + 1 : Nat) : Int), ⟨#[]⟩, a⟩, 0) := by
 induction n with
 | zero => intro s; exact add_keep s (o := opA (.keep a)) rfl
 | succ n ih =>
   intro s; rw [List.replicate_succ', List.foldl_append, ih]; show add (put (flush s) _, 0) (opA (.keep a)) = _
   rw [add_keep _ (show (opA (.keep a)).kind = 1 from rfl)]; have e : flush (put (flush s) ⟨1, ((n + 1 : Nat) : Int), ⟨#[]⟩, a⟩, 0) = put (flush s) ⟨1, ((n + 1 : Nat) : Int), ⟨#[]⟩, a⟩ := by unfold flush; rw [if_neg (by show ¬ (0 : Int) < 0; omega)]
   rw [e, put_put _ (x := ⟨1, ((n + 1 : Nat) : Int), ⟨#[]⟩, a⟩) (y := opA (.keep a)) rfl rfl]; rfl
theorem fold_del (n : Nat) : ∀ s, (List.replicate n Atm.del).foldl addA s = (s.1, s.2 + (n : Int)) := by
 induction n with
 | zero => intro s; simp
 | succ n ih =>
   intro s; rw [List.replicate_succ, List.foldl_cons, ih]; show ((add s (opA .del)).1, (add s (opA .del)).2 + (n : Int)) = _
   rw [add_del s (show (opA .del).kind = 3 from rfl)]; show (s.1, s.2 + 1 + (n : Int)) = _
   congr 1; omega
theorem fold_ins (a : AL) (cs : List Nat) : ∀ c s, ((c :: cs).map fun c => Atm.ins c a).foldl addA s = (put s.1 ⟨2, 0, T (c :: cs), a⟩, s.2) := by
 induction cs with
 | nil => intro c s; exact add_ins s (o := opA (.ins c a)) rfl
 | cons d r ih =>
   intro c s; rw [List.map_cons, List.foldl_cons, ih]; show (put (add s (opA (.ins c a))).1 _, (add s (opA (.ins c a))).2) = _
   rw [add_ins s (show (opA (.ins c a)).kind = 2 from rfl)]; show (put (put s.1 ⟨2, 0, T [c], a⟩) ⟨2, 0, T (d :: r), a⟩, s.2) = _
   rw [put_put _ (x := ⟨2, 0, T [c], a⟩) (y := ⟨2, 0, T (d :: r), a⟩) rfl rfl]; show (put s.1 ⟨2, 0 + 0, cat (T [c]) (T (d :: r)), a⟩, s.2) = _
   rw [catT]; rfl
theorem opE_shape {o : OpD} (h : opE o = 0) : (o.kind = 1 ∧ 1 ≤ o.n ∧ o.text = ⟨#[]⟩ ∧ chgB o.attrs = true) ∨ (o.kind = 2 ∧ o.n = 0 ∧ rns1 o.text ≠ [] ∧ o.text = T (rns1 o.text) ∧ allOk (rns1 o.text) ∧ (rns1 o.text).length ≤ 20000 ∧ cnt o.text.data.toList = ((rns1 o.text).length : Int) ∧ rgtB o.attrs = true) ∨ (o.kind = 3 ∧ 1 ≤ o.n ∧ o.text = ⟨#[]⟩ ∧ o.attrs = []) := by
 rcases opE_kind h with k | k | k
 ·obtain ⟨a, b, c⟩ := (opE_keep k).1 h
  refine .inl ⟨k, a, size0 b, ?_⟩; unfold chgE at c; split at c
  ·assumption
  ·omega
 ·obtain ⟨a, b, c, d⟩ := (opE_put k).1 h
  obtain ⟨r1, r2, r3, r4⟩ := rns_some c; refine .inr (.inl ⟨k, a, fun e => ?_, r2, r1, r3, r4, ?_⟩)
  ·apply b
   rw [r2, e]; rfl
  ·unfold rgtE at d
   split at d
   ·assumption
   ·omega
 ·obtain ⟨a, b, c⟩ := (opE_cut k).1 h
  exact .inr (.inr ⟨k, a, size0 b, List.length_eq_zero_iff.1 c⟩)
theorem fold_atm {o : OpD} (h : opE o = 0) (s : List OpD × Int) : (atm o).foldl addA s = add s o := by
 rcases opE_shape h with ⟨k, a, b, c⟩ | ⟨k, a, b, c, d, e, f, g⟩ | ⟨k, a, b, c⟩
 ·obtain ⟨n, hn⟩ : ∃ n : Nat, o.n.toNat = n + 1 := ⟨o.n.toNat - 1, by omega⟩
  have hn2 : ((n + 1 : Nat) : Int) = o.n := by omega
  rw [atm_keep k, hn, fold_keep, add_keep s k, hn2]
  congr 2
  cases o; cases b; cases k; rfl
 ·rw [atm_ins k, add_ins s k]
  cases hr : rns1 o.text with
  | nil => exact absurd hr b
  | cons x r =>
    rw [fold_ins, ← hr, ← c]
    congr 2
    cases o; cases k; cases a; rfl
 ·rw [atm_del k, fold_del, add_del s k]
  congr 1; omega
inductive Sim : List Atm → List Atm → Prop
 | refl (a : List Atm) : Sim a a
 | symm {a b : List Atm} : Sim a b → Sim b a
 | trans {a b c : List Atm} : Sim a b → Sim b c → Sim a c
 | swap (p : List Atm) (c : Nat) (a : AL) (q : List Atm) : Sim (p ++ .ins c a :: .del :: q) (p ++ .del :: .ins c a :: q)
 | tail (p : List Atm) : Sim (p ++ [.keep []]) p
theorem Sim.cons (x : Atm) {a b : List Atm} (h : Sim a b) : Sim (x :: a) (x :: b) := by
 induction h with
 | refl a => exact .refl _
 | symm _ ih => exact ih.symm
 | trans _ _ i j => exact i.trans j
 | swap p c a q => exact .swap (x :: p) c a q
 | tail p => exact .tail (x :: p)
theorem Sim.front (p : List Atm) {a b : List Atm} (h : Sim a b) : Sim (p ++ a) (p ++ b) := by
 induction p with
 | nil => exact h
 | cons x r ih => exact ih.cons x
theorem trim_put {l : List OpD} {o : OpD} (hk : o.kind = 1) (ha : o.attrs = []) : trim (put l o) = trim l := by
 cases l with
 | nil => show trim [o] = []; rw [trim, if_pos ⟨hk, by rw [ha]; rfl⟩]
 | cons x r =>
   rw [put]; split
   ·rename_i h
    rw [trim, if_pos ⟨by show x.kind = 1; omega, by show x.attrs.length = 0; rw [h.2, ha]; rfl⟩, trim, if_pos ⟨by omega, by rw [h.2, ha]; rfl⟩]
   ·rename_i h
    have e : trim (x :: r) = x :: r := by
     rw [trim, if_neg]; rintro ⟨h1, h2⟩; exact h ⟨by omega, by rw [ha]; exact List.length_eq_zero_iff.1 h2⟩
    rw [e, trim, if_pos ⟨hk, by rw [ha]; rfl⟩]
theorem normA_sim {a b : List Atm} (h : Sim a b) : normA a = normA b := by
 have key : ∀ {a b : List Atm}, Sim a b → trim (flush (a.foldl addA ([], 0))) = trim (flush (b.foldl addA ([], 0))) := by
  intro a b h; induction h with
  | refl a => rfl
  | symm _ ih => exact ih.symm
  | trans _ _ i j => exact i.trans j
  | swap p c a q =>
    rw [List.foldl_append, List.foldl_append, List.foldl_cons, List.foldl_cons, List.foldl_cons, List.foldl_cons]; have e : ∀ s, addA (addA s (.ins c a)) .del = addA (addA s .del) (.ins c a) := fun s => add_swap (o := opA (.ins c a)) (d := opA .del) rfl rfl; rw [e]
  | tail p =>
    rw [List.foldl_append]; show trim (flush (add _ (opA (.keep [])))) = _
    rw [add_keep _ (show (opA (.keep [])).kind = 1 from rfl)]; have e : ∀ l : List OpD, flush (l, 0) = l := fun l => by unfold flush; rw [if_neg (by show ¬ (0 : Int) < 0; omega)]
    rw [e, trim_put rfl rfl]
 unfold normA; rw [key h]
def RisA (l : List Atm) : Prop := ∀ x ∈ l, match x with | .ins _ a => Rises ltB a | .keep a => Rises ltB a | .del => True
theorem RisA.tail {x : Atm} {l : List Atm} (h : RisA (x :: l)) : RisA l := fun y hy => h y (List.mem_cons_of_mem _ hy)
theorem risA_cons {x : Atm} {l : List Atm} : RisA (x :: l) ↔ (match x with | .ins _ a => Rises ltB a | .keep a => Rises ltB a | .del => True) ∧ RisA l := by
 unfold RisA; rw [List.forall_mem_cons]
abbrev cmp (a b : AL) : AL := composeL ltB a b
abbrev apl (a b : AL) : AL := applyL ltB emp a b
def comp : List Atm → List Atm → List Atm
 | .del :: A, B => .del :: comp A B
 | A, .ins c b :: B => .ins c b :: comp A B
 | [], B => B
 | A, [] => A
 | .ins c a :: A, .keep b :: B => .ins c (apl a b) :: comp A B
 | .ins _ _ :: A, .del :: B => comp A B
 | .keep a :: A, .keep b :: B => .keep (cmp a b) :: comp A B
 | .keep _ :: A, .del :: B => .del :: comp A B
termination_by A B => A.length + B.length
def fit : List Atm → List Atm → Prop
 | .del :: A, B => fit A B
 | A, .ins _ _ :: B => fit A B
 | [], _ => True
 | _, [] => True
 | .ins _ a :: A, .keep b :: B => (apl a b).length ≤ 8 ∧ fit A B
 | .ins _ _ :: A, .del :: B => fit A B
 | .keep a :: A, .keep b :: B => (cmp a b).length ≤ 8 ∧ fit A B
 | .keep _ :: A, .del :: B => fit A B
termination_by A B => A.length + B.length
theorem comp_del (A B : List Atm) : comp (.del :: A) B = .del :: comp A B := by rw [comp]
theorem comp_nil (B : List Atm) : comp [] B = B := by
 induction B with
 | nil => rw [comp]; simp
 | cons y B ih => cases y <;> (rw [comp]; first | rw [ih] | skip) <;> simp
end Cp
end
section
namespace Cp
open Rn Ch
open At hiding put
theorem comp_nilr (A : List Atm) : comp A [] = A := by
 induction A with
 | nil => exact comp_nil []
 | cons x A ih =>
   cases x with
   | del => rw [comp_del, ih]
   | ins c a => rw [comp] <;> simp
   | keep a => rw [comp] <;> simp
theorem comp_ii (c : Nat) (a : AL) (A : List Atm) (d : Nat) (b : AL) (B : List Atm) : comp (.ins c a :: A) (.ins d b :: B) = .ins d b :: comp (.ins c a :: A) B := by rw [comp]; simp
theorem comp_ki (a : AL) (A : List Atm) (d : Nat) (b : AL) (B : List Atm) : comp (.keep a :: A) (.ins d b :: B) = .ins d b :: comp (.keep a :: A) B := by rw [comp]; simp
theorem comp_ik (c : Nat) (a : AL) (A : List Atm) (b : AL) (B : List Atm) : comp (.ins c a :: A) (.keep b :: B) = .ins c (apl a b) :: comp A B := by rw [comp]
theorem comp_id (c : Nat) (a : AL) (A : List Atm) (B : List Atm) : comp (.ins c a :: A) (.del :: B) = comp A B := by rw [comp]
theorem comp_kk (a : AL) (A : List Atm) (b : AL) (B : List Atm) : comp (.keep a :: A) (.keep b :: B) = .keep (cmp a b) :: comp A B := by rw [comp]
theorem comp_kd (a : AL) (A : List Atm) (B : List Atm) : comp (.keep a :: A) (.del :: B) = .del :: comp A B := by rw [comp]
theorem comp_ins_sim (c : Nat) (e : AL) (q A : List Atm) : Sim (comp A (.ins c e :: q)) (.ins c e :: comp A q) := by
 induction A with
 | nil => rw [comp_nil, comp_nil]; exact .refl _
 | cons x A ih =>
   cases x with
   | del =>
     rw [comp_del, comp_del]; exact (ih.cons .del).trans (Sim.swap [] c e _).symm
   | ins d a => rw [comp_ii]; exact .refl _
   | keep a => rw [comp_ki]; exact .refl _
theorem comp_rfront {Y Y' : List Atm} (h : ∀ A, RisA A → Sim (comp A Y) (comp A Y')) (p : List Atm) : ∀ A, RisA A → Sim (comp A (p ++ Y)) (comp A (p ++ Y')) := by
 have h0 : Sim Y Y' := by have := h [] (fun x hx => by cases hx); rwa [comp_nil, comp_nil] at this
 induction p with
 | nil => exact h
 | cons y p ih =>
   intro A; induction A with
   | nil => intro _; rw [comp_nil, comp_nil]; exact h0.front _
   | cons x A ihA =>
     intro hr; have ihA := ihA hr.tail; rw [List.cons_append, List.cons_append] at ihA ⊢; cases x with
     | del => rw [comp_del, comp_del]; exact ihA.cons _
     | ins c a =>
       cases y with
       | del => rw [comp_id, comp_id]; exact ih A hr.tail
       | ins d b => rw [comp_ii, comp_ii]; exact (ih _ hr).cons _
       | keep b => rw [comp_ik, comp_ik]; exact (ih A hr.tail).cons _
     | keep a =>
       cases y with
       | del => rw [comp_kd, comp_kd]; exact (ih A hr.tail).cons _
       | ins d b => rw [comp_ki, comp_ki]; exact (ih _ hr).cons _
       | keep b => rw [comp_kk, comp_kk]; exact (ih A hr.tail).cons _
theorem comp_simr {B B' : List Atm} (h : Sim B B') : ∀ A, RisA A → Sim (comp A B) (comp A B') := by
 induction h with
 | refl a => intro A _; exact .refl _
 | symm _ ih => intro A hA; exact (ih A hA).symm
 | trans _ _ i j => intro A hA; exact (i A hA).trans (j A hA)
 | swap p c e q =>
   refine comp_rfront (Y := .ins c e :: .del :: q) (Y' := .del :: .ins c e :: q) (fun A => ?_) p; induction A with
   | nil => intro _; rw [comp_nil, comp_nil]; exact Sim.swap [] c e q
   | cons x A ih =>
     intro hr; cases x with
     | del => rw [comp_del, comp_del]; exact (ih hr.tail).cons _
     | ins d a => rw [comp_ii, comp_id, comp_id]; exact (comp_ins_sim c e q A).symm
     | keep a => rw [comp_ki, comp_kd, comp_kd]; exact (Sim.swap [] c e _).trans ((comp_ins_sim c e q A).symm.cons _)
 | tail p =>
   intro A hA; have key : ∀ A, RisA A → Sim (comp A [.keep []]) (comp A []) := by
    intro A; induction A with
    | nil => intro _; rw [comp_nil, comp_nil]; exact Sim.tail []
    | cons x A ih =>
      intro hr; have h1 := (risA_cons.1 hr).1; rw [comp_nilr] at ih ⊢; cases x with
      | del => rw [comp_del]; exact (ih hr.tail).cons _
      | ins c a => rw [comp_ik, comp_nilr, show apl a [] = a from apply_nil strictB emp h1]; exact .refl _
      | keep a => rw [comp_kk, comp_nilr, show cmp a [] = a from (compose_nil strictB h1).2]; exact .refl _
   have := comp_rfront key p A hA
   rwa [List.append_nil] at this
end Cp
end
section
namespace Cp
open Rn Ch
open At hiding put
inductive Swp : List Atm → List Atm → Prop
 | refl (a : List Atm) : Swp a a
 | symm {a b : List Atm} : Swp a b → Swp b a
 | trans {a b c : List Atm} : Swp a b → Swp b c → Swp a c
 | swap (p : List Atm) (c : Nat) (a : AL) (q : List Atm) : Swp (p ++ .ins c a :: .del :: q) (p ++ .del :: .ins c a :: q)
theorem Swp.sim {a b : List Atm} (h : Swp a b) : Sim a b := by
 induction h with
 | refl a => exact .refl _
 | symm _ ih => exact ih.symm
 | trans _ _ i j => exact i.trans j
 | swap p c a q => exact .swap p c a q
theorem Swp.cons (x : Atm) {a b : List Atm} (h : Swp a b) : Swp (x :: a) (x :: b) := by
 induction h with
 | refl a => exact .refl _
 | symm _ ih => exact ih.symm
 | trans _ _ i j => exact i.trans j
 | swap p c a q => exact .swap (x :: p) c a q
theorem Swp.front (p : List Atm) {a b : List Atm} (h : Swp a b) : Swp (p ++ a) (p ++ b) := by
 induction p with
 | nil => exact h
 | cons x r ih => exact ih.cons x
theorem Swp.back (r : List Atm) {a b : List Atm} (h : Swp a b) : Swp (a ++ r) (b ++ r) := by
 induction h with
 | refl a => exact .refl _
 | symm _ ih => exact ih.symm
 | trans _ _ i j => exact i.trans j
 | swap p c a q =>
   have := Swp.swap p c a (q ++ r)
   simpa using this
theorem atm_join {x o : OpD} (hx : opE x = 0) (ho : opE o = 0) (hk : x.kind = o.kind) (ha : x.attrs = o.attrs) (hi : ins [x] + ins [o] ≤ 20000) : atm { x with n := x.n + o.n, text := cat x.text o.text } = atm x ++ atm o := by
 rcases opE_shape hx with ⟨k, a, _, _⟩ | ⟨k, _, _, d, e, f, g, _⟩ | ⟨k, a, _, _⟩
 ·have no := opE_n ho (by omega)
  rw [atm_keep (o := { x with n := x.n + o.n, text := cat x.text o.text }) k, atm_keep k, atm_keep (o := o) (by omega), ← ha]; show List.replicate (x.n + o.n).toNat _ = _
  rw [show (x.n + o.n).toNat = x.n.toNat + o.n.toNat by omega, ← List.replicate_append_replicate]
 ·rcases opE_shape ho with ⟨k', _⟩ | ⟨k', _, _, d', e', f', g', _⟩ | ⟨k', _⟩
  ·omega
  ·have h1 : (rns1 x.text).length + (rns1 o.text).length ≤ 20000 := by
    simp only [ins] at hi; rw [if_pos k, if_pos k'] at hi; omega
   rw [atm_ins (o := { x with n := x.n + o.n, text := cat x.text o.text }) k, atm_ins k, atm_ins k', ← ha]; show (rns1 (cat x.text o.text)).map _ = _
   have e2 : cat x.text o.text = T (rns1 x.text ++ rns1 o.text) := by
    conv => lhs; rw [d, d']
    exact catT _ _
   rw [e2, rns1_T, List.map_append]
   ·intro c hc
    exact (List.mem_append.1 hc).elim (e c) (e' c)
   ·rw [List.length_append]; omega
  ·omega
 ·have no := opE_n ho (by omega)
  rw [atm_del (o := { x with n := x.n + o.n, text := cat x.text o.text }) k, atm_del k, atm_del (o := o) (by omega)]; show List.replicate (x.n + o.n).toNat _ = _
  rw [show (x.n + o.n).toNat = x.n.toNat + o.n.toNat by omega, ← List.replicate_append_replicate]
theorem atms_one (o : OpD) : atms [o] = atm o := by rw [atms_cons]; simp [atms]
theorem atms_rev (x : OpD) (r : List OpD) : atms (x :: r).reverse = atms r.reverse ++ atm x := by rw [List.reverse_cons, atms_append, atms_one]
theorem atms_put {l : List OpD} {o : OpD} (hl : allE l) (ho : opE o = 0) (hi : ins l + ins [o] ≤ 20000) : atms (put l o).reverse = atms l.reverse ++ atm o := by
 cases l with
 | nil => show atms [o] = _; rw [atms_one]; rfl
 | cons x r =>
   rw [put]; split
   ·rename_i h
    have hs : ins (x :: r) = ins [x] + ins r := ins_append [x] r; have h0 := ins_nonneg r; rw [atms_rev, atms_rev, atm_join (hl x (List.mem_cons_self ..)) ho h.1 h.2 (by omega), List.append_assoc]
   ·rw [atms_rev]
theorem sim_block {L : List Atm} (hL : ∀ x ∈ L, ∃ c a, x = .ins c a) (k : Nat) (q : List Atm) : Swp (L ++ (List.replicate k .del ++ q)) (List.replicate k .del ++ (L ++ q)) := by
 have one : ∀ q, Swp (L ++ .del :: q) (.del :: (L ++ q)) := by
  intro q; induction L with
  | nil => exact .refl _
  | cons x L ih =>
    obtain ⟨c, a, rfl⟩ := hL x (List.mem_cons_self ..); exact ((ih fun y hy => hL y (List.mem_cons_of_mem _ hy)).cons _).trans (Swp.swap [] c a _)
 induction k with
 | zero => exact .refl _
 | succ k ih =>
   rw [List.replicate_succ]; exact (one _).trans (ih.cons _)
def repA (s : List OpD × Int) : List Atm := atms s.1.reverse ++ List.replicate s.2.toNat .del
theorem atms_flush {s : List OpD × Int} (hl : allE s.1) (hg : 0 ≤ s.2) (hi : ins s.1 ≤ 20000) : atms (flush s).reverse = repA s := by
 unfold flush repA; split
 ·rename_i h
  have e : ins [delO s.2] = 0 := rfl; rw [atms_put hl (delO_ok h) (by rw [e]; omega), atm_del rfl]; rfl
 ·rename_i h
  have : s.2.toNat = 0 := by omega
  rw [this]; simp
theorem sim_add {s : List OpD × Int} {o : OpD} (hl : allE s.1) (hg : 0 ≤ s.2) (ho : opE o = 0) (hi : ins s.1 + ins [o] ≤ 20000) : Swp (repA (add s o)) (repA s ++ atm o) := by
 have h0 := ins_nonneg [o]; rcases opE_kind ho with k | k | k
 ·rw [add_keep s k]
  obtain ⟨f1, f2, f3, f4⟩ := flush_all hl hg (by omega); have e : repA (put (flush s) o, 0) = atms (put (flush s) o).reverse := by unfold repA; simp
  rw [e, atms_put f1 ho (by omega), atms_flush hl hg (by omega)]; exact .refl _
 ·rw [add_ins s k]
  unfold repA; rw [atms_put hl ho hi, List.append_assoc, List.append_assoc]
  have hb := sim_block (L := atm o) (by
   rw [atm_ins k]; intro x hx; obtain ⟨c, _, rfl⟩ := List.mem_map.1 hx; exact ⟨c, _, rfl⟩) s.2.toNat []
  rw [List.append_nil, List.append_nil] at hb; exact hb.front _
 ·have hn := opE_n ho (by omega)
  rw [add_del s k]; unfold repA; rw [atm_del k]; show Swp (atms s.1.reverse ++ List.replicate (s.2 + o.n).toNat .del) _
  rw [show (s.2 + o.n).toNat = s.2.toNat + o.n.toNat by omega, ← List.replicate_append_replicate, ← List.append_assoc]; exact .refl _
theorem sim_fold (ops : List OpD) : ∀ {s : List OpD × Int}, allE s.1 → 0 ≤ s.2 → allE ops → ins s.1 + ins ops ≤ 20000 → Swp (repA (ops.foldl add s)) (repA s ++ atms ops) := by
 induction ops with
 | nil => intro s _ _ _ _; show Swp (repA s) (repA s ++ []); rw [List.append_nil]; exact .refl _
 | cons o r ih =>
   intro s h1 h2 h3 h4; have hs : ins (o :: r) = ins [o] + ins r := ins_append [o] r; have hr := ins_nonneg r; have ho := h3 o (List.mem_cons_self ..); obtain ⟨a1, a2, a3, a4, a5⟩ := add_all h1 h2 ho (by omega); rw [List.foldl_cons, atms_cons, ← List.append_assoc]; exact (ih a1 a2 (fun x hx => h3 x (List.mem_cons_of_mem _ hx)) (by omega)).trans ((sim_add h1 h2 ho (by omega)).back _)
theorem sim_keeps (p : List Atm) (n : Nat) : Sim (p ++ List.replicate n (.keep [])) p := by
 induction n with
 | zero => rw [List.replicate_zero, List.append_nil]; exact .refl _
 | succ n ih =>
   rw [List.replicate_succ', ← List.append_assoc]; exact (Sim.tail _).trans ih
theorem sim_trim {l : List OpD} : Sim (atms (trim l).reverse) (atms l.reverse) := by
 cases l with
 | nil => exact .refl _
 | cons x r =>
   rw [trim]; split
   ·rename_i h
    rw [atms_rev, atm_keep h.1, List.length_eq_zero_iff.1 h.2]; exact (sim_keeps _ _).symm
   ·exact .refl _
theorem sim_norm {ops : List OpD} (h : allE ops) (hi : ins ops ≤ 20000) : Sim (atms (norm ops)) (atms ops) := by
 obtain ⟨a1, a2, a3, a4, a5⟩ := fold_all h hi; unfold norm; refine sim_trim.trans ?_; rw [atms_flush a1 a2 (by omega)]; have := (sim_fold ops (s := ([], 0)) (fun x hx => by cases hx) (Int.le_refl _) h (by simpa [ins] using hi)).sim; exact this
def OkX (l : List Atm) : Prop := ∀ x ∈ l, match x with | .ins c a => ok c ∧ rgtB a = true | .keep a => chgB a = true | .del => True
theorem okX_cons {x : Atm} {l : List Atm} : OkX (x :: l) ↔ (match x with | .ins c a => ok c ∧ rgtB a = true | .keep a => chgB a = true | .del => True) ∧ OkX l := by
 unfold OkX; rw [List.forall_mem_cons]
theorem okX_append {a b : List Atm} : OkX (a ++ b) ↔ OkX a ∧ OkX b := by
 unfold OkX; constructor
 ·exact fun h => ⟨fun x hx => h x (List.mem_append_left _ hx), fun x hx => h x (List.mem_append_right _ hx)⟩
 ·rintro ⟨h, k⟩ x hx
  exact (List.mem_append.1 hx).elim (h x) (k x)
theorem okX_atm {o : OpD} (h : opE o = 0) : OkX (atm o) := by
 rcases opE_shape h with ⟨k, a, b, c⟩ | ⟨k, a, b, c, d, e, f, g⟩ | ⟨k, a, b, c⟩
 ·rw [atm_keep k]
  intro x hx; rw [List.eq_of_mem_replicate hx]; exact c
 ·rw [atm_ins k]
  intro x hx; obtain ⟨y, hy, rfl⟩ := List.mem_map.1 hx; exact ⟨d y hy, g⟩
 ·rw [atm_del k]
  intro x hx; rw [List.eq_of_mem_replicate hx]; trivial
theorem okX_atms {ops : List OpD} (h : allE ops) : OkX (atms ops) := by
 induction ops with
 | nil => intro x hx; cases hx
 | cons o r ih => rw [atms_cons]; exact okX_append.2 ⟨okX_atm (h o (List.mem_cons_self ..)), ih fun x hx => h x (List.mem_cons_of_mem _ hx)⟩
def kA : List Atm → Nat
 | [] => 0
 | .ins _ _ :: r => kA r
 | .keep _ :: r => kA r + 1
 | .del :: r => kA r + 1
def dA : List Atm → Nat
 | [] => 0
 | .del :: r => dA r + 1
 | .ins _ _ :: r => dA r
 | .keep _ :: r => dA r
def iA : List Atm → Nat
 | [] => 0
 | .ins _ _ :: r => iA r + 1
 | .keep _ :: r => iA r
 | .del :: r => iA r
theorem sums_append (a b : List Atm) : kA (a ++ b) = kA a + kA b ∧ dA (a ++ b) = dA a + dA b ∧ iA (a ++ b) = iA a + iA b := by
 induction a with
 | nil => simp [kA, dA, iA]
 | cons x r ih =>
   obtain ⟨h1, h2, h3⟩ := ih; rw [List.cons_append]; cases x <;> simp only [kA, dA, iA] <;> omega
theorem sums_keep (a : AL) (n : Nat) : kA (List.replicate n (.keep a)) = n ∧ dA (List.replicate n (.keep a)) = 0 ∧ iA (List.replicate n (.keep a)) = 0 := by
 induction n with
 | zero => simp [kA, dA, iA]
 | succ n ih => rw [List.replicate_succ]; simp only [kA, dA, iA]; omega
theorem sums_del (n : Nat) : kA (List.replicate n .del) = n ∧ dA (List.replicate n .del) = n ∧ iA (List.replicate n .del) = 0 := by
 induction n with
 | zero => simp [kA, dA, iA]
 | succ n ih => rw [List.replicate_succ]; simp only [kA, dA, iA]; omega
theorem sums_ins (a : AL) (cs : List Nat) : kA (cs.map fun c => .ins c a) = 0 ∧ dA (cs.map fun c => .ins c a) = 0 ∧ iA (cs.map fun c => .ins c a) = cs.length := by
 induction cs with
 | nil => simp [kA, dA, iA]
 | cons c r ih => rw [List.map_cons]; simp only [kA, dA, iA, List.length_cons]; omega
theorem sums_atms {ops : List OpD} (h : allE ops) : kd ops = (kA (atms ops) : Int) ∧ dl ops = (dA (atms ops) : Int) ∧ ins ops = (iA (atms ops) : Int) := by
 induction ops with
 | nil => simp [kd, dl, ins, atms, kA, dA, iA]
 | cons o r ih =>
   obtain ⟨h1, h2, h3⟩ := ih fun x hx => h x (List.mem_cons_of_mem _ hx); obtain ⟨s1, s2, s3⟩ := sums_append (atm o) (atms r); rw [atms_cons, kd, dl, ins, s1, s2, s3]; rcases opE_shape (h o (List.mem_cons_self ..)) with ⟨k, a, b, c⟩ | ⟨k, a, b, c, d, e, f, g⟩ | ⟨k, a, b, c⟩
   ·obtain ⟨t1, t2, t3⟩ := sums_keep o.attrs o.n.toNat
    rw [atm_keep k, t1, t2, t3, if_neg (by omega), if_neg (by omega), if_neg (by omega)]; omega
   ·obtain ⟨t1, t2, t3⟩ := sums_ins o.attrs (rns1 o.text)
    rw [atm_ins k, t1, t2, t3, if_pos k, if_neg (by omega), if_pos k, f]; omega
   ·obtain ⟨t1, t2, t3⟩ := sums_del o.n.toNat
    rw [atm_del k, t1, t2, t3, if_neg (by omega), if_pos k, if_neg (by omega)]; omega
theorem sums_comp : ∀ (A B : List Atm), dA (comp A B) + iA A + iA B = dA A + dA B + iA (comp A B)
 | [], B => by rw [comp_nil]; simp only [dA, iA]; omega
 | .del :: A, B => by have := sums_comp A B; rw [comp_del]; simp only [dA, iA]; omega
 | .ins c a :: A, [] => by rw [comp_nilr]; simp only [dA, iA]; omega
 | .keep a :: A, [] => by rw [comp_nilr]; simp only [dA, iA]; omega
 | .ins c a :: A, .ins d b :: B => by have := sums_comp (.ins c a :: A) B; rw [comp_ii]; simp only [dA, iA] at this ⊢; omega
 | .keep a :: A, .ins d b :: B => by have := sums_comp (.keep a :: A) B; rw [comp_ki]; simp only [dA, iA] at this ⊢; omega
 | .ins c a :: A, .keep b :: B => by have := sums_comp A B; rw [comp_ik]; simp only [dA, iA]; omega
 | .keep a :: A, .keep b :: B => by have := sums_comp A B; rw [comp_kk]; simp only [dA, iA]; omega
 | .ins c a :: A, .del :: B => by have := sums_comp A B; rw [comp_id]; simp only [dA, iA]; omega
 | .keep a :: A, .del :: B => by have := sums_comp A B; rw [comp_kd]; simp only [dA, iA]; omega
termination_by A B => A.length + B.length
theorem kA_comp : ∀ (A B : List Atm) (f : Nat), kA A ≤ f → kA B + dA A ≤ f + iA A → kA (comp A B) ≤ f
 | [], B, f, h1, h2 => by rw [comp_nil]; simp only [dA, iA] at h2; omega
 | .del :: A, B, f, h1, h2 => by
   simp only [kA, dA, iA] at h1 h2; have := kA_comp A B (f - 1) (by omega) (by omega); rw [comp_del]; simp only [kA]; omega
 | .ins c a :: A, [], f, h1, h2 => by rw [comp_nilr]; exact h1
 | .keep a :: A, [], f, h1, h2 => by rw [comp_nilr]; exact h1
 | .ins c a :: A, .ins d b :: B, f, h1, h2 => by
   have := kA_comp (.ins c a :: A) B f h1 (by simp only [kA] at h2; omega); rw [comp_ii]; simp only [kA]; omega
 | .keep a :: A, .ins d b :: B, f, h1, h2 => by
   have := kA_comp (.keep a :: A) B f h1 (by simp only [kA] at h2; omega); rw [comp_ki]; simp only [kA]; omega
 | .ins c a :: A, .keep b :: B, f, h1, h2 => by
   simp only [kA, dA, iA] at h1 h2; have := kA_comp A B f (by omega) (by omega); rw [comp_ik]; simp only [kA]; omega
 | .keep a :: A, .keep b :: B, f, h1, h2 => by
   simp only [kA, dA, iA] at h1 h2; have := kA_comp A B (f - 1) (by omega) (by omega); rw [comp_kk]; simp only [kA]; omega
 | .ins c a :: A, .del :: B, f, h1, h2 => by
   simp only [kA, dA, iA] at h1 h2; have := kA_comp A B f (by omega) (by omega); rw [comp_id]; omega
 | .keep a :: A, .del :: B, f, h1, h2 => by
   simp only [kA, dA, iA] at h1 h2; have := kA_comp A B (f - 1) (by omega) (by omega); rw [comp_kd]; simp only [kA]; omega
termination_by A B => A.length + B.length
theorem atm_opA {x : Atm} (h : OkX [x]) : atm (opA x) = [x] ∧ opE (opA x) = 0 := by
 have h := h x (List.mem_singleton.2 rfl); cases x with
 | ins c a =>
   have e : rns1 (T [c]) = [c] := rns1_T (fun d hd => by rw [List.mem_singleton.1 hd]; exact h.1) (by simp); refine ⟨?_, ?_⟩
   ·rw [atm_ins rfl]
    show (rns1 (T [c])).map _ = _
    rw [e]; rfl
   ·refine (opE_put rfl).2 ⟨rfl, ?_, ?_, ?_⟩
    ·show (T [c]).size ≠ 0
     have h1 := enc_pos c; have h2 : (txt [c]).length = (enc c).length := by simp [txt]
     rw [T_size, h2]; omega
    ·show er (T [c]).data.toList = 0
     rw [T_data]; exact er_some (rd_txt [c] (fun d hd => by rw [List.mem_singleton.1 hd]; exact h.1) (by simp))
    ·show rgtE a = 0
     unfold rgtE; rw [if_pos h.2]
 | keep a =>
   refine ⟨by rw [atm_keep rfl]; rfl, (opE_keep rfl).2 ⟨Int.le_refl _, rfl, ?_⟩⟩; show chgE a = 0
   unfold chgE; rw [if_pos h]
 | del => exact ⟨by rw [atm_del rfl]; rfl, (opE_cut rfl).2 ⟨Int.le_refl _, rfl, rfl⟩⟩
theorem atms_opA {X : List Atm} (h : OkX X) : atms (X.map opA) = X ∧ allE (X.map opA) := by
 induction X with
 | nil => exact ⟨rfl, fun x hx => by cases hx⟩
 | cons x r ih =>
   obtain ⟨h1, h2⟩ := okX_cons.1 h; obtain ⟨i1, i2⟩ := ih h2; obtain ⟨a1, a2⟩ := atm_opA (x := x) (fun y hy => by rw [List.mem_singleton.1 hy]; exact h1); refine ⟨by rw [List.map_cons, atms_cons, a1, i1]; rfl, fun y hy => ?_⟩; rcases List.mem_cons.1 hy with rfl | hy
   ·exact a2
   ·exact i2 y hy
theorem normA_map (X : List Atm) : normA X = norm (X.map opA) := by
 unfold normA norm fold; rw [List.foldl_map]; rfl
end Cp
end
section
namespace Cp
open Rn Ch
open At hiding put
theorem fit_nil (B : List Atm) : fit [] B := by
 induction B with
 | nil => rw [fit] <;> simp
 | cons y B ih => cases y <;> (rw [fit] <;> first | exact ih | simp)
theorem fit_del (A B : List Atm) : fit (.del :: A) B ↔ fit A B := by rw [fit]
theorem fit_ii (c : Nat) (a : AL) (A : List Atm) (d : Nat) (b : AL) (B : List Atm) : fit (.ins c a :: A) (.ins d b :: B) ↔ fit (.ins c a :: A) B := by rw [fit]; simp
theorem fit_ki (a : AL) (A : List Atm) (d : Nat) (b : AL) (B : List Atm) : fit (.keep a :: A) (.ins d b :: B) ↔ fit (.keep a :: A) B := by rw [fit]; simp
theorem fit_ik (c : Nat) (a : AL) (A : List Atm) (b : AL) (B : List Atm) : fit (.ins c a :: A) (.keep b :: B) ↔ (apl a b).length ≤ 8 ∧ fit A B := by rw [fit]
theorem fit_id (c : Nat) (a : AL) (A : List Atm) (B : List Atm) : fit (.ins c a :: A) (.del :: B) ↔ fit A B := by rw [fit]
theorem fit_kk (a : AL) (A : List Atm) (b : AL) (B : List Atm) : fit (.keep a :: A) (.keep b :: B) ↔ (cmp a b).length ≤ 8 ∧ fit A B := by rw [fit]
theorem fit_kd (a : AL) (A : List Atm) (B : List Atm) : fit (.keep a :: A) (.del :: B) ↔ fit A B := by rw [fit]
theorem fit_ni (A : List Atm) (d : Nat) (b : AL) (B : List Atm) : fit A (.ins d b :: B) ↔ fit A B := by
 induction A with
 | nil => exact ⟨fun _ => fit_nil _, fun _ => fit_nil _⟩
 | cons x A ih =>
   cases x with
   | del => rw [fit_del, fit_del]; exact ih
   | ins c a => exact fit_ii c a A d b B
   | keep a => exact fit_ki a A d b B
theorem okX_comp : ∀ (A B : List Atm), OkX A → OkX B → fit A B → OkX (comp A B)
 | [], B, _, hB, _ => by rw [comp_nil]; exact hB
 | .del :: A, B, hA, hB, hf => by rw [comp_del]; exact okX_cons.2 ⟨trivial, okX_comp A B (okX_cons.1 hA).2 hB ((fit_del A B).1 hf)⟩
 | .ins c a :: A, [], hA, _, _ => by rw [comp_nilr]; exact hA
 | .keep a :: A, [], hA, _, _ => by rw [comp_nilr]; exact hA
 | .ins c a :: A, .ins d b :: B, hA, hB, hf => by rw [comp_ii]; exact okX_cons.2 ⟨(okX_cons.1 hB).1, okX_comp _ B hA (okX_cons.1 hB).2 ((fit_ii c a A d b B).1 hf)⟩
 | .keep a :: A, .ins d b :: B, hA, hB, hf => by rw [comp_ki]; exact okX_cons.2 ⟨(okX_cons.1 hB).1, okX_comp _ B hA (okX_cons.1 hB).2 ((fit_ki a A d b B).1 hf)⟩
 | .ins c a :: A, .keep b :: B, hA, hB, hf => by
   obtain ⟨f1, f2⟩ := (fit_ik c a A b B).1 hf; rw [comp_ik]; exact okX_cons.2 ⟨⟨(okX_cons.1 hA).1.1, rgt_apply (okX_cons.1 hA).1.2 (okX_cons.1 hB).1 f1⟩, okX_comp A B (okX_cons.1 hA).2 (okX_cons.1 hB).2 f2⟩
 | .keep a :: A, .keep b :: B, hA, hB, hf => by
   obtain ⟨f1, f2⟩ := (fit_kk a A b B).1 hf; rw [comp_kk]; exact okX_cons.2 ⟨chg_compose (okX_cons.1 hA).1 (okX_cons.1 hB).1 f1, okX_comp A B (okX_cons.1 hA).2 (okX_cons.1 hB).2 f2⟩
 | .ins c a :: A, .del :: B, hA, hB, hf => by rw [comp_id]; exact okX_comp A B (okX_cons.1 hA).2 (okX_cons.1 hB).2 ((fit_id c a A B).1 hf)
 | .keep a :: A, .del :: B, hA, hB, hf => by rw [comp_kd]; exact okX_cons.2 ⟨trivial, okX_comp A B (okX_cons.1 hA).2 (okX_cons.1 hB).2 ((fit_kd a A B).1 hf)⟩
termination_by A B => A.length + B.length
theorem okX_ris {A : List Atm} (h : OkX A) : RisA A := fun x hx => by
 have := h x hx; cases x with
 | ins c a => exact (rgt_iff.1 this.2).2.2
 | keep a => exact (chg_iff.1 this).2.2
 | del => trivial
def cmpN (A B : List OpD) : List OpD := normA (comp (atms A) (atms B))
structure CmpF (f : Int) (A B : List OpD) (g : Int) : Prop where
 okA : OkC f A
 okB : OkC g B
 meet : g = f - dl A + ins A
theorem CmpF.all {f g : Int} {A B : List OpD} (h : CmpF f A B g) (hf : fit (atms A) (atms B)) :
 Sim (atms (cmpN A B)) (comp (atms A) (atms B)) ∧ norm (cmpN A B) = cmpN A B ∧ (cmpN A B).length ≤ (cmpN A B).length ∧
 ((cmpN A B).length ≤ 2000 → OkC f (cmpN A B)) ∧ f - dl (cmpN A B) + ins (cmpN A B) = g - dl B + ins B := by
 obtain ⟨hA, hB, hm⟩ := h; have okA := okX_atms hA.2.2.2.1; have okB := okX_atms hB.2.2.2.1; have okC := okX_comp _ _ okA okB hf; obtain ⟨e1, e2⟩ := atms_opA okC; obtain ⟨a1, a2, a3⟩ := sums_atms hA.2.2.2.1; obtain ⟨b1, b2, b3⟩ := sums_atms hB.2.2.2.1; obtain ⟨c1, c2, c3⟩ := sums_atms e2; rw [e1] at c1 c2 c3; have hs := sums_comp (atms A) (atms B); obtain ⟨f0, f1, _, _, fk, ft⟩ := hA; obtain ⟨g0, g1, _, _, gk, gt⟩ := hB; have hk := kA_comp (atms A) (atms B) f.toNat (by omega) (by omega); have hd : dA (comp (atms A) (atms B)) ≤ kA (comp (atms A) (atms B)) := by
  have key : ∀ X : List Atm, dA X ≤ kA X := by
   intro X; induction X with
   | nil => exact Nat.le_refl _
   | cons x r ih => cases x <;> simp only [dA, kA] <;> omega
  exact key _
 have hi : ins ((comp (atms A) (atms B)).map opA) ≤ 20000 := by omega
 obtain ⟨n1, n2, n3, n4⟩ := norm_sums e2 hi; have hcm : cmpN A B = norm ((comp (atms A) (atms B)).map opA) := normA_map _; rw [hcm]; have hs2 := sim_norm e2 hi; rw [e1] at hs2; refine ⟨hs2, norm_once e2 hi, Nat.le_refl _, fun hl => ⟨f0, f1, hl, n1, by omega, by omega⟩, by omega⟩
end Cp
end
section
namespace Cp
open Rn Ch
open At hiding put
def nd (A : List Atm) : Prop := ∀ r, A ≠ .del :: r
def zeroO : OpD := ⟨0, 0, ⟨#[]⟩, []⟩
def oneO (x y : OpD) : OpD :=
 if x.kind = 3 then x else if y.kind = 2 then y else if y.kind = 3 then (if x.kind = 2 then zeroO else y)
 else if x.kind = 2 then { x with attrs := applyR x.attrs y.attrs } else { x with attrs := composeR x.attrs y.attrs }
def oneE (x y : OpD) : Int :=
 if x.kind = 3 then 0 else if y.kind = 2 then 0 else if y.kind = 3 then 0 else if x.kind = 2 then applyE x.attrs y.attrs else composeE x.attrs y.attrs
def alC (x y : OpD) : Int := if x.kind = 3 then 1 else if y.kind = 2 then 2 else 0
def Piece (o : OpD) : Prop := opE o = 0 ∧ o.n ≤ 20000
structure OneF (x y : OpD) (A B : List Atm) : Prop where
 err : oneE x y = 0 ∨ oneE x y = 3
 fit : fit (atm x ++ A) (atm y ++ B) ↔ oneE x y = 0 ∧ Cp.fit A B
 comp : oneE x y = 0 → ∀ s, (comp (atm x ++ A) (atm y ++ B)).foldl addA s = (Cp.comp A B).foldl addA (if (oneO x y).n = 0 ∧ (oneO x y).text.size = 0 then s else add s (oneO x y))
 small : oneE x y = 0 → 0 ≤ (oneO x y).n ∧ (oneO x y).n ≤ 20000 ∧ (oneO x y).text.size ≤ 80000 ∧ (rgtB (oneO x y).attrs = true ∨ chgB (oneO x y).attrs = true)
theorem T_small {cs : List Nat} (h : cs.length ≤ 20000) : (T cs).size ≤ 80000 := by
 rw [T_size]; have := (txt_len cs).2; omega
theorem not_zero {o : OpD} (h : opE o = 0) : ¬ (o.n = 0 ∧ o.text.size = 0) := by
 rintro ⟨h1, h2⟩; rcases opE_kind h with k | k | k
 ·have := opE_n h (by omega); omega
 ·exact ((opE_put k).1 h).2.1 h2
 ·have := opE_n h (by omega); omega
theorem keep_piece {m : Int} (h1 : 1 ≤ m) (h2 : m ≤ 20000) : Piece ⟨1, m, ⟨#[]⟩, []⟩ := by
 refine ⟨(opE_keep rfl).2 ⟨h1, rfl, ?_⟩, h2⟩; show chgE [] = 0
 unfold chgE; rw [if_pos chg_nil]
end Cp
end
end Go.Proofs.Ytchceolbbkhnnaa
