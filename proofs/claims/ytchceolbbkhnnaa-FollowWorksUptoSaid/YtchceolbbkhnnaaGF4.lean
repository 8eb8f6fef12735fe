import Derived.Test.YtchceolbbkhnnaaGP1
import Derived.Test.YtchceolbbkhnnaaGP2
import Derived.Test.YtchceolbbkhnnaaGD1
namespace Go.Proofs.Ytchceolbbkhnnaa
section
namespace Cp
open Rn Ch
open At hiding put
abbrev flw (fi : Bool) (a b : AL) : AL := followL a b fi
def fol (fi : Bool) : List Atm → List Atm → List Atm
 | [], B => B
 | .ins _ _ :: A, [] => .keep [] :: fol fi A []
 | .keep _ :: A, [] => .keep [] :: fol fi A []
 | .del :: A, [] => fol fi A []
 | .ins c a :: A, .ins d b :: B => if fi = true then .ins d b :: fol fi (.ins c a :: A) B else .keep [] :: fol fi A (.ins d b :: B)
 | .keep a :: A, .ins d b :: B => .ins d b :: fol fi (.keep a :: A) B
 | .del :: A, .ins d b :: B => .ins d b :: fol fi (.del :: A) B
 | .ins _ _ :: A, .keep b :: B => .keep [] :: fol fi A (.keep b :: B)
 | .ins _ _ :: A, .del :: B => .keep [] :: fol fi A (.del :: B)
 | .del :: A, .keep _ :: B => fol fi A B
 | .del :: A, .del :: B => fol fi A B
 | .keep a :: A, .keep b :: B => .keep (flw fi a b) :: fol fi A B
 | .keep _ :: A, .del :: B => .del :: fol fi A B
termination_by A B => A.length + B.length
theorem fol_nil (fi : Bool) (B : List Atm) : fol fi [] B = B := by rw [fol]
theorem fol_in (fi : Bool) (c : Nat) (a : AL) (A : List Atm) : fol fi (.ins c a :: A) [] = .keep [] :: fol fi A [] := by rw [fol]
theorem fol_kn (fi : Bool) (a : AL) (A : List Atm) : fol fi (.keep a :: A) [] = .keep [] :: fol fi A [] := by rw [fol]
theorem fol_dn (fi : Bool) (A : List Atm) : fol fi (.del :: A) [] = fol fi A [] := by rw [fol]
theorem fol_iit (c : Nat) (a : AL) (A : List Atm) (d : Nat) (b : AL) (B : List Atm) : fol true (.ins c a :: A) (.ins d b :: B) = .ins d b :: fol true (.ins c a :: A) B := by rw [fol, if_pos rfl]
theorem fol_iif (c : Nat) (a : AL) (A : List Atm) (d : Nat) (b : AL) (B : List Atm) : fol false (.ins c a :: A) (.ins d b :: B) = .keep [] :: fol false A (.ins d b :: B) := by rw [fol, if_neg (by decide)]
theorem fol_ki (fi : Bool) (a : AL) (A : List Atm) (d : Nat) (b : AL) (B : List Atm) : fol fi (.keep a :: A) (.ins d b :: B) = .ins d b :: fol fi (.keep a :: A) B := by rw [fol]
theorem fol_di (fi : Bool) (A : List Atm) (d : Nat) (b : AL) (B : List Atm) : fol fi (.del :: A) (.ins d b :: B) = .ins d b :: fol fi (.del :: A) B := by rw [fol]
theorem fol_ik (fi : Bool) (c : Nat) (a : AL) (A : List Atm) (b : AL) (B : List Atm) : fol fi (.ins c a :: A) (.keep b :: B) = .keep [] :: fol fi A (.keep b :: B) := by rw [fol]
theorem fol_id (fi : Bool) (c : Nat) (a : AL) (A : List Atm) (B : List Atm) : fol fi (.ins c a :: A) (.del :: B) = .keep [] :: fol fi A (.del :: B) := by rw [fol]
theorem fol_dk (fi : Bool) (A : List Atm) (b : AL) (B : List Atm) : fol fi (.del :: A) (.keep b :: B) = fol fi A B := by rw [fol]
theorem fol_dd (fi : Bool) (A : List Atm) (B : List Atm) : fol fi (.del :: A) (.del :: B) = fol fi A B := by rw [fol]
theorem fol_kk (fi : Bool) (a : AL) (A : List Atm) (b : AL) (B : List Atm) : fol fi (.keep a :: A) (.keep b :: B) = .keep (flw fi a b) :: fol fi A B := by rw [fol]
theorem fol_kd (fi : Bool) (a : AL) (A : List Atm) (B : List Atm) : fol fi (.keep a :: A) (.del :: B) = .del :: fol fi A B := by rw [fol]
theorem fol_ni (fi : Bool) (x : Atm) (A : List Atm) (d : Nat) (b : AL) (B : List Atm) (h : fi = true ∨ ∀ c a, x ≠ .ins c a) : fol fi (x :: A) (.ins d b :: B) = .ins d b :: fol fi (x :: A) B := by
 cases x with
 | ins c a =>
   rcases h with rfl | h
   ·exact fol_iit ..
   ·exact absurd rfl (h c a)
 | keep a => exact fol_ki ..
 | del => exact fol_di ..
theorem fol_in1 (fi : Bool) (c : Nat) (a : AL) (A : List Atm) (y : Atm) (B : List Atm) (h : fi = false ∨ ∀ d b, y ≠ .ins d b) : fol fi (.ins c a :: A) (y :: B) = .keep [] :: fol fi A (y :: B) := by
 cases y with
 | ins d b =>
   rcases h with rfl | h
   ·exact fol_iif ..
   ·exact absurd rfl (h d b)
 | keep b => exact fol_ik ..
 | del => exact fol_id ..
theorem cmp_meets (fi : Bool) {a b : AL} (ha : Rises ltB a) (hb : Rises ltB b) : cmp a (flw fi a b) = cmp b (flw (!fi) b a) := by
 obtain ⟨h3, h4⟩ := follow_all (a := a) fi hb; obtain ⟨h3', h4'⟩ := follow_all (a := b) (!fi) ha; obtain ⟨h5, h6⟩ := compose_all strictB ha h3; obtain ⟨h7, h8⟩ := compose_all strictB hb h3'; refine ext strictB h5 h7 fun k => ?_; rw [h6, h8, h4, h4']; cases At.look a k <;> cases At.look b k <;> cases fi <;> simp
theorem comp_folr (g : Bool) : ∀ B, RisA B → comp B (fol g B []) = B
 | [], _ => by rw [fol_nil, comp_nil]
 | .ins c b :: B, h => by rw [fol_in, comp_ik, comp_folr g B h.tail, show apl b [] = b from apply_nil strictB emp (risA_cons.1 h).1]
 | .keep b :: B, h => by rw [fol_kn, comp_kk, comp_folr g B h.tail, show cmp b [] = b from (compose_nil strictB (risA_cons.1 h).1).2]
 | .del :: B, h => by rw [fol_dn, comp_del, comp_folr g B h.tail]
theorem fol_meet : ∀ (fi : Bool) (A B : List Atm), RisA A → RisA B → Sim (comp A (fol fi A B)) (comp B (fol (!fi) B A))
 | fi, [], B, _, hB => by rw [fol_nil, comp_nil, comp_folr _ B hB]; exact .refl _
 | fi, x :: A, [], hA, _ => by rw [fol_nil, comp_nil, comp_folr _ _ hA]; exact .refl _
 | true, .ins c a :: A, .ins d b :: B, hA, hB => by
   have ih := fol_meet true (.ins c a :: A) B hA hB.tail; rw [show (!true) = false from rfl] at ih ⊢; rw [fol_iit, comp_ii, fol_iif, comp_ik, show apl b [] = b from apply_nil strictB emp (risA_cons.1 hB).1]; exact ih.cons _
 | false, .ins c a :: A, .ins d b :: B, hA, hB => by
   have ih := fol_meet false A (.ins d b :: B) hA.tail hB; rw [show (!false) = true from rfl] at ih ⊢; rw [fol_iit, comp_ii, fol_iif, comp_ik, show apl a [] = a from apply_nil strictB emp (risA_cons.1 hA).1]; exact ih.cons _
 | fi, .keep a :: A, .ins d b :: B, hA, hB => by
   have ih := fol_meet fi (.keep a :: A) B hA hB.tail; rw [fol_ki, fol_ik, comp_ik, show apl b [] = b from apply_nil strictB emp (risA_cons.1 hB).1]; exact (comp_ins_sim d b _ _).trans (ih.cons _)
 | fi, .del :: A, .ins d b :: B, hA, hB => by
   have ih := fol_meet fi (.del :: A) B hA hB.tail; rw [fol_di, fol_id, comp_ik, show apl b [] = b from apply_nil strictB emp (risA_cons.1 hB).1]; exact (comp_ins_sim d b _ _).trans (ih.cons _)
 | fi, .ins c a :: A, .keep b :: B, hA, hB => by
   have ih := fol_meet fi A (.keep b :: B) hA.tail hB; rw [fol_ki, fol_ik, comp_ik, show apl a [] = a from apply_nil strictB emp (risA_cons.1 hA).1]; exact (ih.cons _).trans (comp_ins_sim c a _ _).symm
 | fi, .ins c a :: A, .del :: B, hA, hB => by
   have ih := fol_meet fi A (.del :: B) hA.tail hB; rw [fol_di, fol_id, comp_ik, show apl a [] = a from apply_nil strictB emp (risA_cons.1 hA).1]; exact (ih.cons _).trans (comp_ins_sim c a _ _).symm
 | fi, .del :: A, .keep b :: B, hA, hB => by
   have ih := fol_meet fi A B hA.tail hB.tail; rw [fol_dk, fol_kd, comp_del, comp_kd]; exact ih.cons _
 | fi, .del :: A, .del :: B, hA, hB => by
   have ih := fol_meet fi A B hA.tail hB.tail; rw [fol_dd, fol_dd, comp_del, comp_del]; exact ih.cons _
 | fi, .keep a :: A, .keep b :: B, hA, hB => by
   have ih := fol_meet fi A B hA.tail hB.tail; rw [fol_kk, fol_kk, comp_kk, comp_kk, cmp_meets fi (risA_cons.1 hA).1 (risA_cons.1 hB).1]; exact ih.cons _
 | fi, .keep a :: A, .del :: B, hA, hB => by
   have ih := fol_meet fi A B hA.tail hB.tail; rw [fol_kd, fol_dk, comp_kd, comp_del]; exact ih.cons _
termination_by _ A B => A.length + B.length
theorem fol_all : ∀ (fi : Bool) (A B : List Atm) (f : Nat), OkX B → kA A ≤ f → kA B ≤ f →
 OkX (fol fi A B) ∧ iA (fol fi A B) = iA B ∧ dA (fol fi A B) ≤ dA B ∧ kA (fol fi A B) + dA A ≤ f + iA A
 | fi, [], B, f, hB, h1, h2 => by rw [fol_nil]; exact ⟨hB, rfl, Nat.le_refl _, by simp only [dA, iA]; omega⟩
 | fi, .ins c a :: A, [], f, hB, h1, h2 => by
   obtain ⟨i1, i2, i3, i4⟩ := fol_all fi A [] f hB (by simpa only [kA] using h1) h2; rw [fol_in]; refine ⟨okX_cons.2 ⟨chg_nil, i1⟩, ?_, ?_, ?_⟩ <;> simp only [kA, dA, iA] at * <;> omega
 | fi, .keep a :: A, [], f, hB, h1, h2 => by
   obtain ⟨i1, i2, i3, i4⟩ := fol_all fi A [] (f - 1) hB (by simp only [kA] at h1; omega) (by simp only [kA]; omega); rw [fol_kn]; refine ⟨okX_cons.2 ⟨chg_nil, i1⟩, ?_, ?_, ?_⟩ <;> simp only [kA, dA, iA] at * <;> omega
 | fi, .del :: A, [], f, hB, h1, h2 => by
   obtain ⟨i1, i2, i3, i4⟩ := fol_all fi A [] (f - 1) hB (by simp only [kA] at h1; omega) (by simp only [kA]; omega); rw [fol_dn]; refine ⟨i1, ?_, ?_, ?_⟩ <;> simp only [kA, dA, iA] at * <;> omega
 | true, .ins c a :: A, .ins d b :: B, f, hB, h1, h2 => by
   obtain ⟨i1, i2, i3, i4⟩ := fol_all true (.ins c a :: A) B f (okX_cons.1 hB).2 h1 (by simpa only [kA] using h2); rw [fol_iit]; refine ⟨okX_cons.2 ⟨(okX_cons.1 hB).1, i1⟩, ?_, ?_, ?_⟩ <;> simp only [kA, dA, iA] at * <;> omega
 | false, .ins c a :: A, .ins d b :: B, f, hB, h1, h2 => by
   obtain ⟨i1, i2, i3, i4⟩ := fol_all false A (.ins d b :: B) f hB (by simpa only [kA] using h1) h2; rw [fol_iif]; refine ⟨okX_cons.2 ⟨chg_nil, i1⟩, ?_, ?_, ?_⟩ <;> simp only [kA, dA, iA] at * <;> omega
 | fi, .keep a :: A, .ins d b :: B, f, hB, h1, h2 => by
   obtain ⟨i1, i2, i3, i4⟩ := fol_all fi (.keep a :: A) B f (okX_cons.1 hB).2 h1 (by simpa only [kA] using h2); rw [fol_ki]; refine ⟨okX_cons.2 ⟨(okX_cons.1 hB).1, i1⟩, ?_, ?_, ?_⟩ <;> simp only [kA, dA, iA] at * <;> omega
 | fi, .del :: A, .ins d b :: B, f, hB, h1, h2 => by
   obtain ⟨i1, i2, i3, i4⟩ := fol_all fi (.del :: A) B f (okX_cons.1 hB).2 h1 (by simpa only [kA] using h2); rw [fol_di]; refine ⟨okX_cons.2 ⟨(okX_cons.1 hB).1, i1⟩, ?_, ?_, ?_⟩ <;> simp only [kA, dA, iA] at * <;> omega
 | fi, .ins c a :: A, .keep b :: B, f, hB, h1, h2 => by
   obtain ⟨i1, i2, i3, i4⟩ := fol_all fi A (.keep b :: B) f hB (by simpa only [kA] using h1) h2; rw [fol_ik]; refine ⟨okX_cons.2 ⟨chg_nil, i1⟩, ?_, ?_, ?_⟩ <;> simp only [kA, dA, iA] at * <;> omega
 | fi, .ins c a :: A, .del :: B, f, hB, h1, h2 => by
   obtain ⟨i1, i2, i3, i4⟩ := fol_all fi A (.del :: B) f hB (by simpa only [kA] using h1) h2; rw [fol_id]; refine ⟨okX_cons.2 ⟨chg_nil, i1⟩, ?_, ?_, ?_⟩ <;> simp only [kA, dA, iA] at * <;> omega
 | fi, .del :: A, .keep b :: B, f, hB, h1, h2 => by
   obtain ⟨i1, i2, i3, i4⟩ := fol_all fi A B (f - 1) (okX_cons.1 hB).2 (by simp only [kA] at h1; omega) (by simp only [kA] at h2; omega); rw [fol_dk]; refine ⟨i1, ?_, ?_, ?_⟩ <;> simp only [kA, dA, iA] at * <;> omega
 | fi, .del :: A, .del :: B, f, hB, h1, h2 => by
   obtain ⟨i1, i2, i3, i4⟩ := fol_all fi A B (f - 1) (okX_cons.1 hB).2 (by simp only [kA] at h1; omega) (by simp only [kA] at h2; omega); rw [fol_dd]; refine ⟨i1, ?_, ?_, ?_⟩ <;> simp only [kA, dA, iA] at * <;> omega
 | fi, .keep a :: A, .keep b :: B, f, hB, h1, h2 => by
   obtain ⟨i1, i2, i3, i4⟩ := fol_all fi A B (f - 1) (okX_cons.1 hB).2 (by simp only [kA] at h1; omega) (by simp only [kA] at h2; omega); rw [fol_kk]; refine ⟨okX_cons.2 ⟨chg_follow fi (okX_cons.1 hB).1, i1⟩, ?_, ?_, ?_⟩ <;> simp only [kA, dA, iA] at * <;> omega
 | fi, .keep a :: A, .del :: B, f, hB, h1, h2 => by
   obtain ⟨i1, i2, i3, i4⟩ := fol_all fi A B (f - 1) (okX_cons.1 hB).2 (by simp only [kA] at h1; omega) (by simp only [kA] at h2; omega); rw [fol_kd]; refine ⟨okX_cons.2 ⟨trivial, i1⟩, ?_, ?_, ?_⟩ <;> simp only [kA, dA, iA] at * <;> omega
termination_by _ A B => A.length + B.length
theorem sim_sums {a b : List Atm} (h : Sim a b) : dA a = dA b ∧ iA a = iA b := by
 induction h with
 | refl a => exact ⟨rfl, rfl⟩
 | symm _ ih => exact ⟨ih.1.symm, ih.2.symm⟩
 | trans _ _ i j => exact ⟨i.1.trans j.1, i.2.trans j.2⟩
 | swap p c a q =>
   obtain ⟨_, x1, x2⟩ := sums_append p (.ins c a :: .del :: q); obtain ⟨_, y1, y2⟩ := sums_append p (.del :: .ins c a :: q); rw [x1, x2, y1, y2]; exact ⟨rfl, rfl⟩
 | tail p =>
   obtain ⟨_, x1, x2⟩ := sums_append p [.keep []]; rw [x1, x2]; exact ⟨rfl, rfl⟩
def folN (fi : Bool) (A B : List OpD) : List OpD := normA (fol fi (atms A) (atms B))
structure FolF (f : Int) (A B : List OpD) : Prop where
 okA : OkC f A
 okB : OkC f B
def sizF (fi : Bool) (f : Int) (A B : List OpD) : Int := f - dl A + ins A - (dA (fol fi (atms A) (atms B)) : Int) + (iA (fol fi (atms A) (atms B)) : Int)
theorem FolF.all {f : Int} {A B : List OpD} (h : FolF f A B) (fi : Bool) :
 OkX (fol fi (atms A) (atms B)) ∧ Sim (atms (folN fi A B)) (fol fi (atms A) (atms B)) ∧ norm (folN fi A B) = folN fi A B ∧ allE (folN fi A B) ∧ 0 ≤ f - dl A + ins A ∧ f - dl A + ins A ≤ 20000 ∧
 f - dl A + ins A - dl (folN fi A B) + ins (folN fi A B) = sizF fi f A B ∧
 ((folN fi A B).length ≤ 2000 → sizF fi f A B ≤ 20000 → OkC (f - dl A + ins A) (folN fi A B)) := by
 obtain ⟨hA, hB⟩ := h; have okA := okX_atms hA.2.2.2.1; have okB := okX_atms hB.2.2.2.1; obtain ⟨a1, a2, a3⟩ := sums_atms hA.2.2.2.1; obtain ⟨b1, b2, b3⟩ := sums_atms hB.2.2.2.1; obtain ⟨f0, f1, _, _, fk, ft⟩ := hA; obtain ⟨g0, g1, _, _, gk, gt⟩ := hB; obtain ⟨o1, o2, o3, o4⟩ := fol_all fi (atms A) (atms B) f.toNat okB (by omega) (by omega); obtain ⟨e1, e2⟩ := atms_opA o1; obtain ⟨c1, c2, c3⟩ := sums_atms e2; rw [e1] at c1 c2 c3; have key : ∀ X : List Atm, dA X ≤ kA X := by
  intro X; induction X with
  | nil => exact Nat.le_refl _
  | cons x r ih => cases x <;> simp only [dA, kA] <;> omega
 have k1 := key (atms A); have k2 := key (atms B); have hi : ins ((fol fi (atms A) (atms B)).map opA) ≤ 20000 := by omega
 obtain ⟨n1, n2, n3, n4⟩ := norm_sums e2 hi; have hcm : folN fi A B = norm ((fol fi (atms A) (atms B)).map opA) := normA_map _; have hs2 := sim_norm e2 hi; rw [e1] at hs2; unfold sizF; rw [hcm]; exact ⟨o1, hs2, norm_once e2 hi, n1, by omega, ft, by omega, fun hl hz => ⟨by omega, ft, hl, n1, by omega, by omega⟩⟩
theorem FolF.meet {f : Int} {A B : List OpD} (h : FolF f A B) (fi : Bool) : cmpN A (folN fi A B) = cmpN B (folN (!fi) B A) := by
 have rA := okX_ris (okX_atms h.okA.2.2.2.1); have rB := okX_ris (okX_atms h.okB.2.2.2.1); have s1 := (h.all fi).2.1; have s2 := (FolF.all ⟨h.okB, h.okA⟩ (!fi)).2.1; exact normA_sim (((comp_simr s1 _ rA).trans (fol_meet fi _ _ rA rB)).trans (comp_simr s2 _ rB).symm)
theorem FolF.long {f : Int} {A B : List OpD} (h : FolF f A B) (fi : Bool) : sizF fi f A B = sizF (!fi) f B A := by
 have rA := okX_ris (okX_atms h.okA.2.2.2.1); have rB := okX_ris (okX_atms h.okB.2.2.2.1); obtain ⟨_, a2, a3⟩ := sums_atms h.okA.2.2.2.1; obtain ⟨_, b2, b3⟩ := sums_atms h.okB.2.2.2.1; have m1 := sums_comp (atms A) (fol fi (atms A) (atms B)); have m2 := sums_comp (atms B) (fol (!fi) (atms B) (atms A)); obtain ⟨q1, q2⟩ := sim_sums (fol_meet fi _ _ rA rB); unfold sizF; omega
end Cp
end
section
open Go.RowKit Rn Ch
open At hiding put
open Cp (Piece zeroO atm atms addA fol)
namespace Cp
def alF (fi : Bool) (x y : OpD) : Int := if y.kind = 2 ∧ (fi = true ∨ x.kind ≠ 2) then 2 else if x.kind = 2 then 1 else 0
def pckO (fi : Bool) (x y : OpD) : OpD :=
 if y.kind = 2 then y else if x.kind = 2 then ⟨1, ((rns1 x.text).length : Int), ⟨#[]⟩, []⟩ else if x.kind = 3 then zeroO else if y.kind = 3 then y else { y with attrs := followR fi x.attrs y.attrs }
def pckS (x y : OpD) : Int :=
 if y.kind = 2 then ((rns1 y.text).length : Int) else if x.kind = 2 then 0 else if x.kind = 3 then 0 else if y.kind = 3 then - y.n else 0
def ni (A : List Atm) : Prop := ∀ c a r, A ≠ .ins c a :: r
theorem fol_inss (fi : Bool) {A : List Atm} (h : fi = true ∨ ni A) (b : AL) (cs : List Nat) (B : List Atm) : fol fi A ((cs.map fun c => .ins c b) ++ B) = (cs.map fun c => .ins c b) ++ fol fi A B := by
 induction cs with
 | nil => rfl
 | cons c r ih =>
   rw [List.map_cons, List.cons_append, List.cons_append, ← ih]; cases A with
   | nil => rw [fol_nil, fol_nil]
   | cons x A => exact fol_ni fi x A c b _ (h.imp id fun hn c a e => hn c a A (by rw [e]))
theorem fol_pass (fi : Bool) {B : List Atm} (h : fi = false ∨ ni B) (a : AL) (cs : List Nat) (A : List Atm) : fol fi ((cs.map fun c => .ins c a) ++ A) B = List.replicate cs.length (.keep []) ++ fol fi A B := by
 induction cs with
 | nil => rfl
 | cons c r ih =>
   rw [List.map_cons, List.cons_append, List.length_cons, List.replicate_succ, List.cons_append, ← ih]; cases B with
   | nil => rw [fol_in]
   | cons y B => exact fol_in1 fi c a _ y B (h.imp id fun hn d b e => hn d b B (by rw [e]))
theorem fol_zdk (fi : Bool) (b : AL) (A B : List Atm) (n : Nat) : fol fi (List.replicate n .del ++ A) (List.replicate n (.keep b) ++ B) = fol fi A B := by
 induction n with
 | zero => rfl
 | succ n ih => rw [List.replicate_succ, List.replicate_succ, List.cons_append, List.cons_append, fol_dk, ih]
theorem fol_zdd (fi : Bool) (A B : List Atm) (n : Nat) : fol fi (List.replicate n .del ++ A) (List.replicate n .del ++ B) = fol fi A B := by
 induction n with
 | zero => rfl
 | succ n ih => rw [List.replicate_succ, List.cons_append, List.cons_append, fol_dd, ih]
theorem fol_zkk (fi : Bool) (a b : AL) (A B : List Atm) (n : Nat) : fol fi (List.replicate n (.keep a) ++ A) (List.replicate n (.keep b) ++ B) = List.replicate n (.keep (flw fi a b)) ++ fol fi A B := by
 induction n with
 | zero => rfl
 | succ n ih => rw [List.replicate_succ, List.replicate_succ, List.cons_append, List.cons_append, fol_kk, ih]; rfl
theorem fol_zkd (fi : Bool) (a : AL) (A B : List Atm) (n : Nat) : fol fi (List.replicate n (.keep a) ++ A) (List.replicate n .del ++ B) = List.replicate n .del ++ fol fi A B := by
 induction n with
 | zero => rfl
 | succ n ih => rw [List.replicate_succ, List.replicate_succ, List.cons_append, List.cons_append, fol_kd, ih]; rfl
theorem fol_zdn (fi : Bool) (A : List Atm) (n : Nat) : fol fi (List.replicate n .del ++ A) [] = fol fi A [] := by
 induction n with
 | zero => rfl
 | succ n ih => rw [List.replicate_succ, List.cons_append, fol_dn, ih]
theorem fol_zkn (fi : Bool) (a : AL) (A : List Atm) (n : Nat) : fol fi (List.replicate n (.keep a) ++ A) [] = List.replicate n (.keep []) ++ fol fi A [] := by
 induction n with
 | zero => rfl
 | succ n ih => rw [List.replicate_succ, List.replicate_succ, List.cons_append, List.cons_append, fol_kn, ih]
def smO (o : OpD) : Prop := 0 ≤ o.n ∧ o.n ≤ 20000 ∧ o.text.size ≤ 80000 ∧ (rgtB o.attrs = true ∨ chgB o.attrs = true)
def net (D : List Atm) : Int := (iA D : Int) - (dA D : Int)
theorem net_append (a b : List Atm) : net (a ++ b) = net a + net b := by
 obtain ⟨_, h1, h2⟩ := sums_append a b; unfold net; rw [h1, h2]; omega
structure StepG (fi : Bool) (x y : OpD) (D D' : List Atm) : Prop where
 fold : ∀ s, D.foldl addA s = D'.foldl addA (addG s (pckO fi x y))
 size : net D = pckS x y + net D'
 small : smO (pckO fi x y)
 step : -20000 ≤ pckS x y ∧ pckS x y ≤ 20000
theorem sm_zero : smO zeroO := ⟨Int.le_refl _, by show (0 : Int) ≤ _; omega, Nat.zero_le _, .inr chg_nil⟩
theorem sm_piece {o : OpD} (h : Piece o) : smO o := piece_small h
theorem addG_zero (s : List OpD × Int) : addG s zeroO = s := by
 unfold addG; rw [if_pos ⟨rfl, rfl⟩]
theorem net_ins {y : OpD} (_hy : Piece y) (ky : y.kind = 2) : net (atm y) = ((rns1 y.text).length : Int) := by
 obtain ⟨_, h1, h2⟩ := sums_ins y.attrs (rns1 y.text); unfold net; rw [atm_ins ky, h1, h2]; simp
theorem net_keep (a : AL) (n : Nat) : net (List.replicate n (.keep a)) = 0 := by
 obtain ⟨_, h1, h2⟩ := sums_keep a n; unfold net; rw [h1, h2]; rfl
theorem net_del (n : Nat) : net (List.replicate n .del) = - (n : Int) := by
 obtain ⟨_, h1, h2⟩ := sums_del n; unfold net; rw [h1, h2]; simp
theorem stepG_second (fi : Bool) {x y : OpD} (hy : Piece y) (ky : y.kind = 2) {A : List Atm} (hA : fi = true ∨ ni A) (B : List Atm) : StepG fi x y (fol fi A (atm y ++ B)) (fol fi A B) := by
 have e : pckO fi x y = y := by unfold pckO; rw [if_pos ky]
 have e2 : pckS x y = ((rns1 y.text).length : Int) := by unfold pckS; rw [if_pos ky]
 have hf : fol fi A (atm y ++ B) = atm y ++ fol fi A B := by rw [atm_ins ky]; exact fol_inss fi hA ..
 obtain ⟨_, _, _, hl⟩ := rns_some ((opE_put ky).1 hy.1).2.2.1; refine ⟨fun s => ?_, ?_, ?_, ?_⟩
 ·rw [hf, List.foldl_append, fold_atm hy.1, e, addG_piece hy]
 ·rw [hf, net_append, net_ins hy ky, e2]
 ·rw [e]; exact sm_piece hy
 ·rw [e2]
  have := (rns_some ((opE_put ky).1 hy.1).2.2.1).2.2.1; omega
theorem stepG_first (fi : Bool) {x y : OpD} (hx : Piece x) (kx : x.kind = 2) (ky : y.kind ≠ 2) {B : List Atm} (hB : fi = false ∨ ni B) (A : List Atm) : StepG fi x y (fol fi (atm x ++ A) B) (fol fi A B) := by
 have e : pckO fi x y = ⟨1, ((rns1 x.text).length : Int), ⟨#[]⟩, []⟩ := by unfold pckO; rw [if_neg ky, if_pos kx]
 have e2 : pckS x y = 0 := by unfold pckS; rw [if_neg ky, if_pos kx]
 have hf : fol fi (atm x ++ A) B = List.replicate (rns1 x.text).length (.keep []) ++ fol fi A B := by rw [atm_ins kx]; exact fol_pass fi hB ..
 rcases opE_shape hx.1 with ⟨k, _⟩ | ⟨k, xn, xt, xT, xo, xl, xc, xr⟩ | ⟨k, _⟩
 ·omega
 ·have hp : Piece ⟨1, ((rns1 x.text).length : Int), ⟨#[]⟩, []⟩ := keep_piece (by have := List.length_pos_iff.2 xt; omega) (by omega)
  refine ⟨fun s => ?_, ?_, ?_, ?_⟩
  ·rw [hf, List.foldl_append, e, addG_piece hp, ← fold_atm hp.1, atm_keep rfl]
   rfl
  ·rw [hf, net_append, net_keep, e2]
  ·rw [e]; exact sm_piece hp
  ·rw [e2]; omega
 ·omega
theorem stepG_both (fi : Bool) {x y : OpD} (hx : Piece x) (hy : Piece y) (kx : x.kind ≠ 2) (ky : y.kind ≠ 2) (hn : x.n = y.n) (A B : List Atm) : StepG fi x y (fol fi (atm x ++ A) (atm y ++ B)) (fol fi A B) := by
 have en : x.n.toNat = y.n.toNat := by rw [hn]
 rcases opE_kind hx.1 with k | k | k
 ·rcases opE_kind hy.1 with j | j | j
  ·have hcx : chgB x.attrs = true := by
    rcases opE_shape hx.1 with ⟨_, _, _, c⟩ | ⟨k', _⟩ | ⟨k', _⟩
    ·exact c
    ·omega
    ·omega
   have hcy : chgB y.attrs = true := by
    rcases opE_shape hy.1 with ⟨_, _, _, c⟩ | ⟨k', _⟩ | ⟨k', _⟩
    ·exact c
    ·omega
    ·omega
   have e : pckO fi x y = { y with attrs := flw fi x.attrs y.attrs } := by
    unfold pckO; rw [if_neg (by omega), if_neg (by omega), if_neg (by omega), if_neg (by omega), (followE_mk fi hcx hcy).2]
   have e2 : pckS x y = 0 := by unfold pckS; rw [if_neg (by omega), if_neg (by omega), if_neg (by omega), if_neg (by omega)]
   have hp : Piece { y with attrs := flw fi x.attrs y.attrs } := by
    have h1 := (opE_keep j).1 hy.1; refine ⟨(opE_keep (o := { y with attrs := flw fi x.attrs y.attrs }) j).2 ⟨h1.1, h1.2.1, ?_⟩, hy.2⟩; show chgE (flw fi x.attrs y.attrs) = 0
    unfold chgE; rw [if_pos (chg_follow fi hcy)]
   have hf : fol fi (atm x ++ A) (atm y ++ B) = atm { y with attrs := flw fi x.attrs y.attrs } ++ fol fi A B := by
    rw [atm_keep k, atm_keep j, atm_keep (o := { y with attrs := flw fi x.attrs y.attrs }) j, en]; exact fol_zkk fi ..
   refine ⟨fun s => ?_, ?_, ?_, ?_⟩
   ·rw [hf, List.foldl_append, e, addG_piece hp, fold_atm hp.1]
   ·rw [hf, net_append, atm_keep (o := { y with attrs := flw fi x.attrs y.attrs }) j, net_keep, e2]
   ·rw [e]; exact sm_piece hp
   ·rw [e2]; omega
  ·exact absurd j ky
  ·have e : pckO fi x y = y := by unfold pckO; rw [if_neg (by omega), if_neg (by omega), if_neg (by omega), if_pos j]
   have e2 : pckS x y = - y.n := by unfold pckS; rw [if_neg (by omega), if_neg (by omega), if_neg (by omega), if_pos j]
   have hf : fol fi (atm x ++ A) (atm y ++ B) = atm y ++ fol fi A B := by
    rw [atm_keep k, atm_del j, en]; exact fol_zkd fi ..
   have h1 := opE_n hy.1 ky; have h2 := hy.2; refine ⟨fun s => ?_, ?_, ?_, ?_⟩
   ·rw [hf, List.foldl_append, e, addG_piece hy, fold_atm hy.1]
   ·rw [hf, net_append, atm_del j, net_del, e2]; omega
   ·rw [e]; exact sm_piece hy
   ·rw [e2]; omega
 ·exact absurd k kx
 ·have e : pckO fi x y = zeroO := by unfold pckO; rw [if_neg ky, if_neg kx, if_pos k]
  have e2 : pckS x y = 0 := by unfold pckS; rw [if_neg ky, if_neg kx, if_pos k]
  have hf : fol fi (atm x ++ A) (atm y ++ B) = fol fi A B := by
   rcases opE_kind hy.1 with j | j | j
   ·rw [atm_del k, atm_keep j, en]; exact fol_zdk fi ..
   ·exact absurd j ky
   ·rw [atm_del k, atm_del j, en]; exact fol_zdd fi ..
  refine ⟨fun s => ?_, ?_, ?_, ?_⟩
  ·rw [hf, e, addG_zero]
  ·rw [hf, e2]; omega
  ·rw [e]; exact sm_zero
  ·rw [e2]; omega
theorem stepG_nil (fi : Bool) {y : OpD} (hy : Piece y) (ky : y.kind ≠ 2) (m : Int) (_hm : m = y.n) (B : List Atm) : StepG fi ⟨1, m, ⟨#[]⟩, []⟩ y (fol fi [] (atm y ++ B)) (fol fi [] B) := by
 have c2 : ¬ (1 : Int) = 2 := by decide
 have c3 : ¬ (1 : Int) = 3 := by decide
 have h1 := opE_n hy.1 ky; have h2 := hy.2; have e : pckO fi ⟨1, m, ⟨#[]⟩, []⟩ y = y := by
  unfold pckO; rw [if_neg ky, if_neg c2, if_neg c3]; rcases opE_shape hy.1 with ⟨k, a, b, c⟩ | ⟨k, _⟩ | ⟨k, a, b, c⟩
  ·obtain ⟨_, _, ⟨_, n2⟩, _⟩ := nothing_c fi c
   rw [if_neg (by omega)]; show ({ y with attrs := followR fi [] y.attrs } : OpD) = y
   rw [n2]
  ·exact absurd k ky
  ·rw [if_pos k]
 have hs : pckS ⟨1, m, ⟨#[]⟩, []⟩ y = net (atm y) := by
  unfold pckS; rw [if_neg ky, if_neg c2, if_neg c3]; rcases opE_kind hy.1 with j | j | j
  ·rw [if_neg (by omega), atm_keep j, net_keep]
  ·exact absurd j ky
  ·rw [if_pos j, atm_del j, net_del]; omega
 refine ⟨fun s => ?_, ?_, ?_, ?_⟩
 ·rw [fol_nil, fol_nil, List.foldl_append, e, addG_piece hy, fold_atm hy.1]
 ·rw [fol_nil, fol_nil, net_append, hs]
 ·rw [e]; exact sm_piece hy
 ·unfold pckS
  rw [if_neg ky, if_neg c2, if_neg c3]; split <;> omega
theorem stepG_nilr (fi : Bool) {x : OpD} (hx : Piece x) (kx : x.kind ≠ 2) (m : Int) (hm : m = x.n) (A : List Atm) : StepG fi x ⟨1, m, ⟨#[]⟩, []⟩ (fol fi (atm x ++ A) []) (fol fi A []) := by
 have c2 : ¬ (1 : Int) = 2 := by decide
 have c3 : ¬ (1 : Int) = 3 := by decide
 have h1 := opE_n hx.1 kx; have h2 := hx.2; rcases opE_shape hx.1 with ⟨k, a, b, c⟩ | ⟨k, _⟩ | ⟨k, a, b, c⟩
 ·have hp : Piece ⟨1, m, ⟨#[]⟩, []⟩ := keep_piece (by omega) (by omega)
  have e : pckO fi x ⟨1, m, ⟨#[]⟩, []⟩ = ⟨1, m, ⟨#[]⟩, []⟩ := by
   unfold pckO; rw [if_neg c2, if_neg kx, if_neg (by omega), if_neg c3]; obtain ⟨_, _, _, _, n2⟩ := nothing_c fi c; show (⟨1, m, ⟨#[]⟩, followR fi x.attrs []⟩ : OpD) = _
   rw [n2]
  have e2 : pckS x ⟨1, m, ⟨#[]⟩, []⟩ = 0 := by
   unfold pckS; rw [if_neg c2, if_neg kx, if_neg (by omega), if_neg c3]
  have hf : fol fi (atm x ++ A) [] = atm ⟨1, m, ⟨#[]⟩, []⟩ ++ fol fi A [] := by
   rw [atm_keep k, atm_keep (o := ⟨1, m, ⟨#[]⟩, []⟩) rfl, ← hm]; exact fol_zkn fi ..
  refine ⟨fun s => ?_, ?_, ?_, ?_⟩
  ·rw [hf, List.foldl_append, e, addG_piece hp, fold_atm hp.1]
  ·rw [hf, net_append, atm_keep (o := ⟨1, m, ⟨#[]⟩, []⟩) rfl, net_keep, e2]
  ·rw [e]; exact sm_piece hp
  ·rw [e2]; omega
 ·exact absurd k kx
 ·have e : pckO fi x ⟨1, m, ⟨#[]⟩, []⟩ = zeroO := by unfold pckO; rw [if_neg c2, if_neg kx, if_pos k]
  have e2 : pckS x ⟨1, m, ⟨#[]⟩, []⟩ = 0 := by unfold pckS; rw [if_neg c2, if_neg kx, if_pos k]
  have hf : fol fi (atm x ++ A) [] = fol fi A [] := by rw [atm_del k]; exact fol_zdn fi ..
  refine ⟨fun s => ?_, ?_, ?_, ?_⟩
  ·rw [hf, e, addG_zero]
  ·rw [hf, e2]; omega
  ·rw [e]; exact sm_zero
  ·rw [e2]; omega
end Cp
end
section
open Go.RowKit Rn Ch
open At hiding put
open Cp (Piece zeroO atm atms addA fol net alF pckO pckS smO StepG)
def sumS (ps : List (QV5 × QV5)) : Int := (ps.map fun p => pckS p.1.1 p.2.1).foldr (· + ·) 0
theorem sumS_cons (p : QV5 × QV5) (ps : List (QV5 × QV5)) : sumS (p :: ps) = pckS p.1.1 p.2.1 + sumS ps := rfl
theorem sumS_append (a b : List (QV5 × QV5)) : sumS (a ++ b) = sumS a + sumS b := by
 induction a with
 | nil => show sumS b = 0 + sumS b; omega
 | cons p r ih => rw [List.cons_append, sumS_cons, sumS_cons, ih]; omega
structure MetG (fi : Bool) (A C : List QV5) (ps : List (QV5 × QV5)) : Prop where
 met : Met (alF fi) A C ps
 len : ps.length ≤ A.length + C.length
 src : ∀ p ∈ ps, SrcOf A p.1 ∧ SrcOf C p.2
 small : ∀ p ∈ ps, smO (pckO fi p.1.1 p.2.1)
 step : ∀ p ∈ ps, -20000 ≤ pckS p.1.1 p.2.1 ∧ pckS p.1.1 p.2.1 ≤ 20000
 pie : ∀ p ∈ ps, (p.1.1.kind = 2 → Piece p.1.1) ∧ (p.2.1.kind = 2 → Piece p.2.1)
 fold : ∀ s, (fol fi (aq A) (aq C)).foldl addA s = ps.foldl (fun s p => addG s (pckO fi p.1.1 p.2.1)) s
 size : net (fol fi (aq A) (aq C)) = sumS ps
theorem MetG.cons {fi : Bool} {A C A' C' : List QV5} {p : QV5 × QV5} {ps : List (QV5 × QV5)} (hs : stepM (alF fi) A C = (p, A', C')) (h : A ≠ [] ∨ C ≠ [])
 (hf : StepG fi p.1.1 p.2.1 (fol fi (aq A) (aq C)) (fol fi (aq A') (aq C'))) (hl : A'.length + C'.length < A.length + C.length)
 (s1 : SrcOf A p.1) (s2 : SrcOf C p.2) (sA : FromOf A A') (sC : FromOf C C') (hp : (p.1.1.kind = 2 → Piece p.1.1) ∧ (p.2.1.kind = 2 → Piece p.2.1)) (r : MetG fi A' C' ps) : MetG fi A C (p :: ps) where
 met := by
  have hr := r.met; have := Met.step (al := alF fi) (A := A) (C := C) (ps := ps) h (by rw [hs]; exact hr)
  rwa [hs] at this
 len := by have := r.len; rw [List.length_cons]; omega
 src := by
  intro q hq; rcases List.mem_cons.1 hq with rfl | hq
  ·exact ⟨s1, s2⟩
  ·exact ⟨sA.src (r.src q hq).1, sC.src (r.src q hq).2⟩
 small := by
  intro q hq; rcases List.mem_cons.1 hq with rfl | hq
  ·exact hf.small
  ·exact r.small q hq
 step := by
  intro q hq; rcases List.mem_cons.1 hq with rfl | hq
  ·exact hf.step
  ·exact r.step q hq
 pie := by
  intro q hq; rcases List.mem_cons.1 hq with rfl | hq
  ·exact hp
  ·exact r.pie q hq
 fold := by
  intro s; rw [List.foldl_cons, ← r.fold]; exact hf.fold s
 size := by rw [sumS_cons, hf.size, r.size]
theorem ni_aq {q : QV5} {s : List QV5} (h : Piece q.1) (hk : q.1.kind ≠ 2) : Cp.ni (aq (q :: s)) := by
 intro c a r e; rw [aq_cons] at e; rcases Cp.opE_shape h.1 with ⟨k, n1, b, _⟩ | ⟨k, _⟩ | ⟨k, n1, b, _⟩
 ·obtain ⟨n, hn⟩ : ∃ n, q.1.n.toNat = n + 1 := ⟨q.1.n.toNat - 1, by omega⟩
  rw [Cp.atm_keep k, hn, List.replicate_succ, List.cons_append] at e; cases e
 ·exact absurd k hk
 ·obtain ⟨n, hn⟩ : ∃ n, q.1.n.toNat = n + 1 := ⟨q.1.n.toNat - 1, by omega⟩
  rw [Cp.atm_del k, hn, List.replicate_succ, List.cons_append] at e; cases e
theorem ni_nil : Cp.ni (aq []) := fun _ _ _ e => by cases e
theorem met_exG (fi : Bool) : ∀ (n : Nat) (A C : List QV5), A.length + C.length ≤ n → VQ A → VQ C → ∃ ps, MetG fi A C ps := by
 intro n; induction n with
 | zero =>
   intro A C hn _ _; obtain rfl := List.length_eq_zero_iff.1 (show A.length = 0 by omega); obtain rfl := List.length_eq_zero_iff.1 (show C.length = 0 by omega); exact ⟨[], .done, Nat.zero_le _, fun p hp => (by cases hp), fun p hp => (by cases hp), fun p hp => (by cases hp), fun p hp => (by cases hp), fun s => by rw [show fol fi (aq []) (aq []) = [] from Cp.fol_nil fi []]; rfl, by rw [show fol fi (aq []) (aq []) = [] from Cp.fol_nil fi []]; rfl⟩
 | succ n ih =>
   intro A C hn hA hC
   by_cases h : A = [] ∧ C = []
   ·obtain ⟨rfl, rfl⟩ := h
    exact ih [] [] (by simp) hA hC
   ·have hne : A ≠ [] ∨ C ≠ [] := by
     by_cases ha : A = []
     ·exact .inr fun hc => h ⟨ha, hc⟩
     ·exact .inl ha
    have z2 : ¬ zeroQ5.1.kind = 2 := by decide
    by_cases k2 : (nxt5 C).1.kind = 2 ∧ (fi = true ∨ (nxt5 A).1.kind ≠ 2)
    ·
     have hal : alF fi (nxt5 A).1 (nxt5 C).1 = 2 := by unfold alF; rw [if_pos k2]
     cases C with
     | nil => exact absurd k2.1 (by decide)
     | cons q s =>
       rw [nxt_cons] at k2; have hq := hC q (List.mem_cons_self ..); have hs : VQ s := fun r hr => hC r (List.mem_cons_of_mem _ hr); obtain ⟨f1, f2⟩ := cut_full hq; have hst : stepM (alF fi) A (q :: s) = ((zeroQ5, q), A, s) := by
        unfold stepM; rw [if_neg (by rw [hal]; decide), if_pos hal, nxt_cons, firstCut_cons, rowTake_cons', if_pos f2, f1]
       have hni : fi = true ∨ Cp.ni (aq A) := by
        refine k2.2.imp id fun hk => ?_; cases A with
        | nil => exact ni_nil
        | cons a t => exact ni_aq (hA a (List.mem_cons_self ..)) hk
       obtain ⟨ps, hps⟩ := ih A s (by simp at hn; omega) hA hs; exact ⟨_, hps.cons hst hne (Cp.stepG_second fi hq k2.1 hni (aq s)) (by simp) (src_zero _) (src_head rfl) (fromOf_refl _) (fun r hr => ⟨r, List.mem_cons_of_mem _ hr, rfl, rfl⟩) ⟨fun e => absurd e z2, fun _ => hq⟩⟩
    ·by_cases k1 : (nxt5 A).1.kind = 2
     ·
      have hal : alF fi (nxt5 A).1 (nxt5 C).1 = 1 := by unfold alF; rw [if_neg k2, if_pos k1]
      cases A with
      | nil => exact absurd k1 (by decide)
      | cons q s =>
        rw [nxt_cons] at k1 k2; have hq := hA q (List.mem_cons_self ..); have hs : VQ s := fun r hr => hA r (List.mem_cons_of_mem _ hr); obtain ⟨f1, f2⟩ := cut_full hq; have hst : stepM (alF fi) (q :: s) C = ((q, zeroQ5), s, C) := by
         unfold stepM; rw [if_pos hal, nxt_cons, firstCut_cons, rowTake_cons', if_pos f2, f1]
        have hni : fi = false ∨ Cp.ni (aq C) := by
         cases fi with
         | false => exact .inl rfl
         | true =>
           refine .inr ?_; cases C with
           | nil => exact ni_nil
           | cons c t => exact ni_aq (hC c (List.mem_cons_self ..)) fun e => k2 ⟨e, .inl rfl⟩
        obtain ⟨ps, hps⟩ := ih s C (by simp at hn; omega) hs hC; exact ⟨_, hps.cons hst hne (Cp.stepG_first fi (y := zeroQ5.1) hq k1 z2 hni (aq s)) (by simp) (src_head rfl) (src_zero _) (fun r hr => ⟨r, List.mem_cons_of_mem _ hr, rfl, rfl⟩) (fromOf_refl _) ⟨fun _ => hq, fun e => absurd e z2⟩⟩
     ·have k3 : ¬ (nxt5 C).1.kind = 2 := fun e => k2 ⟨e, .inr k1⟩
      clear k2; have hal : alF fi (nxt5 A).1 (nxt5 C).1 = 0 := by unfold alF; rw [if_neg fun e => k3 e.1, if_neg k1]
      have hst : stepM (alF fi) A C = ((firstCut A (minN A C), firstCut C (minN A C)), rowTake A (minN A C), rowTake C (minN A C)) := by
       unfold stepM; rw [if_neg (by rw [hal]; decide), if_neg (by rw [hal]; decide)]
      cases hA' : A with
      | nil =>
        cases hC' : C with
        | nil => exact absurd ⟨hA', hC'⟩ h
        | cons q s =>
          subst hA' hC'; rw [nxt_cons] at k3; have hq := hC q (List.mem_cons_self ..); have hs : VQ s := fun r hr => hC r (List.mem_cons_of_mem _ hr); obtain ⟨z1, z2', zp⟩ := piece_sz hq; obtain ⟨f1, f2⟩ := cut_full hq; have hm : minN [] (q :: s) = (szO q.1).toNat := by
           unfold minN; rw [nxt_cons, show szO (nxt5 []).1 = 9223372036854775807 from szO_rest]; omega
          have hn' : ((szO q.1).toNat : Int) = q.1.n := by
           rcases Cp.opE_shape hq.1 with ⟨k, a, b, c⟩ | ⟨k, _⟩ | ⟨k, a, b, c⟩
           ·rw [szO_num b]; omega
           ·exact absurd k k3
           ·rw [szO_num b]; omega
          rw [hm] at hst; have e1 : firstCut [] (szO q.1).toNat = (⟨1, ((szO q.1).toNat : Int), ⟨#[]⟩, []⟩, (none, 0)) := rfl; rw [firstCut_cons, rowTake_cons', if_pos f2, f1, e1, show rowTake [] (szO q.1).toNat = [] from rfl] at hst; obtain ⟨ps, hps⟩ := ih [] s (by simp at hn ⊢; omega) hA hs; exact ⟨_, hps.cons hst hne (Cp.stepG_nil fi hq k3 _ hn' (aq s)) (by simp) (.inl ⟨rfl, rfl⟩) (src_head rfl) (fromOf_refl _) (fun r hr => ⟨r, List.mem_cons_of_mem _ hr, rfl, rfl⟩) ⟨fun e => absurd (show (1 : Int) = 2 from e) (by decide), fun e => absurd e k3⟩⟩
      | cons a t =>
        have ha := hA a (by rw [hA']; exact List.mem_cons_self ..); have ht : VQ t := fun r hr => hA r (by rw [hA']; exact List.mem_cons_of_mem _ hr); obtain ⟨z1, z2', zp⟩ := piece_sz ha; cases hC' : C with
        | nil =>
          subst hA' hC'; rw [nxt_cons] at k1; obtain ⟨f1, f2⟩ := cut_full ha; have hm : minN (a :: t) [] = (szO a.1).toNat := by
           unfold minN; rw [nxt_cons, show szO (nxt5 []).1 = 9223372036854775807 from szO_rest]; omega
          have hn' : ((szO a.1).toNat : Int) = a.1.n := by
           rcases Cp.opE_shape ha.1 with ⟨k, _, b, c⟩ | ⟨k, _⟩ | ⟨k, _, b, c⟩
           ·rw [szO_num b]; have := ha.2; omega
           ·exact absurd k k1
           ·rw [szO_num b]; have := ha.2; omega
          rw [hm] at hst; have e1 : firstCut [] (szO a.1).toNat = (⟨1, ((szO a.1).toNat : Int), ⟨#[]⟩, []⟩, (none, 0)) := rfl; rw [firstCut_cons, rowTake_cons', if_pos f2, f1, e1, show rowTake [] (szO a.1).toNat = [] from rfl] at hst; obtain ⟨ps, hps⟩ := ih t [] (by simp at hn ⊢; omega) ht hC; exact ⟨_, hps.cons hst hne (Cp.stepG_nilr fi ha k1 _ hn' (aq t)) (by simp) (src_head rfl) (.inl ⟨rfl, rfl⟩) (fun r hr => ⟨r, List.mem_cons_of_mem _ hr, rfl, rfl⟩) (fromOf_refl _) ⟨fun e => absurd e k1, fun e => absurd (show (1 : Int) = 2 from e) (by decide)⟩⟩
        | cons q s =>
          subst hA' hC'; rw [nxt_cons] at k1; rw [nxt_cons] at k3; have hq := hC q (List.mem_cons_self ..); obtain ⟨y1, y2, yp⟩ := piece_sz hq; have hmn : ((minN (a :: t) (q :: s) : Nat) : Int) = min (szO a.1) (szO q.1) := by
           unfold minN; rw [nxt_cons, nxt_cons]; omega
          generalize minN (a :: t) (q :: s) = m at hst hmn; obtain ⟨a1, a2, a3, a4, a5, a6⟩ := aq_take hA (m := m) (by omega) (by omega); obtain ⟨b1, b2, b3, b4, b5, b6⟩ := aq_take hC (m := m) (by omega) (by omega); obtain ⟨_, _, c1, _⟩ := zp.cut (m := m) (by omega); obtain ⟨_, _, d1, _⟩ := yp.cut (m := m) (by omega); obtain ⟨_, _, ka, _⟩ := cut_attrs a.1 m; obtain ⟨_, _, kq, _⟩ := cut_attrs q.1 m; rw [firstCut_cons, firstCut_cons] at hst; have hl : (rowTake (a :: t) m).length + (rowTake (q :: s) m).length < (a :: t).length + (q :: s).length := by
           rw [List.length_cons, List.length_cons]; rcases Int.le_total (szO a.1) (szO q.1) with hle | hle
           ·have := a5 (by omega); rw [this]; omega
           ·have := b5 (by omega); rw [this]; omega
          have hx2 : (cutA a.1 m).kind ≠ 2 := by rw [ka]; exact k1
          have hy2 : (cutA q.1 m).kind ≠ 2 := by rw [kq]; exact k3
          have hnn : (cutA a.1 m).n = (cutA q.1 m).n := by
           have e1 : szO (cutA a.1 m) = (cutA a.1 m).n := by
            rcases Cp.opE_shape a3.1 with ⟨_, _, xt, _⟩ | ⟨k, _⟩ | ⟨_, _, xt, _⟩
            ·exact szO_num xt
            ·exact absurd k hx2
            ·exact szO_num xt
           have e2 : szO (cutA q.1 m) = (cutA q.1 m).n := by
            rcases Cp.opE_shape b3.1 with ⟨_, _, xt, _⟩ | ⟨k, _⟩ | ⟨_, _, xt, _⟩
            ·exact szO_num xt
            ·exact absurd k hy2
            ·exact szO_num xt
           omega
          have hS := Cp.stepG_both fi a3 b3 hx2 hy2 hnn (aq (rowTake (a :: t) m)) (aq (rowTake (q :: s) m)); rw [← a1, ← b1] at hS; obtain ⟨ps, hps⟩ := ih _ _ (by omega) a2 b2; exact ⟨_, hps.cons hst hne hS hl (src_head (cut_attrs a.1 m).1) (src_head (cut_attrs q.1 m).1) a6 b6 ⟨fun e => absurd e hx2, fun e => absurd e hy2⟩⟩
def sG (fi : Bool) (ps : List (QV5 × QV5)) (k : Nat) : List OpD × Int := (ps.take k).foldl (fun s p => addG s (pckO fi p.1.1 p.2.1)) ([], 0)
def zG (ps : List (QV5 × QV5)) (k : Nat) : Int := sumS (ps.take k)
theorem sG_succ {fi : Bool} {ps : List (QV5 × QV5)} {k : Nat} (h : k < ps.length) : sG fi ps (k + 1) = addG (sG fi ps k) (pckO fi ps[k].1.1 ps[k].2.1) := by
 unfold sG; rw [List.take_succ_eq_append_getElem h, List.foldl_append]; rfl
theorem zG_succ {ps : List (QV5 × QV5)} {k : Nat} (h : k < ps.length) : zG ps (k + 1) = zG ps k + pckS ps[k].1.1 ps[k].2.1 := by
 unfold zG; rw [List.take_succ_eq_append_getElem h, sumS_append]; show _ + (pckS ps[k].1.1 ps[k].2.1 + 0) = _
 omega
theorem sG_sm {fi : Bool} {A C : List QV5} {ps : List (QV5 × QV5)} (h : MetG fi A C ps) : ∀ k, k ≤ ps.length → SmI (20000 * (k : Int)) (80000 * k) k (sG fi ps k) := by
 intro k; induction k with
 | zero => intro _; exact smI_nil
 | succ k ih =>
   intro hk; obtain ⟨a, b, c, _⟩ := h.small ps[k] (List.getElem_mem (by omega)); rw [sG_succ (by omega)]; exact ((ih (by omega)).addG a).more (by rw [Int.natCast_add]; omega) (by omega) (Nat.le_refl _)
theorem zG_lim {fi : Bool} {A C : List QV5} {ps : List (QV5 × QV5)} (h : MetG fi A C ps) : ∀ k, k ≤ ps.length → -(20000 * (k : Int)) ≤ zG ps k ∧ zG ps k ≤ 20000 * (k : Int) := by
 intro k; induction k with
 | zero => intro _; exact ⟨by show _ ≤ (0 : Int); omega, by show (0 : Int) ≤ _; omega⟩
 | succ k ih =>
   intro hk; obtain ⟨a, b⟩ := h.step ps[k] (List.getElem_mem (by omega)); obtain ⟨c, d⟩ := ih (by omega); rw [zG_succ (by omega)]; omega
theorem sG_all {fi : Bool} {A C : List QV5} {ps : List (QV5 × QV5)} (h : MetG fi A C ps) : chgL (sG fi ps ps.length) = Cp.folN fi (A.map (·.1)) (C.map (·.1)) := by
 unfold chgL sG Cp.folN Cp.normA; rw [List.take_length, ← h.fold]
theorem zG_all {fi : Bool} {A C : List QV5} {ps : List (QV5 × QV5)} (h : MetG fi A C ps) : zG ps ps.length = net (fol fi (atms (A.map (·.1))) (atms (C.map (·.1)))) := by
 unfold zG; rw [List.take_length, ← h.size]
end
end Go.Proofs.Ytchceolbbkhnnaa
