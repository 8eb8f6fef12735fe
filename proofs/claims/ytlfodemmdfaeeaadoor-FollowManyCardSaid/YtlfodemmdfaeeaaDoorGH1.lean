/- Texts of this seat, put together: Fp, Ha, Hb, Hd. -/
import Derived.Test.YtlfodemmdfaeeaaDoorGP1
import Derived.Test.YtlfodemmdfaeeaaDoorGG1
import Derived.Test.YtlfodemmdfaeeaaDoorGM7
import Derived.Test.YtlfodemmdfaeeaaDoorGG5
/- Two changesets made beside each other, rune by rune: what the one says behind the other; they meet. -/
namespace Go.Proofs.YtlfodemmdfaeeaaDoor
namespace Cp
open Rn Ch
open At hiding put

abbrev flw (fi : Bool) (a b : AL) : AL := followL a b fi
/-- What the second says behind the first: behind its last atom each keeps. -/
def fol (fi : Bool) : List Atm → List Atm → List Atm
  | [], B => B
  | .ins _ _ :: A, [] => .keep [] :: fol fi A []
  | .keep _ :: A, [] => .keep [] :: fol fi A []
  | .del :: A, [] => fol fi A []
  | .ins c a :: A, .ins d b :: B => if fi = true then .ins d b :: fol fi (.ins c a :: A) B else .keep [] :: fol fi A (.ins d b :: B)
  | .keep a :: A, .ins d b :: B => .ins d b :: fol fi (.keep a :: A) B
  | .del :: A, .ins d b :: B => .ins d b :: fol fi (.del :: A) B
  | .ins _ _ :: A, .keep b :: B => .keep [] :: fol fi A (.keep b :: B)
  | .ins _ _ :: A, .del :: B => .keep [] :: fol fi A (.del :: B)
  | .del :: A, .keep _ :: B => fol fi A B
  | .del :: A, .del :: B => fol fi A B
  | .keep a :: A, .keep b :: B => .keep (flw fi a b) :: fol fi A B
  | .keep _ :: A, .del :: B => .del :: fol fi A B
termination_by A B => A.length + B.length
theorem fol_nil (fi : Bool) (B : List Atm) : fol fi [] B = B := by rw [fol]
theorem fol_in (fi : Bool) (c : Nat) (a : AL) (A : List Atm) : fol fi (.ins c a :: A) [] = .keep [] :: fol fi A [] := by rw [fol]
theorem fol_kn (fi : Bool) (a : AL) (A : List Atm) : fol fi (.keep a :: A) [] = .keep [] :: fol fi A [] := by rw [fol]
theorem fol_dn (fi : Bool) (A : List Atm) : fol fi (.del :: A) [] = fol fi A [] := by rw [fol]
theorem fol_iit (c : Nat) (a : AL) (A : List Atm) (d : Nat) (b : AL) (B : List Atm) : fol true (.ins c a :: A) (.ins d b :: B) = .ins d b :: fol true (.ins c a :: A) B := by rw [fol, if_pos rfl]
theorem fol_iif (c : Nat) (a : AL) (A : List Atm) (d : Nat) (b : AL) (B : List Atm) : fol false (.ins c a :: A) (.ins d b :: B) = .keep [] :: fol false A (.ins d b :: B) := by rw [fol, if_neg (by decide)]
theorem fol_ki (fi : Bool) (a : AL) (A : List Atm) (d : Nat) (b : AL) (B : List Atm) : fol fi (.keep a :: A) (.ins d b :: B) = .ins d b :: fol fi (.keep a :: A) B := by rw [fol]
theorem fol_di (fi : Bool) (A : List Atm) (d : Nat) (b : AL) (B : List Atm) : fol fi (.del :: A) (.ins d b :: B) = .ins d b :: fol fi (.del :: A) B := by rw [fol]
theorem fol_ik (fi : Bool) (c : Nat) (a : AL) (A : List Atm) (b : AL) (B : List Atm) : fol fi (.ins c a :: A) (.keep b :: B) = .keep [] :: fol fi A (.keep b :: B) := by rw [fol]
theorem fol_id (fi : Bool) (c : Nat) (a : AL) (A : List Atm) (B : List Atm) : fol fi (.ins c a :: A) (.del :: B) = .keep [] :: fol fi A (.del :: B) := by rw [fol]
theorem fol_dk (fi : Bool) (A : List Atm) (b : AL) (B : List Atm) : fol fi (.del :: A) (.keep b :: B) = fol fi A B := by rw [fol]
theorem fol_dd (fi : Bool) (A : List Atm) (B : List Atm) : fol fi (.del :: A) (.del :: B) = fol fi A B := by rw [fol]
theorem fol_kk (fi : Bool) (a : AL) (A : List Atm) (b : AL) (B : List Atm) : fol fi (.keep a :: A) (.keep b :: B) = .keep (flw fi a b) :: fol fi A B := by rw [fol]
theorem fol_kd (fi : Bool) (a : AL) (A : List Atm) (B : List Atm) : fol fi (.keep a :: A) (.del :: B) = .del :: fol fi A B := by rw [fol]
/-- The second inserts, and goes first: the first doesn't insert, or the second is first. -/
theorem fol_ni (fi : Bool) (x : Atm) (A : List Atm) (d : Nat) (b : AL) (B : List Atm) (h : fi = true ∨ ∀ c a, x ≠ .ins c a) : fol fi (x :: A) (.ins d b :: B) = .ins d b :: fol fi (x :: A) B := by
  cases x with
  | ins c a =>
    rcases h with rfl | h
    · exact fol_iit ..
    · exact absurd rfl (h c a)
  | keep a => exact fol_ki ..
  | del => exact fol_di ..
/-- The first inserts, and goes first. -/
theorem fol_in1 (fi : Bool) (c : Nat) (a : AL) (A : List Atm) (y : Atm) (B : List Atm) (h : fi = false ∨ ∀ d b, y ≠ .ins d b) : fol fi (.ins c a :: A) (y :: B) = .keep [] :: fol fi A (y :: B) := by
  cases y with
  | ins d b =>
    rcases h with rfl | h
    · exact fol_iif ..
    · exact absurd rfl (h d b)
  | keep b => exact fol_ik ..
  | del => exact fol_id ..
/-- Two changes of attributes come to one. -/
theorem cmp_meets (fi : Bool) {a b : AL} (ha : Rises ltB a) (hb : Rises ltB b) : cmp a (flw fi a b) = cmp b (flw (!fi) b a) := by
  obtain ⟨h3, h4⟩ := follow_all (a := a) fi hb
  obtain ⟨h3', h4'⟩ := follow_all (a := b) (!fi) ha
  obtain ⟨h5, h6⟩ := compose_all strictB ha h3
  obtain ⟨h7, h8⟩ := compose_all strictB hb h3'
  refine ext strictB h5 h7 fun k => ?_
  rw [h6, h8, h4, h4']
  cases At.look a k <;> cases At.look b k <;> cases fi <;> simp
theorem comp_folr (g : Bool) : ∀ B, RisA B → comp B (fol g B []) = B
  | [], _ => by rw [fol_nil, comp_nil]
  | .ins c b :: B, h => by rw [fol_in, comp_ik, comp_folr g B h.tail, show apl b [] = b from apply_nil strictB emp (risA_cons.1 h).1]
  | .keep b :: B, h => by rw [fol_kn, comp_kk, comp_folr g B h.tail, show cmp b [] = b from (compose_nil strictB (risA_cons.1 h).1).2]
  | .del :: B, h => by rw [fol_dn, comp_del, comp_folr g B h.tail]
/-- In whatever order, they come to the same. -/
theorem fol_meet : ∀ (fi : Bool) (A B : List Atm), RisA A → RisA B → Sim (comp A (fol fi A B)) (comp B (fol (!fi) B A))
  | fi, [], B, _, hB => by rw [fol_nil, comp_nil, comp_folr _ B hB]; exact .refl _
  | fi, x :: A, [], hA, _ => by rw [fol_nil, comp_nil, comp_folr _ _ hA]; exact .refl _
  | true, .ins c a :: A, .ins d b :: B, hA, hB => by
    have ih := fol_meet true (.ins c a :: A) B hA hB.tail
    rw [show (!true) = false from rfl] at ih ⊢
    rw [fol_iit, comp_ii, fol_iif, comp_ik, show apl b [] = b from apply_nil strictB emp (risA_cons.1 hB).1]
    exact ih.cons _
  | false, .ins c a :: A, .ins d b :: B, hA, hB => by
    have ih := fol_meet false A (.ins d b :: B) hA.tail hB
    rw [show (!false) = true from rfl] at ih ⊢
    rw [fol_iit, comp_ii, fol_iif, comp_ik, show apl a [] = a from apply_nil strictB emp (risA_cons.1 hA).1]
    exact ih.cons _
  | fi, .keep a :: A, .ins d b :: B, hA, hB => by
    have ih := fol_meet fi (.keep a :: A) B hA hB.tail
    rw [fol_ki, fol_ik, comp_ik, show apl b [] = b from apply_nil strictB emp (risA_cons.1 hB).1]
    exact (comp_ins_sim d b _ _).trans (ih.cons _)
  | fi, .del :: A, .ins d b :: B, hA, hB => by
    have ih := fol_meet fi (.del :: A) B hA hB.tail
    rw [fol_di, fol_id, comp_ik, show apl b [] = b from apply_nil strictB emp (risA_cons.1 hB).1]
    exact (comp_ins_sim d b _ _).trans (ih.cons _)
  | fi, .ins c a :: A, .keep b :: B, hA, hB => by
    have ih := fol_meet fi A (.keep b :: B) hA.tail hB
    rw [fol_ki, fol_ik, comp_ik, show apl a [] = a from apply_nil strictB emp (risA_cons.1 hA).1]
    exact (ih.cons _).trans (comp_ins_sim c a _ _).symm
  | fi, .ins c a :: A, .del :: B, hA, hB => by
    have ih := fol_meet fi A (.del :: B) hA.tail hB
    rw [fol_di, fol_id, comp_ik, show apl a [] = a from apply_nil strictB emp (risA_cons.1 hA).1]
    exact (ih.cons _).trans (comp_ins_sim c a _ _).symm
  | fi, .del :: A, .keep b :: B, hA, hB => by
    have ih := fol_meet fi A B hA.tail hB.tail
    rw [fol_dk, fol_kd, comp_del, comp_kd]
    exact ih.cons _
  | fi, .del :: A, .del :: B, hA, hB => by
    have ih := fol_meet fi A B hA.tail hB.tail
    rw [fol_dd, fol_dd, comp_del, comp_del]
    exact ih.cons _
  | fi, .keep a :: A, .keep b :: B, hA, hB => by
    have ih := fol_meet fi A B hA.tail hB.tail
    rw [fol_kk, fol_kk, comp_kk, comp_kk, cmp_meets fi (risA_cons.1 hA).1 (risA_cons.1 hB).1]
    exact ih.cons _
  | fi, .keep a :: A, .del :: B, hA, hB => by
    have ih := fol_meet fi A B hA.tail hB.tail
    rw [fol_kd, fol_dk, comp_kd, comp_del]
    exact ih.cons _
termination_by _ A B => A.length + B.length
/-- What may be stays so; how much it inserts, deletes, goes through. -/
theorem fol_all : ∀ (fi : Bool) (A B : List Atm) (f : Nat), OkX B → kA A ≤ f → kA B ≤ f →
    OkX (fol fi A B) ∧ iA (fol fi A B) = iA B ∧ dA (fol fi A B) ≤ dA B ∧ kA (fol fi A B) + dA A ≤ f + iA A
  | fi, [], B, f, hB, h1, h2 => by rw [fol_nil]; exact ⟨hB, rfl, Nat.le_refl _, by simp only [dA, iA]; omega⟩
  | fi, .ins c a :: A, [], f, hB, h1, h2 => by
    obtain ⟨i1, i2, i3, i4⟩ := fol_all fi A [] f hB (by simpa only [kA] using h1) h2
    rw [fol_in]
    refine ⟨okX_cons.2 ⟨chg_nil, i1⟩, ?_, ?_, ?_⟩ <;> simp only [kA, dA, iA] at * <;> omega
  | fi, .keep a :: A, [], f, hB, h1, h2 => by
    obtain ⟨i1, i2, i3, i4⟩ := fol_all fi A [] (f - 1) hB (by simp only [kA] at h1; omega) (by simp only [kA]; omega)
    rw [fol_kn]
    refine ⟨okX_cons.2 ⟨chg_nil, i1⟩, ?_, ?_, ?_⟩ <;> simp only [kA, dA, iA] at * <;> omega
  | fi, .del :: A, [], f, hB, h1, h2 => by
    obtain ⟨i1, i2, i3, i4⟩ := fol_all fi A [] (f - 1) hB (by simp only [kA] at h1; omega) (by simp only [kA]; omega)
    rw [fol_dn]
    refine ⟨i1, ?_, ?_, ?_⟩ <;> simp only [kA, dA, iA] at * <;> omega
  | true, .ins c a :: A, .ins d b :: B, f, hB, h1, h2 => by
    obtain ⟨i1, i2, i3, i4⟩ := fol_all true (.ins c a :: A) B f (okX_cons.1 hB).2 h1 (by simpa only [kA] using h2)
    rw [fol_iit]
    refine ⟨okX_cons.2 ⟨(okX_cons.1 hB).1, i1⟩, ?_, ?_, ?_⟩ <;> simp only [kA, dA, iA] at * <;> omega
  | false, .ins c a :: A, .ins d b :: B, f, hB, h1, h2 => by
    obtain ⟨i1, i2, i3, i4⟩ := fol_all false A (.ins d b :: B) f hB (by simpa only [kA] using h1) h2
    rw [fol_iif]
    refine ⟨okX_cons.2 ⟨chg_nil, i1⟩, ?_, ?_, ?_⟩ <;> simp only [kA, dA, iA] at * <;> omega
  | fi, .keep a :: A, .ins d b :: B, f, hB, h1, h2 => by
    obtain ⟨i1, i2, i3, i4⟩ := fol_all fi (.keep a :: A) B f (okX_cons.1 hB).2 h1 (by simpa only [kA] using h2)
    rw [fol_ki]
    refine ⟨okX_cons.2 ⟨(okX_cons.1 hB).1, i1⟩, ?_, ?_, ?_⟩ <;> simp only [kA, dA, iA] at * <;> omega
  | fi, .del :: A, .ins d b :: B, f, hB, h1, h2 => by
    obtain ⟨i1, i2, i3, i4⟩ := fol_all fi (.del :: A) B f (okX_cons.1 hB).2 h1 (by simpa only [kA] using h2)
    rw [fol_di]
    refine ⟨okX_cons.2 ⟨(okX_cons.1 hB).1, i1⟩, ?_, ?_, ?_⟩ <;> simp only [kA, dA, iA] at * <;> omega
  | fi, .ins c a :: A, .keep b :: B, f, hB, h1, h2 => by
    obtain ⟨i1, i2, i3, i4⟩ := fol_all fi A (.keep b :: B) f hB (by simpa only [kA] using h1) h2
    rw [fol_ik]
    refine ⟨okX_cons.2 ⟨chg_nil, i1⟩, ?_, ?_, ?_⟩ <;> simp only [kA, dA, iA] at * <;> omega
  | fi, .ins c a :: A, .del :: B, f, hB, h1, h2 => by
    obtain ⟨i1, i2, i3, i4⟩ := fol_all fi A (.del :: B) f hB (by simpa only [kA] using h1) h2
    rw [fol_id]
    refine ⟨okX_cons.2 ⟨chg_nil, i1⟩, ?_, ?_, ?_⟩ <;> simp only [kA, dA, iA] at * <;> omega
  | fi, .del :: A, .keep b :: B, f, hB, h1, h2 => by
    obtain ⟨i1, i2, i3, i4⟩ := fol_all fi A B (f - 1) (okX_cons.1 hB).2 (by simp only [kA] at h1; omega) (by simp only [kA] at h2; omega)
    rw [fol_dk]
    refine ⟨i1, ?_, ?_, ?_⟩ <;> simp only [kA, dA, iA] at * <;> omega
  | fi, .del :: A, .del :: B, f, hB, h1, h2 => by
    obtain ⟨i1, i2, i3, i4⟩ := fol_all fi A B (f - 1) (okX_cons.1 hB).2 (by simp only [kA] at h1; omega) (by simp only [kA] at h2; omega)
    rw [fol_dd]
    refine ⟨i1, ?_, ?_, ?_⟩ <;> simp only [kA, dA, iA] at * <;> omega
  | fi, .keep a :: A, .keep b :: B, f, hB, h1, h2 => by
    obtain ⟨i1, i2, i3, i4⟩ := fol_all fi A B (f - 1) (okX_cons.1 hB).2 (by simp only [kA] at h1; omega) (by simp only [kA] at h2; omega)
    rw [fol_kk]
    refine ⟨okX_cons.2 ⟨chg_follow fi (okX_cons.1 hB).1, i1⟩, ?_, ?_, ?_⟩ <;> simp only [kA, dA, iA] at * <;> omega
  | fi, .keep a :: A, .del :: B, f, hB, h1, h2 => by
    obtain ⟨i1, i2, i3, i4⟩ := fol_all fi A B (f - 1) (okX_cons.1 hB).2 (by simp only [kA] at h1; omega) (by simp only [kA] at h2; omega)
    rw [fol_kd]
    refine ⟨okX_cons.2 ⟨trivial, i1⟩, ?_, ?_, ?_⟩ <;> simp only [kA, dA, iA] at * <;> omega
termination_by _ A B => A.length + B.length
theorem sim_sums {a b : List Atm} (h : Sim a b) : dA a = dA b ∧ iA a = iA b := by
  induction h with
  | refl a => exact ⟨rfl, rfl⟩
  | symm _ ih => exact ⟨ih.1.symm, ih.2.symm⟩
  | trans _ _ i j => exact ⟨i.1.trans j.1, i.2.trans j.2⟩
  | swap p c a q =>
    obtain ⟨_, x1, x2⟩ := sums_append p (.ins c a :: .del :: q)
    obtain ⟨_, y1, y2⟩ := sums_append p (.del :: .ins c a :: q)
    rw [x1, x2, y1, y2]
    exact ⟨rfl, rfl⟩
  | tail p =>
    obtain ⟨_, x1, x2⟩ := sums_append p [.keep []]
    rw [x1, x2]
    exact ⟨rfl, rfl⟩

/-- What the second says behind the first, in normal form (of normal forms). -/
def folN (fi : Bool) (A B : List OpD) : List OpD := normA (fol fi (atms A) (atms B))
structure FolF (f : Int) (A B : List OpD) : Prop where
  okA : OkC f A
  okB : OkC f B
def sizF (fi : Bool) (f : Int) (A B : List OpD) : Int := f - dl A + ins A - (dA (fol fi (atms A) (atms B)) : Int) + (iA (fol fi (atms A) (atms B)) : Int)
theorem FolF.all {f : Int} {A B : List OpD} (h : FolF f A B) (fi : Bool) :
    OkX (fol fi (atms A) (atms B)) ∧ Sim (atms (folN fi A B)) (fol fi (atms A) (atms B)) ∧ norm (folN fi A B) = folN fi A B ∧ allE (folN fi A B) ∧ 0 ≤ f - dl A + ins A ∧ f - dl A + ins A ≤ 20000 ∧
    f - dl A + ins A - dl (folN fi A B) + ins (folN fi A B) = sizF fi f A B ∧
    ((folN fi A B).length ≤ 2000 → sizF fi f A B ≤ 20000 → OkC (f - dl A + ins A) (folN fi A B)) := by
  obtain ⟨hA, hB⟩ := h
  have okA := okX_atms hA.2.2.2.1
  have okB := okX_atms hB.2.2.2.1
  obtain ⟨a1, a2, a3⟩ := sums_atms hA.2.2.2.1
  obtain ⟨b1, b2, b3⟩ := sums_atms hB.2.2.2.1
  obtain ⟨f0, f1, _, _, fk, ft⟩ := hA
  obtain ⟨g0, g1, _, _, gk, gt⟩ := hB
  obtain ⟨o1, o2, o3, o4⟩ := fol_all fi (atms A) (atms B) f.toNat okB (by omega) (by omega)
  obtain ⟨e1, e2⟩ := atms_opA o1
  obtain ⟨c1, c2, c3⟩ := sums_atms e2
  rw [e1] at c1 c2 c3
  have key : ∀ X : List Atm, dA X ≤ kA X := by
    intro X
    induction X with
    | nil => exact Nat.le_refl _
    | cons x r ih => cases x <;> simp only [dA, kA] <;> omega
  have k1 := key (atms A)
  have k2 := key (atms B)
  have hi : ins ((fol fi (atms A) (atms B)).map opA) ≤ 20000 := by omega
  obtain ⟨n1, n2, n3, n4⟩ := norm_sums e2 hi
  have hcm : folN fi A B = norm ((fol fi (atms A) (atms B)).map opA) := normA_map _
  have hs2 := sim_norm e2 hi
  rw [e1] at hs2
  unfold sizF
  rw [hcm]
  exact ⟨o1, hs2, norm_once e2 hi, n1, by omega, ft, by omega, fun hl hz => ⟨by omega, ft, hl, n1, by omega, by omega⟩⟩
/-- Composed, in whatever order, they are one. -/
theorem FolF.meet {f : Int} {A B : List OpD} (h : FolF f A B) (fi : Bool) : cmpN A (folN fi A B) = cmpN B (folN (!fi) B A) := by
  have rA := okX_ris (okX_atms h.okA.2.2.2.1)
  have rB := okX_ris (okX_atms h.okB.2.2.2.1)
  have s1 := (h.all fi).2.1
  have s2 := (FolF.all ⟨h.okB, h.okA⟩ (!fi)).2.1
  exact normA_sim (((comp_simr s1 _ rA).trans (fol_meet fi _ _ rA rB)).trans (comp_simr s2 _ rB).symm)
/-- Both ways come to one length. -/
theorem FolF.long {f : Int} {A B : List OpD} (h : FolF f A B) (fi : Bool) : sizF fi f A B = sizF (!fi) f B A := by
  have rA := okX_ris (okX_atms h.okA.2.2.2.1)
  have rB := okX_ris (okX_atms h.okB.2.2.2.1)
  obtain ⟨_, a2, a3⟩ := sums_atms h.okA.2.2.2.1
  obtain ⟨_, b2, b3⟩ := sums_atms h.okB.2.2.2.1
  have m1 := sums_comp (atms A) (fol fi (atms A) (atms B))
  have m2 := sums_comp (atms B) (fol (!fi) (atms B) (atms A))
  obtain ⟨q1, q2⟩ := sim_sums (fol_meet fi _ _ rA rB)
  unfold sizF
  omega
end Cp
end Go.Proofs.YtlfodemmdfaeeaaDoor

/- What atoms make of a row of cells: what operations make of them; one for two does what both do; two made beside each other make one row. -/
namespace Go.Proofs.YtlfodemmdfaeeaaDoor
namespace Cp
open Rn Ch
open At hiding put

def actA : List Atm → List CD → List CD
  | [], cs => cs
  | .ins c a :: r, cs => (c, a) :: actA r cs
  | .keep _ :: r, [] => actA r []
  | .keep a :: r, x :: t => appC a x :: actA r t
  | .del :: r, cs => actA r cs.tail
def okA : List Atm → List CD → Prop
  | [], _ => True
  | .ins _ _ :: r, cs => okA r cs
  | .keep _ :: r, [] => okA r []
  | .keep a :: r, x :: t => applyE x.2 a = 0 ∧ okA r t
  | .del :: r, cs => okA r cs.tail
theorem actA_nil (cs : List CD) : actA [] cs = cs := by rw [actA]
theorem okA_nil (cs : List CD) : okA [] cs := by rw [okA]; trivial
theorem actA_ins (c : Nat) (a : AL) (r : List Atm) (cs : List CD) : actA (.ins c a :: r) cs = (c, a) :: actA r cs := by rw [actA]
theorem okA_ins (c : Nat) (a : AL) (r : List Atm) (cs : List CD) : okA (.ins c a :: r) cs ↔ okA r cs := by rw [okA]
theorem actA_keep (a : AL) (r : List Atm) (x : CD) (t : List CD) : actA (.keep a :: r) (x :: t) = appC a x :: actA r t := by rw [actA]
theorem okA_keep (a : AL) (r : List Atm) (x : CD) (t : List CD) : okA (.keep a :: r) (x :: t) ↔ applyE x.2 a = 0 ∧ okA r t := by rw [okA]
theorem actA_del (r : List Atm) (x : CD) (t : List CD) : actA (.del :: r) (x :: t) = actA r t := by rw [actA]; rfl
theorem okA_del (r : List Atm) (x : CD) (t : List CD) : okA (.del :: r) (x :: t) ↔ okA r t := by rw [okA]; rfl

theorem acts_ins (a : AL) (ks : List Nat) (r : List Atm) (cs : List CD) : actA (ks.map (fun c => .ins c a) ++ r) cs = ks.map (fun c => (c, a)) ++ actA r cs ∧ (okA (ks.map (fun c => .ins c a) ++ r) cs ↔ okA r cs) := by
  induction ks with
  | nil => exact ⟨rfl, Iff.rfl⟩
  | cons k s ih =>
    refine ⟨?_, ?_⟩
    · rw [List.map_cons, List.cons_append, actA_ins, ih.1]; rfl
    · rw [List.map_cons, List.cons_append, okA_ins, ih.2]
theorem acts_keep (a : AL) (r : List Atm) : ∀ (n : Nat) (cs : List CD), n ≤ cs.length → actA (List.replicate n (.keep a) ++ r) cs = (cs.take n).map (appC a) ++ actA r (cs.drop n) ∧ (okA (List.replicate n (.keep a) ++ r) cs ↔ (∀ x ∈ cs.take n, applyE x.2 a = 0) ∧ okA r (cs.drop n))
  | 0, cs, _ => by simp
  | n + 1, [], h => by simp at h
  | n + 1, x :: t, h => by
    obtain ⟨e1, e2⟩ := acts_keep a r n t (by simpa using h)
    rw [List.replicate_succ, List.cons_append, actA_keep, okA_keep, e1, e2]
    simp [and_assoc]
theorem acts_del (r : List Atm) : ∀ (n : Nat) (cs : List CD), n ≤ cs.length → actA (List.replicate n .del ++ r) cs = actA r (cs.drop n) ∧ (okA (List.replicate n .del ++ r) cs ↔ okA r (cs.drop n))
  | 0, cs, _ => by simp
  | n + 1, [], h => by simp at h
  | n + 1, x :: t, h => by
    obtain ⟨e1, e2⟩ := acts_del r n t (by simpa using h)
    rw [List.replicate_succ, List.cons_append, actA_del, okA_del, e1, e2]
    simp
/-- Operations do what their atoms do. -/
theorem act_atms (ops : List OpD) : ∀ {cs : List CD}, allE ops → kd ops ≤ (cs.length : Int) → act ops cs = actA (atms ops) cs ∧ (actOk ops cs ↔ okA (atms ops) cs) := by
  induction ops with
  | nil => intro cs _ _; exact ⟨(actA_nil cs).symm, fun _ => okA_nil cs, fun _ => trivial⟩
  | cons o r ih =>
    intro cs h hk
    have ho : opE o = 0 := h o List.mem_cons_self
    have hr : allE r := fun x hx => h x (List.mem_cons_of_mem _ hx)
    rw [atms_cons]
    rw [kd] at hk
    rcases opE_kind ho with k | k | k
    · have hn := opE_n ho (by omega)
      rw [if_neg (by omega)] at hk
      obtain ⟨a1, a2⟩ := act_keep (r := r) (cs := cs) k
      have e : atm o = List.replicate o.n.toNat (.keep o.attrs) := by unfold atm; rw [if_neg (by omega), if_pos k]
      have hr0 := kd_nonneg hr
      have hl : o.n.toNat ≤ cs.length := by omega
      obtain ⟨b1, b2⟩ := acts_keep o.attrs (atms r) o.n.toNat cs hl
      obtain ⟨i1, i2⟩ := ih (cs := cs.drop o.n.toNat) hr (by rw [List.length_drop]; omega)
      rw [e, a1, a2, b1, b2, i1, i2]
      exact ⟨rfl, Iff.rfl⟩
    · rw [if_pos k] at hk
      obtain ⟨a1, a2⟩ := act_ins (r := r) (cs := cs) k
      have e : atm o = (rns1 o.text).map (fun c => .ins c o.attrs) := by unfold atm; rw [if_pos k]
      obtain ⟨b1, b2⟩ := acts_ins o.attrs (rns1 o.text) (atms r) cs
      obtain ⟨i1, i2⟩ := ih (cs := cs) hr (by omega)
      rw [e, a1, a2, b1, b2, i1, i2]
      exact ⟨by unfold insC; rw [cellsD_one]; rfl, Iff.rfl⟩
    · have hn := opE_n ho (by omega)
      rw [if_neg (by omega)] at hk
      obtain ⟨a1, a2⟩ := act_cut (r := r) (cs := cs) k
      have e : atm o = List.replicate o.n.toNat .del := by unfold atm; rw [if_neg (by omega), if_neg (by omega)]
      have hr0 := kd_nonneg hr
      have hl : o.n.toNat ≤ cs.length := by omega
      obtain ⟨b1, b2⟩ := acts_del (atms r) o.n.toNat cs hl
      obtain ⟨i1, i2⟩ := ih (cs := cs.drop o.n.toNat) hr (by rw [List.length_drop]; omega)
      rw [e, a1, a2, b1, b2, i1, i2]
      exact ⟨rfl, Iff.rfl⟩
theorem okCs_tail {x : CD} {t : List CD} (h : okCs (x :: t)) : okCs t := fun y hy => h y (List.mem_cons_of_mem _ hy)
theorem appC_nil {x : CD} (h : rgtB x.2 = true) : appC [] x = x := app_nil h
theorem applyE_nil {l : AL} (h : rgtB l = true) : applyE l [] = 0 := (nothing_l h).1
/-- Keeping all is nothing. -/
theorem fol_nothing (g : Bool) : ∀ (B : List Atm) (cs : List CD), OkX B → kA B ≤ cs.length → okCs cs → okA B cs → okA (fol g B []) (actA B cs) ∧ actA (fol g B []) (actA B cs) = actA B cs
  | [], cs, _, _, _, _ => by rw [fol_nil, actA_nil, actA_nil]; exact ⟨okA_nil _, rfl⟩
  | .ins c b :: B, cs, hB, hk, hc, ho => by
    obtain ⟨i1, i2⟩ := fol_nothing g B cs (okX_cons.1 hB).2 (by simpa [kA] using hk) hc ((okA_ins ..).1 ho)
    have hr : rgtB b = true := (okX_cons.1 hB).1.2
    rw [fol_in, actA_ins, okA_keep, actA_keep, i2, appC_nil hr]
    exact ⟨⟨applyE_nil hr, i1⟩, rfl⟩
  | .keep b :: B, [], _, hk, _, _ => by simp [kA] at hk
  | .keep b :: B, x :: t, hB, hk, hc, ho => by
    obtain ⟨o1, o2⟩ := (okA_keep ..).1 ho
    obtain ⟨e1, e2, e3, e4⟩ := applyE_zero o1
    obtain ⟨i1, i2⟩ := fol_nothing g B t (okX_cons.1 hB).2 (by simp [kA] at hk; omega) (okCs_tail hc) o2
    have hr : rgtB (appC b x).2 = true := by
      show rgtB (applyR x.2 b) = true
      rw [e4]; exact rgt_apply e1 e2 e3
    rw [fol_kn, actA_keep, okA_keep, actA_keep, i2, appC_nil hr]
    exact ⟨⟨applyE_nil hr, i1⟩, rfl⟩
  | .del :: B, [], _, hk, _, _ => by simp [kA] at hk
  | .del :: B, x :: t, hB, hk, hc, ho => by
    rw [fol_dn, actA_del]
    exact fol_nothing g B t (okX_cons.1 hB).2 (by simp [kA] at hk; omega) (okCs_tail hc) ((okA_del ..).1 ho)
/-- Two made beside each other make one row of cells, whichever comes first. -/
theorem actA_fol : ∀ (fi : Bool) (A B : List Atm) (cs : List CD), OkX A → OkX B → kA A ≤ cs.length → kA B ≤ cs.length → okCs cs → okA A cs → okA B cs →
    (okA (fol fi A B) (actA A cs) ↔ okA (fol (!fi) B A) (actA B cs)) ∧ actA (fol fi A B) (actA A cs) = actA (fol (!fi) B A) (actA B cs)
  | fi, [], B, cs, _, hB, _, hk, hc, _, ho => by
    obtain ⟨n1, n2⟩ := fol_nothing (!fi) B cs hB hk hc ho
    rw [fol_nil, actA_nil, n2]
    exact ⟨⟨fun _ => n1, fun _ => ho⟩, rfl⟩
  | fi, x :: A, [], cs, hA, _, hk, _, hc, ho, _ => by
    obtain ⟨n1, n2⟩ := fol_nothing fi (x :: A) cs hA hk hc ho
    rw [fol_nil, actA_nil, n2]
    exact ⟨⟨fun _ => ho, fun _ => n1⟩, rfl⟩
  | true, .ins c a :: A, .ins d b :: B, cs, hA, hB, hk, hj, hc, ha, hb => by
    obtain ⟨i1, i2⟩ := actA_fol true (.ins c a :: A) B cs hA (okX_cons.1 hB).2 hk (by simpa [kA] using hj) hc ha ((okA_ins ..).1 hb)
    have hr : rgtB b = true := (okX_cons.1 hB).1.2
    rw [show (!true) = false from rfl] at i1 i2 ⊢
    rw [fol_iit, fol_iif, actA_ins d b B, actA_ins d b, okA_ins, actA_keep, okA_keep, appC_nil (x := (d, b)) hr, i1, i2]
    exact ⟨⟨fun h => ⟨applyE_nil hr, h⟩, fun h => h.2⟩, rfl⟩
  | false, .ins c a :: A, .ins d b :: B, cs, hA, hB, hk, hj, hc, ha, hb => by
    obtain ⟨i1, i2⟩ := actA_fol false A (.ins d b :: B) cs (okX_cons.1 hA).2 hB (by simpa [kA] using hk) hj hc ((okA_ins ..).1 ha) hb
    have hr : rgtB a = true := (okX_cons.1 hA).1.2
    rw [show (!false) = true from rfl] at i1 i2 ⊢
    rw [fol_iit, fol_iif, actA_ins c a A, actA_ins c a, okA_ins, actA_keep, okA_keep, appC_nil (x := (c, a)) hr, i1, i2]
    exact ⟨⟨fun h => h.2, fun h => ⟨applyE_nil hr, h⟩⟩, rfl⟩
  | fi, .keep a :: A, .ins d b :: B, cs, hA, hB, hk, hj, hc, ha, hb => by
    obtain ⟨i1, i2⟩ := actA_fol fi (.keep a :: A) B cs hA (okX_cons.1 hB).2 hk (by simpa [kA] using hj) hc ha ((okA_ins ..).1 hb)
    have hr : rgtB b = true := (okX_cons.1 hB).1.2
    rw [fol_ki, fol_ik, actA_ins d b B, actA_ins d b, okA_ins, actA_keep [] _ (d, b), okA_keep [] _ (d, b), appC_nil (x := (d, b)) hr, i1, i2]
    exact ⟨⟨fun h => ⟨applyE_nil hr, h⟩, fun h => h.2⟩, rfl⟩
  | fi, .del :: A, .ins d b :: B, cs, hA, hB, hk, hj, hc, ha, hb => by
    obtain ⟨i1, i2⟩ := actA_fol fi (.del :: A) B cs hA (okX_cons.1 hB).2 hk (by simpa [kA] using hj) hc ha ((okA_ins ..).1 hb)
    have hr : rgtB b = true := (okX_cons.1 hB).1.2
    rw [fol_di, fol_id, actA_ins d b B, actA_ins d b, okA_ins, actA_keep [] _ (d, b), okA_keep [] _ (d, b), appC_nil (x := (d, b)) hr, i1, i2]
    exact ⟨⟨fun h => ⟨applyE_nil hr, h⟩, fun h => h.2⟩, rfl⟩
  | fi, .ins c a :: A, .keep b :: B, cs, hA, hB, hk, hj, hc, ha, hb => by
    obtain ⟨i1, i2⟩ := actA_fol fi A (.keep b :: B) cs (okX_cons.1 hA).2 hB (by simpa [kA] using hk) hj hc ((okA_ins ..).1 ha) hb
    have hr : rgtB a = true := (okX_cons.1 hA).1.2
    rw [fol_ki, fol_ik, actA_ins c a A, actA_ins c a, okA_ins, actA_keep [] _ (c, a), okA_keep [] _ (c, a), appC_nil (x := (c, a)) hr, i1, i2]
    exact ⟨⟨fun h => h.2, fun h => ⟨applyE_nil hr, h⟩⟩, rfl⟩
  | fi, .ins c a :: A, .del :: B, cs, hA, hB, hk, hj, hc, ha, hb => by
    obtain ⟨i1, i2⟩ := actA_fol fi A (.del :: B) cs (okX_cons.1 hA).2 hB (by simpa [kA] using hk) hj hc ((okA_ins ..).1 ha) hb
    have hr : rgtB a = true := (okX_cons.1 hA).1.2
    rw [fol_di, fol_id, actA_ins c a A, actA_ins c a, okA_ins, actA_keep [] _ (c, a), okA_keep [] _ (c, a), appC_nil (x := (c, a)) hr, i1, i2]
    exact ⟨⟨fun h => h.2, fun h => ⟨applyE_nil hr, h⟩⟩, rfl⟩
  | fi, .keep _ :: _, .keep _ :: _, [], _, _, hk, _, _, _, _ => by simp [kA] at hk
  | fi, .keep _ :: _, .del :: _, [], _, _, hk, _, _, _, _ => by simp [kA] at hk
  | fi, .del :: _, .keep _ :: _, [], _, _, hk, _, _, _, _ => by simp [kA] at hk
  | fi, .del :: _, .del :: _, [], _, _, hk, _, _, _, _ => by simp [kA] at hk
  | fi, .del :: A, .keep b :: B, x :: t, hA, hB, hk, hj, hc, ha, hb => by
    have ih := actA_fol fi A B t (okX_cons.1 hA).2 (okX_cons.1 hB).2 (by simp [kA] at hk; omega) (by simp [kA] at hj; omega) (okCs_tail hc) ((okA_del ..).1 ha) ((okA_keep ..).1 hb).2
    rw [fol_dk, fol_kd, actA_del, actA_keep, actA_del, okA_del]
    exact ih
  | fi, .del :: A, .del :: B, x :: t, hA, hB, hk, hj, hc, ha, hb => by
    have ih := actA_fol fi A B t (okX_cons.1 hA).2 (okX_cons.1 hB).2 (by simp [kA] at hk; omega) (by simp [kA] at hj; omega) (okCs_tail hc) ((okA_del ..).1 ha) ((okA_del ..).1 hb)
    rw [fol_dd, fol_dd, actA_del, actA_del]
    exact ih
  | fi, .keep a :: A, .del :: B, x :: t, hA, hB, hk, hj, hc, ha, hb => by
    have ih := actA_fol fi A B t (okX_cons.1 hA).2 (okX_cons.1 hB).2 (by simp [kA] at hk; omega) (by simp [kA] at hj; omega) (okCs_tail hc) ((okA_keep ..).1 ha).2 ((okA_del ..).1 hb)
    rw [fol_dk, fol_kd, actA_del, actA_keep, actA_del, okA_del]
    exact ih
  | fi, .keep a :: A, .keep b :: B, x :: t, hA, hB, hk, hj, hc, ha, hb => by
    obtain ⟨a1, a2⟩ := (okA_keep ..).1 ha
    obtain ⟨b1, b2⟩ := (okA_keep ..).1 hb
    obtain ⟨i1, i2⟩ := actA_fol fi A B t (okX_cons.1 hA).2 (okX_cons.1 hB).2 (by simp [kA] at hk; omega) (by simp [kA] at hj; omega) (okCs_tail hc) a2 b2
    obtain ⟨_, c2, _, _⟩ := applyE_zero a1
    obtain ⟨_, k2, _, _⟩ := applyE_zero b1
    obtain ⟨_, _, m3, m4⟩ := meets_all fi a1 b1
    rw [(followE_mk fi c2 k2).2, (followE_mk (!fi) k2 c2).2] at m3 m4
    rw [fol_kk, fol_kk, actA_keep a, actA_keep b, actA_keep, actA_keep, okA_keep, okA_keep, i1, i2]
    refine ⟨?_, ?_⟩
    · show applyE (applyR x.2 a) (flw fi a b) = 0 ∧ _ ↔ applyE (applyR x.2 b) (flw (!fi) b a) = 0 ∧ _
      rw [m3]
    · show (x.1, applyR (applyR x.2 a) (flw fi a b)) :: _ = (x.1, applyR (applyR x.2 b) (flw (!fi) b a)) :: _
      rw [m4]
termination_by _ A B => A.length + B.length
end Cp
end Go.Proofs.YtlfodemmdfaeeaaDoor

/- Composed, and carried out: what both do, one behind the other. -/
namespace Go.Proofs.YtlfodemmdfaeeaaDoor
open Go.RowKit Rn Ch
open At hiding put
open Cp (atms okA actA OkX kA dA iA)

theorem fitG_row {l : List RunD} {f : Int} {ops : List OpD} (hg : FitG l f ops) : okCs (cellsD l) ∧ (∀ x ∈ cellsD l, rgtB x.2 = true) := ⟨fun _ hx => hg.doc.cell hx, fun _ hx => (hg.doc.cell hx).2⟩
/-- What operations do, by the atoms of their normal form. -/
theorem act_nrm {f : Int} {ops : List OpD} {cs : List CD} (h : OkC f ops) (hk : f = (cs.length : Int)) (hr : ∀ x ∈ cs, rgtB x.2 = true) : act ops cs = actA (atms (norm ops)) cs ∧ (actOk ops cs ↔ okA (atms (norm ops)) cs) := by
  obtain ⟨n1, _, _⟩ := norm_ok h
  obtain ⟨e1, e2⟩ := eqv_norm h.2.2.2.1 h.ins cs hr
  obtain ⟨a1, a2⟩ := Cp.act_atms (norm ops) (cs := cs) n1.2.2.2.1 (by have := n1.2.2.2.2.1; omega)
  exact ⟨e1.symm.trans a1, e2.symm.trans a2⟩
/-- What a normal form made of atoms does. -/
theorem act_normA {X : List Cp.Atm} {cs : List CD} (h : OkX X) (hk : kA X ≤ cs.length) (hi : iA X ≤ 20000) (hr : ∀ x ∈ cs, rgtB x.2 = true) : act (Cp.normA X) cs = actA X cs ∧ (actOk (Cp.normA X) cs ↔ okA X cs) := by
  obtain ⟨e1, e2⟩ := Cp.atms_opA h
  obtain ⟨s1, _, s3⟩ := Cp.sums_atms e2
  rw [e1] at s1 s3
  obtain ⟨n1, n2⟩ := eqv_norm e2 (by omega) cs hr
  obtain ⟨a1, a2⟩ := Cp.act_atms (X.map Cp.opA) (cs := cs) e2 (by omega)
  rw [e1] at a1 a2
  rw [Cp.normA_map]
  exact ⟨n1.trans a1, n2.trans a2⟩
theorem dA_kA (X : List Cp.Atm) : dA X ≤ kA X := by
  induction X with
  | nil => exact Nat.le_refl _
  | cons x r ih => cases x <;> simp only [dA, kA] <;> omega
end Go.Proofs.YtlfodemmdfaeeaaDoor

/- Documents in the laws' walks: Apply, Inverse and Same, by the runs they say. -/
namespace Go.Proofs.YtlfodemmdfaeeaaDoor
open Go.RowKit Rn Ch
open At hiding put

/-- The value is a row of the runs L. -/
def HasD (w : World) (v : Value) (L : List RunD) : Prop := ∃ ps : List RP, ps.map (·.1) = L ∧ RunRow w v ps
theorem HasD.below {w w' : World} {v : Value} {L : List RunD} (h : HasD w v L) (hb : Below w.heap.size w w') : HasD w' v L := by
  obtain ⟨ps, h1, h2⟩ := h
  exact ⟨ps, h1, h2.below hb⟩
theorem HasD.shape {w : World} {v : Value} {L : List RunD} (h : HasD w v L) : ∃ a c, v = .slice a L.length c := by
  obtain ⟨ps, h1, h2⟩ := h
  obtain ⟨a, c, h3⟩ := h2.shape
  exact ⟨a, c, by rw [h3, ← h1, List.length_map]⟩
def DocOut (w : World) (E : Int) (L : List RunD) (e : Ending) (w' : World) : Prop :=
  ∃ a c, e = .returned (.tuple #[.slice a L.length c, .int .i64 E]) ∧ HasD w' (.slice a L.length c) L ∧ Below w.heap.size w w'
theorem rsized7 {l : List RunD} {f : Int} {ops : List OpD} (h : appE l f ops = 0) : RSized (appL l f ops) := fun r hr => by
  have hd := docF_of (appF_of h).right
  obtain ⟨a, b, c, d⟩ := (hd.oks r hr).rns
  have h1 := txt_len (rns r)
  have h2 : r.text.size = (txt (rns r)).length := by conv => lhs; rw [b, T_size]
  exact ⟨by unfold maxLen; omega, sized_rgt (hd.rgt r hr)⟩
theorem U8s.up7 {w W : World} (h : U8s w.heap.size w) (hb : Below w.heap.size w W) : U8s W.heap.size W := ⟨Nat.lt_of_lt_of_le h.1 hb.size, Nat.lt_of_lt_of_le h.2.1 hb.size, (h.to hb).2.2⟩
theorem proper_ops7 {w : World} {B : Nat} {v : Value} {ops : List OpD} (h : OwnOps w B v ops) : Proper v := by
  obtain ⟨ps, _, h2⟩ := h
  exact proper_own h2.1
theorem appH {v va : Value} {l L : List RunD} {f E : Int} {A : List OpD} {w : World} (hv : HasD w v l) (hz : RSized l) (hc : OpRow w va A) (hp : Proper va) (hy : OSized A) (hU : U8s w.heap.size w) (he : appE l f A = E) (hl : appL l f A = L) :
    Calls Tryd.prog 9 #[v, chAgg f va] w (DocOut w E L) := by
  obtain ⟨ps, h1, h2⟩ := hv
  refine (apply_any v va ps f A w h2 (by rw [h1]; exact hz) hc hp hy hU).mono fun e w' ⟨x, e1, e2, rs, e3, e4⟩ => ?_
  rw [h1] at e1 e3
  have hh : HasD w' x L := ⟨rs, e3.trans hl, e4.row⟩
  obtain ⟨a, c, rfl⟩ := hh.shape
  exact ⟨a, c, by rw [e1, he], hh, e2⟩
theorem sameD {v u : Value} {L : List RunD} {w : World} (hv : HasD w v L) (hu : HasD w u L) : Calls Tryd.prog 11 #[v, u] w (OutB w true) := by
  obtain ⟨ps, h1, h2⟩ := hv
  obtain ⟨qs, h3, h4⟩ := hu
  have := sameDoc_any v u ps qs w h2 h4
  rwa [h1, h3, show sameRuns L L = true from decide_eq_true rfl] at this
end Go.Proofs.YtlfodemmdfaeeaaDoor
