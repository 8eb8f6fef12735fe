/- Texts of this seat, put together: Fp, Ha, Hb, Hd. -/
import Derived.Test.YtlfodemmdfaeeaaGreatDoorGP1
import Derived.Test.YtlfodemmdfaeeaaGreatDoorGG1
import Derived.Test.YtlfodemmdfaeeaaGreatDoorGM7
import Derived.Test.YtlfodemmdfaeeaaGreatDoorGG5
/- Two changesets made beside each other, rune by rune: what the one says behind the other; they meet. -/
namespace Go.Proofs.YtlfodemmdfaeeaaGreatDoor
namespace Cp
open Rn Ch
open At hiding put

abbrev flw (fi : Bool) (a b : AL) : AL := followL a b fi
/-- What the second says behind the first: behind its last atom each keeps. -/
def fol (fi : Bool) : List Atm → List Atm → List Atm
 | [], B => B
 | .ins _ _ :: A, [] => .keep [] :: fol fi A []
 | .keep _ :: A, [] => .keep [] :: fol fi A []
 | .del :: A, [] => fol fi A []
 | .ins c a :: A, .ins d b :: B => if fi = true then .ins d b :: fol fi (.ins c a :: A) B else .keep [] :: fol fi A (.ins d b :: B)
 | .keep a :: A, .ins d b :: B => .ins d b :: fol fi (.keep a :: A) B
 | .del :: A, .ins d b :: B => .ins d b :: fol fi (.del :: A) B
 | .ins _ _ :: A, .keep b :: B => .keep [] :: fol fi A (.keep b :: B)
 | .ins _ _ :: A, .del :: B => .keep [] :: fol fi A (.del :: B)
 | .del :: A, .keep _ :: B => fol fi A B
 | .del :: A, .del :: B => fol fi A B
 | .keep a :: A, .keep b :: B => .keep (flw fi a b) :: fol fi A B
 | .keep _ :: A, .del :: B => .del :: fol fi A B
termination_by A B => A.length + B.length
theorem fol_nil (fi : Bool) (B : List Atm) : fol fi [] B = B := by rw [fol]
theorem fol_in (fi : Bool) (c : Nat) (a : AL) (A : List Atm) : fol fi (.ins c a :: A) [] = .keep [] :: fol fi A [] := by rw [fol]
theorem fol_kn (fi : Bool) (a : AL) (A : List Atm) : fol fi (.keep a :: A) [] = .keep [] :: fol fi A [] := by rw [fol]
theorem fol_dn (fi : Bool) (A : List Atm) : fol fi (.del :: A) [] = fol fi A [] := by rw [fol]
theorem fol_iit (c : Nat) (a : AL) (A : List Atm) (d : Nat) (b : AL) (B : List Atm) : fol true (.ins c a :: A) (.ins d b :: B) = .ins d b :: fol true (.ins c a :: A) B := by rw [fol, if_pos rfl]
theorem fol_iif (c : Nat) (a : AL) (A : List Atm) (d : Nat) (b : AL) (B : List Atm) : fol false (.ins c a :: A) (.ins d b :: B) = .keep [] :: fol false A (.ins d b :: B) := by rw [fol, if_neg (by decide)]
theorem fol_ki (fi : Bool) (a : AL) (A : List Atm) (d : Nat) (b : AL) (B : List Atm) : fol fi (.keep a :: A) (.ins d b :: B) = .ins d b :: fol fi (.keep a :: A) B := by rw [fol]
theorem fol_di (fi : Bool) (A : List Atm) (d : Nat) (b : AL) (B : List Atm) : fol fi (.del :: A) (.ins d b :: B) = .ins d b :: fol fi (.del :: A) B := by rw [fol]
theorem fol_ik (fi : Bool) (c : Nat) (a : AL) (A : List Atm) (b : AL) (B : List Atm) : fol fi (.ins c a :: A) (.keep b :: B) = .keep [] :: fol fi A (.keep b :: B) := by rw [fol]
theorem fol_id (fi : Bool) (c : Nat) (a : AL) (A : List Atm) (B : List Atm) : fol fi (.ins c a :: A) (.del :: B) = .keep [] :: fol fi A (.del :: B) := by rw [fol]
theorem fol_dk (fi : Bool) (A : List Atm) (b : AL) (B : List Atm) : fol fi (.del :: A) (.keep b :: B) = fol fi A B := by rw [fol]
theorem fol_dd (fi : Bool) (A : List Atm) (B : List Atm) : fol fi (.del :: A) (.del :: B) = fol fi A B := by rw [fol]
theorem fol_kk (fi : Bool) (a : AL) (A : List Atm) (b : AL) (B : List Atm) : fol fi (.keep a :: A) (.keep b :: B) = .keep (flw fi a b) :: fol fi A B := by rw [fol]
theorem fol_kd (fi : Bool) (a : AL) (A : List Atm) (B : List Atm) : fol fi (.keep a :: A) (.del :: B) = .del :: fol fi A B := by rw [fol]
/-- Two changes of attributes come to one. -/
theorem cmp_meets (fi : Bool) {a b : AL} (ha : Rises ltB a) (hb : Rises ltB b) : cmp a (flw fi a b) = cmp b (flw (!fi) b a) := by
 obtain ⟨h3, h4⟩ := follow_all (a := a) fi hb
 obtain ⟨h3', h4'⟩ := follow_all (a := b) (!fi) ha
 obtain ⟨h5, h6⟩ := compose_all strictB ha h3
 obtain ⟨h7, h8⟩ := compose_all strictB hb h3'
 refine ext strictB h5 h7 fun k => ?_
 rw [h6, h8, h4, h4']
 cases At.look a k <;> cases At.look b k <;> cases fi <;> simp
theorem comp_folr (g : Bool) : ∀ B, RisA B → comp B (fol g B []) = B
 | [], _ => by rw [fol_nil, comp_nil]
 | .ins c b :: B, h => by rw [fol_in, comp_ik, comp_folr g B h.tail, show apl b [] = b from apply_nil strictB emp (risA_cons.1 h).1]
 | .keep b :: B, h => by rw [fol_kn, comp_kk, comp_folr g B h.tail, show cmp b [] = b from (compose_nil strictB (risA_cons.1 h).1).2]
 | .del :: B, h => by rw [fol_dn, comp_del, comp_folr g B h.tail]
/-- In whatever order, they come to the same. -/
theorem fol_meet : ∀ (fi : Bool) (A B : List Atm), RisA A → RisA B → Sim (comp A (fol fi A B)) (comp B (fol (!fi) B A))
 | fi, [], B, _, hB => by rw [fol_nil, comp_nil, comp_folr _ B hB]; exact .refl _
 | fi, x :: A, [], hA, _ => by rw [fol_nil, comp_nil, comp_folr _ _ hA]; exact .refl _
 | true, .ins c a :: A, .ins d b :: B, hA, hB => by
   have ih := fol_meet true (.ins c a :: A) B hA hB.tail
   rw [show (!true) = false from rfl] at ih ⊢
   rw [fol_iit, comp_ii, fol_iif, comp_ik, show apl b [] = b from apply_nil strictB emp (risA_cons.1 hB).1]
   exact ih.cons _
 | false, .ins c a :: A, .ins d b :: B, hA, hB => by
   have ih := fol_meet false A (.ins d b :: B) hA.tail hB
   rw [show (!false) = true from rfl] at ih ⊢
   rw [fol_iit, comp_ii, fol_iif, comp_ik, show apl a [] = a from apply_nil strictB emp (risA_cons.1 hA).1]
   exact ih.cons _
 | fi, .keep a :: A, .ins d b :: B, hA, hB => by
   have ih := fol_meet fi (.keep a :: A) B hA hB.tail
   rw [fol_ki, fol_ik, comp_ik, show apl b [] = b from apply_nil strictB emp (risA_cons.1 hB).1]
   exact (comp_ins_sim d b _ _).trans (ih.cons _)
 | fi, .del :: A, .ins d b :: B, hA, hB => by
   have ih := fol_meet fi (.del :: A) B hA hB.tail
   rw [fol_di, fol_id, comp_ik, show apl b [] = b from apply_nil strictB emp (risA_cons.1 hB).1]
   exact (comp_ins_sim d b _ _).trans (ih.cons _)
 | fi, .ins c a :: A, .keep b :: B, hA, hB => by
   have ih := fol_meet fi A (.keep b :: B) hA.tail hB
   rw [fol_ki, fol_ik, comp_ik, show apl a [] = a from apply_nil strictB emp (risA_cons.1 hA).1]
   exact (ih.cons _).trans (comp_ins_sim c a _ _).symm
 | fi, .ins c a :: A, .del :: B, hA, hB => by
   have ih := fol_meet fi A (.del :: B) hA.tail hB
   rw [fol_di, fol_id, comp_ik, show apl a [] = a from apply_nil strictB emp (risA_cons.1 hA).1]
   exact (ih.cons _).trans (comp_ins_sim c a _ _).symm
 | fi, .del :: A, .keep b :: B, hA, hB => by
   have ih := fol_meet fi A B hA.tail hB.tail
   rw [fol_dk, fol_kd, comp_del, comp_kd]
   exact ih.cons _
 | fi, .del :: A, .del :: B, hA, hB => by
   have ih := fol_meet fi A B hA.tail hB.tail
   rw [fol_dd, fol_dd, comp_del, comp_del]
   exact ih.cons _
 | fi, .keep a :: A, .keep b :: B, hA, hB => by
   have ih := fol_meet fi A B hA.tail hB.tail
   rw [fol_kk, fol_kk, comp_kk, comp_kk, cmp_meets fi (risA_cons.1 hA).1 (risA_cons.1 hB).1]
   exact ih.cons _
 | fi, .keep a :: A, .del :: B, hA, hB => by
   have ih := fol_meet fi A B hA.tail hB.tail
   rw [fol_kd, fol_dk, comp_kd, comp_del]
   exact ih.cons _
termination_by _ A B => A.length + B.length
/-- What may be stays so; how much it inserts, deletes, goes through. -/
theorem fol_all : ∀ (fi : Bool) (A B : List Atm) (f : Nat), OkX B → kA A ≤ f → kA B ≤ f →
 OkX (fol fi A B) ∧ iA (fol fi A B) = iA B ∧ dA (fol fi A B) ≤ dA B ∧ kA (fol fi A B) + dA A ≤ f + iA A
 | fi, [], B, f, hB, h1, h2 => by rw [fol_nil]; exact ⟨hB, rfl, Nat.le_refl _, by simp only [dA, iA]; omega⟩
 | fi, .ins c a :: A, [], f, hB, h1, h2 => by
   obtain ⟨i1, i2, i3, i4⟩ := fol_all fi A [] f hB (by simpa only [kA] using h1) h2
   rw [fol_in]
   refine ⟨okX_cons.2 ⟨chg_nil, i1⟩, ?_, ?_, ?_⟩ <;> simp only [kA, dA, iA] at * <;> omega
 | fi, .keep a :: A, [], f, hB, h1, h2 => by
   obtain ⟨i1, i2, i3, i4⟩ := fol_all fi A [] (f - 1) hB (by simp only [kA] at h1; omega) (by simp only [kA]; omega)
   rw [fol_kn]
   refine ⟨okX_cons.2 ⟨chg_nil, i1⟩, ?_, ?_, ?_⟩ <;> simp only [kA, dA, iA] at * <;> omega
 | fi, .del :: A, [], f, hB, h1, h2 => by
   obtain ⟨i1, i2, i3, i4⟩ := fol_all fi A [] (f - 1) hB (by simp only [kA] at h1; omega) (by simp only [kA]; omega)
   rw [fol_dn]
   refine ⟨i1, ?_, ?_, ?_⟩ <;> simp only [kA, dA, iA] at * <;> omega
 | true, .ins c a :: A, .ins d b :: B, f, hB, h1, h2 => by
   obtain ⟨i1, i2, i3, i4⟩ := fol_all true (.ins c a :: A) B f (okX_cons.1 hB).2 h1 (by simpa only [kA] using h2)
   rw [fol_iit]
   refine ⟨okX_cons.2 ⟨(okX_cons.1 hB).1, i1⟩, ?_, ?_, ?_⟩ <;> simp only [kA, dA, iA] at * <;> omega
 | false, .ins c a :: A, .ins d b :: B, f, hB, h1, h2 => by
   obtain ⟨i1, i2, i3, i4⟩ := fol_all false A (.ins d b :: B) f hB (by simpa only [kA] using h1) h2
   rw [fol_iif]
   refine ⟨okX_cons.2 ⟨chg_nil, i1⟩, ?_, ?_, ?_⟩ <;> simp only [kA, dA, iA] at * <;> omega
 | fi, .keep a :: A, .ins d b :: B, f, hB, h1, h2 => by
   obtain ⟨i1, i2, i3, i4⟩ := fol_all fi (.keep a :: A) B f (okX_cons.1 hB).2 h1 (by simpa only [kA] using h2)
   rw [fol_ki]
   refine ⟨okX_cons.2 ⟨(okX_cons.1 hB).1, i1⟩, ?_, ?_, ?_⟩ <;> simp only [kA, dA, iA] at * <;> omega
 | fi, .del :: A, .ins d b :: B, f, hB, h1, h2 => by
   obtain ⟨i1, i2, i3, i4⟩ := fol_all fi (.del :: A) B f (okX_cons.1 hB).2 h1 (by simpa only [kA] using h2)
   rw [fol_di]
   refine ⟨okX_cons.2 ⟨(okX_cons.1 hB).1, i1⟩, ?_, ?_, ?_⟩ <;> simp only [kA, dA, iA] at * <;> omega
 | fi, .ins c a :: A, .keep b :: B, f, hB, h1, h2 => by
   obtain ⟨i1, i2, i3, i4⟩ := fol_all fi A (.keep b :: B) f hB (by simpa only [kA] using h1) h2
   rw [fol_ik]
   refine ⟨okX_cons.2 ⟨chg_nil, i1⟩, ?_, ?_, ?_⟩ <;> simp only [kA, dA, iA] at * <;> omega
 | fi, .ins c a :: A, .del :: B, f, hB, h1, h2 => by
   obtain ⟨i1, i2, i3, i4⟩ := fol_all fi A (.del :: B) f hB (by simpa only [kA] using h1) h2
   rw [fol_id]
   refine ⟨okX_cons.2 ⟨chg_nil, i1⟩, ?_, ?_, ?_⟩ <;> simp only [kA, dA, iA] at * <;> omega
 | fi, .del :: A, .keep b :: B, f, hB, h1, h2 => by
   obtain ⟨i1, i2, i3, i4⟩ := fol_all fi A B (f - 1) (okX_cons.1 hB).2 (by simp only [kA] at h1; omega) (by simp only [kA] at h2; omega)
   rw [fol_dk]
   refine ⟨i1, ?_, ?_, ?_⟩ <;> simp only [kA, dA, iA] at * <;> omega
 | fi, .del :: A, .del :: B, f, hB, h1, h2 => by
   obtain ⟨i1, i2, i3, i4⟩ := fol_all fi A B (f - 1) (okX_cons.1 hB).2 (by simp only [kA] at h1; omega) (by simp only [kA] at h2; omega)
   rw [fol_dd]
   refine ⟨i1, ?_, ?_, ?_⟩ <;> simp only [kA, dA, iA] at * <;> omega
 | fi, .keep a :: A, .keep b :: B, f, hB, h1, h2 => by
   obtain ⟨i1, i2, i3, i4⟩ := fol_all fi A B (f - 1) (okX_cons.1 hB).2 (by simp only [kA] at h1; omega) (by simp only [kA] at h2; omega)
   rw [fol_kk]
   refine ⟨okX_cons.2 ⟨chg_follow fi (okX_cons.1 hB).1, i1⟩, ?_, ?_, ?_⟩ <;> simp only [kA, dA, iA] at * <;> omega
 | fi, .keep a :: A, .del :: B, f, hB, h1, h2 => by
   obtain ⟨i1, i2, i3, i4⟩ := fol_all fi A B (f - 1) (okX_cons.1 hB).2 (by simp only [kA] at h1; omega) (by simp only [kA] at h2; omega)
   rw [fol_kd]
   refine ⟨okX_cons.2 ⟨trivial, i1⟩, ?_, ?_, ?_⟩ <;> simp only [kA, dA, iA] at * <;> omega
termination_by _ A B => A.length + B.length
/-- What the second says behind the first, in normal form (of normal forms). -/
def folN (fi : Bool) (A B : List OpD) : List OpD := normA (fol fi (atms A) (atms B))
structure FolF (f : Int) (A B : List OpD) : Prop where
 okA : OkC f A
 okB : OkC f B
def sizF (fi : Bool) (f : Int) (A B : List OpD) : Int := f - dl A + ins A - (dA (fol fi (atms A) (atms B)) : Int) + (iA (fol fi (atms A) (atms B)) : Int)
theorem FolF.all {f : Int} {A B : List OpD} (h : FolF f A B) (fi : Bool) :
 OkX (fol fi (atms A) (atms B)) ∧ Sim (atms (folN fi A B)) (fol fi (atms A) (atms B)) ∧ norm (folN fi A B) = folN fi A B ∧ allE (folN fi A B) ∧ 0 ≤ f - dl A + ins A ∧ f - dl A + ins A ≤ 20000 ∧
 f - dl A + ins A - dl (folN fi A B) + ins (folN fi A B) = sizF fi f A B ∧
 ((folN fi A B).length ≤ 2000 → sizF fi f A B ≤ 20000 → OkC (f - dl A + ins A) (folN fi A B)) := by
 obtain ⟨hA, hB⟩ := h
 have okA := okX_atms hA.2.2.2.1
 have okB := okX_atms hB.2.2.2.1
 obtain ⟨a1, a2, a3⟩ := sums_atms hA.2.2.2.1
 obtain ⟨b1, b2, b3⟩ := sums_atms hB.2.2.2.1
 obtain ⟨f0, f1, _, _, fk, ft⟩ := hA
 obtain ⟨g0, g1, _, _, gk, gt⟩ := hB
 obtain ⟨o1, o2, o3, o4⟩ := fol_all fi (atms A) (atms B) f.toNat okB (by omega) (by omega)
 obtain ⟨e1, e2⟩ := atms_opA o1
 obtain ⟨c1, c2, c3⟩ := sums_atms e2
 rw [e1] at c1 c2 c3
 have key : ∀ X : List Atm, dA X ≤ kA X := by
  intro X
  induction X with
  | nil => exact Nat.le_refl _
  | cons x r ih => cases x <;> simp only [dA, kA] <;> omega
 have k1 := key (atms A)
 have k2 := key (atms B)
 have hi : ins ((fol fi (atms A) (atms B)).map opA) ≤ 20000 := by omega
 obtain ⟨n1, n2, n3, n4⟩ := norm_sums e2 hi
 have hcm : folN fi A B = norm ((fol fi (atms A) (atms B)).map opA) := normA_map _
 have hs2 := sim_norm e2 hi
 rw [e1] at hs2
 unfold sizF
 rw [hcm]
 exact ⟨o1, hs2, norm_once e2 hi, n1, by omega, ft, by omega, fun hl hz => ⟨by omega, ft, hl, n1, by omega, by omega⟩⟩
/-- Composed, in whatever order, they are one. -/
theorem FolF.meet {f : Int} {A B : List OpD} (h : FolF f A B) (fi : Bool) : cmpN A (folN fi A B) = cmpN B (folN (!fi) B A) := by
 have rA := okX_ris (okX_atms h.okA.2.2.2.1)
 have rB := okX_ris (okX_atms h.okB.2.2.2.1)
 have s1 := (h.all fi).2.1
 have s2 := (FolF.all ⟨h.okB, h.okA⟩ (!fi)).2.1
 exact normA_sim (((comp_simr s1 _ rA).trans (fol_meet fi _ _ rA rB)).trans (comp_simr s2 _ rB).symm)
end Cp
end Go.Proofs.YtlfodemmdfaeeaaGreatDoor

/- What atoms make of a row of cells: what operations make of them; one for two does what both do; two made beside each other make one row. -/
namespace Go.Proofs.YtlfodemmdfaeeaaGreatDoor
namespace Cp
open Rn Ch
open At hiding put

def actA : List Atm → List CD → List CD
 | [], cs => cs
 | .ins c a :: r, cs => (c, a) :: actA r cs
 | .keep _ :: r, [] => actA r []
 | .keep a :: r, x :: t => appC a x :: actA r t
 | .del :: r, cs => actA r cs.tail
def okA : List Atm → List CD → Prop
 | [], _ => True
 | .ins _ _ :: r, cs => okA r cs
 | .keep _ :: r, [] => okA r []
 | .keep a :: r, x :: t => applyE x.2 a = 0 ∧ okA r t
 | .del :: r, cs => okA r cs.tail
theorem actA_nil (cs : List CD) : actA [] cs = cs := by rw [actA]
theorem okA_nil (cs : List CD) : okA [] cs := by rw [okA]; trivial
theorem actA_ins (c : Nat) (a : AL) (r : List Atm) (cs : List CD) : actA (.ins c a :: r) cs = (c, a) :: actA r cs := by rw [actA]
theorem okA_ins (c : Nat) (a : AL) (r : List Atm) (cs : List CD) : okA (.ins c a :: r) cs ↔ okA r cs := by rw [okA]
theorem actA_keep (a : AL) (r : List Atm) (x : CD) (t : List CD) : actA (.keep a :: r) (x :: t) = appC a x :: actA r t := by rw [actA]
theorem okA_keep (a : AL) (r : List Atm) (x : CD) (t : List CD) : okA (.keep a :: r) (x :: t) ↔ applyE x.2 a = 0 ∧ okA r t := by rw [okA]
theorem actA_del (r : List Atm) (x : CD) (t : List CD) : actA (.del :: r) (x :: t) = actA r t := by rw [actA]; rfl
theorem okA_del (r : List Atm) (x : CD) (t : List CD) : okA (.del :: r) (x :: t) ↔ okA r t := by rw [okA]; rfl

theorem acts_ins (a : AL) (ks : List Nat) (r : List Atm) (cs : List CD) : actA (ks.map (fun c => .ins c a) ++ r) cs = ks.map (fun c => (c, a)) ++ actA r cs ∧ (okA (ks.map (fun c => .ins c a) ++ r) cs ↔ okA r cs) := by
 induction ks with
 | nil => exact ⟨rfl, Iff.rfl⟩
 | cons k s ih =>
   refine ⟨?_, ?_⟩
   ·rw [List.map_cons, List.cons_append, actA_ins, ih.1]; rfl
   ·rw [List.map_cons, List.cons_append, okA_ins, ih.2]
theorem acts_keep (a : AL) (r : List Atm) : ∀ (n : Nat) (cs : List CD), n ≤ cs.length → actA (List.replicate n (.keep a) ++ r) cs = (cs.take n).map (appC a) ++ actA r (cs.drop n) ∧ (okA (List.replicate n (.keep a) ++ r) cs ↔ (∀ x ∈ cs.take n, applyE x.2 a = 0) ∧ okA r (cs.drop n))
 | 0, cs, _ => by simp
 | n + 1, [], h => by simp at h
 | n + 1, x :: t, h => by
   obtain ⟨e1, e2⟩ := acts_keep a r n t (by simpa using h)
   rw [List.replicate_succ, List.cons_append, actA_keep, okA_keep, e1, e2]
   simp [and_assoc]
theorem acts_del (r : List Atm) : ∀ (n : Nat) (cs : List CD), n ≤ cs.length → actA (List.replicate n .del ++ r) cs = actA r (cs.drop n) ∧ (okA (List.replicate n .del ++ r) cs ↔ okA r (cs.drop n))
 | 0, cs, _ => by simp
 | n + 1, [], h => by simp at h
 | n + 1, x :: t, h => by
   obtain ⟨e1, e2⟩ := acts_del r n t (by simpa using h)
   rw [List.replicate_succ, List.cons_append, actA_del, okA_del, e1, e2]
   simp
/-- Operations do what their atoms do. -/
theorem act_atms (ops : List OpD) : ∀ {cs : List CD}, allE ops → kd ops ≤ (cs.length : Int) → act ops cs = actA (atms ops) cs ∧ (actOk ops cs ↔ okA (atms ops) cs) := by
 induction ops with
 | nil => intro cs _ _; exact ⟨(actA_nil cs).symm, fun _ => okA_nil cs, fun _ => trivial⟩
 | cons o r ih =>
   intro cs h hk
   have ho : opE o = 0 := h o List.mem_cons_self
   have hr : allE r := fun x hx => h x (List.mem_cons_of_mem _ hx)
   rw [atms_cons]
   rw [kd] at hk
   rcases opE_kind ho with k | k | k
   ·have hn := opE_n ho (by omega)
    rw [if_neg (by omega)] at hk
    obtain ⟨a1, a2⟩ := act_keep (r := r) (cs := cs) k
    have e : atm o = List.replicate o.n.toNat (.keep o.attrs) := by unfold atm; rw [if_neg (by omega), if_pos k]
    have hr0 := kd_nonneg hr
    have hl : o.n.toNat ≤ cs.length := by omega
    obtain ⟨b1, b2⟩ := acts_keep o.attrs (atms r) o.n.toNat cs hl
    obtain ⟨i1, i2⟩ := ih (cs := cs.drop o.n.toNat) hr (by rw [List.length_drop]; omega)
    rw [e, a1, a2, b1, b2, i1, i2]
    exact ⟨rfl, Iff.rfl⟩
   ·rw [if_pos k] at hk
    obtain ⟨a1, a2⟩ := act_ins (r := r) (cs := cs) k
    have e : atm o = (rns1 o.text).map (fun c => .ins c o.attrs) := by unfold atm; rw [if_pos k]
    obtain ⟨b1, b2⟩ := acts_ins o.attrs (rns1 o.text) (atms r) cs
    obtain ⟨i1, i2⟩ := ih (cs := cs) hr (by omega)
    rw [e, a1, a2, b1, b2, i1, i2]
    exact ⟨by unfold insC; rw [cellsD_one]; rfl, Iff.rfl⟩
   ·have hn := opE_n ho (by omega)
    rw [if_neg (by omega)] at hk
    obtain ⟨a1, a2⟩ := act_cut (r := r) (cs := cs) k
    have e : atm o = List.replicate o.n.toNat .del := by unfold atm; rw [if_neg (by omega), if_neg (by omega)]
    have hr0 := kd_nonneg hr
    have hl : o.n.toNat ≤ cs.length := by omega
    obtain ⟨b1, b2⟩ := acts_del (atms r) o.n.toNat cs hl
    obtain ⟨i1, i2⟩ := ih (cs := cs.drop o.n.toNat) hr (by rw [List.length_drop]; omega)
    rw [e, a1, a2, b1, b2, i1, i2]
    exact ⟨rfl, Iff.rfl⟩
theorem okCs_tail {x : CD} {t : List CD} (h : okCs (x :: t)) : okCs t := fun y hy => h y (List.mem_cons_of_mem _ hy)
/-- One for two does what both do, one behind the other. -/
theorem actA_comp : ∀ (A B : List Atm) (cs : List CD), OkX A → OkX B → fit A B → kA A ≤ cs.length → okCs cs → okA A cs → okA B (actA A cs) → okA (comp A B) cs ∧ actA (comp A B) cs = actA B (actA A cs)
 | [], B, cs, _, _, _, _, _, _, hb => by rw [comp_nil]; rw [actA_nil] at hb ⊢; exact ⟨hb, rfl⟩
 | x :: A, [], cs, _, _, _, _, _, ha, _ => by rw [comp_nilr, actA_nil]; exact ⟨ha, rfl⟩
 | .del :: A, y :: B, [], _, _, _, hk, _, _, _ => by simp [kA] at hk
 | .del :: A, y :: B, x :: t, hA, hB, hf, hk, hc, ha, hb => by
   rw [actA_del] at hb ⊢
   rw [comp_del, actA_del, okA_del]
   exact actA_comp A (y :: B) t (okX_cons.1 hA).2 hB ((fit_del ..).1 hf) (by simp [kA] at hk; omega) (okCs_tail hc) ((okA_del ..).1 ha) hb
 | .ins c a :: A, .ins d b :: B, cs, hA, hB, hf, hk, hc, ha, hb => by
   obtain ⟨i1, i2⟩ := actA_comp (.ins c a :: A) B cs hA (okX_cons.1 hB).2 ((fit_ii ..).1 hf) hk hc ha ((okA_ins ..).1 hb)
   rw [comp_ii, okA_ins, actA_ins, actA_ins, i2]
   exact ⟨i1, rfl⟩
 | .keep a :: A, .ins d b :: B, cs, hA, hB, hf, hk, hc, ha, hb => by
   obtain ⟨i1, i2⟩ := actA_comp (.keep a :: A) B cs hA (okX_cons.1 hB).2 ((fit_ki ..).1 hf) hk hc ha ((okA_ins ..).1 hb)
   rw [comp_ki, okA_ins, actA_ins, actA_ins, i2]
   exact ⟨i1, rfl⟩
 | .ins c a :: A, .keep b :: B, cs, hA, hB, hf, hk, hc, ha, hb => by
   rw [actA_ins] at hb ⊢
   obtain ⟨b1, b2⟩ := (okA_keep ..).1 hb
   obtain ⟨_, _, _, e4⟩ := applyE_zero b1
   obtain ⟨i1, i2⟩ := actA_comp A B cs (okX_cons.1 hA).2 (okX_cons.1 hB).2 ((fit_ik ..).1 hf).2 (by simpa [kA] using hk) hc ((okA_ins ..).1 ha) b2
   rw [comp_ik, okA_ins, actA_ins, actA_keep, i2]
   refine ⟨i1, ?_⟩
   show (c, apl a b) :: _ = (c, applyR a b) :: _
   rw [e4]
 | .ins c a :: A, .del :: B, cs, hA, hB, hf, hk, hc, ha, hb => by
   rw [actA_ins, actA_del]
   rw [actA_ins, okA_del] at hb
   rw [comp_id]
   exact actA_comp A B cs (okX_cons.1 hA).2 (okX_cons.1 hB).2 ((fit_id ..).1 hf) (by simpa [kA] using hk) hc ((okA_ins ..).1 ha) hb
 | .keep a :: A, .keep b :: B, [], _, _, _, hk, _, _, _ => by simp [kA] at hk
 | .keep a :: A, .keep b :: B, x :: t, hA, hB, hf, hk, hc, ha, hb => by
   rw [actA_keep] at hb ⊢
   obtain ⟨a1, a2⟩ := (okA_keep ..).1 ha
   obtain ⟨b1, b2⟩ := (okA_keep ..).1 hb
   obtain ⟨f1, f2⟩ := (fit_kk ..).1 hf
   obtain ⟨m1, m2⟩ := composeE_mk (okX_cons.1 hA).1 (okX_cons.1 hB).1 f1
   obtain ⟨t1, t2⟩ := two_all a1 (show applyE (applyR x.2 a) b = 0 from b1) m1
   rw [m2] at t1 t2
   obtain ⟨i1, i2⟩ := actA_comp A B t (okX_cons.1 hA).2 (okX_cons.1 hB).2 f2 (by simp [kA] at hk; omega) (okCs_tail hc) a2 b2
   rw [comp_kk, okA_keep, actA_keep, actA_keep, i2]
   refine ⟨⟨t1, i1⟩, ?_⟩
   show (x.1, applyR x.2 (cmp a b)) :: _ = (x.1, applyR (applyR x.2 a) b) :: _
   rw [show applyR x.2 (cmp a b) = _ from t2]
 | .keep a :: A, .del :: B, [], _, _, _, hk, _, _, _ => by simp [kA] at hk
 | .keep a :: A, .del :: B, x :: t, hA, hB, hf, hk, hc, ha, hb => by
   rw [actA_keep, actA_del]
   rw [actA_keep, okA_del] at hb
   rw [comp_kd, okA_del, actA_del]
   exact actA_comp A B t (okX_cons.1 hA).2 (okX_cons.1 hB).2 ((fit_kd ..).1 hf) (by simp [kA] at hk; omega) (okCs_tail hc) ((okA_keep ..).1 ha).2 hb
termination_by A B => A.length + B.length
end Cp
end Go.Proofs.YtlfodemmdfaeeaaGreatDoor

/- Composed, and carried out: what both do, one behind the other. -/
namespace Go.Proofs.YtlfodemmdfaeeaaGreatDoor
open Go.RowKit Rn Ch
open At hiding put
open Cp (atms okA actA OkX kA dA iA)

theorem fitG_row {l : List RunD} {f : Int} {ops : List OpD} (hg : FitG l f ops) : okCs (cellsD l) ∧ (∀ x ∈ cellsD l, rgtB x.2 = true) := ⟨fun _ hx => hg.doc.cell hx, fun _ hx => (hg.doc.cell hx).2⟩
/-- What operations do, by the atoms of their normal form. -/
theorem act_nrm {f : Int} {ops : List OpD} {cs : List CD} (h : OkC f ops) (hk : f = (cs.length : Int)) (hr : ∀ x ∈ cs, rgtB x.2 = true) : act ops cs = actA (atms (norm ops)) cs ∧ (actOk ops cs ↔ okA (atms (norm ops)) cs) := by
 obtain ⟨n1, _, _⟩ := norm_ok h
 obtain ⟨e1, e2⟩ := eqv_norm h.2.2.2.1 h.ins cs hr
 obtain ⟨a1, a2⟩ := Cp.act_atms (norm ops) (cs := cs) n1.2.2.2.1 (by have := n1.2.2.2.2.1; omega)
 exact ⟨e1.symm.trans a1, e2.symm.trans a2⟩
/-- What a normal form made of atoms does. -/
theorem act_normA {X : List Cp.Atm} {cs : List CD} (h : OkX X) (hk : kA X ≤ cs.length) (hi : iA X ≤ 20000) (hr : ∀ x ∈ cs, rgtB x.2 = true) : act (Cp.normA X) cs = actA X cs ∧ (actOk (Cp.normA X) cs ↔ okA X cs) := by
 obtain ⟨e1, e2⟩ := Cp.atms_opA h
 obtain ⟨s1, _, s3⟩ := Cp.sums_atms e2
 rw [e1] at s1 s3
 obtain ⟨n1, n2⟩ := eqv_norm e2 (by omega) cs hr
 obtain ⟨a1, a2⟩ := Cp.act_atms (X.map Cp.opA) (cs := cs) e2 (by omega)
 rw [e1] at a1 a2
 rw [Cp.normA_map]
 exact ⟨n1.trans a1, n2.trans a2⟩
theorem dA_kA (X : List Cp.Atm) : dA X ≤ kA X := by
 induction X with
 | nil => exact Nat.le_refl _
 | cons x r ih => cases x <;> simp only [dA, kA] <;> omega
/-- One changeset does what two do, one behind the other. -/
theorem comp_app {l : List RunD} {f g : Int} {A C R : List OpD} (h1 : appE l f A = 0) (h2 : appE (appL l f A) g C = 0) (h : CmpG f g A C R) : appE l f R = 0 ∧ appL l f R = appL (appL l f A) g C := by
 have ha := appF_of h1
 have hb := appF_of h2
 have ga := fitG_of ha.fit
 have gb := fitG_of hb.fit
 obtain ⟨hc, hr⟩ := fitG_row ga
 obtain ⟨_, hr2⟩ := fitG_row gb
 have hF := nrm_zero h.a h.c h.n
 have okA' := Cp.okX_atms hF.okA.2.2.2.1
 have okC' := Cp.okX_atms hF.okB.2.2.2.1
 obtain ⟨x1, x2⟩ := act_nrm ga.okc ga.fc hr
 obtain ⟨y1, y2⟩ := act_nrm gb.okc gb.fc hr2
 obtain ⟨a1, a2, a3⟩ := Cp.sums_atms hF.okA.2.2.2.1
 obtain ⟨b1, b2, b3⟩ := Cp.sums_atms hF.okB.2.2.2.1
 obtain ⟨f0, f1, _, _, fk, ft⟩ := hF.okA
 obtain ⟨g0, g1, _, _, gk, gt⟩ := hF.okB
 have hm := hF.meet
 have hfc := ga.fc
 have hk : kA (atms (norm A)) ≤ (cellsD l).length := by omega
 have okb : okA (atms (norm C)) (actA (atms (norm A)) (cellsD l)) := by
  have := y2.1 hb.ok
  rw [ha.cells, x1] at this
  exact this
 obtain ⟨m1, m2⟩ := Cp.actA_comp _ _ _ okA' okC' h.fit hk hc (x2.1 ha.ok) okb
 have hs := Cp.sums_comp (atms (norm A)) (atms (norm C))
 have hkc := Cp.kA_comp (atms (norm A)) (atms (norm C)) f.toNat (by omega) (by omega)
 have hd := dA_kA (Cp.comp (atms (norm A)) (atms (norm C)))
 obtain ⟨r1, r2⟩ := act_normA (cs := cellsD l) (Cp.okX_comp _ _ okA' okC' h.fit) (by omega) (by omega) hr
 have he : act R (cellsD l) = act C (cellsD (appL l f A)) := by
  rw [h.eq]
  show act (Cp.normA _) _ = _
  rw [r1, m2, y1, ha.cells, x1]
 have hok : actOk R (cellsD l) := by
  rw [h.eq]
  exact r2.2 m1
 obtain ⟨t1, t2, t3⟩ := fit_iff.1 ha.fit
 have hz := app_mk (fit_iff.2 ⟨t1, h.toE, t3⟩) hok (by rw [he]; exact hb.len)
 exact ⟨hz, by rw [(appF_of hz).val, he, hb.val]⟩
end Go.Proofs.YtlfodemmdfaeeaaGreatDoor

/- Documents in the laws' walks: Apply, Inverse and Same, by the runs they say. -/
namespace Go.Proofs.YtlfodemmdfaeeaaGreatDoor
open Go.RowKit Rn Ch
open At hiding put

/-- The value is a row of the runs L. -/
def HasD (w : World) (v : Value) (L : List RunD) : Prop := ∃ ps : List RP, ps.map (·.1) = L ∧ RunRow w v ps
theorem HasD.below {w w' : World} {v : Value} {L : List RunD} (h : HasD w v L) (hb : Below w.heap.size w w') : HasD w' v L := by
 obtain ⟨ps, h1, h2⟩ := h
 exact ⟨ps, h1, h2.below hb⟩
theorem HasD.shape {w : World} {v : Value} {L : List RunD} (h : HasD w v L) : ∃ a c, v = .slice a L.length c := by
 obtain ⟨ps, h1, h2⟩ := h
 obtain ⟨a, c, h3⟩ := h2.shape
 exact ⟨a, c, by rw [h3, ← h1, List.length_map]⟩
def DocOut (w : World) (E : Int) (L : List RunD) (e : Ending) (w' : World) : Prop :=
 ∃ a c, e = .returned (.tuple #[.slice a L.length c, .int .i64 E]) ∧ HasD w' (.slice a L.length c) L ∧ Below w.heap.size w w'
theorem rsized7 {l : List RunD} {f : Int} {ops : List OpD} (h : appE l f ops = 0) : RSized (appL l f ops) := fun r hr => by
 have hd := docF_of (appF_of h).right
 obtain ⟨a, b, c, d⟩ := (hd.oks r hr).rns
 have h1 := txt_len (rns r)
 have h2 : r.text.size = (txt (rns r)).length := by conv => lhs; rw [b, T_size]
 exact ⟨by unfold maxLen; omega, sized_rgt (hd.rgt r hr)⟩
theorem U8s.up7 {w W : World} (h : U8s w.heap.size w) (hb : Below w.heap.size w W) : U8s W.heap.size W := ⟨Nat.lt_of_lt_of_le h.1 hb.size, Nat.lt_of_lt_of_le h.2.1 hb.size, (h.to hb).2.2⟩
theorem proper_ops7 {w : World} {B : Nat} {v : Value} {ops : List OpD} (h : OwnOps w B v ops) : Proper v := by
 obtain ⟨ps, _, h2⟩ := h
 exact proper_own h2.1
theorem appH {v va : Value} {l L : List RunD} {f E : Int} {A : List OpD} {w : World} (hv : HasD w v l) (hz : RSized l) (hc : OpRow w va A) (hp : Proper va) (hy : OSized A) (hU : U8s w.heap.size w) (he : appE l f A = E) (hl : appL l f A = L) :
 Calls Tryz.prog 5 #[v, chAgg f va] w (DocOut w E L) := by
 obtain ⟨ps, h1, h2⟩ := hv
 refine (apply_any v va ps f A w h2 (by rw [h1]; exact hz) hc hp hy hU).mono fun e w' ⟨x, e1, e2, rs, e3, e4⟩ => ?_
 rw [h1] at e1 e3
 have hh : HasD w' x L := ⟨rs, e3.trans hl, e4.row⟩
 obtain ⟨a, c, rfl⟩ := hh.shape
 exact ⟨a, c, by rw [e1, he], hh, e2⟩
theorem sameD {v u : Value} {L : List RunD} {w : World} (hv : HasD w v L) (hu : HasD w u L) : Calls Tryz.prog 8 #[v, u] w (OutB w true) := by
 obtain ⟨ps, h1, h2⟩ := hv
 obtain ⟨qs, h3, h4⟩ := hu
 have := sameDoc_any v u ps qs w h2 h4
 rwa [h1, h3, show sameRuns L L = true from decide_eq_true rfl] at this
theorem cmpO_eq {f g : Int} {va vb : Value} {A C : List OpD} {w : World} (hv : OpRow w va A) (hz : OSized A) (hu : OpRow w vb C) (hy : OSized C) {F E : Int} {R : List OpD} (hF : (if cmpE f g A C = 0 then f else 0) = F) (hE : cmpE f g A C = E) (hR : cmpR f g A C = R) :
 Calls Tryz.prog 6 #[chAgg f va, chAgg g vb] w (ChOwn w F E R) := by
 have := cmpO (f := f) (g := g) hv hz hu hy
 rwa [hF, hE, hR] at this
end Go.Proofs.YtlfodemmdfaeeaaGreatDoor
