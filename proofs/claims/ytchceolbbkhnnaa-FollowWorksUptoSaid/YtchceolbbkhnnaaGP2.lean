import Derived.Test.YtchceolbbkhnnaaGP1
import Derived.Test.YtchceolbbkhnnaaGM1
import Derived.Test.YtchceolbbkhnnaaGC2
namespace Go.Proofs.Ytchceolbbkhnnaa
section
open Go.RowKit Rn Ch
open At hiding put
open Cp (Piece OneF oneO oneE alC zeroO atm atms comp fit addA nd)
inductive Met (al : OpD → OpD → Int) : List QV5 → List QV5 → List (QV5 × QV5) → Prop
 | done : Met al [] [] []
 | step {A C : List QV5} {ps : List (QV5 × QV5)} (h : A ≠ [] ∨ C ≠ []) (r : Met al (stepM al A C).2.1 (stepM al A C).2.2 ps) : Met al A C ((stepM al A C).1 :: ps)
abbrev aq (l : List QV5) : List Cp.Atm := atms (l.map (·.1))
def VQ (l : List QV5) : Prop := ∀ q ∈ l, Piece q.1
theorem piece_sz {o : OpD} (h : Piece o) : 1 ≤ szO o ∧ szO o ≤ 20000 ∧ PieceOk o := by
 rcases Cp.opE_shape h.1 with ⟨k, a, b, c⟩ | ⟨k, a, b, c, d, e, f, g⟩ | ⟨k, a, b, c⟩
 ·rw [szO_num b]; exact ⟨a, h.2, .inl ⟨by omega, b, by omega, by have := h.2; omega⟩⟩
 ·rw [szO_txt a]
  have := List.length_pos_iff.2 b; exact ⟨by omega, by omega, .inr ⟨k, a, c, d, e⟩⟩
 ·rw [szO_num b]; exact ⟨a, h.2, .inl ⟨by omega, b, by omega, by have := h.2; omega⟩⟩
theorem cut_atm {o : OpD} (h : Piece o) {m : Nat} (h0 : 0 < m) (hm : (m : Int) ≤ szO o) :
 atm o = atm (cutA o m) ++ (if szO (cutB o m) = 0 then [] else atm (cutB o m)) ∧ Piece (cutA o m) ∧ (szO (cutB o m) ≠ 0 → Piece (cutB o m)) := by
 obtain ⟨_, _, hp⟩ := piece_sz h; obtain ⟨_, _, s1, s2⟩ := hp.cut hm; rcases Cp.opE_shape h.1 with ⟨k, a, b, c⟩ | ⟨k, a, b, c, d, e, f, g⟩ | ⟨k, a, b, c⟩
 ·have eA : cutA o m = { o with n := (m : Int) } := by unfold cutA; rw [if_neg (by omega)]
  have eB : cutB o m = { o with n := o.n - (m : Int) } := by unfold cutB; rw [if_neg (by omega)]
  rw [szO_num b] at hm s2; rw [s2, eA, eB, Cp.atm_keep k, Cp.atm_keep (o := { o with n := (m : Int) }) k, Cp.atm_keep (o := { o with n := o.n - (m : Int) }) k]; have hv := (opE_keep k).1 h.1; have hn2 := h.2; refine ⟨?_, ⟨(opE_keep (o := { o with n := (m : Int) }) k).2 ⟨by show 1 ≤ (m : Int); omega, hv.2⟩, by show (m : Int) ≤ _; omega⟩, fun hz => ⟨(opE_keep (o := { o with n := o.n - (m : Int) }) k).2 ⟨by show 1 ≤ o.n - (m : Int); omega, hv.2⟩, by show o.n - (m : Int) ≤ _; omega⟩⟩; show List.replicate o.n.toNat _ = List.replicate (m : Int).toNat _ ++ (if o.n - (m : Int) = 0 then [] else List.replicate (o.n - (m : Int)).toNat _)
  split
  ·rw [List.append_nil]; congr 1; omega
  ·rw [List.replicate_append_replicate]; congr 1; omega
 ·have eA : cutA o m = { o with text := T ((Cp.rns1 o.text).take m) } := by unfold cutA; rw [if_pos k]
  have eB : cutB o m = { o with text := T ((Cp.rns1 o.text).drop m) } := by unfold cutB; rw [if_pos k]
  rw [szO_txt a] at hm s2; have r1 := Cp.rns1_T (allOk_take d m) (by rw [List.length_take]; omega); have r2 := Cp.rns1_T (allOk_drop d m) (by rw [List.length_drop]; omega); have hv := (opE_put k).1 h.1; have mk : ∀ cs : List Nat, allOk cs → cs.length ≤ 20000 → cs ≠ [] → Piece { o with text := T cs } := fun cs h1 h2 h3 => by
   refine ⟨(opE_put (o := { o with text := T cs }) k).2 ⟨a, ?_, ?_, hv.2.2.2⟩, h.2⟩
   ·show (T cs).size ≠ 0
    rw [T_size]; have := (txt_len cs).1; have := List.length_pos_iff.2 h3; omega
   ·show er (T cs).data.toList = 0
    rw [T_data]; exact er_some (rd_txt cs h1 h2)
  rw [s2, eA, eB, Cp.atm_ins k, Cp.atm_ins (o := { o with text := T ((Cp.rns1 o.text).take m) }) k, Cp.atm_ins (o := { o with text := T ((Cp.rns1 o.text).drop m) }) k]; refine ⟨?_, mk _ (allOk_take d m) (by rw [List.length_take]; omega) (by intro e'; have h5 := congrArg List.length e'; have h6 := List.length_pos_iff.2 b; rw [List.length_take] at h5; simp only [List.length_nil] at h5; omega), fun hz => mk _ (allOk_drop d m) (by rw [List.length_drop]; omega) (by intro e'; have h5 := congrArg List.length e'; rw [List.length_drop] at h5; simp only [List.length_nil] at h5; omega)⟩; show (Cp.rns1 o.text).map _ = (Cp.rns1 (T _)).map _ ++ (if ((Cp.rns1 o.text).length : Int) - (m : Int) = 0 then [] else (Cp.rns1 (T _)).map _)
  rw [r1, r2]; split
  ·rw [List.append_nil, List.take_of_length_le (by omega)]
  ·rw [← List.map_append, List.take_append_drop]
 ·have eA : cutA o m = { o with n := (m : Int) } := by unfold cutA; rw [if_neg (by omega)]
  have eB : cutB o m = { o with n := o.n - (m : Int) } := by unfold cutB; rw [if_neg (by omega)]
  rw [szO_num b] at hm s2; rw [s2, eA, eB, Cp.atm_del k, Cp.atm_del (o := { o with n := (m : Int) }) k, Cp.atm_del (o := { o with n := o.n - (m : Int) }) k]; have hv := (opE_cut k).1 h.1; have hn2 := h.2; refine ⟨?_, ⟨(opE_cut (o := { o with n := (m : Int) }) k).2 ⟨by show 1 ≤ (m : Int); omega, hv.2⟩, by show (m : Int) ≤ _; omega⟩, fun hz => ⟨(opE_cut (o := { o with n := o.n - (m : Int) }) k).2 ⟨by show 1 ≤ o.n - (m : Int); omega, hv.2⟩, by show o.n - (m : Int) ≤ _; omega⟩⟩; show List.replicate o.n.toNat _ = List.replicate (m : Int).toNat _ ++ (if o.n - (m : Int) = 0 then [] else List.replicate (o.n - (m : Int)).toNat _)
  split
  ·rw [List.append_nil]; congr 1; omega
  ·rw [List.replicate_append_replicate]; congr 1; omega
theorem cut_full {o : OpD} (h : Piece o) : cutA o (szO o).toNat = o ∧ szO (cutB o (szO o).toNat) = 0 := by
 obtain ⟨h1, h2, hp⟩ := piece_sz h; obtain ⟨_, _, s1, s2⟩ := hp.cut (m := (szO o).toNat) (by omega); refine ⟨?_, by rw [s2]; omega⟩; rcases Cp.opE_shape h.1 with ⟨k, a, b, c⟩ | ⟨k, a, b, c, d, e, f, g⟩ | ⟨k, a, b, c⟩
 ·unfold cutA
  rw [if_neg (by omega), szO_num b]; cases o
  simp only at a ⊢
  congr 1; omega
 ·unfold cutA
  rw [if_pos k, szO_txt a, List.take_of_length_le (by omega)]; cases o
  simp only at c ⊢; rw [← c]
 ·unfold cutA
  rw [if_neg (by omega), szO_num b]; cases o
  simp only at a ⊢
  congr 1; omega
theorem rowTake_cons' (q : QV5) (s : List QV5) (m : Nat) : rowTake (q :: s) m = if szO (cutB q.1 m) = 0 then s else (cutB q.1 m, q.2) :: s := rfl
theorem aq_cons (q : QV5) (s : List QV5) : aq (q :: s) = atm q.1 ++ aq s := rfl
theorem aq_take {q : QV5} {s : List QV5} (h : VQ (q :: s)) {m : Nat} (h0 : 0 < m) (hm : (m : Int) ≤ szO q.1) :
 aq (q :: s) = atm (cutA q.1 m) ++ aq (rowTake (q :: s) m) ∧ VQ (rowTake (q :: s) m) ∧ Piece (cutA q.1 m) ∧ (rowTake (q :: s) m).length ≤ s.length + 1 ∧ ((m : Int) = szO q.1 → rowTake (q :: s) m = s) ∧ ∀ r ∈ rowTake (q :: s) m, ∃ z ∈ q :: s, r.1.attrs = z.1.attrs ∧ r.2 = z.2 := by
 have hq := h q (List.mem_cons_self ..); have hs : VQ s := fun r hr => h r (List.mem_cons_of_mem _ hr); obtain ⟨c1, c2, c3⟩ := cut_atm hq h0 hm; obtain ⟨_, _, hp⟩ := piece_sz hq; obtain ⟨_, _, s1, s2⟩ := hp.cut hm; rw [rowTake_cons', aq_cons, c1, List.append_assoc]
 by_cases hz : szO (cutB q.1 m) = 0
 ·rw [if_pos hz, if_pos hz]
  exact ⟨rfl, hs, c2, by omega, fun _ => rfl, fun r hr => ⟨r, List.mem_cons_of_mem _ hr, rfl, rfl⟩⟩
 ·rw [if_neg hz, if_neg hz]
  refine ⟨rfl, fun r hr => ?_, c2, Nat.le_refl _, fun e => by omega, fun r hr => ?_⟩
  ·rcases List.mem_cons.1 hr with rfl | hr
   ·exact c3 hz
   ·exact hs r hr
  ·rcases List.mem_cons.1 hr with rfl | hr
   ·exact ⟨q, List.mem_cons_self .., (cut_attrs q.1 m).2.1, rfl⟩
   ·exact ⟨r, List.mem_cons_of_mem _ hr, rfl, rfl⟩
structure StepF (x y : OpD) (F F' : Prop) (D D' : List Cp.Atm) : Prop where
 err : oneE x y = 0 ∨ oneE x y = 3
 fit : F ↔ oneE x y = 0 ∧ F'
 fold : oneE x y = 0 → ∀ s, D.foldl addA s = D'.foldl addA (addG s (oneO x y))
 small : oneE x y = 0 → 0 ≤ (oneO x y).n ∧ (oneO x y).n ≤ 20000 ∧ (oneO x y).text.size ≤ 80000 ∧ (rgtB (oneO x y).attrs = true ∨ chgB (oneO x y).attrs = true)
theorem piece_small {o : OpD} (h : Piece o) : 0 ≤ o.n ∧ o.n ≤ 20000 ∧ o.text.size ≤ 80000 ∧ (rgtB o.attrs = true ∨ chgB o.attrs = true) := by
 rcases Cp.opE_shape h.1 with ⟨k, a, b, c⟩ | ⟨k, a, b, c, d, e, f, g⟩ | ⟨k, a, b, c⟩
 ·exact ⟨by omega, h.2, by rw [b]; exact Nat.zero_le _, .inr c⟩
 ·exact ⟨by omega, h.2, by rw [c]; exact Cp.T_small e, .inl g⟩
 ·exact ⟨by omega, h.2, by rw [b]; exact Nat.zero_le _, .inr (by rw [c]; exact chg_nil)⟩
theorem addG_piece {o : OpD} (h : Piece o) (s : List OpD × Int) : addG s o = Ch.add s o := by
 unfold addG; rw [if_neg (Cp.not_zero h.1)]
end
section
open Go.RowKit Rn Ch
open At hiding put
open Cp (Piece OneF oneO oneE alC zeroO atm atms comp fit addA nd)
def SrcOf (l : List QV5) (q : QV5) : Prop := (q.1.attrs = [] ∧ q.2 = (none, 0)) ∨ ∃ z ∈ l, q.1.attrs = z.1.attrs ∧ q.2 = z.2
def FromOf (l l' : List QV5) : Prop := ∀ r ∈ l', ∃ z ∈ l, r.1.attrs = z.1.attrs ∧ r.2 = z.2
theorem FromOf.src {l l' : List QV5} (h : FromOf l l') {q : QV5} (hq : SrcOf l' q) : SrcOf l q := by
 rcases hq with hq | ⟨z, hz, e1, e2⟩
 ·exact .inl hq
 ·obtain ⟨y, hy, f1, f2⟩ := h z hz
  exact .inr ⟨y, hy, e1.trans f1, e2.trans f2⟩
theorem fromOf_refl (l : List QV5) : FromOf l l := fun r hr => ⟨r, hr, rfl, rfl⟩
structure MetF (A C : List QV5) (ps : List (QV5 × QV5)) : Prop where
 met : Met alC A C ps
 len : ps.length ≤ A.length + C.length
 src : ∀ p ∈ ps, SrcOf A p.1 ∧ SrcOf C p.2
 err : ∀ p ∈ ps, oneE p.1.1 p.2.1 = 0 ∨ oneE p.1.1 p.2.1 = 3
 small : ∀ p ∈ ps, oneE p.1.1 p.2.1 = 0 → 0 ≤ (oneO p.1.1 p.2.1).n ∧ (oneO p.1.1 p.2.1).n ≤ 20000 ∧ (oneO p.1.1 p.2.1).text.size ≤ 80000 ∧ (rgtB (oneO p.1.1 p.2.1).attrs = true ∨ chgB (oneO p.1.1 p.2.1).attrs = true)
 fit : fit (aq A) (aq C) ↔ ∀ p ∈ ps, oneE p.1.1 p.2.1 = 0
 fold : (∀ p ∈ ps, oneE p.1.1 p.2.1 = 0) → ∀ s, (comp (aq A) (aq C)).foldl addA s = ps.foldl (fun s p => addG s (oneO p.1.1 p.2.1)) s
theorem MetF.cons {A C A' C' : List QV5} {p : QV5 × QV5} {ps : List (QV5 × QV5)} (hs : stepM alC A C = (p, A', C')) (h : A ≠ [] ∨ C ≠ [])
 (hf : StepF p.1.1 p.2.1 (Cp.fit (aq A) (aq C)) (Cp.fit (aq A') (aq C')) (comp (aq A) (aq C)) (comp (aq A') (aq C'))) (hl : A'.length + C'.length < A.length + C.length)
 (s1 : SrcOf A p.1) (s2 : SrcOf C p.2) (sA : FromOf A A') (sC : FromOf C C') (r : MetF A' C' ps) : MetF A C (p :: ps) where
 met := by
  have hr := r.met; have := Met.step (al := alC) (A := A) (C := C) (ps := ps) h (by rw [hs]; exact hr)
  rwa [hs] at this
 len := by have := r.len; rw [List.length_cons]; omega
 src := by
  intro q hq; rcases List.mem_cons.1 hq with rfl | hq
  ·exact ⟨s1, s2⟩
  ·exact ⟨sA.src (r.src q hq).1, sC.src (r.src q hq).2⟩
 err := by
  intro q hq; rcases List.mem_cons.1 hq with rfl | hq
  ·exact hf.err
  ·exact r.err q hq
 small := by
  intro q hq; rcases List.mem_cons.1 hq with rfl | hq
  ·exact hf.small
  ·exact r.small q hq
 fit := by rw [List.forall_mem_cons, hf.fit, r.fit]
 fold := by
  intro ha s; rw [List.forall_mem_cons] at ha; rw [List.foldl_cons, ← r.fold ha.2]; exact hf.fold ha.1 s
theorem nxt_cons (q : QV5) (s : List QV5) : nxt5 (q :: s) = q := rfl
theorem firstCut_cons (q : QV5) (s : List QV5) (m : Nat) : firstCut (q :: s) m = (cutA q.1 m, q.2) := rfl
theorem src_head {q : QV5} {s : List QV5} {o : OpD} (h : o.attrs = q.1.attrs) : SrcOf (q :: s) (o, q.2) := .inr ⟨q, List.mem_cons_self .., h, rfl⟩
theorem src_zero (l : List QV5) : SrcOf l zeroQ5 := .inl ⟨rfl, rfl⟩
end
end Go.Proofs.Ytchceolbbkhnnaa
