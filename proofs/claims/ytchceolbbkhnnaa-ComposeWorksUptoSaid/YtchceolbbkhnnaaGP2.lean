/- Texts of this seat, put together: Cu, Cv. -/
import Derived.Test.YtchceolbbkhnnaaGP1
import Derived.Test.YtchceolbbkhnnaaGM1
import Derived.Test.YtchceolbbkhnnaaGC2
/- All that is met of two changesets: piece by piece, and what is made of it. -/
namespace Go.Proofs.Ytchceolbbkhnnaa
open Go.RowKit Rn Ch
open At hiding put
open Cp (Piece OneF oneO oneE alC zeroO atm atms comp fit addA nd)

/-- What is met of two rows, till both are through. -/
inductive Met (al : OpD → OpD → Int) : List QV5 → List QV5 → List (QV5 × QV5) → Prop
 | done : Met al [] [] []
 | step {A C : List QV5} {ps : List (QV5 × QV5)} (h : A ≠ [] ∨ C ≠ []) (r : Met al (stepM al A C).2.1 (stepM al A C).2.2 ps) : Met al A C ((stepM al A C).1 :: ps)
abbrev aq (l : List QV5) : List Cp.Atm := atms (l.map (·.1))
def VQ (l : List QV5) : Prop := ∀ q ∈ l, Piece q.1
theorem piece_sz {o : OpD} (h : Piece o) : 1 ≤ szO o ∧ szO o ≤ 20000 ∧ PieceOk o := by
 rcases Cp.opE_shape h.1 with ⟨k, a, b, c⟩ | ⟨k, a, b, c, d, e, f, g⟩ | ⟨k, a, b, c⟩
 ·rw [szO_num b]; exact ⟨a, h.2, .inl ⟨by omega, b, by omega, by have := h.2; omega⟩⟩
 ·rw [szO_txt a]
  have := List.length_pos_iff.2 b
  exact ⟨by omega, by omega, .inr ⟨k, a, c, d, e⟩⟩
 ·rw [szO_num b]; exact ⟨a, h.2, .inl ⟨by omega, b, by omega, by have := h.2; omega⟩⟩
theorem cut_atm {o : OpD} (h : Piece o) {m : Nat} (h0 : 0 < m) (hm : (m : Int) ≤ szO o) :
 atm o = atm (cutA o m) ++ (if szO (cutB o m) = 0 then [] else atm (cutB o m)) ∧ Piece (cutA o m) ∧ (szO (cutB o m) ≠ 0 → Piece (cutB o m)) := by
 obtain ⟨_, _, hp⟩ := piece_sz h
 obtain ⟨_, _, s1, s2⟩ := hp.cut hm
 rcases Cp.opE_shape h.1 with ⟨k, a, b, c⟩ | ⟨k, a, b, c, d, e, f, g⟩ | ⟨k, a, b, c⟩
 ·have eA : cutA o m = { o with n := (m : Int) } := by unfold cutA; rw [if_neg (by omega)]
  have eB : cutB o m = { o with n := o.n - (m : Int) } := by unfold cutB; rw [if_neg (by omega)]
  rw [szO_num b] at hm s2
  rw [s2, eA, eB, Cp.atm_keep k, Cp.atm_keep (o := { o with n := (m : Int) }) k, Cp.atm_keep (o := { o with n := o.n - (m : Int) }) k]
  have hv := (opE_keep k).1 h.1
  have hn2 := h.2
  refine ⟨?_, ⟨(opE_keep (o := { o with n := (m : Int) }) k).2 ⟨by show 1 ≤ (m : Int); omega, hv.2⟩, by show (m : Int) ≤ _; omega⟩, fun hz => ⟨(opE_keep (o := { o with n := o.n - (m : Int) }) k).2 ⟨by show 1 ≤ o.n - (m : Int); omega, hv.2⟩, by show o.n - (m : Int) ≤ _; omega⟩⟩
  show List.replicate o.n.toNat _ = List.replicate (m : Int).toNat _ ++ (if o.n - (m : Int) = 0 then [] else List.replicate (o.n - (m : Int)).toNat _)
  split
  ·rw [List.append_nil]; congr 1; omega
  ·rw [List.replicate_append_replicate]; congr 1; omega
 ·have eA : cutA o m = { o with text := T ((Cp.rns1 o.text).take m) } := by unfold cutA; rw [if_pos k]
  have eB : cutB o m = { o with text := T ((Cp.rns1 o.text).drop m) } := by unfold cutB; rw [if_pos k]
  rw [szO_txt a] at hm s2
  have r1 := Cp.rns1_T (allOk_take d m) (by rw [List.length_take]; omega)
  have r2 := Cp.rns1_T (allOk_drop d m) (by rw [List.length_drop]; omega)
  have hv := (opE_put k).1 h.1
  have mk : ∀ cs : List Nat, allOk cs → cs.length ≤ 20000 → cs ≠ [] → Piece { o with text := T cs } := fun cs h1 h2 h3 => by
   refine ⟨(opE_put (o := { o with text := T cs }) k).2 ⟨a, ?_, ?_, hv.2.2.2⟩, h.2⟩
   ·show (T cs).size ≠ 0
    rw [T_size]
    have := (txt_len cs).1
    have := List.length_pos_iff.2 h3
    omega
   ·show er (T cs).data.toList = 0
    rw [T_data]; exact er_some (rd_txt cs h1 h2)
  rw [s2, eA, eB, Cp.atm_ins k, Cp.atm_ins (o := { o with text := T ((Cp.rns1 o.text).take m) }) k, Cp.atm_ins (o := { o with text := T ((Cp.rns1 o.text).drop m) }) k]
  refine ⟨?_, mk _ (allOk_take d m) (by rw [List.length_take]; omega) (by intro e'; have h5 := congrArg List.length e'; have h6 := List.length_pos_iff.2 b; rw [List.length_take] at h5; simp only [List.length_nil] at h5; omega), fun hz => mk _ (allOk_drop d m) (by rw [List.length_drop]; omega) (by intro e'; have h5 := congrArg List.length e'; rw [List.length_drop] at h5; simp only [List.length_nil] at h5; omega)⟩
  show (Cp.rns1 o.text).map _ = (Cp.rns1 (T _)).map _ ++ (if ((Cp.rns1 o.text).length : Int) - (m : Int) = 0 then [] else (Cp.rns1 (T _)).map _)
  rw [r1, r2]
  split
  ·rw [List.append_nil, List.take_of_length_le (by omega)]
  ·rw [← List.map_append, List.take_append_drop]
 ·have eA : cutA o m = { o with n := (m : Int) } := by unfold cutA; rw [if_neg (by omega)]
  have eB : cutB o m = { o with n := o.n - (m : Int) } := by unfold cutB; rw [if_neg (by omega)]
  rw [szO_num b] at hm s2
  rw [s2, eA, eB, Cp.atm_del k, Cp.atm_del (o := { o with n := (m : Int) }) k, Cp.atm_del (o := { o with n := o.n - (m : Int) }) k]
  have hv := (opE_cut k).1 h.1
  have hn2 := h.2
  refine ⟨?_, ⟨(opE_cut (o := { o with n := (m : Int) }) k).2 ⟨by show 1 ≤ (m : Int); omega, hv.2⟩, by show (m : Int) ≤ _; omega⟩, fun hz => ⟨(opE_cut (o := { o with n := o.n - (m : Int) }) k).2 ⟨by show 1 ≤ o.n - (m : Int); omega, hv.2⟩, by show o.n - (m : Int) ≤ _; omega⟩⟩
  show List.replicate o.n.toNat _ = List.replicate (m : Int).toNat _ ++ (if o.n - (m : Int) = 0 then [] else List.replicate (o.n - (m : Int)).toNat _)
  split
  ·rw [List.append_nil]; congr 1; omega
  ·rw [List.replicate_append_replicate]; congr 1; omega
theorem cut_full {o : OpD} (h : Piece o) : cutA o (szO o).toNat = o ∧ szO (cutB o (szO o).toNat) = 0 := by
 obtain ⟨h1, h2, hp⟩ := piece_sz h
 obtain ⟨_, _, s1, s2⟩ := hp.cut (m := (szO o).toNat) (by omega)
 refine ⟨?_, by rw [s2]; omega⟩
 rcases Cp.opE_shape h.1 with ⟨k, a, b, c⟩ | ⟨k, a, b, c, d, e, f, g⟩ | ⟨k, a, b, c⟩
 ·unfold cutA
  rw [if_neg (by omega), szO_num b]
  cases o
  simp only at a ⊢
  congr 1; omega
 ·unfold cutA
  rw [if_pos k, szO_txt a, List.take_of_length_le (by omega)]
  cases o
  simp only at c ⊢
  rw [← c]
 ·unfold cutA
  rw [if_neg (by omega), szO_num b]
  cases o
  simp only at a ⊢
  congr 1; omega
theorem rowTake_cons' (q : QV5) (s : List QV5) (m : Nat) : rowTake (q :: s) m = if szO (cutB q.1 m) = 0 then s else (cutB q.1 m, q.2) :: s := rfl
theorem aq_cons (q : QV5) (s : List QV5) : aq (q :: s) = atm q.1 ++ aq s := rfl
theorem aq_take {q : QV5} {s : List QV5} (h : VQ (q :: s)) {m : Nat} (h0 : 0 < m) (hm : (m : Int) ≤ szO q.1) :
 aq (q :: s) = atm (cutA q.1 m) ++ aq (rowTake (q :: s) m) ∧ VQ (rowTake (q :: s) m) ∧ Piece (cutA q.1 m) ∧ (rowTake (q :: s) m).length ≤ s.length + 1 ∧ ((m : Int) = szO q.1 → rowTake (q :: s) m = s) ∧ ∀ r ∈ rowTake (q :: s) m, ∃ z ∈ q :: s, r.1.attrs = z.1.attrs ∧ r.2 = z.2 := by
 have hq := h q (List.mem_cons_self ..)
 have hs : VQ s := fun r hr => h r (List.mem_cons_of_mem _ hr)
 obtain ⟨c1, c2, c3⟩ := cut_atm hq h0 hm
 obtain ⟨_, _, hp⟩ := piece_sz hq
 obtain ⟨_, _, s1, s2⟩ := hp.cut hm
 rw [rowTake_cons', aq_cons, c1, List.append_assoc]
 by_cases hz : szO (cutB q.1 m) = 0
 ·rw [if_pos hz, if_pos hz]
  exact ⟨rfl, hs, c2, by omega, fun _ => rfl, fun r hr => ⟨r, List.mem_cons_of_mem _ hr, rfl, rfl⟩⟩
 ·rw [if_neg hz, if_neg hz]
  refine ⟨rfl, fun r hr => ?_, c2, Nat.le_refl _, fun e => by omega, fun r hr => ?_⟩
  ·rcases List.mem_cons.1 hr with rfl | hr
   ·exact c3 hz
   ·exact hs r hr
  ·rcases List.mem_cons.1 hr with rfl | hr
   ·exact ⟨q, List.mem_cons_self .., (cut_attrs q.1 m).2.1, rfl⟩
   ·exact ⟨r, List.mem_cons_of_mem _ hr, rfl, rfl⟩

/-- One step: what it says of the whole, and of the rest. -/
structure StepF (x y : OpD) (F F' : Prop) (D D' : List Cp.Atm) : Prop where
 err : oneE x y = 0 ∨ oneE x y = 3
 fit : F ↔ oneE x y = 0 ∧ F'
 fold : oneE x y = 0 → ∀ s, D.foldl addA s = D'.foldl addA (addG s (oneO x y))
 small : oneE x y = 0 → 0 ≤ (oneO x y).n ∧ (oneO x y).n ≤ 20000 ∧ (oneO x y).text.size ≤ 80000 ∧ (rgtB (oneO x y).attrs = true ∨ chgB (oneO x y).attrs = true)
theorem step_of {x y : OpD} {A B : List Cp.Atm} (h : OneF x y A B) : StepF x y (fit (atm x ++ A) (atm y ++ B)) (fit A B) (comp (atm x ++ A) (atm y ++ B)) (comp A B) :=
 ⟨h.err, h.fit, fun h0 s => h.comp h0 s, h.small⟩
theorem piece_small {o : OpD} (h : Piece o) : 0 ≤ o.n ∧ o.n ≤ 20000 ∧ o.text.size ≤ 80000 ∧ (rgtB o.attrs = true ∨ chgB o.attrs = true) := by
 rcases Cp.opE_shape h.1 with ⟨k, a, b, c⟩ | ⟨k, a, b, c, d, e, f, g⟩ | ⟨k, a, b, c⟩
 ·exact ⟨by omega, h.2, by rw [b]; exact Nat.zero_le _, .inr c⟩
 ·exact ⟨by omega, h.2, by rw [c]; exact Cp.T_small e, .inl g⟩
 ·exact ⟨by omega, h.2, by rw [b]; exact Nat.zero_le _, .inr (by rw [c]; exact chg_nil)⟩
theorem addG_piece {o : OpD} (h : Piece o) (s : List OpD × Int) : addG s o = Ch.add s o := by
 unfold addG
 rw [if_neg (Cp.not_zero h.1)]
end Go.Proofs.Ytchceolbbkhnnaa

/- All that is met of two changesets: what is made of it is what their atoms make. -/
namespace Go.Proofs.Ytchceolbbkhnnaa
open Go.RowKit Rn Ch
open At hiding put
open Cp (Piece OneF oneO oneE alC zeroO atm atms comp fit addA nd)

/-- Its attributes are none, or those of a piece of the row. -/
def SrcOf (l : List QV5) (q : QV5) : Prop := (q.1.attrs = [] ∧ q.2 = (none, 0)) ∨ ∃ z ∈ l, q.1.attrs = z.1.attrs ∧ q.2 = z.2
def FromOf (l l' : List QV5) : Prop := ∀ r ∈ l', ∃ z ∈ l, r.1.attrs = z.1.attrs ∧ r.2 = z.2
theorem FromOf.src {l l' : List QV5} (h : FromOf l l') {q : QV5} (hq : SrcOf l' q) : SrcOf l q := by
 rcases hq with hq | ⟨z, hz, e1, e2⟩
 ·exact .inl hq
 ·obtain ⟨y, hy, f1, f2⟩ := h z hz
  exact .inr ⟨y, hy, e1.trans f1, e2.trans f2⟩
theorem fromOf_refl (l : List QV5) : FromOf l l := fun r hr => ⟨r, hr, rfl, rfl⟩
structure MetF (A C : List QV5) (ps : List (QV5 × QV5)) : Prop where
 met : Met alC A C ps
 len : ps.length ≤ A.length + C.length
 src : ∀ p ∈ ps, SrcOf A p.1 ∧ SrcOf C p.2
 err : ∀ p ∈ ps, oneE p.1.1 p.2.1 = 0 ∨ oneE p.1.1 p.2.1 = 3
 small : ∀ p ∈ ps, oneE p.1.1 p.2.1 = 0 → 0 ≤ (oneO p.1.1 p.2.1).n ∧ (oneO p.1.1 p.2.1).n ≤ 20000 ∧ (oneO p.1.1 p.2.1).text.size ≤ 80000 ∧ (rgtB (oneO p.1.1 p.2.1).attrs = true ∨ chgB (oneO p.1.1 p.2.1).attrs = true)
 fit : fit (aq A) (aq C) ↔ ∀ p ∈ ps, oneE p.1.1 p.2.1 = 0
 fold : (∀ p ∈ ps, oneE p.1.1 p.2.1 = 0) → ∀ s, (comp (aq A) (aq C)).foldl addA s = ps.foldl (fun s p => addG s (oneO p.1.1 p.2.1)) s
theorem MetF.cons {A C A' C' : List QV5} {p : QV5 × QV5} {ps : List (QV5 × QV5)} (hs : stepM alC A C = (p, A', C')) (h : A ≠ [] ∨ C ≠ [])
 (hf : StepF p.1.1 p.2.1 (Cp.fit (aq A) (aq C)) (Cp.fit (aq A') (aq C')) (comp (aq A) (aq C)) (comp (aq A') (aq C'))) (hl : A'.length + C'.length < A.length + C.length)
 (s1 : SrcOf A p.1) (s2 : SrcOf C p.2) (sA : FromOf A A') (sC : FromOf C C') (r : MetF A' C' ps) : MetF A C (p :: ps) where
 met := by
  have hr := r.met
  have := Met.step (al := alC) (A := A) (C := C) (ps := ps) h (by rw [hs]; exact hr)
  rwa [hs] at this
 len := by have := r.len; rw [List.length_cons]; omega
 src := by
  intro q hq
  rcases List.mem_cons.1 hq with rfl | hq
  ·exact ⟨s1, s2⟩
  ·exact ⟨sA.src (r.src q hq).1, sC.src (r.src q hq).2⟩
 err := by
  intro q hq
  rcases List.mem_cons.1 hq with rfl | hq
  ·exact hf.err
  ·exact r.err q hq
 small := by
  intro q hq
  rcases List.mem_cons.1 hq with rfl | hq
  ·exact hf.small
  ·exact r.small q hq
 fit := by rw [List.forall_mem_cons, hf.fit, r.fit]
 fold := by
  intro ha s
  rw [List.forall_mem_cons] at ha
  rw [List.foldl_cons, ← r.fold ha.2]
  exact hf.fold ha.1 s
theorem nxt_cons (q : QV5) (s : List QV5) : nxt5 (q :: s) = q := rfl
theorem firstCut_cons (q : QV5) (s : List QV5) (m : Nat) : firstCut (q :: s) m = (cutA q.1 m, q.2) := rfl
theorem src_head {q : QV5} {s : List QV5} {o : OpD} (h : o.attrs = q.1.attrs) : SrcOf (q :: s) (o, q.2) := .inr ⟨q, List.mem_cons_self .., h, rfl⟩
theorem src_zero (l : List QV5) : SrcOf l zeroQ5 := .inl ⟨rfl, rfl⟩
theorem nd_aq {q : QV5} {s : List QV5} (h : Piece q.1) (hk : q.1.kind ≠ 3) : nd (aq (q :: s)) := by
 intro r e
 rw [aq_cons] at e
 rcases Cp.opE_shape h.1 with ⟨k, a, b, c⟩ | ⟨k, a, b, c, d, _⟩ | ⟨k, _⟩
 ·obtain ⟨n, hn⟩ : ∃ n, q.1.n.toNat = n + 1 := ⟨q.1.n.toNat - 1, by omega⟩
  rw [Cp.atm_keep k, hn, List.replicate_succ, List.cons_append] at e
  cases e
 ·rw [Cp.atm_ins k] at e
  cases hr : Cp.rns1 q.1.text with
  | nil => exact b hr
  | cons x t => rw [hr, List.map_cons, List.cons_append] at e; cases e
 ·exact absurd k hk
theorem one_nil {y : OpD} (hy : Piece y) (ky : y.kind ≠ 2) (m : Int) (hm : m = y.n) : oneE ⟨1, m, ⟨#[]⟩, []⟩ y = 0 ∧ oneO ⟨1, m, ⟨#[]⟩, []⟩ y = y := by
 have c3 : ¬ (1 : Int) = 3 := by decide
 have c2 : ¬ (1 : Int) = 2 := by decide
 rcases Cp.opE_shape hy.1 with ⟨k, a, b, c⟩ | ⟨k, _⟩ | ⟨k, a, b, c⟩
 ·obtain ⟨⟨n1, n2⟩, _⟩ := nothing_c true c
  unfold oneE oneO
  rw [if_neg c3, if_neg ky, if_neg (by omega), if_neg c2, if_neg c3, if_neg ky, if_neg (by omega), if_neg c2]
  refine ⟨n1, ?_⟩
  show (⟨1, m, ⟨#[]⟩, composeR [] y.attrs⟩ : OpD) = y
  rw [n2]
  cases y
  simp only at k b hm ⊢
  rw [k, b, hm]
 ·exact absurd k ky
 ·unfold oneE oneO
  rw [if_neg c3, if_neg ky, if_pos k, if_neg c3, if_neg ky, if_pos k, if_neg c2]
  exact ⟨rfl, rfl⟩
theorem one_nilr {x : OpD} (hx : Piece x) (kx : x.kind ≠ 3) (m : Int) : oneE x ⟨1, m, ⟨#[]⟩, []⟩ = 0 ∧ oneO x ⟨1, m, ⟨#[]⟩, []⟩ = x := by
 have c3 : ¬ (1 : Int) = 3 := by decide
 have c2 : ¬ (1 : Int) = 2 := by decide
 rcases Cp.opE_shape hx.1 with ⟨k, a, b, c⟩ | ⟨k, _, _, _, _, _, _, r⟩ | ⟨k, _⟩
 ·obtain ⟨_, ⟨n1, n2⟩, _⟩ := nothing_c true c
  unfold oneE oneO
  rw [if_neg kx, if_neg c2, if_neg c3, if_neg (by omega), if_neg kx, if_neg c2, if_neg c3, if_neg (by omega)]
  exact ⟨n1, by show { x with attrs := composeR x.attrs [] } = x; rw [n2]⟩
 ·obtain ⟨n1, n2, _⟩ := nothing_l r
  unfold oneE oneO
  rw [if_neg kx, if_neg c2, if_neg c3, if_pos k, if_neg kx, if_neg c2, if_neg c3, if_pos k]
  exact ⟨n1, by show { x with attrs := applyR x.attrs [] } = x; rw [n2]⟩
 ·exact absurd k kx
theorem met_ex : ∀ (n : Nat) (A C : List QV5), A.length + C.length ≤ n → VQ A → VQ C → ∃ ps, MetF A C ps := by
 intro n
 induction n with
 | zero =>
   intro A C hn _ _
   obtain rfl := List.length_eq_zero_iff.1 (show A.length = 0 by omega)
   obtain rfl := List.length_eq_zero_iff.1 (show C.length = 0 by omega)
   exact ⟨[], .done, Nat.zero_le _, fun p hp => (by cases hp), fun p hp => (by cases hp), fun p hp => (by cases hp), ⟨fun _ p hp => (by cases hp), fun _ => Cp.fit_nil _⟩, fun _ s => by rw [show comp (aq []) (aq []) = [] from Cp.comp_nil []]; rfl⟩
 | succ n ih =>
   intro A C hn hA hC
   by_cases h : A = [] ∧ C = []
   ·obtain ⟨rfl, rfl⟩ := h
    exact ih [] [] (by simp) hA hC
   ·have hne : A ≠ [] ∨ C ≠ [] := by
     by_cases ha : A = []
     ·exact .inr fun hc => h ⟨ha, hc⟩
     ·exact .inl ha
    have hal1 : alC (nxt5 A).1 (nxt5 C).1 = 1 ↔ (nxt5 A).1.kind = 3 := by
     unfold alC
     split
     ·exact ⟨fun _ => by assumption, fun _ => rfl⟩
     ·rename_i hk
      refine ⟨fun e => ?_, fun e => absurd e hk⟩
      split at e <;> omega
    have hal2 : alC (nxt5 A).1 (nxt5 C).1 = 2 ↔ (nxt5 A).1.kind ≠ 3 ∧ (nxt5 C).1.kind = 2 := by
     unfold alC
     split
     ·rename_i hk
      exact ⟨fun e => by omega, fun e => absurd hk e.1⟩
     ·rename_i hk
      split
      ·rename_i h2; exact ⟨fun _ => ⟨hk, h2⟩, fun _ => rfl⟩
      ·rename_i h2; exact ⟨fun e => by omega, fun e => absurd e.2 h2⟩
    by_cases k1 : (nxt5 A).1.kind = 3
    · -- what the first takes away
     cases A with
     | nil => exact absurd k1 (by decide)
     | cons q s =>
       rw [nxt_cons] at k1
       have hq := hA q (List.mem_cons_self ..)
       have hs : VQ s := fun r hr => hA r (List.mem_cons_of_mem _ hr)
       obtain ⟨f1, f2⟩ := cut_full hq
       have hst : stepM alC (q :: s) C = ((q, zeroQ5), s, C) := by
        unfold stepM
        rw [if_pos (hal1.2 k1), nxt_cons, firstCut_cons, rowTake_cons', if_pos f2, f1]
       obtain ⟨e1, e2, e3, e4⟩ := Cp.one_first hq k1 zeroQ5.1 (aq s) (aq C)
       obtain ⟨ps, hps⟩ := ih s C (by simp at hn; omega) hs hC
       refine ⟨_, hps.cons hst hne ⟨.inl e1, ?_, fun _ t => ?_, fun _ => ?_⟩ (by simp) (src_head rfl) (src_zero _) (fun r hr => ⟨r, List.mem_cons_of_mem _ hr, rfl, rfl⟩) (fromOf_refl _)⟩
       ·rw [aq_cons, e3, e1]; exact ⟨fun x => ⟨rfl, x⟩, fun x => x.2⟩
       ·show (comp (aq (q :: s)) (aq C)).foldl addA t = (comp (aq s) (aq C)).foldl addA (addG t (oneO q.1 zeroQ5.1))
        rw [aq_cons, e4, e2, addG_piece hq]
       ·show 0 ≤ (oneO q.1 zeroQ5.1).n ∧ _
        rw [e2]; exact piece_small hq
    ·by_cases k2 : (nxt5 C).1.kind = 2
     · -- what the second puts in
      cases C with
      | nil => exact absurd k2 (by decide)
      | cons q s =>
        rw [nxt_cons] at k2
        have hq := hC q (List.mem_cons_self ..)
        have hs : VQ s := fun r hr => hC r (List.mem_cons_of_mem _ hr)
        obtain ⟨f1, f2⟩ := cut_full hq
        have hst : stepM alC A (q :: s) = ((zeroQ5, q), A, s) := by
         unfold stepM
         rw [if_neg (fun e => k1 (hal1.1 e)), if_pos (hal2.2 ⟨k1, k2⟩), nxt_cons, firstCut_cons, rowTake_cons', if_pos f2, f1]
        have hnd : nd (aq A) := by
         cases A with
         | nil => intro r e; cases e
         | cons a t => exact nd_aq (hA a (List.mem_cons_self ..)) k1
        obtain ⟨e1, e2, e3, e4⟩ := Cp.one_second (x := zeroQ5.1) hq (by decide) k2 hnd (aq s)
        obtain ⟨ps, hps⟩ := ih A s (by simp at hn; omega) hA hs
        refine ⟨_, hps.cons hst hne ⟨.inl e1, ?_, fun _ t => ?_, fun _ => ?_⟩ (by simp) (src_zero _) (src_head rfl) (fromOf_refl _) (fun r hr => ⟨r, List.mem_cons_of_mem _ hr, rfl, rfl⟩)⟩
        ·rw [aq_cons, e3, e1]; exact ⟨fun x => ⟨rfl, x⟩, fun x => x.2⟩
        ·show (comp (aq A) (aq (q :: s))).foldl addA t = (comp (aq A) (aq s)).foldl addA (addG t (oneO zeroQ5.1 q.1))
         rw [aq_cons, e4, e2, addG_piece hq]
        ·show 0 ≤ (oneO zeroQ5.1 q.1).n ∧ _
         rw [e2]; exact piece_small hq
     ·have hst : stepM alC A C = ((firstCut A (minN A C), firstCut C (minN A C)), rowTake A (minN A C), rowTake C (minN A C)) := by
       unfold stepM
       rw [if_neg (fun e => k1 (hal1.1 e)), if_neg (fun e => k2 (hal2.1 e).2)]
      cases hA' : A with
      | nil =>
        cases hC' : C with
        | nil => exact absurd ⟨hA', hC'⟩ h
        | cons q s =>
          subst hA' hC'
          rw [nxt_cons] at k2
          have hq := hC q (List.mem_cons_self ..)
          have hs : VQ s := fun r hr => hC r (List.mem_cons_of_mem _ hr)
          obtain ⟨z1, z2, zp⟩ := piece_sz hq
          obtain ⟨f1, f2⟩ := cut_full hq
          have hm : minN [] (q :: s) = (szO q.1).toNat := by
           unfold minN
           rw [nxt_cons, show szO (nxt5 []).1 = 9223372036854775807 from szO_rest]
           omega
          have hn' : ((szO q.1).toNat : Int) = q.1.n := by
           rcases Cp.opE_shape hq.1 with ⟨k, a, b, c⟩ | ⟨k, _⟩ | ⟨k, a, b, c⟩
           ·rw [szO_num b]; omega
           ·exact absurd k k2
           ·rw [szO_num b]; omega
          rw [hm] at hst
          have e1 : firstCut [] (szO q.1).toNat = (⟨1, ((szO q.1).toNat : Int), ⟨#[]⟩, []⟩, (none, 0)) := rfl
          rw [firstCut_cons, rowTake_cons', if_pos f2, f1, e1, show rowTake [] (szO q.1).toNat = [] from rfl] at hst
          obtain ⟨o1, o2⟩ := one_nil hq k2 ((szO q.1).toNat : Int) hn'
          obtain ⟨ps, hps⟩ := ih [] s (by simp at hn ⊢; omega) hA hs
          refine ⟨_, hps.cons hst hne ⟨.inl o1, ?_, fun _ t => ?_, fun _ => ?_⟩ (by simp) (.inl ⟨rfl, rfl⟩) (src_head rfl) (fromOf_refl _) (fun r hr => ⟨r, List.mem_cons_of_mem _ hr, rfl, rfl⟩)⟩
          ·exact ⟨fun _ => ⟨o1, Cp.fit_nil _⟩, fun _ => Cp.fit_nil _⟩
          ·show (comp (aq []) (aq (q :: s))).foldl addA t = (comp (aq []) (aq s)).foldl addA (addG t (oneO ⟨1, ((szO q.1).toNat : Int), ⟨#[]⟩, []⟩ q.1))
           rw [o2, addG_piece hq, show aq [] = [] from rfl, Cp.comp_nil, Cp.comp_nil, aq_cons, List.foldl_append, Cp.fold_atm hq.1]
          ·show 0 ≤ (oneO ⟨1, ((szO q.1).toNat : Int), ⟨#[]⟩, []⟩ q.1).n ∧ _
           rw [o2]; exact piece_small hq
      | cons a t =>
        have ha := hA a (by rw [hA']; exact List.mem_cons_self ..)
        have ht : VQ t := fun r hr => hA r (by rw [hA']; exact List.mem_cons_of_mem _ hr)
        obtain ⟨z1, z2, zp⟩ := piece_sz ha
        cases hC' : C with
        | nil =>
          subst hA' hC'
          rw [nxt_cons] at k1
          obtain ⟨f1, f2⟩ := cut_full ha
          have hm : minN (a :: t) [] = (szO a.1).toNat := by
           unfold minN
           rw [nxt_cons, show szO (nxt5 []).1 = 9223372036854775807 from szO_rest]
           omega
          rw [hm] at hst
          have e1 : firstCut [] (szO a.1).toNat = (⟨1, ((szO a.1).toNat : Int), ⟨#[]⟩, []⟩, (none, 0)) := rfl
          rw [firstCut_cons, rowTake_cons', if_pos f2, f1, e1, show rowTake [] (szO a.1).toNat = [] from rfl] at hst
          obtain ⟨o1, o2⟩ := one_nilr ha k1 ((szO a.1).toNat : Int)
          obtain ⟨ps, hps⟩ := ih t [] (by simp at hn ⊢; omega) ht hC
          refine ⟨_, hps.cons hst hne ⟨.inl o1, ?_, fun _ u => ?_, fun _ => ?_⟩ (by simp) (src_head rfl) (.inl ⟨rfl, rfl⟩) (fun r hr => ⟨r, List.mem_cons_of_mem _ hr, rfl, rfl⟩) (fromOf_refl _)⟩
          ·exact ⟨fun _ => ⟨o1, Cp.fit_nilr _⟩, fun _ => Cp.fit_nilr _⟩
          ·show (comp (aq (a :: t)) (aq [])).foldl addA u = (comp (aq t) (aq [])).foldl addA (addG u (oneO a.1 ⟨1, ((szO a.1).toNat : Int), ⟨#[]⟩, []⟩))
           rw [o2, addG_piece ha, show aq [] = [] from rfl, Cp.comp_nilr, Cp.comp_nilr, aq_cons, List.foldl_append, Cp.fold_atm ha.1]
          ·show 0 ≤ (oneO a.1 ⟨1, ((szO a.1).toNat : Int), ⟨#[]⟩, []⟩).n ∧ _
           rw [o2]; exact piece_small ha
        | cons q s =>
          subst hA' hC'
          rw [nxt_cons] at k1
          rw [nxt_cons] at k2
          have hq := hC q (List.mem_cons_self ..)
          obtain ⟨y1, y2, yp⟩ := piece_sz hq
          have hmn : ((minN (a :: t) (q :: s) : Nat) : Int) = min (szO a.1) (szO q.1) := by
           unfold minN
           rw [nxt_cons, nxt_cons]
           omega
          generalize minN (a :: t) (q :: s) = m at hst hmn
          obtain ⟨a1, a2, a3, a4, a5, a6⟩ := aq_take hA (m := m) (by omega) (by omega)
          obtain ⟨b1, b2, b3, b4, b5, b6⟩ := aq_take hC (m := m) (by omega) (by omega)
          obtain ⟨_, _, c1, _⟩ := zp.cut (m := m) (by omega)
          obtain ⟨_, _, d1, _⟩ := yp.cut (m := m) (by omega)
          obtain ⟨_, _, ka, _⟩ := cut_attrs a.1 m
          obtain ⟨_, _, kq, _⟩ := cut_attrs q.1 m
          rw [firstCut_cons, firstCut_cons] at hst
          have hl : (rowTake (a :: t) m).length + (rowTake (q :: s) m).length < (a :: t).length + (q :: s).length := by
           rw [List.length_cons, List.length_cons]
           rcases Int.le_total (szO a.1) (szO q.1) with hle | hle
           ·have := a5 (by omega); rw [this]; omega
           ·have := b5 (by omega); rw [this]; omega
          have hO : OneF (cutA a.1 m) (cutA q.1 m) (aq (rowTake (a :: t) m)) (aq (rowTake (q :: s) m)) := by
           rcases Cp.opE_shape a3.1 with ⟨k, _, xt, _⟩ | ⟨k, xn, _⟩ | ⟨k, _⟩
           ·rcases Cp.opE_shape b3.1 with ⟨k', _, yt, _⟩ | ⟨k', _⟩ | ⟨k', _, yt, _⟩
            ·exact Cp.one_kk a3 b3 k k' (by rw [szO_num xt] at c1; rw [szO_num yt] at d1; omega) _ _
            ·omega
            ·exact Cp.one_kd a3 b3 k k' (by rw [szO_num xt] at c1; rw [szO_num yt] at d1; omega) _ _
           ·rcases Cp.opE_shape b3.1 with ⟨k', _, yt, _⟩ | ⟨k', _⟩ | ⟨k', _, yt, _⟩
            ·exact Cp.one_ik a3 b3 k k' (by rw [szO_txt xn] at c1; rw [szO_num yt] at d1; omega) _ _
            ·omega
            ·exact Cp.one_id a3 b3 k k' (by rw [szO_txt xn] at c1; rw [szO_num yt] at d1; omega) _ _
           ·omega
          have hS := step_of hO
          rw [← a1, ← b1] at hS
          obtain ⟨ps, hps⟩ := ih _ _ (by omega) a2 b2
          exact ⟨_, hps.cons hst hne hS hl (src_head (cut_attrs a.1 m).1) (src_head (cut_attrs q.1 m).1) a6 b6⟩
end Go.Proofs.Ytchceolbbkhnnaa
