import Derived.Test.YtadookafnfnaoaaGreatDoorGS8
import Derived.Test.YtadookafnfnaoaaGreatDoorGS4
import Derived.Test.YtadookafnfnaoaaGreatDoorGS0
import Derived.Lib.SmallJoins
import Derived.BigQuiet
import Derived.Deep.QuietTactic
import Derived.LoopTactic
import Derived.Deep.LoopGhost
/- Plain maths of changesets as text: of those that may be; how long their text is; what Print, Parse, Quote, Read come to. -/
namespace Go.Proofs.YtadookafnfnaoaaGreatDoor
open Go.RowKit Ch
namespace Sp
open Go.Lib

theorem goodK_of {k : ByteArray} (h : keyB k = true) : goodK k := by
  unfold keyB at h
  obtain ⟨h1, h2, h3⟩ := of_decide_eq_true h
  refine ⟨fun e => by rw [size_data, e] at h2; simp at h2, fun b hb => ?_⟩
  obtain ⟨i, hi, rfl⟩ := List.getElem_of_mem hb
  exact h1 i (by rw [size_data]; exact hi)
theorem chg_keys {l : List A} (h : chgE l = 0) : l.length ≤ 8 ∧ ∀ y ∈ l, goodK y.1 ∧ y.1.size ≤ 32 ∧ y.2.size ≤ 64 := by
  unfold chgE at h
  split at h
  · rename_i hb
    obtain ⟨h1, h2⟩ := of_decide_eq_true hb
    refine ⟨h1, fun x hx => ?_⟩
    obtain ⟨i, hi, rfl⟩ := List.getElem_of_mem hx
    have h3 := h2 i hi
    unfold chgOne at h3
    rw [Bool.and_eq_true, Bool.and_eq_true] at h3
    have hk := h3.1.1
    have hv := h3.1.2
    refine ⟨goodK_of hk, ?_⟩
    unfold keyB at hk
    unfold valB at hv
    simp only [decide_eq_true_eq] at hk hv
    exact ⟨hk.2.2, hv.2⟩
  · omega
theorem rgt_keys {l : List A} (h : rgtE l = 0) : l.length ≤ 8 ∧ ∀ y ∈ l, goodK y.1 ∧ y.1.size ≤ 32 ∧ y.2.size ≤ 64 := by
  unfold rgtE at h
  split at h
  · rename_i hb
    obtain ⟨h1, h2⟩ := of_decide_eq_true hb
    refine ⟨h1, fun x hx => ?_⟩
    obtain ⟨i, hi, rfl⟩ := List.getElem_of_mem hx
    have h3 := h2 i hi
    unfold rgtOne at h3
    rw [Bool.and_eq_true, Bool.and_eq_true] at h3
    have hk := h3.1.1
    have hv := h3.1.2
    refine ⟨goodK_of hk, ?_⟩
    unfold keyB at hk
    unfold valNE valB at hv
    simp only [Bool.and_eq_true, decide_eq_true_eq] at hk hv
    exact ⟨hk.2.2, hv.2.2⟩
  · omega
theorem none_of {s : ByteArray} (h : s.size = 0) : s = none0 := ba_eq (List.length_eq_zero_iff.1 (show s.data.toList.length = 0 from h))
theorem attrs_of {o : OpD} (h : opE o = 0) : o.attrs.length ≤ 8 ∧ ∀ y ∈ o.attrs, goodK y.1 ∧ y.1.size ≤ 32 ∧ y.2.size ≤ 64 := by
  rcases opE_kind h with k | k | k
  · exact chg_keys ((opE_keep k).1 h).2.2
  · exact rgt_keys ((opE_put k).1 h).2.2.2
  · have := ((opE_cut k).1 h).2.2
    rw [List.length_eq_zero_iff.1 this]
    exact ⟨Nat.zero_le _, fun y hy => by cases hy⟩
theorem goodO_of {f : Int} {ops : List OpD} (h : OkC f ops) {o : OpD} (ho : o ∈ ops) : GoodO o := by
  have hv := vop_of h ho
  have he := h.2.2.2.1 o ho
  refine ⟨hv.n0, by have := hv.n1; omega, hv.kind, fun y hy => ((attrs_of he).2 y hy).1, fun k => ?_, fun k => ((opE_put k).1 he).1, fun k => List.length_eq_zero_iff.1 ((opE_cut k).1 he).2.2⟩
  rcases hv.kind with k1 | k1 | k1
  · exact none_of ((opE_keep k1).1 he).2.1
  · exact absurd k1 k
  · exact none_of ((opE_cut k1).1 he).2.1

/-! How long -/
theorem qb_len (b : UInt8) : (qb b).length ≤ 4 := by
  unfold qb
  split
  · simp
  · split
    · simp
    · split <;> simp
theorem qt_len (l : List UInt8) : (qt l).length ≤ 4 * l.length + 2 := by
  have : (l.flatMap qb).length ≤ 4 * l.length := by
    induction l with
    | nil => simp
    | cons b l ih =>
      have := qb_len b
      simp only [List.flatMap_cons, List.length_append, List.length_cons]; omega
  simp only [qt, List.length_cons, List.length_append, List.length_nil]; omega
theorem itoa_len {n : Int} (h : 0 ≤ n) (h1 : n ≤ 20000) : (itoa n).length ≤ 5 := by
  rw [itoa_n h]
  exact dec_len 4 n.toNat (by omega)
theorem pAttr_len {x : A} (h1 : x.1.size ≤ 32) (h2 : x.2.size ≤ 64) : (pAttr x).length ≤ 291 := by
  have := qt_len x.2.data.toList
  rw [size_data] at h1 h2
  simp only [pAttr, List.length_append, List.length_cons]; omega
theorem pMore_le {l : List A} (h : ∀ y ∈ l, y.1.size ≤ 32 ∧ y.2.size ≤ 64) : (pMore l).length ≤ 292 * l.length + 1 := by
  induction l with
  | nil => simp [pMore]
  | cons x l ih =>
    have h1 := ih fun y hy => h y (List.mem_cons_of_mem _ hy)
    have h2 := pAttr_len (h x (List.mem_cons_self ..)).1 (h x (List.mem_cons_self ..)).2
    simp [pMore] at h1 ⊢
    omega
theorem pAttrs_le {l : List A} (h0 : l.length ≤ 8) (h : ∀ y ∈ l, y.1.size ≤ 32 ∧ y.2.size ≤ 64) : (pAttrs l).length ≤ 2400 := by
  cases l with
  | nil => simp [pAttrs]
  | cons x l =>
    have h1 := pMore_le (l := l) fun y hy => h y (List.mem_cons_of_mem _ hy)
    have h2 := pAttr_len (h x (List.mem_cons_self ..)).1 (h x (List.mem_cons_self ..)).2
    simp [pAttrs] at h0 ⊢
    omega
theorem pOp_le {f : Int} {ops : List OpD} (h : OkC f ops) {o : OpD} (ho : o ∈ ops) : (pOp o).length ≤ 400000 := by
  have hv := vop_of h ho
  have he := h.2.2.2.1 o ho
  have h1 := pAttrs_le (attrs_of he).1 fun y hy => ((attrs_of he).2 y hy).2
  have h2 := itoa_len hv.n0 hv.n1
  have h3 := qt_len o.text.data.toList
  have h4 := hv.text
  rw [size_data] at h4
  have h5 : (pKind o).length ≤ 320010 := by
    unfold pKind
    split
    · simp; omega
    · split
      · simp; omega
      · split
        · simp; omega
        · simp
  simp [pOp]; omega
theorem pOps_le {k : Nat} (l : List OpD) (h : ∀ o ∈ l, (pOp o).length ≤ k) : (l.flatMap pOp).length ≤ k * l.length := by
  induction l with
  | nil => simp
  | cons x l ih =>
    have h1 := ih fun y hy => h y (List.mem_cons_of_mem _ hy)
    have h2 := h x (List.mem_cons_self ..)
    simp only [List.flatMap_cons, List.length_append, List.length_cons, Nat.mul_add, Nat.mul_one]; omega
theorem pCh_le {f : Int} {ops : List OpD} (h : OkC f ops) : (itoa f).length ≤ 5 ∧ (ops.flatMap pOp).length ≤ 800000000 := by
  have h1 := pOps_le (k := 400000) ops fun o ho => pOp_le h ho
  exact ⟨itoa_len h.1 h.2.1, by have := h.2.2.1; omega⟩

/-! All is read -/
theorem says_le {α : Type} {p : List UInt8 → R α} {pr : α → List UInt8} (hp : Says p pr) {l : List UInt8} {v : α} {n : Nat} (h : p l = .ok v n) : n ≤ l.length := by
  obtain ⟨h1, h2⟩ := hp _ _ _ h
  have := congrArg List.length h1
  rw [List.length_append] at this
  omega
theorem ops_end (f : Nat) : ∀ {l : List UInt8} {v : List OpD} {n : Nat}, ops f l = .ok v n → n = l.length := by
  induction f with
  | zero => intro l v n h; cases h
  | succ f ih =>
    intro l v n h
    unfold ops at h
    split at h
    · rename_i h1
      simp only [R.ok.injEq] at h
      rw [h1, ← h.2]; rfl
    · obtain ⟨u, i, j, h1, h2, rfl⟩ := bnd_inv h
      obtain ⟨o, i2, j2, h3, h4, rfl⟩ := bnd_inv h2
      obtain ⟨r, i3, j3, h5, h6, rfl⟩ := bnd_inv h4
      simp only [ret, R.ok.injEq] at h6
      have a1 := says_le (says_must 32) h1
      have a2 := says_le says_op h3
      have a3 := ih h5
      rw [List.length_drop] at a2 a3
      rw [List.length_drop] at a3
      omega
theorem change_end {l : List UInt8} {v : Nat × List OpD} {n : Nat} (h : change l = .ok v n) : n = l.length := by
  obtain ⟨u, i, j, h1, h2, rfl⟩ := bnd_inv h
  obtain ⟨r, i2, j2, h3, h4, rfl⟩ := bnd_inv h2
  simp only [ret, R.ok.injEq] at h4
  have a1 := says_le says_number h1
  have a2 := ops_end _ h3
  rw [List.length_drop] at a2
  omega
theorem change_says {l : List UInt8} {v : Nat × List OpD} {n : Nat} (h : change l = .ok v n) : pCh v.1 v.2 = l := by
  have h1 := (says_change _ _ _ h).1
  rw [change_end h, List.drop_length, List.append_nil] at h1
  exact h1.symm

/-! What the functions come to -/
/-- Print: the code, the text. -/
def printF (f : Int) (ops : List OpD) : Int × List UInt8 := if toE f ops ≠ 0 then (toE f ops, []) else if 262144 < (pCh f (norm ops)).length then (3, []) else (0, pCh f (norm ops))
/-- Parse: the fault's code, its place, the changeset. -/
structure PF where
  code : Int
  at_ : Int
  fr : Int
  ops : List OpD
def parseR : R (Nat × List OpD) → PF
  | .bad k => ⟨40, k, 0, []⟩
  | .ok c _ => if toE c.1 c.2 ≠ 0 then ⟨toE c.1 c.2, -1, 0, []⟩ else if c.2 = norm c.2 then ⟨0, 0, c.1, c.2⟩ else ⟨40, -1, 0, []⟩
def parseF (s : List UInt8) : PF := if 262144 < s.length then ⟨2, -1, 0, []⟩ else parseR (change s)
/-- Read: the fault's code, its place, the text, its end. -/
structure RF where
  code : Int
  at_ : Int
  text : List UInt8
  fin : Int
def readR (a : Nat) : R (List UInt8) → RF
  | .bad k => ⟨40, ((a + k : Nat) : Int), [], 0⟩
  | .ok v n => ⟨0, 0, v, ((a + n : Nat) : Int)⟩
def readF (s : List UInt8) (at_ : Int) : RF := if at_ < 0 ∨ (s.length : Int) < at_ then ⟨1, -1, [], 0⟩ else readR at_.toNat (quoted (s.drop at_.toNat))

theorem change_norm {f : Int} {ops : List OpD} (h : toE f ops = 0) : change (pCh f (norm ops)) = .ok (f.toNat, norm ops) (pCh f (norm ops)).length := by
  have h1 := (toE_iff f ops).1 h
  have h2 := (norm_ok h1).1
  exact change_p h1.1 (by have := h1.2.1; omega) fun o ho => goodO_of h2 ho
theorem parse_norm {f : Int} {ops : List OpD} (h : toE f ops = 0) (hl : (pCh f (norm ops)).length ≤ 262144) : parseF (pCh f (norm ops)) = ⟨0, 0, f, norm ops⟩ := by
  have h1 := (toE_iff f ops).1 h
  have hf : (f.toNat : Int) = f := Int.toNat_of_nonneg h1.1
  unfold parseF
  rw [if_neg (by omega), change_norm h]
  unfold parseR
  simp only
  rw [hf, if_neg (by rw [(norm_to h).1]; simp), if_pos (norm_norm h1).symm]
/-- What Print wrote, Parse reads. -/
theorem print_parse {f : Int} {ops : List OpD} (h : (printF f ops).1 = 0) : toE f ops = 0 ∧ parseF (printF f ops).2 = ⟨0, 0, f, norm ops⟩ := by
  unfold printF at h ⊢
  by_cases h1 : toE f ops = 0
  · rw [if_neg (by rw [h1]; simp)] at h ⊢
    by_cases h2 : 262144 < (pCh f (norm ops)).length
    · rw [if_pos h2] at h; simp at h
    · rw [if_neg h2]
      exact ⟨h1, parse_norm h1 (by omega)⟩
  · rw [if_pos (by simpa using h1)] at h
    exact absurd h h1
theorem print_bad {f : Int} {ops : List OpD} (h : (printF f ops).1 ≠ 0) : (printF f ops).2 = [] ∧ ((printF f ops).1 = toE f ops ∨ toE f ops = 0 ∧ (printF f ops).1 = 3) := by
  unfold printF at h ⊢
  by_cases h1 : toE f ops = 0
  · rw [if_neg (by rw [h1]; simp)] at h ⊢
    by_cases h2 : 262144 < (pCh f (norm ops)).length
    · rw [if_pos h2]; exact ⟨rfl, .inr ⟨h1, rfl⟩⟩
    · rw [if_neg h2] at h; simp at h
  · rw [if_pos (by simpa using h1)]
    exact ⟨rfl, .inl rfl⟩
/-- What Parse read, Print writes. -/
theorem parse_print {s : List UInt8} (h : (parseF s).code = 0) : toE (parseF s).fr (parseF s).ops = 0 ∧ (parseF s).ops = norm (parseF s).ops ∧ printF (parseF s).fr (parseF s).ops = (0, s) ∧ s.length ≤ 262144 := by
  unfold parseF at h ⊢
  by_cases h1 : 262144 < s.length
  · rw [if_pos h1] at h; simp at h
  · rw [if_neg h1] at h ⊢
    cases hc : change s with
    | bad k => rw [hc] at h; simp [parseR] at h
    | ok c n =>
      rw [hc] at h
      unfold parseR at h ⊢
      simp only at h ⊢
      by_cases h2 : toE c.1 c.2 = 0
      · rw [if_neg (by rw [h2]; simp)] at h ⊢
        by_cases h3 : c.2 = norm c.2
        · rw [if_pos h3]
          refine ⟨h2, h3, ?_, by omega⟩
          unfold printF
          simp only
          rw [if_neg (by rw [h2]; simp), ← h3, change_says hc, if_neg h1]
        · rw [if_neg h3] at h; simp at h
      · rw [if_pos (by simpa using h2)] at h
        simp only at h
        exact absurd h h2
theorem parse_bad {s : List UInt8} (h : (parseF s).code ≠ 0) : (parseF s).fr = 0 ∧ (parseF s).ops = [] := by
  unfold parseF at h ⊢
  split
  · exact ⟨rfl, rfl⟩
  · rename_i h1
    rw [if_neg h1] at h
    cases hc : change s with
    | bad k => exact ⟨rfl, rfl⟩
    | ok c n =>
      rw [hc] at h
      unfold parseR at h ⊢
      simp only at h ⊢
      split
      · exact ⟨rfl, rfl⟩
      · rename_i h2
        rw [if_neg h2] at h
        split
        · rename_i h3
          rw [if_pos h3] at h; simp at h
        · exact ⟨rfl, rfl⟩
/-- A text in quotes is read wherever it stands. -/
theorem read_qt (b s r : List UInt8) : readF (b ++ (qt s ++ r)) (b.length : Int) = ⟨0, 0, s, ((b.length + (qt s).length : Nat) : Int)⟩ := by
  unfold readF
  rw [if_neg (by simp only [List.length_append, Int.natCast_add]; omega), Int.toNat_natCast, List.drop_left, quoted_qt]
  rfl
/-- One text, one normal form. -/
theorem print_inj {f g : Int} {l m : List OpD} (h1 : (printF f l).1 = 0) (h2 : (printF g m).1 = 0) : (f = g ∧ norm l = norm m) ↔ (printF f l).2 = (printF g m).2 := by
  obtain ⟨a1, a2⟩ := print_parse h1
  obtain ⟨b1, b2⟩ := print_parse h2
  constructor
  · rintro ⟨rfl, h3⟩
    unfold printF
    rw [a1, b1, h3]
  · intro h3
    rw [h3, b2] at a2
    simp only [PF.mk.injEq] at a2
    exact ⟨a2.2.2.1.symm, a2.2.2.2.symm⟩

/-! One line, no control bytes -/
theorem hexd_plain {n : Nat} (h : n < 16) : ctl (hexd n) = false := by
  have : ∀ n < 16, ctl (hexd n) = false := by decide
  exact this n h
theorem qb_plain (b : UInt8) : ∀ x ∈ qb b, ctl x = false := by
  have hb := b_lt b
  unfold qb
  intro x hx
  split at hx
  · simp at hx; rcases hx with rfl | rfl <;> rfl
  · split at hx
    · simp at hx
      rcases hx with rfl | rfl | rfl | rfl
      · rfl
      · rfl
      · exact hexd_plain (by omega)
      · exact hexd_plain (by omega)
    · rename_i h2
      split at hx
      · simp at hx
        rcases hx with rfl | rfl
        · rfl
        · exact Bool.eq_false_iff.2 h2
      · simp at hx; subst hx; exact Bool.eq_false_iff.2 h2
theorem qt_plain (l : List UInt8) : ∀ x ∈ qt l, ctl x = false := by
  intro x hx
  simp only [qt, List.mem_cons, List.mem_append, List.mem_flatMap, List.not_mem_nil, or_false] at hx
  rcases hx with rfl | ⟨b, _, hb⟩ | rfl
  · rfl
  · exact qb_plain b x hb
  · rfl

/-! One insert -/
theorem change_one (s : List UInt8) : change (48 :: 32 :: 43 :: qt s) = .ok (0, [⟨2, 0, ba s, []⟩]) (3 + (qt s).length) := by
  have h : ∀ o ∈ [(⟨2, 0, ba s, []⟩ : OpD)], GoodO o := by
    intro o ho
    obtain rfl := List.mem_singleton.1 ho
    exact ⟨Int.le_refl _, by show (0 : Int) < _; decide, .inr (.inl rfl), fun y hy => (by cases hy), fun h => absurd rfl h, fun _ => rfl, fun h => absurd (show (2 : Int) = 3 from h) (by decide)⟩
  have e : pCh 0 [⟨2, 0, ba s, []⟩] = 48 :: 32 :: 43 :: qt s := by
    have e1 : itoa 0 = [48] := by rw [itoa_n (Int.le_refl _), decDigits]; rfl
    simp [pCh, e1, pOp, pKind, pAttrs, data_ba]
  have := change_p (f := 0) (l := [⟨2, 0, ba s, []⟩]) (Int.le_refl _) (by decide) h
  rw [e] at this
  rw [this]
  simp; omega
theorem norm_one (t : ByteArray) : norm [⟨2, 0, t, []⟩] = [⟨2, 0, t, []⟩] := by
  simp [norm, fold, add, flush, put, trim]
theorem parse_one (s : List UInt8) (h : (qt s).length ≤ 262141) : parseF (48 :: 32 :: 43 :: qt s) = if toE 0 [⟨2, 0, ba s, []⟩] = 0 then ⟨0, 0, 0, [⟨2, 0, ba s, []⟩]⟩ else ⟨toE 0 [⟨2, 0, ba s, []⟩], -1, 0, []⟩ := by
  unfold parseF
  rw [if_neg (by simp; omega), change_one]
  unfold parseR
  simp only [norm_one]
  by_cases h1 : toE 0 [⟨2, 0, ba s, []⟩] = 0
  · rw [if_pos h1, if_neg (by simpa using h1)]; simp
  · rw [if_neg h1, if_pos (by simpa using h1)]; rfl
theorem toE_empty : toE 0 [⟨2, 0, ba [], []⟩] = 30 := by decide +kernel
end Sp
end Go.Proofs.YtadookafnfnaoaaGreatDoor
/- The reader: its block in memory; what its smallest methods do. -/
namespace Go.Proofs.YtadookafnfnaoaaGreatDoor
open Go.RowKit Ch

abbrev RT : TypeId := 72
/-- The reader in block b: at a of the text s. -/
def RdAt (w : World) (b : Nat) (s : ByteArray) (a : Nat) : Prop := w.heap[b]? = some (.cells #[.string s, .int .i64 a] 72 (0, 0)) ∧ a ≤ s.size ∧ s.size ≤ maxLen
def rst (s : ByteArray) (a : Nat) : List UInt8 := s.data.toList.drop a
theorem rst_cons {s : ByteArray} {a : Nat} (h : a < s.size) : rst s a = s[a] :: rst s (a + 1) := by
  unfold rst
  rw [List.drop_eq_getElem_cons (by simpa using h)]
  rfl
theorem rst_nil {s : ByteArray} {a : Nat} (h : s.size ≤ a) : rst s a = [] := List.drop_eq_nil_of_le (by simpa using h)
theorem rst_drop (s : ByteArray) (a n : Nat) : (rst s a).drop n = rst s (a + n) := by unfold rst; rw [List.drop_drop]
/-- What a reader throws. -/
abbrev thrown (k : Nat) : Ending := .panicked [{ v := .iface 106 (.int .i64 k), recovered := false }]
structure RdOk (b : Nat) (s : ByteArray) (a : Nat) (w w' : World) : Prop where
  at_ : RdAt w' b s a
  keep : Keep b [RT] w w'

def RdGo {α : Type} (b : Nat) (s : ByteArray) (a : Nat) (x : Sp.R α) (val : α → World → Value → Prop) (w : World) (e : Ending) (w' : World) : Prop :=
  match x with
  | .ok v n => ∃ u, e = .returned u ∧ val v w' u ∧ RdOk b s (a + n) w w'
  | .bad k => e = thrown (a + k) ∧ Keep b [RT] w w'

theorem RdAt.keep {w w' : World} {b : Nat} {s : ByteArray} {a : Nat} (h : RdAt w b s a) (hk : w'.heap[b]? = w.heap[b]?) : RdAt w' b s a := ⟨hk.trans h.1, h.2⟩
theorem keep_drewN {B : Nat} {ts : List TypeId} {a w : World} (h : Keep B ts a w) (n : Nat) : Keep B ts a (w.drewN n) := ⟨below_drewN h.below n, fun i o hi ho => by rw [← h.all i o hi ho]; rfl⟩

theorem b_beq (x y : UInt8) : ((x.toNat : Int) == (y.toNat : Int)) = decide (x = y) := by
  by_cases h : x = y
  · subst h; simp
  · rw [decide_eq_false h, beq_eq_false_iff_ne]
    exact fun e => h (Sp.b_eq.2 (by omega))

set_option maxHeartbeats 1000000 in
theorem sees_any (b : Nat) (s : ByteArray) (a : Nat) (c : UInt8) (w : World) (h : RdAt w b s a) :
    Calls Tryz.prog 68 #[.pointer (some ⟨b, 0, none⟩), .int .u8 c.toNat] w fun e w' => e = .returned (.bool (decide ((rst s a).head? = some c))) ∧ ∃ n, w' = w.drewN n := by
  obtain ⟨h0, h1, h2⟩ := h
  have h2' : s.size ≤ 9223372036854775807 := h2
  have c0 : w.cell? ⟨b, 0, none⟩ = some (.string s) := (Lib.cell_of_heap h0 0).trans rfl
  have c1 : w.cell? ⟨b, 1, none⟩ = some (.int .i64 a) := (Lib.cell_of_heap h0 1).trans rfl
  by_cases hlt : a < s.size
  · have hlt' : (a : Int) < (s.size : Int) := by omega
    have Hr := Lib.hid (rst_cons hlt)
    go_enter Tryz.func68, Tryz.ntmps68
    go_wp2_with fail
    go_quiet (fail)
    go_wp2_with fail
    go_ret
    refine ⟨?_, _, rfl⟩
    rw [Hr.out]
    refine congrArg (fun b => Ending.returned (Value.bool b)) ?_
    simp only [List.head?_cons, Option.some.injEq]
    exact b_beq _ _
  · have hlt' : ¬ (a : Int) < (s.size : Int) := by omega
    have Hr := Lib.hid (rst_nil (s := s) (a := a) (by omega))
    go_enter Tryz.func68, Tryz.ntmps68
    go_wp2_with fail
    go_quiet (fail)
    go_wp2_with fail
    go_ret
    refine ⟨?_, _, rfl⟩
    rw [Hr.out]
    rfl

theorem RdAt.drewN {w : World} {b : Nat} {s : ByteArray} {a : Nat} (h : RdAt w b s a) (n : Nat) : RdAt (w.drewN n) b s a := h
/-- The reader goes on. -/
theorem RdAt.step {w : World} {b : Nat} {s : ByteArray} {a : Nat} (h : RdAt w b s a) (k : Nat) (hk : k ≤ s.size) : RdAt (w.setCell ⟨b, 1, none⟩ (.int .i64 k)) b s k ∧ Keep b [RT] w (w.setCell ⟨b, 1, none⟩ (.int .i64 k)) :=
  ⟨⟨(Joins.block_setCell h.1 _).trans rfl, hk, h.2.2⟩, keep_set h.1 (List.mem_singleton.2 rfl) (Nat.le_refl _) _ rfl _⟩
theorem RdAt.free {w : World} {b : Nat} {s : ByteArray} {a : Nat} (h : RdAt w b s a) (i : Nat) : w.frozen? ⟨b, i, none⟩ = false := Joins.unfrozen_of_block h.1 i
theorem RdAt.c0 {w : World} {b : Nat} {s : ByteArray} {a : Nat} (h : RdAt w b s a) : w.cell? ⟨b, 0, none⟩ = some (.string s) := (Lib.cell_of_heap h.1 0).trans rfl
theorem RdAt.c1 {w : World} {b : Nat} {s : ByteArray} {a : Nat} (h : RdAt w b s a) : w.cell? ⟨b, 1, none⟩ = some (.int .i64 a) := (Lib.cell_of_heap h.1 1).trans rfl
theorem rst_head {s : ByteArray} {a : Nat} {x : UInt8} {t : List UInt8} (h : rst s a = x :: t) : ∃ hlt : a < s.size, s[a] = x ∧ t = rst s (a + 1) := by
  rcases Nat.lt_or_ge a s.size with hlt | hge
  · rw [rst_cons hlt] at h
    simp only [List.cons.injEq] at h
    exact ⟨hlt, h.1, h.2.symm⟩
  · rw [rst_nil hge] at h; cases h
theorem head_lt {s : ByteArray} {a : Nat} {x : UInt8} (h : (rst s a).head? = some x) : a < s.size := by
  rcases Nat.lt_or_ge a s.size with hlt | hge
  · exact hlt
  · rw [rst_nil hge] at h; cases h

set_option maxHeartbeats 1000000 in
theorem must_ok (b : Nat) (s : ByteArray) (a : Nat) (c : UInt8) (w : World) (h : RdAt w b s a) (hd : (rst s a).head? = some c) :
    Calls Tryz.prog 67 #[.pointer (some ⟨b, 0, none⟩), .int .u8 c.toNat] w fun e w' => e = .returned (.tuple #[]) ∧ RdAt w' b s (a + 1) ∧ Keep b [RT] w w' := by
  have hlt := head_lt hd
  have H := Lib.hid h
  have h2' : s.size ≤ 9223372036854775807 := h.2.2
  have HS := Lib.hid (sees_any b s a c w h)
  have hd' : decide ((rst s a).head? = some c) = true := decide_eq_true hd
  have c1 := h.c1
  have f1 := h.free 1
  clear h hd
  go_enter Tryz.func67, Tryz.ntmps67
  go_wp2_with fail
  refine HS.out.mono ?_
  rintro e w1 ⟨rfl, n, rfl⟩
  rw [hd']
  go_wp2_with fail
  go_end0
  refine ⟨rfl, ?_⟩
  obtain ⟨g1, g2⟩ := (H.out.drewN n).step (a + 1) hlt
  exact ⟨g1, (keep_drewN (Keep.refl _ _ _) n).trans g2⟩
set_option maxHeartbeats 1000000 in
theorem must_bad (b : Nat) (s : ByteArray) (a : Nat) (c : UInt8) (w : World) (h : RdAt w b s a) (hd : ¬ (rst s a).head? = some c) :
    Calls Tryz.prog 67 #[.pointer (some ⟨b, 0, none⟩), .int .u8 c.toNat] w fun e w' => e = thrown a ∧ Keep b [RT] w w' := by
  have HS := Lib.hid (sees_any b s a c w h)
  have hd' : decide ((rst s a).head? = some c) = false := decide_eq_false hd
  have c1 := h.c1
  clear h hd
  go_enter Tryz.func67, Tryz.ntmps67
  go_wp2_with fail
  refine HS.out.mono ?_
  rintro e w1 ⟨rfl, n, rfl⟩
  rw [hd']
  go_wp2_with fail
  exact ⟨rfl, rfl, keep_drewN (Keep.refl _ _ _) n⟩

set_option maxHeartbeats 1000000 in
theorem take_ok (b : Nat) (s : ByteArray) (a : Nat) (x : UInt8) (t : List UInt8) (w : World) (h : RdAt w b s a) (hd : rst s a = x :: t) :
    Calls Tryz.prog 90 #[.pointer (some ⟨b, 0, none⟩)] w fun e w' => e = .returned (.int .u8 x.toNat) ∧ RdAt w' b s (a + 1) ∧ Keep b [RT] w w' := by
  obtain ⟨hlt, hx, ht⟩ := rst_head hd
  have H := Lib.hid h
  have h2' : s.size ≤ 9223372036854775807 := h.2.2
  have hne : ((a : Int) == (s.size : Int)) = false := by rw [beq_eq_false_iff_ne]; omega
  have hlt' : (a : Int) < (s.size : Int) := by omega
  have c0 := h.c0
  have c1 := h.c1
  have f1 := h.free 1
  have HX := Lib.hid hx
  clear h hd hx ht
  go_enter Tryz.func90, Tryz.ntmps90
  go_wp2_with fail
  go_quiet (fail)
  go_wp2_with fail
  go_quiet (fail)
  go_wp2_with fail
  go_ret
  refine ⟨congrArg (fun c : UInt8 => Ending.returned (.int .u8 c.toNat)) HX.out, ((H.out.drewN _).step (a + 1) hlt).1.drewN _, keep_drewN ((keep_drewN (Keep.refl _ _ _) _).trans ((H.out.drewN _).step (a + 1) hlt).2) _⟩
theorem take_bad (b : Nat) (s : ByteArray) (a : Nat) (w : World) (h : RdAt w b s a) (hd : rst s a = []) :
    Calls Tryz.prog 90 #[.pointer (some ⟨b, 0, none⟩)] w fun e w' => e = thrown a ∧ Keep b [RT] w w' := by
  have he : a = s.size := by
    rcases Nat.lt_or_ge a s.size with hlt | hge
    · rw [rst_cons hlt] at hd; cases hd
    · exact Nat.le_antisymm h.2.1 hge
  have hne : ((a : Int) == (s.size : Int)) = true := by rw [beq_iff_eq]; omega
  have c0 := h.c0
  have c1 := h.c1
  have h2' : s.size ≤ 9223372036854775807 := h.2.2
  clear h hd he
  go_enter Tryz.func90, Tryz.ntmps90
  go_wp2_with fail
  go_quiet (fail)
  go_wp2_with fail
  exact ⟨rfl, rfl, keep_drewN (Keep.refl _ _ _) _⟩

theorem control_any (x : UInt8) (w : World) : Calls Tryz.prog 64 #[.int .u8 x.toNat] w fun e w' => e = .returned (.bool (Sp.ctl x)) ∧ w' = w := by
  have hx := Sp.b_lt x
  obtain ⟨q, hq⟩ : ∃ q, q = Sp.ctl x := ⟨_, rfl⟩
  rw [← hq]
  have Hq := Lib.hid hq
  clear hq
  go_enter Tryz.func64, Tryz.ntmps64
  go_wp2_with fail
  all_goals
    go_ret
    refine ⟨congrArg (fun b => Ending.returned (Value.bool b)) ?_, by trivial⟩
    rw [Hq.out]
    clear Hq
    unfold Sp.ctl
    generalize x.toNat = n at *
    rw [Bool.eq_iff_iff]
    simp
    try omega
theorem digit_any (x : UInt8) (w : World) : Calls Tryz.prog 94 #[.int .u8 x.toNat] w fun e w' => e = .returned (.bool (Sp.dig x)) ∧ w' = w := by
  have hx := Sp.b_lt x
  obtain ⟨q, hq⟩ : ∃ q, q = Sp.dig x := ⟨_, rfl⟩
  rw [← hq]
  have Hq := Lib.hid hq
  clear hq
  go_enter Tryz.func94, Tryz.ntmps94
  go_wp2_with fail
  all_goals
    go_ret
    refine ⟨congrArg (fun b => Ending.returned (Value.bool b)) ?_, by trivial⟩
    rw [Hq.out]
    clear Hq
    unfold Sp.dig
    generalize x.toNat = n at *
    rw [Bool.eq_iff_iff]
    simp
    try omega
theorem keyByte_any (x : UInt8) (w : World) : Calls Tryz.prog 129 #[.int .u8 x.toNat] w fun e w' => e = .returned (.bool (Sp.kb x)) ∧ w' = w := by
  have hx := Sp.b_lt x
  obtain ⟨q, hq⟩ : ∃ q, q = Sp.kb x := ⟨_, rfl⟩
  rw [← hq]
  have Hq := Lib.hid hq
  clear hq
  go_enter Tryz.func129, Tryz.ntmps129
  go_wp2
  all_goals
    go_ret
    refine ⟨congrArg (fun b => Ending.returned (Value.bool b)) ?_, by trivial⟩
    rw [Hq.out]
    clear Hq
    unfold Sp.kb
    generalize x.toNat = n at *
    rw [Bool.eq_iff_iff]
    simp
    try omega

end Go.Proofs.YtadookafnfnaoaaGreatDoor
/- The reader's digit16, inside. -/
namespace Go.Proofs.YtadookafnfnaoaaGreatDoor
open Go.RowKit Ch

theorem rdgo_ok {α : Type} {b : Nat} {s : ByteArray} {a : Nat} {x : Sp.R α} {val : α → World → Value → Prop} {w w' : World} {v : α} {n : Nat} {u : Value} {e : Ending} (hx : x = .ok v n) (he : e = .returned u) (hv : val v w' u) (h1 : RdAt w' b s (a + n)) (h2 : Keep b [RT] w w') :
    RdGo b s a x val w e w' := by
  rw [hx]; exact ⟨u, he, hv, h1, h2⟩
theorem rdgo_bad {α : Type} {b : Nat} {s : ByteArray} {a : Nat} {x : Sp.R α} {val : α → World → Value → Prop} {w w' : World} {k : Nat} {e : Ending} (hx : x = .bad k) (he : e = thrown (a + k)) (h2 : Keep b [RT] w w') :
    RdGo b s a x val w e w' := by
  rw [hx]; exact ⟨he, h2⟩
theorem RdGo.ok {α : Type} {b : Nat} {s : ByteArray} {a : Nat} {x : Sp.R α} {val : α → World → Value → Prop} {w w' : World} {v : α} {n : Nat} {e : Ending} (h : RdGo b s a x val w e w') (hx : x = .ok v n) : ∃ u, e = .returned u ∧ val v w' u ∧ RdAt w' b s (a + n) ∧ Keep b [RT] w w' := by
  rw [hx] at h
  obtain ⟨u, h1, h2, h3, h4⟩ := h
  exact ⟨u, h1, h2, h3, h4⟩
theorem RdGo.bad {α : Type} {b : Nat} {s : ByteArray} {a : Nat} {x : Sp.R α} {val : α → World → Value → Prop} {w w' : World} {k : Nat} {e : Ending} (h : RdGo b s a x val w e w') (hx : x = .bad k) : e = thrown (a + k) ∧ Keep b [RT] w w' := by
  rw [hx] at h
  exact h

theorem dig16_cases (l : List UInt8) : (l = [] ∧ Sp.digit16 l = .bad 0) ∨ (∃ x t, l = x :: t ∧ Sp.hexv x = none ∧ Sp.digit16 l = .bad 0) ∨ ∃ x t n, l = x :: t ∧ Sp.hexv x = some n ∧ Sp.digit16 l = .ok n 1 := by
  cases l with
  | nil => exact .inl ⟨rfl, rfl⟩
  | cons x t =>
    cases h : Sp.hexv x with
    | none => exact .inr (.inl ⟨x, t, rfl, h, Sp.digit16_bad h t⟩)
    | some n => exact .inr (.inr ⟨x, t, n, rfl, h, Sp.digit16_ok h t⟩)
theorem hexv_hi {x : UInt8} (h1 : (97 : Int) ≤ x.toNat) (h2 : (x.toNat : Int) ≤ 102) : Sp.hexv x = some (x.toNat - 87) := by
  unfold Sp.hexv; rw [if_neg (by omega), if_pos (by omega)]
theorem hexv_lo {x : UInt8} (h1 : (48 : Int) ≤ x.toNat) (h2 : (x.toNat : Int) ≤ 57) : Sp.hexv x = some (x.toNat - 48) := by
  unfold Sp.hexv; rw [if_pos (by omega)]
theorem hexv_no {x : UInt8} (h1 : ¬ ((48 : Int) ≤ x.toNat ∧ (x.toNat : Int) ≤ 57)) (h2 : ¬ ((97 : Int) ≤ x.toNat ∧ (x.toNat : Int) ≤ 102)) : Sp.hexv x = none := by
  unfold Sp.hexv; rw [if_neg (by omega), if_neg (by omega)]

abbrev valN : Nat → World → Value → Prop := fun n _ u => u = .int .u8 (n : Int)
abbrev valC : UInt8 → World → Value → Prop := fun n _ u => u = .int .u8 (n.toNat : Int)

theorem inside_ctl {x : UInt8} (h : Sp.ctl x = true) (t : List UInt8) : Sp.inside (x :: t) = .bad 0 := by simp [Sp.inside, h]
theorem inside_plain {x : UInt8} (h : Sp.ctl x = false) (h9 : x ≠ 92) (t : List UInt8) : Sp.inside (x :: t) = .ok x 1 := by simp [Sp.inside, h, h9]
theorem inside_end : Sp.inside [92] = .bad 1 := rfl
theorem inside_same {c : UInt8} (h : c = 34 ∨ c = 92) (t : List UInt8) : Sp.inside (92 :: c :: t) = .ok c 2 := by rcases h with rfl | rfl <;> rfl
theorem inside_line (t : List UInt8) : Sp.inside (92 :: 110 :: t) = .ok 10 2 := rfl
theorem inside_hex (t : List UInt8) : Sp.inside (92 :: 120 :: t) = Sp.hexes t := rfl
theorem inside_else {c : UInt8} (h1 : c ≠ 34) (h2 : c ≠ 92) (h3 : c ≠ 110) (h4 : c ≠ 120) (t : List UInt8) : Sp.inside (92 :: c :: t) = .bad 1 := by
  have e : Sp.ctl 92 = false := rfl
  simp [Sp.inside, e, h1, h2, h3, h4]
theorem b_is {x c : UInt8} {n : Int} (hc : (c.toNat : Int) = n) (h : x = c) : ((x.toNat : Int) == n) = true := by subst h; rw [hc]; exact beq_self_eq_true n
theorem b_not {x c : UInt8} {n : Int} (hc : (c.toNat : Int) = n) (h : x ≠ c) : ((x.toNat : Int) == n) = false := by
  rw [beq_eq_false_iff_ne, ← hc]; exact fun e => h (Sp.b_eq.2 (by omega))

theorem or_hex : ∀ n < 16, ∀ m < 16, bits BinOp.or IntKind.u8 ((n : Nat) * 16 : Int) ((m : Nat) : Int) = ((UInt8.ofNat (n * 16 + m)).toNat : Int) := by decide +kernel
theorem hexes_in (x y : UInt8) (t : List UInt8) {n m : Nat} (h1 : Sp.digit16 (x :: y :: t) = .ok n 1) (h2 : Sp.digit16 (y :: t) = .ok m 1) (hc : Sp.ctl (UInt8.ofNat (n * 16 + m)) = true) (h10 : UInt8.ofNat (n * 16 + m) ≠ 10) : Sp.hexes (x :: y :: t) = .ok (UInt8.ofNat (n * 16 + m)) 4 := by
  unfold Sp.hexes
  rw [h1]
  simp only [List.drop_succ_cons, List.drop_zero]
  rw [h2]
  simp only
  rw [if_pos ⟨hc, h10⟩]
theorem hexes_out (x y : UInt8) (t : List UInt8) {n m : Nat} (h1 : Sp.digit16 (x :: y :: t) = .ok n 1) (h2 : Sp.digit16 (y :: t) = .ok m 1) (hc : ¬ (Sp.ctl (UInt8.ofNat (n * 16 + m)) = true ∧ UInt8.ofNat (n * 16 + m) ≠ 10)) : Sp.hexes (x :: y :: t) = .bad 0 := by
  unfold Sp.hexes
  rw [h1]
  simp only [List.drop_succ_cons, List.drop_zero]
  rw [h2]
  simp only
  rw [if_neg hc]

set_option maxHeartbeats 1000000 in
theorem digit16_any (b : Nat) (s : ByteArray) (a : Nat) (w : World) (h : RdAt w b s a) :
    Calls Tryz.prog 91 #[.pointer (some ⟨b, 0, none⟩)] w (RdGo b s a (Sp.digit16 (rst s a)) valN w) := by
  have c1 := h.c1
  cases hd : rst s a with
  | nil =>
    have HT := Lib.hid (take_bad b s a w h hd)
    clear h hd
    go_enter Tryz.func91, Tryz.ntmps91
    go_wp2_with fail
    refine HT.out.mono ?_
    rintro e w1 ⟨rfl, hk⟩
    exact ⟨rfl, rdgo_bad (k := 0) rfl rfl hk⟩
  | cons x t =>
    have HT := Lib.hid (take_ok b s a x t w h hd)
    have hx := Sp.b_lt x
    clear h hd
    obtain ⟨X, hX⟩ : ∃ X, X = Sp.digit16 (x :: t) := ⟨_, rfl⟩
    rw [← hX]
    have HX := Lib.hid hX
    clear hX
    go_enter Tryz.func91, Tryz.ntmps91
    go_wp2_with fail
    refine HT.out.mono ?_
    rintro e w1 ⟨rfl, hat, hk⟩
    have Hat := Lib.hid hat
    have Hk := Lib.hid hk
    clear hat hk
    by_cases h1 : (97 : Int) ≤ (x.toNat : Int)
    · by_cases h2 : (x.toNat : Int) ≤ 102
      · have HV := Lib.hid (HX.out.trans (Sp.digit16_ok (hexv_hi h1 h2) t))
        go_wp2
        go_ret
        refine rdgo_ok HV.out rfl ?_ Hat.out Hk.out
        show Value.int IntKind.u8 _ = _
        congr 1
        omega
      · have HV := Lib.hid (HX.out.trans (Sp.digit16_bad (hexv_no (by omega) (by omega)) t))
        go_wp2
        exact ⟨rfl, rdgo_bad HV.out rfl Hk.out⟩
    · by_cases h2 : (48 : Int) ≤ (x.toNat : Int)
      · by_cases h3 : (x.toNat : Int) ≤ 57
        · have HV := Lib.hid (HX.out.trans (Sp.digit16_ok (hexv_lo h2 h3) t))
          go_wp2
          go_ret
          refine rdgo_ok HV.out rfl ?_ Hat.out Hk.out
          show Value.int IntKind.u8 _ = _
          congr 1
          omega
        · have HV := Lib.hid (HX.out.trans (Sp.digit16_bad (hexv_no (by omega) (by omega)) t))
          go_wp2
          exact ⟨rfl, rdgo_bad HV.out rfl Hk.out⟩
      · have HV := Lib.hid (HX.out.trans (Sp.digit16_bad (hexv_no (by omega) (by omega)) t))
        go_wp2
        exact ⟨rfl, rdgo_bad HV.out rfl Hk.out⟩

set_option maxHeartbeats 2000000 in
theorem inside_any (b : Nat) (s : ByteArray) (a : Nat) (w : World) (h : RdAt w b s a) :
    Calls Tryz.prog 69 #[.pointer (some ⟨b, 0, none⟩)] w (RdGo b s a (Sp.inside (rst s a)) valC w) := by
  have c1 := h.c1
  have h2' : s.size ≤ 9223372036854775807 := h.2.2
  have hab : a ≤ s.size := h.2.1
  cases hd : rst s a with
  | nil =>
    have HT := Lib.hid (take_bad b s a w h hd)
    clear h hd
    go_enter Tryz.func69, Tryz.ntmps69
    go_wp2_with fail
    refine HT.out.mono ?_
    rintro e w1 ⟨rfl, hk⟩
    exact ⟨rfl, rdgo_bad (k := 0) rfl rfl hk⟩
  | cons x t =>
    obtain ⟨hlt, _, ht⟩ := rst_head hd
    have HT := Lib.hid (take_ok b s a x t w h hd)
    have hx := Sp.b_lt x
    clear h hd
    obtain ⟨X, hX⟩ : ∃ X, X = Sp.inside (x :: t) := ⟨_, rfl⟩
    rw [← hX]
    have HX := Lib.hid hX
    clear hX
    have HC := Lib.hid fun w => control_any x w
    by_cases hc : Sp.ctl x = true
    · have HV := Lib.hid (HX.out.trans (inside_ctl hc t))
      go_enter Tryz.func69, Tryz.ntmps69
      go_wp2_with fail
      refine HT.out.mono ?_
      rintro e w1 ⟨rfl, hat, hk⟩
      have Hk := Lib.hid hk
      clear hat hk
      go_wp2_with fail
      refine (HC.out _).mono ?_
      rintro e w2 ⟨rfl, rfl⟩
      rw [hc]
      go_wp2_with fail
      exact ⟨rfl, rdgo_bad HV.out rfl Hk.out⟩
    have hc' : Sp.ctl x = false := Bool.eq_false_iff.2 hc
    by_cases h92 : x = 92
    · subst h92
      have hne : (((92 : UInt8).toNat : Int) != 92) = false := rfl
      have e92 : ((92 : UInt8).toNat : Int) = 92 := rfl
      go_enter Tryz.func69, Tryz.ntmps69
      go_wp2_with fail
      refine HT.out.mono ?_
      rintro e w1 ⟨rfl, hat, hk⟩
      have Hk := Lib.hid hk
      go_wp2_with fail
      refine (HC.out _).mono ?_
      rintro e w2 ⟨rfl, rfl⟩
      rw [hc']
      have hd2 := ht
      cases t with
      | nil =>
        have HT2 := Lib.hid (take_bad b s (a + 1) w2 hat hd2.symm)
        have HV := Lib.hid (HX.out.trans inside_end)
        clear hat hk hd2
        go_wp2_with fail
        refine HT2.out.mono ?_
        rintro e w3 ⟨rfl, hk2⟩
        exact ⟨rfl, rdgo_bad HV.out rfl (Hk.out.trans hk2)⟩
      | cons c u =>
        have HT2 := Lib.hid (take_ok b s (a + 1) c u w2 hat hd2.symm)
        have Hu := Lib.hid (rst_head hd2.symm)
        have hcc := Sp.b_lt c
        clear hat hk hd2 ht
        by_cases h3 : c = 34
        · have HV := Lib.hid (HX.out.trans (inside_same (.inl h3) u))
          have k1 := b_is (n := 34) rfl h3
          clear h3
          go_wp2_with fail
          refine HT2.out.mono ?_
          rintro e w3 ⟨rfl, hat2, hk2⟩
          have Hat2 := Lib.hid hat2
          have Hk2 := Lib.hid (Hk.out.trans hk2)
          clear hat2 hk2
          go_wp2_with fail
          go_ret
          exact rdgo_ok HV.out rfl rfl Hat2.out Hk2.out
        have k1 := b_not (n := 34) rfl h3
        by_cases h4 : c = 92
        · have HV := Lib.hid (HX.out.trans (inside_same (.inr h4) u))
          have k2 := b_is (n := 92) rfl h4
          clear h3 h4
          go_wp2_with fail
          refine HT2.out.mono ?_
          rintro e w3 ⟨rfl, hat2, hk2⟩
          have Hat2 := Lib.hid hat2
          have Hk2 := Lib.hid (Hk.out.trans hk2)
          clear hat2 hk2
          go_wp2_with fail
          go_ret
          exact rdgo_ok HV.out rfl rfl Hat2.out Hk2.out
        have k2 := b_not (n := 92) rfl h4
        by_cases h5 : c = 110
        · have HV := Lib.hid (HX.out.trans (h5 ▸ inside_line u))
          have k3 := b_is (n := 110) rfl h5
          clear h3 h4 h5
          go_wp2_with fail
          refine HT2.out.mono ?_
          rintro e w3 ⟨rfl, hat2, hk2⟩
          have Hat2 := Lib.hid hat2
          have Hk2 := Lib.hid (Hk.out.trans hk2)
          clear hat2 hk2
          go_wp2_with fail
          go_ret
          exact rdgo_ok HV.out rfl rfl Hat2.out Hk2.out
        have k3 := b_not (n := 110) rfl h5
        by_cases h6 : c = 120
        · have HV := Lib.hid (HX.out.trans (h6 ▸ inside_hex u))
          have k4 := b_is (n := 120) rfl h6
          clear h3 h4 h5 h6
          go_wp2_with fail
          refine HT2.out.mono ?_
          rintro e w3 ⟨rfl, hat2, hk2⟩
          have HD1 := Lib.hid (digit16_any b s (a + 1 + 1) w3 hat2)
          have Hat2 := Lib.hid hat2
          have Hk2 := Lib.hid (Hk.out.trans hk2)
          clear hat2 hk2
          go_wp2_with fail
          refine HD1.out.mono ?_
          obtain ⟨hl2, _, hu2⟩ := Hu.out
          rw [← hu2]
          rcases dig16_cases u with ⟨rfl, hq⟩ | ⟨x1, t1, rfl, hq1, hq⟩ | ⟨x1, t1, n1, rfl, hq1, hq⟩
          · intro e w4 hgo
            obtain ⟨rfl, hk4⟩ := hgo.bad hq
            exact ⟨rfl, rdgo_bad (k := 2) (by rw [HV.out]; unfold Sp.hexes; rw [hq]) rfl (Hk2.out.trans hk4)⟩
          · intro e w4 hgo
            obtain ⟨rfl, hk4⟩ := hgo.bad hq
            exact ⟨rfl, rdgo_bad (k := 2) (by rw [HV.out]; unfold Sp.hexes; rw [hq]) rfl (Hk2.out.trans hk4)⟩
          · have HQ := Lib.hid hq
            have hn1 := (Sp.hexd_hexv hq1).2
            clear hq hq1
            intro e w4 hgo
            obtain ⟨_, rfl, rfl, hat4, hk4⟩ := hgo.ok HQ.out
            have HD2 := Lib.hid (digit16_any b s (a + 1 + 1 + 1) w4 hat4)
            have Hk4 := Lib.hid (Hk2.out.trans hk4)
            obtain ⟨hl3, _, ht1⟩ := rst_head hu2.symm
            clear hgo hat4 hk4
            go_wp2_with fail
            refine HD2.out.mono ?_
            rw [← ht1]
            rcases dig16_cases t1 with ⟨rfl, hq⟩ | ⟨x2, t2, rfl, hq2, hq⟩ | ⟨x2, t2, n2, rfl, hq2, hq⟩
            · intro e w5 hgo
              obtain ⟨rfl, hk5⟩ := hgo.bad hq
              exact ⟨rfl, rdgo_bad (k := 3) (by rw [HV.out]; unfold Sp.hexes; rw [HQ.out]; rfl) rfl (Hk4.out.trans hk5)⟩
            · intro e w5 hgo
              obtain ⟨rfl, hk5⟩ := hgo.bad hq
              exact ⟨rfl, rdgo_bad (k := 3) (by rw [HV.out]; unfold Sp.hexes; rw [HQ.out]; simp only [List.drop_succ_cons, List.drop_zero]; rw [hq]) rfl (Hk4.out.trans hk5)⟩
            · have HQ2 := Lib.hid hq
              have hn2 := (Sp.hexd_hexv hq2).2
              clear hq hq2
              intro e w5 hgo
              obtain ⟨_, rfl, rfl, hat5, hk5⟩ := hgo.ok HQ2.out
              have Hk5 := Lib.hid (Hk4.out.trans hk5)
              have Hat5 := Lib.hid hat5
              clear hgo hat5 hk5
              have HB := Lib.hid fun hc h10 => HV.out.trans (hexes_in x1 x2 t2 HQ.out HQ2.out hc h10)
              have HN := Lib.hid fun hc => HV.out.trans (hexes_out x1 x2 t2 HQ.out HQ2.out hc)
              have HO := Lib.hid (or_hex n1 hn1 n2 hn2)
              obtain ⟨y, hy⟩ : ∃ y, y = UInt8.ofNat (n1 * 16 + n2) := ⟨_, rfl⟩
              rw [← hy] at HB HN HO
              have HC2 := Lib.hid fun w => control_any y w
              clear hy
              go_wp2_with fail
              rw [HO.out]
              refine (HC2.out _).mono ?_
              rintro e w6 ⟨rfl, rfl⟩
              cases hcy : Sp.ctl y with
              | false =>
                have HE := Lib.hid (HN.out fun h => by rw [hcy] at h; cases h.1)
                go_wp2_with fail
                exact ⟨rfl, rdgo_bad HE.out rfl Hk5.out⟩
              | true =>
                by_cases hy10 : y = 10
                · have HE := Lib.hid (HN.out fun h => h.2 hy10)
                  have k5 : ((y.toNat : Int) != 10) = false := by rw [bne_eq_false_iff_eq, hy10]; rfl
                  clear hy10
                  go_wp2_with fail
                  exact ⟨rfl, rdgo_bad HE.out rfl Hk5.out⟩
                · have HE := Lib.hid (HB.out hcy hy10)
                  have k5 : ((y.toNat : Int) != 10) = true := by rw [bne_iff_ne]; exact fun h => hy10 (Sp.b_eq.2 (by show y.toNat = 10; omega))
                  clear hy10
                  go_wp2_with fail
                  go_ret
                  exact rdgo_ok HE.out rfl rfl Hat5.out Hk5.out
        · have HV := Lib.hid (HX.out.trans (inside_else h3 h4 h5 h6 u))
          have k4 := b_not (n := 120) rfl h6
          clear h3 h4 h5 h6
          go_wp2_with fail
          refine HT2.out.mono ?_
          rintro e w3 ⟨rfl, hat2, hk2⟩
          have Hat2 := Lib.hid hat2
          have Hk2 := Lib.hid (Hk.out.trans hk2)
          clear hat2 hk2
          go_wp2_with fail
          exact ⟨rfl, rdgo_bad HV.out rfl Hk2.out⟩
    · have HV := Lib.hid (HX.out.trans (inside_plain hc' h92 t))
      have hne : ((x.toNat : Int) != 92) = true := by rw [bne_iff_ne]; exact fun h => h92 (Sp.b_eq.2 (by show x.toNat = 92; omega))
      go_enter Tryz.func69, Tryz.ntmps69
      go_wp2_with fail
      refine HT.out.mono ?_
      rintro e w1 ⟨rfl, hat, hk⟩
      have Hk := Lib.hid hk
      have Hat := Lib.hid hat
      clear hat hk
      go_wp2_with fail
      refine (HC.out _).mono ?_
      rintro e w2 ⟨rfl, rfl⟩
      rw [hc']
      go_wp2_with fail
      go_ret
      exact rdgo_ok HV.out rfl rfl Hat.out Hk.out

end Go.Proofs.YtadookafnfnaoaaGreatDoor
/- The reader's all: as many bytes of a kind as there are. -/
namespace Go.Proofs.YtadookafnfnaoaaGreatDoor
open Go.RowKit Ch

theorem tw_step {q : UInt8 → Bool} {s : ByteArray} {a k : Nat} (hak : a ≤ k) (hk : k < s.size) (hq : q s[k] = true) (h : (rst s a).takeWhile q = (rst s a).take (k - a) ++ (rst s k).takeWhile q) :
    (rst s a).takeWhile q = (rst s a).take (k + 1 - a) ++ (rst s (k + 1)).takeWhile q := by
  rw [h, rst_cons hk, List.takeWhile_cons, if_pos hq]
  have e : (rst s a).take (k + 1 - a) = (rst s a).take (k - a) ++ [s[k]] := by
    have hl : k - a < (rst s a).length := by unfold rst; rw [List.length_drop]; have : s.data.toList.length = s.size := rfl; omega
    rw [show k + 1 - a = k - a + 1 by omega, List.take_succ_eq_append_getElem hl]
    congr 2
    have h2 := rst_drop s a (k - a)
    rw [show a + (k - a) = k by omega, rst_cons hk] at h2
    rw [List.drop_eq_getElem_cons hl] at h2
    simp only [List.cons.injEq] at h2
    exact h2.1
  rw [e]
  simp
theorem tw_end {q : UInt8 → Bool} {s : ByteArray} {a k : Nat} (hak : a ≤ k) (hk : k ≤ s.size) (hq : ∀ h : k < s.size, q s[k] = false) (h : (rst s a).takeWhile q = (rst s a).take (k - a) ++ (rst s k).takeWhile q) :
    (rst s a).takeWhile q = (s.extract a k).data.toList ∧ a + ((rst s a).takeWhile q).length = k := by
  have e : (rst s k).takeWhile q = [] := by
    rcases Nat.lt_or_ge k s.size with hlt | hge
    · rw [rst_cons hlt, List.takeWhile_cons, hq hlt]; rfl
    · rw [rst_nil hge]; rfl
  rw [h, e, List.append_nil]
  have hs : s.data.toList.length = s.size := rfl
  refine ⟨?_, ?_⟩
  · unfold rst
    simp [ByteArray.data_extract]
  · unfold rst
    rw [List.length_take, List.length_drop]
    omega

set_option maxHeartbeats 2000000 in
theorem all_any (F : Nat) (q : UInt8 → Bool) (hE : ∀ args W, (callFunc F args).run Tryz.prog W = .ok (.enter F args) W) (hF : ∀ (x : UInt8) (w : World), Calls Tryz.prog F #[.int .u8 x.toNat] w fun e w' => e = .returned (.bool (q x)) ∧ w' = w)
    (b : Nat) (s : ByteArray) (a : Nat) (w : World) (h : RdAt w b s a) :
    Calls Tryz.prog 93 #[.pointer (some ⟨b, 0, none⟩), .func (.func F) #[] #[]] w fun e w' => e = .returned (.string (Sp.ba ((rst s a).takeWhile q))) ∧ RdAt w' b s (a + ((rst s a).takeWhile q).length) ∧ Keep b [RT] w w' := by
  have H := Lib.hid h
  have HF := Lib.hid hF
  have c0 := h.c0
  have c1 := h.c1
  have h2' : s.size ≤ 9223372036854775807 := h.2.2
  have hab : a ≤ s.size := h.2.1
  clear h hF
  go_enter Tryz.func93, Tryz.ntmps93
  go_wp2_with fail
  go_loopg [] (s.size - a) (fun gk wr => ∃ k : Nat, gk = s.size - k ∧ RdAt wr b s k ∧ a ≤ k ∧ (rst s a).takeWhile q = (rst s a).take (k - a) ++ (rst s k).takeWhile q ∧ Keep b [RT] w wr)
  case atStart => exact ⟨a, rfl, H.out, Nat.le_refl _, by rw [Nat.sub_self]; rfl, Keep.refl _ _ _⟩
  case round =>
    obtain ⟨k, rfl, hat, hak, htw, hkp⟩ := hrel
    have d0 := hat.c0
    have d1 := hat.c1
    have f1 := hat.free 1
    have hks : k ≤ s.size := hat.2.1
    have Hat := Lib.hid hat
    have Hkp := Lib.hid hkp
    have Htw := Lib.hid htw
    clear hat hkp htw c0 c1
    have fin : (∀ h : k < s.size, q s[k] = false) → (rst s a).takeWhile q = (s.extract a k).data.toList ∧ a + ((rst s a).takeWhile q).length = k := fun h => tw_end hak hks h Htw.out
    have Fin := Lib.hid fin
    clear fin
    by_cases hlt : k < s.size
    · have hlt' : (k : Int) < (s.size : Int) := by omega
      cases hq : q s[k] with
      | true =>
        have Hs := Lib.hid (tw_step hak hlt hq Htw.out)
        have HC := Lib.hid fun w => HF.out s[k] w
        rw [hq] at HC
        go_wp2_with fail
        go_quiet (exact Calls.quiet_of_same (HC.out _))
        go_wp2_with fail
        go_roundg (s.size - (k + 1))
        case measure => omega
        case rel =>
          have st := (Hat.out.drewN nq).step (k + 1) hlt
          exact ⟨k + 1, rfl, st.1, by omega, Hs.out, Hkp.out.trans ((keep_drewN (Keep.refl _ _ _) nq).trans st.2)⟩
      | false =>
        have HC := Lib.hid fun w => HF.out s[k] w
        rw [hq] at HC
        have HE := Lib.hid (Fin.out fun _ => hq)
        go_wp2_with fail
        go_quiet (exact Calls.quiet_of_same (HC.out _))
        go_wp2_with fail
        go_quiet (fail)
        go_wp2_with fail
        go_ret
        refine ⟨congrArg (fun l => Ending.returned (Value.string l)) (ba_eq HE.out.1.symm), ?_, keep_drewN (keep_drewN Hkp.out _) _⟩
        rw [HE.out.2]
        exact Hat.out
    · have hlt' : decide ((k : Int) < (s.size : Int)) = false := decide_eq_false (by omega)
      have HE := Lib.hid (Fin.out fun h => absurd h hlt)
      go_wp2_with fail
      go_quiet (fail)
      go_wp2_with fail
      go_quiet (fail)
      go_wp2_with fail
      go_ret
      refine ⟨congrArg (fun l => Ending.returned (Value.string l)) (ba_eq HE.out.1.symm), ?_, keep_drewN (keep_drewN Hkp.out _) _⟩
      rw [HE.out.2]
      exact Hat.out

end Go.Proofs.YtadookafnfnaoaaGreatDoor
/- strings.Builder's WriteString at this dump: the library's contract, laid by hand (the laying command does not find the number of the empty interface, which no body of its closure names). -/
namespace Go.Proofs
open Go.Shelf
def Tryz.lays166_ren : Go.Shelf.Ren := ⟨fun | 166 => 31 | 240 => 59 | 276 => 88 | n => n, fun | 0 => 0 | 3 => 3 | 4 => 4 | 5 => 5 | 9 => 9 | 20 => 20 | 37 => 57 | 70 => 56 | 72 => 59 | 75 => 61 | 80 => 67 | 164 => 119 | n => n, fun | n => n⟩
theorem Tryz.lays166 : Go.Proofs.Lays.n166 Tryz.prog Tryz.lays166_ren := {
  mixed := by kernel_rfl
  f166 := Tryz.func31.trans (congrArg some (by kernel_rfl))
  f240 := Tryz.func59.trans (congrArg some (by kernel_rfl))
  f276 := Tryz.func88.trans (congrArg some (by kernel_rfl))
  t0 := Tryz.underlying0
  a0 := Tryz.isAgg0
  z0 := Tryz.sizeOf0
  v0 := Tryz.zeroValue0
  t3 := Tryz.underlying3
  a3 := Tryz.isAgg3
  z3 := Tryz.sizeOf3
  v3 := Tryz.zeroValue3
  t4 := Tryz.underlying4
  a4 := Tryz.isAgg4
  z4 := Tryz.sizeOf4
  v4 := Tryz.zeroValue4
  t9 := Tryz.underlying9
  a9 := Tryz.isAgg9
  z9 := Tryz.sizeOf9
  v9 := Tryz.zeroValue9
  t20 := Tryz.underlying20
  a20 := Tryz.isAgg20
  z20 := Tryz.sizeOf20
  v20 := Tryz.zeroValue20
  t37 := Tryz.underlying57
  a37 := Tryz.isAgg57
  z37 := Tryz.sizeOf57
  v37 := Tryz.zeroValue57
  t70 := Tryz.underlying56
  a70 := Tryz.isAgg56
  z70 := Tryz.sizeOf56
  v70 := Tryz.zeroValue56
  t72 := Tryz.underlying59
  a72 := Tryz.isAgg59
  z72 := Tryz.sizeOf59
  v72 := Tryz.zeroValue59
  t75 := Tryz.underlying61
  a75 := Tryz.isAgg61
  z75 := Tryz.sizeOf61
  v75 := Tryz.zeroValue61
  t164 := Tryz.underlying119
  a164 := Tryz.isAgg119
  z164 := Tryz.sizeOf119
  v164 := Tryz.zeroValue119 }
theorem Tryz.Builder_Extra_166 : Builder.Extra Tryz.prog Tryz.lays166_ren := {
  sizeBuilder := by kernel_rfl
  liesBuilder := by kernel_rfl
  t5 := Tryz.underlying5
  a5 := Tryz.isAgg5
  z5 := Tryz.sizeOf5
  v5 := Tryz.zeroValue5
  infoByte := by kernel_rfl
  cellsByte := by kernel_rfl
  sizeByte := by kernel_rfl
  neB5 := by decide }
end Go.Proofs
