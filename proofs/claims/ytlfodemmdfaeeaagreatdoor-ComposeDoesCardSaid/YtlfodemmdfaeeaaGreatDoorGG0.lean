/- Texts of this seat, put together: Dx, Dx2, Da0. -/
import Derived.Test.YtlfodemmdfaeeaaGreatDoorGD4
import Derived.Test.YtlfodemmdfaeeaaGreatDoorGE2
import Derived.Test.YtlfodemmdfaeeaaGreatDoorGB3
import Derived.Test.YtlfodemmdfaeeaaGreatDoorGE4
import Derived.Test.YtlfodemmdfaeeaaGreatDoorGC2
/- Changesets on documents, as plain maths: the cells of a document; what operations meet of them; what comes of it, put together. -/
namespace Go.Proofs.YtlfodemmdfaeeaaGreatDoor
open Go.RowKit Rn Ch At

/-- A cell: a rune, and its attributes. -/
abbrev CD := Nat × AtL
/-- A cell met, and the operation that met it. -/
abbrev MD := OpD × CD
def cellsD (l : List RunD) : List CD := l.flatMap fun r => (rns r).map fun c => (c, r.attrs)
def metC : List OpD → List CD → List MD
 | [], _ => []
 | o :: r, cs => if o.kind = 2 then ((cellsD [⟨o.text, o.attrs⟩]).take (20000 : Int).toNat).map (fun x => (o, x)) ++ metC r cs else (cs.take o.n.toNat).map (fun x => (o, x)) ++ metC r (cs.drop o.n.toNat)
def pcell (x : CellV) : CD := (x.1, x.2.1.attrs)
def pmet (y : QV × CellV) : MD := (y.1.1, pcell y.2)
theorem cellsD_of (ps : List RP) : (cellsP ps).map pcell = cellsD (ps.map (·.1)) := by
 induction ps with
 | nil => rfl
 | cons p r ih =>
   have e : cellsD ((p :: r).map (·.1)) = (rns p.1).map (fun c => (c, p.1.attrs)) ++ cellsD (r.map (·.1)) := rfl
   rw [cellsP_cons, List.map_append, ih, e]
   congr 1
   unfold cellsR
   rw [List.map_map]
   rfl
theorem metL_plain (qs : List QV) (s : List RP × Nat) (hs : Place s) (ho : ∀ q ∈ s.1, OkR q.1) : (metL qs s).map pmet = metC (qs.map (·.1)) ((rem s).map pcell) := by
 induction qs generalizing s with
 | nil => rfl
 | cons q r ih =>
   rw [metL, List.map_append, List.map_cons, metC]
   by_cases hk : q.1.kind = 2
   ·rw [if_pos hk]
    have e1 : one q s = (rem (insP q, 0)).take (20000 : Int).toNat := by unfold one; rw [if_pos hk]
    have e2 : then1 q s = s := by unfold then1; rw [if_pos hk]
    rw [e2, ih s hs ho, e1]
    congr 1
    have e3 : (rem (insP q, 0)).map pcell = cellsD [⟨q.1.text, q.1.attrs⟩] := by
     unfold rem
     rw [List.drop_zero, cellsD_of]
     rfl
    rw [List.map_map, ← e3, ← List.map_take, List.map_map]
    rfl
   ·rw [if_neg hk]
    have e1 : one q s = (rem s).take q.1.n.toNat := by unfold one; rw [if_neg hk]
    have e2 : then1 q s = adv q.1.n.toNat s := by unfold then1; rw [if_neg hk]
    obtain ⟨h1, h2, h3⟩ := adv_rem q.1.n.toNat s hs ho
    rw [e2, ih _ h1 h2, h3, e1, List.map_drop]
    congr 1
    rw [List.map_map, ← List.map_take, List.map_map]
    rfl

/-- What each cell makes of a document on the way (the newest run first); its error. -/
def stepA (y : MD) (l : List RunD) : List RunD := if y.1.kind = 1 then putR l (E y.2.1) (applyR y.2.2 y.1.attrs) else if y.1.kind = 2 then putR l (E y.2.1) y.2.2 else l
def badA (y : MD) : Int := if y.1.kind = 1 then applyE y.2.2 y.1.attrs else 0
def accA (ys : List MD) : List RunD := ys.foldl (fun l y => stepA y l) []
def errA : List MD → Int
 | [] => 0
 | y :: r => if badA y ≠ 0 then badA y else errA r
theorem accA_snoc (ys : List MD) (y : MD) : accA (ys ++ [y]) = stepA y (accA ys) := by simp [accA]
theorem accA_take {ys : List MD} {k : Nat} (h : k < ys.length) : accA (ys.take (k + 1)) = stepA ys[k] (accA (ys.take k)) := by
 rw [List.take_succ_eq_append_getElem h, accA_snoc]
theorem errA_first {ys : List MD} {k : Nat} (h : k < ys.length) (hk : ∀ i (hi : i < k), badA (ys[i]'(Nat.lt_trans hi h)) = 0) (hb : badA ys[k] ≠ 0) : errA ys = badA ys[k] := by
 induction ys generalizing k with
 | nil => simp at h
 | cons y r ih =>
   cases k with
   | zero =>
     simp only [List.getElem_cons_zero] at hb ⊢
     rw [errA, if_pos hb]
   | succ k =>
     have h0 := hk 0 (Nat.succ_pos _)
     simp only [List.getElem_cons_zero] at h0
     rw [errA, if_neg (by rw [h0]; simp)]
     exact ih (k := k) (Nat.lt_of_succ_lt_succ h) (fun i hi => hk (i + 1) (Nat.succ_lt_succ hi)) hb
theorem errA_none {ys : List MD} (hk : ∀ i (h : i < ys.length), badA ys[i] = 0) : errA ys = 0 := by
 induction ys with
 | nil => rfl
 | cons y r ih =>
   have h0 := hk 0 (Nat.succ_pos _)
   simp only [List.getElem_cons_zero] at h0
   rw [errA, if_neg (by rw [h0]; simp)]
   exact ih fun i h => hk (i + 1) (Nat.succ_lt_succ h)
theorem putR_len (l : List RunD) (t : ByteArray) (a : AtL) : (putR l t a).length ≤ l.length + 1 := by
 cases l with
 | nil => simp [putR]
 | cons x r =>
   rw [putR]
   split
   ·simp only [List.length_cons]; omega
   ·simp only [List.length_cons]; omega
theorem stepA_len (y : MD) (l : List RunD) : (stepA y l).length ≤ l.length + 1 := by
 unfold stepA
 split
 ·exact putR_len _ _ _
 ·split
  ·exact putR_len _ _ _
  ·omega
theorem E_size (c : Nat) : (E c).size ≤ 4 := by
 have h1 : (E c).size = (enc c).length := List.size_toArray
 rw [h1]
 unfold enc
 repeat' split
 all_goals simp
/-- How big what comes of k cells is. -/
theorem accA_small (ys : List MD) : (accA ys).length ≤ ys.length ∧ ∀ x ∈ accA ys, x.text.size ≤ 4 * ys.length := by
 have key : ∀ (ys : List MD) (l : List RunD) (n : Nat), l.length ≤ n → (∀ x ∈ l, x.text.size ≤ 4 * n) → (ys.foldl (fun l y => stepA y l) l).length ≤ n + ys.length ∧ ∀ x ∈ ys.foldl (fun l y => stepA y l) l, x.text.size ≤ 4 * (n + ys.length) := by
  intro ys
  induction ys with
  | nil => intro l n h1 h2; exact ⟨by simpa using h1, by simpa using h2⟩
  | cons y r ih =>
    intro l n h1 h2
    have hp : ∀ (c : Nat) (a : AtL), ∀ x ∈ putR l (E c) a, x.text.size ≤ 4 * (n + 1) := by
     intro c a x hx
     have hc := E_size c
     cases l with
     | nil =>
       rw [putR, List.mem_singleton] at hx
       subst hx
       show (E c).size ≤ _
       omega
     | cons z s =>
       rw [putR] at hx
       have hz := h2 z (List.mem_cons_self ..)
       split at hx
       ·rcases List.mem_cons.1 hx with rfl | hx
        ·show (cat z.text (E c)).size ≤ _
         rw [cat_size]; omega
        ·have := h2 x (List.mem_cons_of_mem _ hx); omega
       ·rcases List.mem_cons.1 hx with rfl | hx
        ·show (E c).size ≤ _
         omega
        ·have := h2 x hx; omega
    have h3 : ∀ x ∈ stepA y l, x.text.size ≤ 4 * (n + 1) := by
     unfold stepA
     split
     ·exact hp _ _
     ·split
      ·exact hp _ _
      ·intro x hx; have := h2 x hx; omega
    have := ih (stepA y l) (n + 1) (Nat.le_trans (stepA_len y l) (by omega)) h3
    rw [List.foldl_cons]
    simp only [List.length_cons]
    exact ⟨by omega, fun x hx => Nat.le_trans (this.2 x hx) (by omega)⟩
 have := key ys [] 0 (Nat.le_refl _) (fun x hx => by cases hx)
 simpa [accA] using this
end Go.Proofs.YtlfodemmdfaeeaaGreatDoor

/- What a document that may be, and a changeset that fits it, are like; what is met. -/
namespace Go.Proofs.YtlfodemmdfaeeaaGreatDoor
open Go.RowKit Rn Ch At

theorem er_zero {t : List UInt8} (h : er t = 0) : ∃ cs, rd t = some cs ∧ cnt t = cs.length := by
 cases hr : rd t with
 | none => rw [er_none hr] at h; omega
 | some cs => exact ⟨cs, rfl, cnt_some hr⟩
theorem okR_of {r : RunD} (h : er r.text.data.toList = 0) (hc : cnt r.text.data.toList ≠ 0) : OkR r ∧ ((rns r).length : Int) = cnt r.text.data.toList := by
 obtain ⟨cs, h1, h2⟩ := er_zero h
 refine ⟨⟨cs, h1, fun e => by subst e; simp at h2; exact hc h2⟩, ?_⟩
 unfold rns
 rw [h1, h2]
 rfl
theorem rns_len (r : RunD) : ((rns r).length : Int) = cnt r.text.data.toList := by
 unfold rns
 cases hr : rd r.text.data.toList with
 | none => rw [cnt_none hr]; rfl
 | some cs => rw [cnt_some hr]; rfl
theorem cellsD_cons (r : RunD) (l : List RunD) : cellsD (r :: l) = (rns r).map (fun c => (c, r.attrs)) ++ cellsD l := rfl
theorem cellsD_one (r : RunD) : cellsD [r] = (rns r).map (fun c => (c, r.attrs)) := by rw [cellsD_cons]; simp [cellsD]
theorem lenF_some {l : List RunD} : ∀ {p : Option AtL} {n m : Int}, lenF p n l = some m → n ≤ 20000 → m = n + ((cellsD l).length : Int) ∧ m ≤ 20000 ∧ ∀ r ∈ l, OkR r ∧ rgtE r.attrs = 0 := by
 induction l with
 | nil =>
   intro p n m h hn
   simp only [lenF, Option.some.injEq] at h
   subst h
   exact ⟨by simp [cellsD], hn, fun r hr => by cases hr⟩
 | cons r l ih =>
   intro p n m h hn
   rw [lenF] at h
   split at h
   ·cases h
   ·rename_i hb
    unfold badR at hb
    have h1 : er r.text.data.toList = 0 := Classical.byContradiction fun hh => hb (.inl hh)
    have h2 : cnt r.text.data.toList ≠ 0 := fun hh => hb (.inr (.inl hh))
    have h3 : ¬ 20000 < n + cnt r.text.data.toList := fun hh => hb (.inr (.inr (.inl hh)))
    have h4 : rgtE r.attrs = 0 := Classical.byContradiction fun hh => hb (.inr (.inr (.inr (.inl hh))))
    obtain ⟨a, b⟩ := okR_of h1 h2
    obtain ⟨c, d, e⟩ := ih h (by omega)
    refine ⟨?_, d, fun x hx => ?_⟩
    ·rw [cellsD_cons, List.length_append, List.length_map]
     omega
    ·rcases List.mem_cons.1 hx with rfl | hx
     ·exact ⟨a, h4⟩
     ·exact e x hx
theorem lenD_some {l : List RunD} (h : lenE l = 0) : l.length ≤ 2000 ∧ lenN l = ((cellsD l).length : Int) ∧ lenN l ≤ 20000 ∧ (∀ r ∈ l, OkR r ∧ rgtE r.attrs = 0) ∧ lenD l = some (lenN l) := by
 unfold lenE at h
 split at h
 ·rename_i hs
  obtain ⟨m, hm⟩ := Option.isSome_iff_exists.1 hs
  have e : lenN l = m := by unfold lenN; rw [hm]; rfl
  have h1 : l.length ≤ 2000 := Classical.byContradiction fun hh => by rw [lenD_long hh] at hm; cases hm
  have h2 := hm
  rw [lenD_short h1] at h2
  obtain ⟨a, b, c⟩ := lenF_some h2 (by omega)
  exact ⟨h1, by omega, by omega, c, by rw [e]; exact hm⟩
 ·omega

theorem metC_len (ops : List OpD) (cs : List CD) : ((metC ops cs).length : Int) ≤ ins ops + cs.length := by
 induction ops generalizing cs with
 | nil => simp [metC, ins]
 | cons o r ih =>
   rw [metC, ins]
   by_cases hk : o.kind = 2
   ·rw [if_pos hk, if_pos hk, List.length_append, List.length_map]
    have h1 := ih cs
    have h2 : ((cellsD [⟨o.text, o.attrs⟩]).length : Int) = cnt o.text.data.toList := by rw [cellsD_one, List.length_map]; exact rns_len _
    have h3 : ((cellsD [⟨o.text, o.attrs⟩]).take (20000 : Int).toNat).length ≤ (cellsD [⟨o.text, o.attrs⟩]).length := by rw [List.length_take]; exact Nat.min_le_right _ _
    omega
   ·rw [if_neg hk, if_neg hk, List.length_append, List.length_map]
    have h1 := ih (cs.drop o.n.toNat)
    have h2 : (cs.take o.n.toNat).length + (cs.drop o.n.toNat).length = cs.length := by rw [← List.length_append, List.take_append_drop]
    omega
theorem metC_mem {ops : List OpD} {cs : List CD} {y : MD} (h : y ∈ metC ops cs) : y.1 ∈ ops ∧ (y.2 ∈ cs ∨ (y.1.kind = 2 ∧ y.2.2 = y.1.attrs)) := by
 induction ops generalizing cs with
 | nil => cases h
 | cons o r ih =>
   rw [metC] at h
   split at h
   ·rename_i hk
    rcases List.mem_append.1 h with h | h
    ·obtain ⟨x, hx, rfl⟩ := List.mem_map.1 h
     have hx := List.mem_of_mem_take hx
     rw [cellsD_one] at hx
     obtain ⟨c, _, rfl⟩ := List.mem_map.1 hx
     exact ⟨List.mem_cons_self .., .inr ⟨hk, rfl⟩⟩
    ·obtain ⟨a, b⟩ := ih h
     exact ⟨List.mem_cons_of_mem _ a, b⟩
   ·rcases List.mem_append.1 h with h | h
    ·obtain ⟨x, hx, rfl⟩ := List.mem_map.1 h
     exact ⟨List.mem_cons_self .., .inl (List.mem_of_mem_take hx)⟩
    ·obtain ⟨a, b⟩ := ih h
     exact ⟨List.mem_cons_of_mem _ a, b.imp List.mem_of_mem_drop id⟩
theorem mem_nextPs {ps : List RP} {k : Nat} {q : RP} (h : q ∈ nextPs ps k) : q ∈ ps := by
 cases ps with
 | nil => cases h
 | cons p r =>
   rw [nextPs] at h
   split at h
   ·exact List.mem_cons_of_mem _ h
   ·exact h
theorem mem_adv {n : Nat} {s : List RP × Nat} {q : RP} (h : q ∈ (adv n s).1) : q ∈ s.1 := by
 induction n generalizing s with
 | zero => exact h
 | succ n ih =>
   by_cases hs : s.1 = []
   ·rw [adv, if_pos hs] at h; exact h
   ·rw [adv_succ hs] at h
    exact mem_nextPs (ih h)
theorem metL_mem {qs : List QV} {s : List RP × Nat} {y : QV × CellV} (h : y ∈ metL qs s) : y.1 ∈ qs ∧ (y.2.2 ∈ s.1 ∨ (y.1.1.kind = 2 ∧ y.2.2 = (⟨y.1.1.text, y.1.1.attrs⟩, y.1.2))) := by
 induction qs generalizing s with
 | nil => cases h
 | cons q r ih =>
   rw [metL] at h
   rcases List.mem_append.1 h with h | h
   ·obtain ⟨x, hx, rfl⟩ := List.mem_map.1 h
    refine ⟨List.mem_cons_self .., ?_⟩
    unfold one at hx
    split at hx
    ·rename_i hk
     exact .inr ⟨hk, List.mem_singleton.1 (mem_rem (s := (insP q, 0)) (List.mem_of_mem_take hx))⟩
    ·exact .inl (mem_rem (List.mem_of_mem_take hx))
   ·obtain ⟨a, b⟩ := ih h
    refine ⟨List.mem_cons_of_mem _ a, b.imp (fun hb => ?_) id⟩
    unfold then1 at hb
    split at hb
    ·exact hb
    ·exact mem_adv hb

theorem kd_ge {ops : List OpD} (h : allE ops) : 0 ≤ kd ops := by
 induction ops with
 | nil => exact Int.le_refl _
 | cons o r ih =>
   have := ih fun x hx => h x (List.mem_cons_of_mem _ hx)
   rw [kd]
   split
   ·omega
   ·have := opE_n (h o (List.mem_cons_self ..)) (by assumption)
    omega
theorem nn_le_kd {ops : List OpD} {o : OpD} (h : allE ops) (ho : o ∈ ops) : 0 ≤ o.n ∧ o.n ≤ kd ops := by
 induction ops with
 | nil => cases ho
 | cons x r ih =>
   have hr : allE r := fun y hy => h y (List.mem_cons_of_mem _ hy)
   have hx := h x (List.mem_cons_self ..)
   have hp := kd_ge hr
   rw [kd]
   rcases List.mem_cons.1 ho with rfl | ho
   ·by_cases hk : o.kind = 2
    ·rw [if_pos hk, ((opE_put hk).1 hx).1]; omega
    ·rw [if_neg hk]
     have := opE_n hx hk
     omega
   ·have := ih hr ho
    split
    ·omega
    ·have := opE_n hx (by assumption)
     omega
theorem dl_le_kd {ops : List OpD} (h : allE ops) : dl ops ≤ kd ops := by
 induction ops with
 | nil => exact Int.le_refl _
 | cons o r ih =>
   have := ih fun x hx => h x (List.mem_cons_of_mem _ hx)
   rw [kd, dl]
   by_cases hk : o.kind = 2
   ·rw [if_neg (by omega), if_pos hk]; omega
   ·rw [if_neg hk]
    have := opE_n (h o (List.mem_cons_self ..)) hk
    split <;> omega
structure FitF (l : List RunD) (f : Int) (ops : List OpD) : Prop where
 runs : ∀ r ∈ l, OkR r ∧ rgtE r.attrs = 0
 all : allE ops
 len : l.length ≤ 2000
 olen : ops.length ≤ 2000
 fc : f = ((cellsD l).length : Int)
 f1 : f ≤ 20000
 num : ∀ o ∈ ops, 0 ≤ o.n ∧ o.n ≤ 20000
 insl : ins ops ≤ 40000
 kdl : kd ops ≤ f
 okc : OkC f ops
theorem fit_facts {l : List RunD} {f : Int} {ops : List OpD} (h : fitE l f ops = 0) : FitF l f ops := by
 unfold fitE at h
 split at h
 ·omega
 ·rename_i h1
  split at h
  ·omega
  ·rename_i h2
   split at h
   ·omega
   ·rename_i h3
    have h1 : lenE l = 0 := Classical.byContradiction h1
    have h2 : toE f ops = 0 := Classical.byContradiction h2
    have h3 : f = lenN l := Classical.byContradiction h3
    obtain ⟨a, b, c, d, _⟩ := lenD_some h1
    have hc := (toE_iff f ops).1 h2
    obtain ⟨c1, c2, c3, c4, c5, c6⟩ := hc
    have := dl_le_kd c4
    exact { runs := d, all := c4, len := a, olen := c3, fc := by omega, f1 := by omega, num := fun o ho => by have := nn_le_kd c4 ho; omega, insl := by omega, kdl := c5, okc := ⟨c1, c2, c3, c4, c5, c6⟩ }
theorem ins_append (a b : List OpD) : ins (a ++ b) = ins a + ins b := by
 induction a with
 | nil => simp [ins]
 | cons o r ih => rw [List.cons_append, ins, ins, ih]; omega
theorem metD_len {l : List RunD} {f : Int} {ops : List OpD} (h : FitF l f ops) : (metC (ops ++ [restQ.1]) (cellsD l)).length ≤ 60000 := by
 have h1 := metC_len (ops ++ [restQ.1]) (cellsD l)
 rw [ins_append] at h1
 have h2 : ins [restQ.1] = 0 := rfl
 have := h.insl
 have := h.fc
 have := h.f1
 omega
/-- The attributes of a cell met are some; an operation's, too. -/
theorem metD_attrs {l : List RunD} {f : Int} {ops : List OpD} (h : FitF l f ops) {y : MD} (hy : y ∈ metC (ops ++ [restQ.1]) (cellsD l)) : rgtE y.2.2 = 0 ∧ (y.1.kind = 1 → chgE y.1.attrs = 0) ∧ SmallA y.1.attrs := by
 obtain ⟨a, b⟩ := metC_mem hy
 have hop : opE y.1 = 0 ∨ y.1 = restQ.1 := by
  rcases List.mem_append.1 a with a | a
  ·exact .inl (h.all _ a)
  ·exact .inr (List.mem_singleton.1 a)
 refine ⟨?_, ?_, ?_⟩
 ·rcases b with b | ⟨k, b⟩
  ·unfold cellsD at b
   obtain ⟨r, hr, hx⟩ := List.mem_flatMap.1 b
   obtain ⟨c, _, e⟩ := List.mem_map.1 hx
   rw [← e]
   exact (h.runs r hr).2
  ·rw [b]
   rcases hop with hop | hop
   ·exact ((opE_put k).1 hop).2.2.2
   ·rw [hop] at k; cases k
 ·intro k
  rcases hop with hop | hop
  ·exact ((opE_keep k).1 hop).2.2
  ·rw [hop]; decide +kernel
 ·rcases hop with hop | hop
  ·rcases opE_kind hop with k | k | k
   ·exact small_chg ((opE_keep k).1 hop).2.2
   ·exact small_rgt ((opE_put k).1 hop).2.2.2
   ·have := ((opE_cut k).1 hop).2.2
    rw [List.length_eq_zero_iff.1 this]
    exact small_nil
  ·rw [hop]; exact small_nil
end Go.Proofs.YtlfodemmdfaeeaaGreatDoor

/- What Apply, Inverse keep on the way: the frames of their loop over met. -/
namespace Go.Proofs.YtlfodemmdfaeeaaGreatDoor
open Go.RowKit Rn Ch At

theorem own_cells {w w' : World} {C k n : Nat} {e : TypeId} {v : Value} {xs : List Value} (h : w.ownsRow C e k v n xs) (hk : ∀ (i : Nat) (cs : Array Value) (fr : Nat × Nat), w.heap[i]? = some (.cells cs e fr) → w'.heap[i]? = some (.cells cs e fr)) : w'.ownsRow C e k v n xs :=
 ⟨h.1, h.2.imp id fun ⟨g, cap, cur, a, b, c, d⟩ => ⟨g, cap, cur, a, b, hk g cur (0, 0) c, d⟩⟩
theorem OwnR.cells {w w' : World} {B : Nat} {v : Value} {ps : List RP} (h : OwnR w B v ps) (h1 : ∀ (i : Nat) (cs : Array Value) (fr : Nat × Nat), w.heap[i]? = some (.cells cs 77 fr) → w'.heap[i]? = some (.cells cs 77 fr))
 (h2 : ∀ (i : Nat) (cs : Array Value) (fr : Nat × Nat), w.heap[i]? = some (.cells cs 88 fr) → w'.heap[i]? = some (.cells cs 88 fr)) : OwnR w' B v ps :=
 ⟨own_cells h.1 h1, fun p hp => own_cells (h.2 p hp) h2⟩
theorem DSt.step {w w' : World} {B C N b : Nat} {own : List Nat} {ov : Value} {l : List RunD} {ts : List TypeId} (h : DSt w B b ov l) (hs : Step C N ts own w w') (h1 : 77 ∉ ts) (h2 : 88 ∉ ts) (h3 : 49 ∉ ts) (h4 : 5 ∉ ts) : DSt w' B b ov l := by
 obtain ⟨ps, ad, bv, bt, a1, a2, a3, a4, a5⟩ := h
 exact ⟨ps, ad, bv, bt, hs.cells _ _ _ _ a1 (.inl h3), a2, a3.cells (fun i cs fr hi => hs.cells _ _ _ _ hi (.inl h1)) (fun i cs fr hi => hs.cells _ _ _ _ hi (.inl h2)), ⟨own_cells a4.1 (fun i cs fr hi => hs.cells _ _ _ _ hi (.inl h4)), a4.2⟩, a5⟩
theorem DSt.keep {w w' : World} {B C b : Nat} {ov : Value} {l : List RunD} {ts : List TypeId} (h : DSt w B b ov l) (hs : Keep C ts w w') (h1 : 77 ∉ ts) (h2 : 88 ∉ ts) (h3 : 49 ∉ ts) (h4 : 5 ∉ ts) : DSt w' B b ov l := by
 obtain ⟨ps, ad, bv, bt, a1, a2, a3, a4, a5⟩ := h
 exact ⟨ps, ad, bv, bt, a1.keep hs h3, a2, a3.keep hs h1 h2, ⟨hs.own a4.1 h4, a4.2⟩, a5⟩
theorem RemSt.step {F : Nat} {R : List (K × V) → List (K × V) → List (K × V)} {E : List (K × V) → List (K × V) → Int} {w w' : World} {B N bb : Nat} {own : List Nat} {L C : List (K × V)} {ts : List TypeId} (h : RemSt F R E w B bb L C) (hk : Step B N ts own w w') (h1 : WAYT ∉ ts) (h2 : 35 ∉ ts) (h3 : 27 ∉ ts) (h4 : 88 ∉ ts) : RemSt F R E w' B bb L C := by
 obtain ⟨lv, cv, av, a, b, c, d, e, f, g, i⟩ := h
 exact ⟨lv, cv, av, hk.cells _ _ _ _ a (.inl h1), hk.cells _ _ _ _ b (.inl h2), hk.cells _ _ _ _ c (.inl h2), hk.cells _ _ _ _ d (.inl h2), hk.cells _ _ _ _ e (.inl h3), fun w'' hb => f w'' (hk.below.trans hb), fun w'' hb => g w'' (hk.below.trans hb), own_cells i (fun i cs fr hi => hk.cells _ _ _ _ hi (.inl h4))⟩

/-- Block i is not the row of the document on the way. -/
def FrA (bd : Nat) (W : World) (i : Nat) : Prop := ∃ ov ad bv, DBlk (_g := 0) W bd ov ad bv ∧ ov.ownBlock ≠ some i
/-- Rows of runs and operations stay that are none of the document's. -/
def KpA (bd : Nat) (x y : World) : Prop := ∀ (i : Nat) (cs : Array Value) (e : TypeId) (fr : Nat × Nat), x.heap[i]? = some (.cells cs e fr) → e = 77 ∨ e = 37 → FrA bd x i → y.heap[i]? = some (.cells cs e fr) ∧ FrA bd y i
theorem FrA.cells {bd i : Nat} {x y : World} (h : FrA bd x i) (hk : ∀ (j : Nat) (cs : Array Value) (fr : Nat × Nat), x.heap[j]? = some (.cells cs 49 fr) → y.heap[j]? = some (.cells cs 49 fr)) : FrA bd y i := by
 obtain ⟨ov, ad, bv, h1, h2⟩ := h
 exact ⟨ov, ad, bv, hk _ _ _ h1, h2⟩
theorem frA_step {bd : Nat} {B N : Nat} {own : List Nat} {x y : World} {i : Nat} (hs : Step B N WT own x y) (h : FrA bd x i) : FrA bd y i := h.cells fun j cs fr hj => hs.cells _ _ _ _ hj (.inl (by decide))
theorem kpA_ok (bd : Nat) : KpOk (KpA bd) where
 trans := fun h k i cs e fr hi he hf => by
  obtain ⟨a, b⟩ := h i cs e fr hi he hf
  exact k i cs e fr a he b
 below := fun hb i cs e fr hi _ hf => ⟨(hb.block _ (lt_of_heap hi)).trans hi, hf.cells fun j cs fr hj => (hb.block _ (lt_of_heap hj)).trans hj⟩
 put := fun W l o o' hl ho i cs e fr hi _ hf => ⟨putObj_cells hl ho hi, hf.cells fun j cs fr hj => putObj_cells hl ho hj⟩
theorem kpA_keep {bd B : Nat} {ts : List TypeId} {x y : World} (h : Keep B ts x y) (h1 : 77 ∉ ts) (h2 : 37 ∉ ts) (h3 : 49 ∉ ts) : KpA bd x y := fun i cs e fr hi he hf =>
 ⟨h.kept _ _ _ _ hi (by rcases he with rfl | rfl <;> assumption), hf.cells fun j cs fr hj => h.kept _ _ _ _ hj h3⟩
theorem kpA_runs {bd B : Nat} {x y : World} {ov ov' : Value} {l l' : List RunD} (hx : DSt x B bd ov l) (hy : DSt y B bd ov' l') (h : KeepR B x y ov ov') : KpA bd x y := fun i cs e fr hi he hf => by
 obtain ⟨ov0, ad0, bv0, e0, n0⟩ := hf
 obtain ⟨_, ad, bv, _, e1, _⟩ := hx
 have hov : ov = ov0 := by
  have h2 := e0.symm.trans e1
  simp only [Option.some.injEq, Obj.cells.injEq, Array.mk.injEq, List.cons.injEq] at h2
  exact h2.1.1.symm
 subst hov
 obtain ⟨ps', ad', bv', _, e2, _, hO', _⟩ := hy
 rcases he with rfl | rfl
 ·obtain ⟨a, b⟩ := h.runs i cs fr hi n0
  exact ⟨a, ov', ad', bv', e2, b⟩
 ·have hk := h.keep.kept _ _ _ _ hi (by decide)
  exact ⟨hk, ov', ad', bv', e2, own_ne hO'.1 hk (by decide)⟩

theorem frA_new {W : World} {B bd i : Nat} {ov : Value} {l : List RunD} (h : DSt W B bd ov l) (hi : W.heap.size ≤ i) : FrA bd W i := by
 obtain ⟨ps, ad, bv, _, h1, _, h3, _⟩ := h
 refine ⟨ov, ad, bv, h1, fun e => ?_⟩
 obtain ⟨_, cs, fr, h2⟩ := own_row h3.1 i e
 have := lt_of_heap h2
 omega
theorem OwnR.put {W : World} {B D : Nat} {o o' : Obj} {v : Value} {rs : List RP} (h : OwnR W B v rs) (hD : W.heap[D]? = some o) (ho : o.isCells = false) : OwnR (W.putObj D o') B v rs :=
 h.cells (fun _ _ _ hi => putObj_cells hD ho hi) (fun _ _ _ hi => putObj_cells hD ho hi)
@[go_sem] theorem run_storeF {P : Program} {w : World} (a : Addr) (m : Mode) (f : Fn) (c b : Array Value) : (store a (.func f c b) m).run P w = stored P w a (.func f c b) m := run_store P w a _ m rfl
theorem results_two {fn : Func} (h : fn.results = #[.cell 4 22, .cell 5 27]) {tmps : Array Value} {w : World} {b4 b5 : Nat} {v u : Value} (h4 : tmps.getD 4 undef = .pointer (some ⟨b4, 0, none⟩)) (h5 : tmps.getD 5 undef = .pointer (some ⟨b5, 0, none⟩))
 (z4 : w.cell? ⟨b4, 0, none⟩ = some v) (z5 : w.cell? ⟨b5, 0, none⟩ = some u) : (results fn tmps).run Tryz.prog w = .ok (.tuple #[v, u]) w := by
 rw [Array.getD_eq_getD_getElem?] at h4 h5
 simp [results, h, h4, h5, go_sem, z4, z5]
theorem two_set {W : World} {n : Nat} {t1 t2 : TypeId} {a b : Value} (v u : Value) (h1 : Boxed W n t1 a) (h2 : Boxed W (n + 1) t2 b) :
 Boxed ((W.setCell ⟨n, 0, none⟩ v).setCell ⟨n + 1, 0, none⟩ u) n t1 v ∧ Boxed ((W.setCell ⟨n, 0, none⟩ v).setCell ⟨n + 1, 0, none⟩ u) (n + 1) t2 u ∧ Keep n [t1, t2] W ((W.setCell ⟨n, 0, none⟩ v).setCell ⟨n + 1, 0, none⟩ u) := by
 have b1 := h1.set v
 have b2 : Boxed (W.setCell ⟨n, 0, none⟩ v) (n + 1) t2 b := (Below.heap_setCell _ _ _ _ (by simp)).trans h2
 exact ⟨(Below.heap_setCell _ _ _ _ (by simp)).trans b1, b2.set u, (keep_set (B := n) (ts := [t1, t2]) h1 (by simp) (Nat.le_refl _) ⟨n, 0, none⟩ rfl v).trans (keep_set (B := n) (ts := [t1, t2]) b2 (by simp) (by omega) ⟨n + 1, 0, none⟩ rfl u)⟩
theorem dst_new {W : World} {B b : Nat} (h : W.heap[b]? = some (.cells #[.slice none 0 0, .pointer none, .slice none 0 0] 49 (0, 0))) : DSt W B b (.slice none 0 0) [] :=
 ⟨[], .pointer none, .slice none 0 0, [], h, .inl rfl, ⟨World.ownsRow_nil _ _ _ _, fun p hp => by cases hp⟩, holds8_nil _ _, .inl ⟨rfl, rfl, rfl⟩⟩
end Go.Proofs.YtlfodemmdfaeeaaGreatDoor
