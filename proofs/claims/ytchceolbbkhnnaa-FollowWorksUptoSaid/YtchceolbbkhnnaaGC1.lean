import Derived.Test.YtchceolbbkhnnaaGA1
import Derived.Test.YtchceolbbkhnnaaGA2
import Derived.Deep.RegionHeld3
import Derived.Lib.Builder
import Derived.Lib.AppendStr
import Derived.Lib.UnsafeStr
import Derived.Laws.Externs
import Derived.Laws.IdiomCopy
import Derived.RegionTactic
import Derived.StillTailTactics
namespace Go.Proofs.Ytchceolbbkhnnaa
section
namespace Ch
open Rn
structure OpD where
 kind : Int
 n : Int
 text : ByteArray
 attrs : List (ByteArray × ByteArray)
def cat (a b : ByteArray) : ByteArray := ⟨(a.data.toList ++ b.data.toList).toArray⟩
theorem cat_data (a b : ByteArray) : (cat a b).data.toList = a.data.toList ++ b.data.toList := rfl
theorem size_data (a : ByteArray) : a.size = a.data.toList.length := rfl
theorem ba_eq {a b : ByteArray} (h : a.data.toList = b.data.toList) : a = b := by
 cases a; cases b; simp at h; subst h; rfl
theorem cat_size (a b : ByteArray) : (cat a b).size = a.size + b.size := by rw [size_data, cat_data, List.length_append]; rfl
theorem cat_nil {a b : ByteArray} (h : b.size = 0) : cat a b = a := ba_eq (by
 rw [cat_data, List.length_eq_zero_iff.1 (show b.data.toList.length = 0 from h), List.append_nil])
theorem cat_eq (a b : ByteArray) : a ++ b = cat a b := ba_eq (by simp [cat_data])
def opSz (o : OpD) : Int := if o.kind = 2 then cnt o.text.data.toList else o.n
def opE (o : OpD) : Int :=
 if o.kind = 1 then (if o.n < 1 ∨ o.text.size ≠ 0 then 30 else chgE o.attrs)
 else if o.kind = 2 then (if o.n ≠ 0 ∨ o.text.size = 0 then 30 else if er o.text.data.toList ≠ 0 then er o.text.data.toList else rgtE o.attrs)
 else if o.kind = 3 then (if o.n < 1 ∨ o.text.size ≠ 0 ∨ o.attrs.length ≠ 0 then 30 else 0)
 else 30
def scan : Int → Int → List OpD → Int × Int × Int
 | left, u, [] => (left, u, 0)
 | left, u, o :: r =>
   if opE o ≠ 0 then (0, 0, opE o)
   else if o.kind = 2 then scan left (u + opSz o) r
   else if left < o.n then (0, 0, 31)
   else scan (left - o.n) (if o.kind = 3 then u - o.n else u) r
def toE (f : Int) (ops : List OpD) : Int :=
 if f < 0 ∨ 20000 < f then 31 else if 2000 < ops.length then 2 else if (scan f f ops).2.2 ≠ 0 then (scan f f ops).2.2 else if 20000 < (scan f f ops).2.1 then 3 else 0
def toN (f : Int) (ops : List OpD) : Int := if toE f ops = 0 then (scan f f ops).2.1 else 0
def kd : List OpD → Int
 | [] => 0
 | o :: r => (if o.kind = 2 then 0 else o.n) + kd r
def dl : List OpD → Int
 | [] => 0
 | o :: r => (if o.kind = 3 then o.n else 0) + dl r
def ins : List OpD → Int
 | [] => 0
 | o :: r => (if o.kind = 2 then cnt o.text.data.toList else 0) + ins r
def allE (ops : List OpD) : Prop := ∀ o ∈ ops, opE o = 0
theorem cnt_nonneg (l : List UInt8) : 0 ≤ cnt l ∧ cnt l ≤ 20000 := by
 unfold cnt; split
 ·rename_i cs h
  have := (rd_some h).2.2; omega
 ·omega
theorem er_cases (l : List UInt8) : er l = 0 ∨ er l = 10 := by unfold er; split <;> simp
theorem chgE_cases (l : List (ByteArray × ByteArray)) : chgE l = 0 ∨ chgE l = 20 := by unfold chgE; split <;> simp
theorem rgtE_cases (l : List (ByteArray × ByteArray)) : rgtE l = 0 ∨ rgtE l = 20 := by unfold rgtE; split <;> simp
theorem opE_keep {o : OpD} (hk : o.kind = 1) : opE o = 0 ↔ 1 ≤ o.n ∧ o.text.size = 0 ∧ chgE o.attrs = 0 := by
 unfold opE; rw [if_pos hk]; split <;> omega
theorem opE_put {o : OpD} (hk : o.kind = 2) : opE o = 0 ↔ o.n = 0 ∧ o.text.size ≠ 0 ∧ er o.text.data.toList = 0 ∧ rgtE o.attrs = 0 := by
 unfold opE; rw [if_neg (by omega), if_pos hk]; split
 ·omega
 ·split <;> omega
theorem opE_cut {o : OpD} (hk : o.kind = 3) : opE o = 0 ↔ 1 ≤ o.n ∧ o.text.size = 0 ∧ o.attrs.length = 0 := by
 unfold opE; rw [if_neg (by omega), if_neg (by omega), if_pos hk]; split <;> omega
theorem opE_kind {o : OpD} (h : opE o = 0) : o.kind = 1 ∨ o.kind = 2 ∨ o.kind = 3 := by
 unfold opE at h; split at h
 ·omega
 ·split at h
  ·omega
  ·split at h <;> omega
theorem opE_n {o : OpD} (h : opE o = 0) (hk : o.kind ≠ 2) : 1 ≤ o.n := by
 rcases opE_kind h with k | k | k
 ·exact ((opE_keep k).1 h).1
 ·exact absurd k hk
 ·exact ((opE_cut k).1 h).1
theorem scan_ok (ops : List OpD) : ∀ left u : Int, 0 ≤ left → ((scan left u ops).2.2 = 0 ↔ allE ops ∧ kd ops ≤ left) ∧ ((scan left u ops).2.2 = 0 → (scan left u ops).2.1 = u - dl ops + ins ops) := by
 induction ops with
 | nil =>
   intro left u h; refine ⟨⟨fun _ => ⟨(fun o ho => by cases ho), h⟩, fun _ => rfl⟩, fun _ => ?_⟩; show u = u - 0 + 0
   omega
 | cons o r ih =>
   intro left u h; have hall : allE (o :: r) ↔ opE o = 0 ∧ allE r := by
    unfold allE; rw [List.forall_mem_cons]
   rw [hall]; show ((scan left u (o :: r)).2.2 = 0 ↔ _) ∧ _
   rw [scan, kd, dl, ins]
   by_cases he : opE o = 0
   ·rw [if_neg (by simpa using he)]
    by_cases hk : o.kind = 2
    ·rw [if_pos hk, if_pos hk, if_pos hk, if_neg (by omega)]
     obtain ⟨h1, h2⟩ := ih left (u + opSz o) h; have hs : opSz o = cnt o.text.data.toList := by unfold opSz; rw [if_pos hk]
     refine ⟨?_, fun h0 => ?_⟩
     ·rw [h1]
      constructor
      ·rintro ⟨a, b⟩; exact ⟨⟨he, a⟩, by omega⟩
      ·rintro ⟨⟨_, a⟩, b⟩; exact ⟨a, by omega⟩
     ·rw [h2 h0, hs]; omega
    ·rw [if_neg hk, if_neg hk, if_neg hk]
     have hn := opE_n he hk
     by_cases hl : left < o.n
     ·rw [if_pos hl]
      have hkd : allE r → 0 ≤ kd r := fun ha => by
       clear ih hall; induction r with
       | nil => exact Int.le_refl _
       | cons x s ih =>
         have hx := ha x (List.mem_cons_self ..); have := ih fun y hy => ha y (List.mem_cons_of_mem _ hy); rw [kd]; split
         ·omega
         ·have := opE_n hx (by assumption); omega
      refine ⟨⟨fun h0 => by simp at h0, fun ⟨⟨_, ha⟩, hb⟩ => ?_⟩, fun h0 => by simp at h0⟩; have := hkd ha; omega
     ·rw [if_neg hl]
      obtain ⟨h1, h2⟩ := ih (left - o.n) (if o.kind = 3 then u - o.n else u) (by omega); refine ⟨?_, fun h0 => ?_⟩
      ·rw [h1]
       constructor
       ·rintro ⟨a, b⟩; exact ⟨⟨he, a⟩, by omega⟩
       ·rintro ⟨⟨_, a⟩, b⟩; exact ⟨a, by omega⟩
      ·rw [h2 h0]
       split <;> omega
   ·rw [if_pos (by simpa using he)]
    exact ⟨⟨fun h0 => absurd h0 he, fun ⟨⟨a, _⟩, _⟩ => absurd a he⟩, fun h0 => absurd h0 he⟩
def OkC (f : Int) (ops : List OpD) : Prop := 0 ≤ f ∧ f ≤ 20000 ∧ ops.length ≤ 2000 ∧ allE ops ∧ kd ops ≤ f ∧ f - dl ops + ins ops ≤ 20000
theorem toE_iff (f : Int) (ops : List OpD) : toE f ops = 0 ↔ OkC f ops := by
 unfold toE OkC
 by_cases h1 : f < 0 ∨ 20000 < f
 ·rw [if_pos h1]
  constructor
  ·omega
  ·rintro ⟨a, b, _⟩; omega
 ·rw [if_neg h1]
  by_cases h2 : 2000 < ops.length
  ·rw [if_pos h2]
   constructor
   ·omega
   ·rintro ⟨_, _, a, _⟩; omega
  ·rw [if_neg h2]
   obtain ⟨h3, h4⟩ := scan_ok ops f f (by omega)
   by_cases h5 : (scan f f ops).2.2 = 0
   ·rw [if_neg (by simpa using h5)]
    have h6 := h4 h5; obtain ⟨h7, h8⟩ := h3.1 h5; rw [h6]; split
    ·constructor
     ·omega
     ·rintro ⟨_, _, _, _, _, a⟩; omega
    ·exact ⟨fun _ => ⟨by omega, by omega, by omega, h7, h8, by omega⟩, fun _ => rfl⟩
   ·rw [if_pos (by simpa using h5)]
    exact ⟨fun h => absurd h h5, fun ⟨_, _, _, a, b, _⟩ => h3.2 ⟨a, b⟩⟩
theorem toN_ok {f : Int} {ops : List OpD} (h : toE f ops = 0) : toN f ops = f - dl ops + ins ops := by
 unfold toN; rw [if_pos h]; have hc := (toE_iff f ops).1 h; exact (scan_ok ops f f hc.1).2 (((scan_ok ops f f hc.1).1).2 ⟨hc.2.2.2.1, hc.2.2.2.2.1⟩)
theorem toN_bad {f : Int} {ops : List OpD} (h : toE f ops ≠ 0) : toN f ops = 0 := by
 unfold toN; rw [if_neg h]
def put : List OpD → OpD → List OpD
 | [], o => [o]
 | x :: r, o => if x.kind = o.kind ∧ x.attrs = o.attrs then { x with n := x.n + o.n, text := cat x.text o.text } :: r else o :: x :: r
def delO (g : Int) : OpD := ⟨3, g, ⟨#[]⟩, []⟩
def flush (s : List OpD × Int) : List OpD := if 0 < s.2 then put s.1 (delO s.2) else s.1
def add (s : List OpD × Int) (o : OpD) : List OpD × Int := if o.kind = 3 then (s.1, s.2 + o.n) else if o.kind = 1 then (put (flush s) o, 0) else (put s.1 o, s.2)
def trim : List OpD → List OpD
 | [] => []
 | x :: r => if x.kind = 1 ∧ x.attrs.length = 0 then r else x :: r
def fold (ops : List OpD) : List OpD × Int := ops.foldl add ([], 0)
def norm (ops : List OpD) : List OpD := (trim (flush (fold ops))).reverse
theorem fold_snoc (ops : List OpD) (o : OpD) : fold (ops ++ [o]) = add (fold ops) o := by unfold fold; rw [List.foldl_append]; rfl
def NF : List OpD → Prop
 | [] => True
 | y :: r => (∀ x r', r = x :: r' → ¬ (x.kind = y.kind ∧ x.attrs = y.attrs) ∧ (x.kind = 3 → y.kind = 1)) ∧ NF r
def hd3 (l : List OpD) : Prop := ∀ x r, l = x :: r → x.kind ≠ 3
theorem put_fresh {l : List OpD} {o : OpD} (h : ∀ x r, l = x :: r → ¬ (x.kind = o.kind ∧ x.attrs = o.attrs)) : put l o = o :: l := by
 cases l with
 | nil => rfl
 | cons x r => rw [put, if_neg (h x r rfl)]
theorem put_len_le (l : List OpD) (o : OpD) : (put l o).length ≤ l.length + 1 := by
 cases l with
 | nil => simp [put]
 | cons x r => rw [put]; split <;> simp
theorem put_head (l : List OpD) (o : OpD) : ∃ x r, put l o = x :: r ∧ x.kind = o.kind ∧ x.attrs = o.attrs := by
 cases l with
 | nil => exact ⟨o, [], rfl, rfl, rfl⟩
 | cons x r =>
   rw [put]; split
   ·rename_i h; exact ⟨_, _, rfl, h.1, h.2⟩
   ·exact ⟨_, _, rfl, rfl, rfl⟩
theorem put_NF {l : List OpD} {o : OpD} (h : NF l) (hd : ∀ x r, l = x :: r → x.kind = 3 → o.kind = 1 ∨ o.kind = 3 ∧ o.attrs = x.attrs) : NF (put l o) := by
 cases l with
 | nil => exact ⟨(fun x r' e => by cases e), trivial⟩
 | cons x r =>
   rw [put]; split
   ·rename_i ha
    refine ⟨fun y r' e => ?_, h.2⟩; obtain ⟨h1, h2⟩ := h.1 y r' e; exact ⟨h1, h2⟩
   ·rename_i ha
    refine ⟨fun y r' e => ?_, h⟩; simp only [List.cons.injEq] at e; obtain ⟨rfl, rfl⟩ := e; refine ⟨ha, fun h3 => ?_⟩; rcases hd _ _ rfl h3 with h | ⟨h, h'⟩
    ·exact h
    ·exact absurd ⟨h3.trans h.symm, h'.symm⟩ ha
def St (s : List OpD × Int) : Prop := NF s.1 ∧ hd3 s.1
theorem St.flush {s : List OpD × Int} (h : St s) : NF (flush s) := by
 unfold Ch.flush; split
 ·refine put_NF h.1 fun x r e h3 => absurd h3 (h.2 x r e)
 ·exact h.1
theorem St.add {s : List OpD × Int} (h : St s) {o : OpD} (_ho : o.kind = 1 ∨ o.kind = 2 ∨ o.kind = 3) : St (add s o) := by
 unfold Ch.add; split
 ·exact h
 ·split
  ·rename_i h3 h1
   refine ⟨put_NF h.flush fun x r e _ => .inl h1, fun x r e => ?_⟩; obtain ⟨y, r', e', hy, _⟩ := put_head (Ch.flush s) o; rw [e'] at e; simp only [List.cons.injEq] at e; rw [← e.1, hy, h1]
   decide
  ·rename_i h3 h1
   refine ⟨put_NF h.1 fun x r e h3' => absurd h3' (h.2 x r e), fun x r e => ?_⟩; obtain ⟨y, r', e', hy, _⟩ := put_head s.1 o; rw [e'] at e; simp only [List.cons.injEq] at e; rw [← e.1, hy]; exact h3
theorem fold_St {ops : List OpD} (h : allE ops) : St (fold ops) := by
 have key : ∀ (ops : List OpD) (s : List OpD × Int), St s → allE ops → St (ops.foldl add s) := by
  intro ops; induction ops with
  | nil => intro s h _; exact h
  | cons o r ih => intro s h ha; exact ih _ (h.add (opE_kind (ha o (List.mem_cons_self ..)))) fun x hx => ha x (List.mem_cons_of_mem _ hx)
 exact key ops _ ⟨trivial, fun x r e => by cases e⟩ h
def siz (s : List OpD × Int) : Nat := s.1.length + if 0 < s.2 then 1 else 0
theorem flush_len (s : List OpD × Int) : (flush s).length ≤ siz s := by
 unfold flush siz; split
 ·exact put_len_le _ _
 ·exact Nat.le_refl _
theorem siz_add (s : List OpD × Int) (o : OpD) : siz (add s o) ≤ siz s + 1 := by
 have h1 := flush_len s; unfold add; split
 ·unfold siz; dsimp only; split <;> split <;> omega
 ·split
  ·have := put_len_le (flush s) o
   have e : siz (put (flush s) o, 0) = (put (flush s) o).length := by unfold siz; simp
   rw [e]; omega
  ·have := put_len_le s.1 o
   unfold siz; dsimp only; split <;> omega
theorem siz_fold (ops : List OpD) : siz (fold ops) ≤ ops.length := by
 have key : ∀ (ops : List OpD) (s : List OpD × Int), siz (ops.foldl add s) ≤ siz s + ops.length := by
  intro ops; induction ops with
  | nil => intro s; simp
  | cons o r ih =>
    intro s; have h1 := ih (add s o); have h2 := siz_add s o; rw [List.foldl_cons, List.length_cons]; omega
 have := key ops ([], 0); have e : siz ([], 0) = 0 := rfl; rw [e] at this; unfold fold; omega
theorem trim_len (l : List OpD) : (trim l).length ≤ l.length := by
 cases l with
 | nil => exact Nat.le_refl _
 | cons x r => rw [trim]; split <;> simp
theorem norm_len (ops : List OpD) : (norm ops).length ≤ ops.length := by
 unfold norm; rw [List.length_reverse]; exact Nat.le_trans (trim_len _) (Nat.le_trans (flush_len _) (siz_fold _))
theorem kd_append (a b : List OpD) : kd (a ++ b) = kd a + kd b := by
 induction a with
 | nil => simp [kd]
 | cons x r ih => simp only [List.cons_append, kd, ih]; omega
theorem dl_append (a b : List OpD) : dl (a ++ b) = dl a + dl b := by
 induction a with
 | nil => simp [dl]
 | cons x r ih => simp only [List.cons_append, dl, ih]; omega
theorem ins_append (a b : List OpD) : ins (a ++ b) = ins a + ins b := by
 induction a with
 | nil => simp [ins]
 | cons x r ih => simp only [List.cons_append, ins, ih]; omega
theorem kd_reverse (a : List OpD) : kd a.reverse = kd a := by
 induction a with
 | nil => rfl
 | cons x r ih => rw [List.reverse_cons, kd_append, ih]; simp only [kd]; omega
theorem dl_reverse (a : List OpD) : dl a.reverse = dl a := by
 induction a with
 | nil => rfl
 | cons x r ih => rw [List.reverse_cons, dl_append, ih]; simp only [dl]; omega
theorem ins_reverse (a : List OpD) : ins a.reverse = ins a := by
 induction a with
 | nil => rfl
 | cons x r ih => rw [List.reverse_cons, ins_append, ih]; simp only [ins]; omega
theorem ins_nonneg (l : List OpD) : 0 ≤ ins l := by
 induction l with
 | nil => exact Int.le_refl _
 | cons x r ih => rw [ins]; have := cnt_nonneg x.text.data.toList; split <;> omega
theorem kd_nonneg {l : List OpD} (h : allE l) : 0 ≤ kd l := by
 induction l with
 | nil => exact Int.le_refl _
 | cons x r ih =>
   have := ih fun y hy => h y (List.mem_cons_of_mem _ hy); rw [kd]; split
   ·omega
   ·have := opE_n (h x (List.mem_cons_self ..)) (by assumption); omega
theorem dl_le_kd {l : List OpD} (h : allE l) : 0 ≤ dl l ∧ dl l ≤ kd l := by
 induction l with
 | nil => exact ⟨Int.le_refl _, Int.le_refl _⟩
 | cons x r ih =>
   have := ih fun y hy => h y (List.mem_cons_of_mem _ hy); have hx := h x (List.mem_cons_self ..); rw [kd, dl]; rcases opE_kind hx with k | k | k
   ·rw [if_neg (by omega), if_neg (by omega)]; have := opE_n hx (by omega); omega
   ·rw [if_neg (by omega), if_pos k]; omega
   ·rw [if_pos k, if_neg (by omega)]; have := opE_n hx (by omega); omega
theorem er_cat {a b : ByteArray} (ha : er a.data.toList = 0) (hb : er b.data.toList = 0) (h : cnt a.data.toList + cnt b.data.toList ≤ 20000) :
 er (cat a b).data.toList = 0 ∧ cnt (cat a b).data.toList = cnt a.data.toList + cnt b.data.toList := by
 cases hra : rd a.data.toList with
 | none => rw [er_none hra] at ha; omega
 | some cs =>
   cases hrb : rd b.data.toList with
   | none => rw [er_none hrb] at hb; omega
   | some ds =>
     rw [cnt_some hra, cnt_some hrb] at h; obtain ⟨a1, a2, a3⟩ := rd_some hra; obtain ⟨b1, b2, b3⟩ := rd_some hrb; have e : rd (cat a b).data.toList = some (cs ++ ds) := by
      rw [cat_data, a2, b2, ← txt_append]; refine rd_txt _ (fun c hc => ?_) (by rw [List.length_append]; omega); rcases List.mem_append.1 hc with h | h
      ·exact a1 c h
      ·exact b1 c h
     rw [er_some e, cnt_some e, cnt_some hra, cnt_some hrb, List.length_append]; exact ⟨rfl, by omega⟩
theorem put_one {x o : OpD} (hx : opE x = 0) (ho : opE o = 0) (hk : x.kind = o.kind) (_ha : x.attrs = o.attrs) (hi : ins [x] + ins [o] ≤ 20000) :
 opE { x with n := x.n + o.n, text := cat x.text o.text } = 0 ∧ (x.kind = 2 → cnt (cat x.text o.text).data.toList = cnt x.text.data.toList + cnt o.text.data.toList) := by
 rcases opE_kind hx with k | k | k
 ·obtain ⟨x1, x2, x3⟩ := (opE_keep k).1 hx
  obtain ⟨o1, o2, o3⟩ := (opE_keep (hk ▸ k)).1 ho; refine ⟨(opE_keep (show ({ x with n := x.n + o.n, text := cat x.text o.text } : OpD).kind = 1 from k)).2 ⟨by show 1 ≤ x.n + o.n; omega, by show (cat x.text o.text).size = 0; rw [cat_size]; omega, x3⟩, fun h => by omega⟩
 ·obtain ⟨x1, x2, x3, x4⟩ := (opE_put k).1 hx
  obtain ⟨o1, o2, o3, o4⟩ := (opE_put (hk ▸ k)).1 ho; simp only [ins] at hi; rw [if_pos k, if_pos (hk ▸ k)] at hi; obtain ⟨e1, e2⟩ := er_cat x3 o3 (by omega); refine ⟨(opE_put (show ({ x with n := x.n + o.n, text := cat x.text o.text } : OpD).kind = 2 from k)).2 ⟨by show x.n + o.n = 0; omega, by show (cat x.text o.text).size ≠ 0; rw [cat_size]; omega, e1, x4⟩, fun _ => e2⟩
 ·obtain ⟨x1, x2, x3⟩ := (opE_cut k).1 hx
  obtain ⟨o1, o2, o3⟩ := (opE_cut (hk ▸ k)).1 ho; refine ⟨(opE_cut (show ({ x with n := x.n + o.n, text := cat x.text o.text } : OpD).kind = 3 from k)).2 ⟨by show 1 ≤ x.n + o.n; omega, by show (cat x.text o.text).size = 0; rw [cat_size]; omega, x3⟩, fun h => by omega⟩
theorem put_all {l : List OpD} {o : OpD} (hl : allE l) (ho : opE o = 0) (hi : ins l + ins [o] ≤ 20000) :
 allE (put l o) ∧ kd (put l o) = kd l + kd [o] ∧ dl (put l o) = dl l + dl [o] ∧ ins (put l o) = ins l + ins [o] := by
 cases l with
 | nil =>
   refine ⟨fun x hx => ?_, ?_, ?_, ?_⟩
   ·simp [put] at hx; subst hx; exact ho
   ·simp [put, kd]
   ·simp [put, dl]
   ·simp [put, ins]
 | cons x r =>
   have hx := hl x (List.mem_cons_self ..); have hr : allE r := fun y hy => hl y (List.mem_cons_of_mem _ hy); rw [put]; split
   ·rename_i h
    have hir := ins_nonneg r; have hi' : ins [x] + ins [o] ≤ 20000 := by simp only [ins] at hi ⊢; omega
    obtain ⟨h1, h2⟩ := put_one hx ho h.1 h.2 hi'; refine ⟨fun y hy => ?_, ?_, ?_, ?_⟩
    ·rcases List.mem_cons.1 hy with rfl | hy
     ·exact h1
     ·exact hr y hy
    ·simp only [kd, ← h.1]; split <;> omega
    ·simp only [dl, ← h.1]; split <;> omega
    ·simp only [ins, ← h.1]
     split
     ·rw [h2 (by assumption)]; omega
     ·omega
   ·refine ⟨fun y hy => ?_, ?_, ?_, ?_⟩
    ·rcases List.mem_cons.1 hy with rfl | hy
     ·exact ho
     ·exact hl y hy
    ·simp only [kd]; omega
    ·simp only [dl]; omega
    ·simp only [ins]; omega
theorem delO_ok {g : Int} (h : 0 < g) : opE (delO g) = 0 := (opE_cut rfl).2 ⟨by show 1 ≤ g; omega, rfl, rfl⟩
theorem flush_all {s : List OpD × Int} (hl : allE s.1) (hg : 0 ≤ s.2) (hi : ins s.1 ≤ 20000) :
 allE (flush s) ∧ kd (flush s) = kd s.1 + s.2 ∧ dl (flush s) = dl s.1 + s.2 ∧ ins (flush s) = ins s.1 := by
 unfold flush; split
 ·have e : ins [delO s.2] = 0 := rfl
  obtain ⟨h1, h2, h3, h4⟩ := put_all hl (delO_ok (by assumption)) (by rw [e]; omega); refine ⟨h1, ?_, ?_, ?_⟩
  ·rw [h2]; simp [kd, delO]
  ·rw [h3]; simp [dl, delO]
  ·rw [h4, e]; omega
 ·exact ⟨hl, by omega, by omega, rfl⟩
theorem add_all {s : List OpD × Int} {o : OpD} (hl : allE s.1) (hg : 0 ≤ s.2) (ho : opE o = 0) (hi : ins s.1 + ins [o] ≤ 20000) :
 allE (add s o).1 ∧ 0 ≤ (add s o).2 ∧ kd (add s o).1 + (add s o).2 = kd s.1 + s.2 + kd [o] ∧ dl (add s o).1 + (add s o).2 = dl s.1 + s.2 + dl [o] ∧ ins (add s o).1 = ins s.1 + ins [o] := by
 have hio := ins_nonneg [o]; obtain ⟨f1, f2, f3, f4⟩ := flush_all hl hg (by omega); unfold add; split
 ·rename_i h3
  have := opE_n ho (by omega); refine ⟨hl, by show 0 ≤ s.2 + o.n; omega, ?_, ?_, ?_⟩
  ·simp only [kd]; rw [if_neg (by omega)]; omega
  ·simp only [dl]; rw [if_pos h3]; omega
  ·simp only [ins]; rw [if_neg (by omega)]; omega
 ·split
  ·obtain ⟨h1, h2, h3, h4⟩ := put_all f1 ho (by rw [f4]; exact hi)
   refine ⟨h1, Int.le_refl _, ?_, ?_, ?_⟩
   ·show kd (put (flush s) o) + 0 = _; rw [h2, f2]; omega
   ·show dl (put (flush s) o) + 0 = _; rw [h3, f3]; omega
   ·show ins (put (flush s) o) = _; rw [h4, f4]
  ·rename_i h3 h1
   obtain ⟨g1, g2, g3, g4⟩ := put_all hl ho hi; refine ⟨g1, hg, ?_, ?_, g4⟩
   ·show kd (put s.1 o) + s.2 = _; rw [g2]; omega
   ·show dl (put s.1 o) + s.2 = _; rw [g3]; omega
theorem fold_all {ops : List OpD} (h : allE ops) (hi : ins ops ≤ 20000) :
 allE (fold ops).1 ∧ 0 ≤ (fold ops).2 ∧ kd (fold ops).1 + (fold ops).2 = kd ops ∧ dl (fold ops).1 + (fold ops).2 = dl ops ∧ ins (fold ops).1 = ins ops := by
 have key : ∀ (ops : List OpD) (s : List OpD × Int), allE s.1 → 0 ≤ s.2 → allE ops → ins s.1 + ins ops ≤ 20000 →
  allE (ops.foldl add s).1 ∧ 0 ≤ (ops.foldl add s).2 ∧ kd (ops.foldl add s).1 + (ops.foldl add s).2 = kd s.1 + s.2 + kd ops ∧ dl (ops.foldl add s).1 + (ops.foldl add s).2 = dl s.1 + s.2 + dl ops ∧ ins (ops.foldl add s).1 = ins s.1 + ins ops := by
  intro ops; induction ops with
  | nil => intro s h1 h2 _ _; refine ⟨h1, h2, ?_, ?_, ?_⟩ <;> simp [kd, dl, ins]
  | cons o r ih =>
    intro s h1 h2 h3 h4; have hir := ins_nonneg r; have hs : ins (o :: r) = ins [o] + ins r := ins_append [o] r; have hk : kd (o :: r) = kd [o] + kd r := kd_append [o] r; have hd : dl (o :: r) = dl [o] + dl r := dl_append [o] r; obtain ⟨a1, a2, a3, a4, a5⟩ := add_all h1 h2 (h3 o (List.mem_cons_self ..)) (by omega); obtain ⟨b1, b2, b3, b4, b5⟩ := ih (add s o) a1 a2 (fun x hx => h3 x (List.mem_cons_of_mem _ hx)) (by omega); rw [List.foldl_cons]; exact ⟨b1, b2, by omega, by omega, by omega⟩
 obtain ⟨a, b, c, d, e⟩ := key ops ([], 0) (fun x hx => by cases hx) (Int.le_refl _) h (by simp [ins]; exact hi); have z1 : kd ([] : List OpD) = 0 := rfl; have z2 : dl ([] : List OpD) = 0 := rfl; have z3 : ins ([] : List OpD) = 0 := rfl; simp only [z1, z2, z3] at c d e; unfold fold; exact ⟨a, b, by omega, by omega, by omega⟩
theorem trim_all {l : List OpD} (h : allE l) : allE (trim l) ∧ kd (trim l) ≤ kd l ∧ dl (trim l) = dl l ∧ ins (trim l) = ins l := by
 cases l with
 | nil => exact ⟨h, Int.le_refl _, rfl, rfl⟩
 | cons x r =>
   rw [trim]; split
   ·rename_i hb
    have := opE_n (h x (List.mem_cons_self ..)) (by omega); refine ⟨fun y hy => h y (List.mem_cons_of_mem _ hy), ?_, ?_, ?_⟩
    ·rw [kd, if_neg (by omega)]; omega
    ·rw [dl, if_neg (by omega)]; omega
    ·rw [ins, if_neg (by omega)]; omega
   ·exact ⟨h, Int.le_refl _, rfl, rfl⟩
theorem OkC.ins {f : Int} {ops : List OpD} (h : OkC f ops) : ins ops ≤ 20000 := by
 obtain ⟨_, _, _, h4, h5, h6⟩ := h; have := dl_le_kd h4; omega
theorem norm_ok {f : Int} {ops : List OpD} (h : OkC f ops) : OkC f (norm ops) ∧ dl (norm ops) = dl ops ∧ Ch.ins (norm ops) = Ch.ins ops := by
 have hi := h.ins; obtain ⟨h1, h2, h3, h4, h5, h6⟩ := h; obtain ⟨a1, a2, a3, a4, a5⟩ := fold_all h4 hi; obtain ⟨b1, b2, b3, b4⟩ := flush_all a1 a2 (by omega); obtain ⟨c1, c2, c3, c4⟩ := trim_all b1; have hl := norm_len ops; unfold norm at hl ⊢; have k1 : kd (trim (flush (fold ops))).reverse = kd (trim (flush (fold ops))) := kd_reverse _; have k2 : dl (trim (flush (fold ops))).reverse = dl (trim (flush (fold ops))) := dl_reverse _; have k3 : Ch.ins (trim (flush (fold ops))).reverse = Ch.ins (trim (flush (fold ops))) := ins_reverse _; refine ⟨⟨h1, h2, by omega, fun x hx => c1 x (List.mem_reverse.1 hx), by omega, by omega⟩, by omega, by omega⟩
theorem norm_to {f : Int} {ops : List OpD} (h : toE f ops = 0) : toE f (norm ops) = 0 ∧ toN f (norm ops) = toN f ops := by
 obtain ⟨h1, h2, h3⟩ := norm_ok ((toE_iff f ops).1 h); have h4 := (toE_iff f _).2 h1; exact ⟨h4, by rw [toN_ok h, toN_ok h4, h2, h3]⟩
theorem fold_normal (l : List OpD) (h : NF l) (ha : allE l) : flush (l.foldr (fun o s => add s o) ([], 0)) = l ∧ (hd3 l → l.foldr (fun o s => add s o) ([], 0) = (l, 0)) := by
 induction l with
 | nil => exact ⟨rfl, fun _ => rfl⟩
 | cons y r ih =>
   obtain ⟨i1, i2⟩ := ih h.2 fun x hx => ha x (List.mem_cons_of_mem _ hx); have hy := ha y (List.mem_cons_self ..); have hput : put r y = y :: r := put_fresh fun x r' e => (h.1 x r' e).1; rw [List.foldr_cons]; rcases opE_kind hy with k | k | k
   ·have e : add (r.foldr (fun o s => add s o) ([], 0)) y = (y :: r, 0) := by
     have e0 : ∀ s : List OpD × Int, add s y = (put (flush s) y, 0) := fun s => by unfold add; rw [if_neg (by omega), if_pos k]
     rw [e0, i1, hput]
    rw [e]; exact ⟨rfl, fun _ => rfl⟩
   ·have hr : hd3 r := fun x r' e h3 => by have := (h.1 x r' e).2 h3; omega
    have e : add (r.foldr (fun o s => add s o) ([], 0)) y = (y :: r, 0) := by
     rw [i2 hr]; unfold add; rw [if_neg (by omega), if_neg (by omega), hput]
    rw [e]; exact ⟨rfl, fun _ => rfl⟩
   ·have hr : hd3 r := fun x r' e h3 => by have := (h.1 x r' e).2 h3; omega
    obtain ⟨y1, y2, y3⟩ := (opE_cut k).1 hy; have e : add (r.foldr (fun o s => add s o) ([], 0)) y = (r, y.n) := by
     rw [i2 hr]; unfold add; rw [if_pos k]; simp
    have hyd : delO y.n = y := by
     obtain ⟨a, b, c, d⟩ := y; simp only at k y1 y2 y3; subst k; have hc : c = ⟨#[]⟩ := ba_eq (List.length_eq_zero_iff.1 y2); have hd : d = [] := List.length_eq_zero_iff.1 y3; rw [hc, hd]; rfl
    rw [e]; refine ⟨?_, fun h3 => absurd k (h3 y r rfl)⟩; unfold flush; rw [if_pos (by show 0 < y.n; omega)]; show put r (delO y.n) = _
    rw [hyd, hput]
theorem NF.trim {l : List OpD} (h : NF l) : NF (trim l) := by
 cases l with
 | nil => exact h
 | cons x r => rw [Ch.trim]; split
               ·exact h.2
               ·exact h
theorem trim_trim {l : List OpD} (h : NF l) : trim (trim l) = trim l := by
 cases l with
 | nil => rfl
 | cons x r =>
   by_cases hb : x.kind = 1 ∧ x.attrs.length = 0
   ·have e : trim (x :: r) = r := by rw [trim, if_pos hb]
    rw [e]; cases r with
    | nil => rfl
    | cons y s =>
      rw [trim, if_neg]; intro hb'; refine (h.1 y s rfl).1 ⟨by omega, ?_⟩; rw [List.length_eq_zero_iff.1 hb'.2, List.length_eq_zero_iff.1 hb.2]
   ·have e : trim (x :: r) = x :: r := by rw [trim, if_neg hb]
    rw [e, e]
theorem add_swap {s : List OpD × Int} {o d : OpD} (ho : o.kind = 2) (hd : d.kind = 3) : add (add s o) d = add (add s d) o := by
 have e1 : ∀ s : List OpD × Int, add s d = (s.1, s.2 + d.n) := fun s => by unfold add; rw [if_pos hd]
 have e2 : ∀ s : List OpD × Int, add s o = (put s.1 o, s.2) := fun s => by unfold add; rw [if_neg (by omega), if_neg (by omega)]
 rw [e1, e2, e1, e2]
end Ch
end
section
open Rn Ch At
theorem norm_sums {ops : List OpD} (h : allE ops) (hi : ins ops ≤ 20000) : allE (norm ops) ∧ kd (norm ops) ≤ kd ops ∧ dl (norm ops) = dl ops ∧ ins (norm ops) = ins ops := by
 obtain ⟨a1, a2, a3, a4, a5⟩ := fold_all h hi; obtain ⟨b1, b2, b3, b4⟩ := flush_all a1 a2 (by omega); obtain ⟨c1, c2, c3, c4⟩ := trim_all b1; unfold norm; have k1 : kd (trim (flush (fold ops))).reverse = kd (trim (flush (fold ops))) := kd_reverse _; have k2 : dl (trim (flush (fold ops))).reverse = dl (trim (flush (fold ops))) := dl_reverse _; have k3 : Ch.ins (trim (flush (fold ops))).reverse = Ch.ins (trim (flush (fold ops))) := ins_reverse _; exact ⟨fun x hx => c1 x (List.mem_reverse.1 hx), by omega, by omega, by omega⟩
theorem norm_once {ops : List OpD} (h : allE ops) (hi : ins ops ≤ 20000) : norm (norm ops) = norm ops := by
 have hc := (norm_sums h hi).1; have hs := (fold_St h).flush.trim; have ha : allE (trim (flush (fold ops))) := fun x hx => hc x (List.mem_reverse.2 hx); have := (fold_normal _ hs ha).1; have e : fold (norm ops) = (trim (flush (fold ops))).foldr (fun o s => add s o) ([], 0) := by
  show List.foldl add ([], 0) (trim (flush (fold ops))).reverse = _
  rw [List.foldl_reverse]
 show (trim (flush (fold (norm ops)))).reverse = (trim (flush (fold ops))).reverse
 rw [e, this, trim_trim (fold_St h).flush]
end
section
open Go.RowKit Ch
abbrev opAgg (o : OpD) (av : Value) : Value := .agg #[.int .i64 o.kind, .int .i64 o.n, .string o.text, av]
abbrev chAgg (f : Int) (v : Value) : Value := .agg #[.int .i64 f, v]
def OpAt (w : World) (b p : Nat) (o : OpD) : Prop := ∃ av, AtRow w av o.attrs ∧ Proper av ∧ w.cell? ⟨b, p, none⟩ = some (.int .i64 o.kind) ∧ w.cell? ⟨b, p + 1, none⟩ = some (.int .i64 o.n) ∧ w.cell? ⟨b, p + 2, none⟩ = some (.string o.text) ∧ w.cell? ⟨b, p + 3, none⟩ = some av
def OpRow (w : World) (v : Value) (ops : List OpD) : Prop :=
 ∃ a cap, v = .slice a ops.length cap ∧ ops.length ≤ cap ∧ cap ≤ maxLen ∧ ∀ i (h : i < ops.length), ∃ b off, a = some ⟨b, off, none⟩ ∧ b < w.heap.size ∧ OpAt w b (off + i * 4) ops[i]
theorem OpAt.below {w w' : World} {b p : Nat} {o : OpD} (h : OpAt w b p o) (hlt : b < w.heap.size) (hb : Below w.heap.size w w') : OpAt w' b p o := by
 obtain ⟨av, h0, hp, h1, h2, h3, h4⟩ := h; exact ⟨av, h0.below hb, hp, by rw [hb.cell (by exact hlt)]; exact h1, by rw [hb.cell (by exact hlt)]; exact h2, by rw [hb.cell (by exact hlt)]; exact h3, by rw [hb.cell (by exact hlt)]; exact h4⟩
theorem OpRow.below {w w' : World} {v : Value} {ops : List OpD} (h : OpRow w v ops) (hb : Below w.heap.size w w') : OpRow w' v ops := by
 obtain ⟨a, cap, rfl, h1, h2, h3⟩ := h; refine ⟨a, cap, rfl, h1, h2, fun i hi => ?_⟩; obtain ⟨b, off, rfl, hlt, ho⟩ := h3 i hi; exact ⟨b, off, rfl, Nat.lt_of_lt_of_le hlt hb.size, ho.below hlt hb⟩
theorem OpRow.nil (w : World) : OpRow w (.slice none 0 0) [] := ⟨none, 0, rfl, Nat.le_refl _, Nat.zero_le _, fun _i h => absurd h (Nat.not_lt_zero _)⟩
def OSized (ops : List OpD) : Prop := ∀ o ∈ ops, o.text.size ≤ maxLen ∧ Sized o.attrs
theorem text_empty {s : ByteArray} (h : s.size = 0) : s.toList.isEmpty = true ∧ s.toList = [] := by
 have e : s = ⟨#[]⟩ := ba_eq (List.length_eq_zero_iff.1 (show s.data.toList.length = 0 from h)); rw [e]; exact ⟨by rw [ByteArray.toList_eq]; rfl, by rw [ByteArray.toList_eq]⟩
theorem text_full {s : ByteArray} (h : s.size ≠ 0) : s.toList.isEmpty = false := by
 rw [ByteArray.toList_eq]; cases hl : s.data.toList with
 | nil => exact absurd (by rw [size_data, hl]; rfl) h
 | cons _ _ => rfl
theorem AtRow.shape {w : World} {v : Value} {l : List (ByteArray × ByteArray)} (h : AtRow w v l) : ∃ a cap, v = .slice a l.length cap := by
 obtain ⟨a, cap, rfl, _⟩ := h; exact ⟨a, cap, rfl⟩
theorem OpRow.shape {w : World} {v : Value} {l : List OpD} (h : OpRow w v l) : ∃ a cap, v = .slice a l.length cap := by
 obtain ⟨a, cap, rfl, _⟩ := h; exact ⟨a, cap, rfl⟩
theorem below_box (w : World) (o : Obj) : Below w.heap.size w (w.alloc o) := (Below.refl _ _).alloc (Nat.le_refl _) _
end
section
open Go.RowKit Ch
open Lib (hid)
def SizeOut (w : World) (o : OpD) (e : Ending) (w' : World) : Prop := ∃ n, e = .returned (.tuple #[.int .i64 n, .int .i64 (opE o)]) ∧ (opE o = 0 → n = opSz o) ∧ Below w.heap.size w w'
theorem sizeOut_bad {w w' : World} {o : OpD} {n : Int} (h : opE o = 30) (hb : Below w.heap.size w w') : SizeOut w o (.returned (.tuple #[.int .i64 n, .int .i64 30])) w' :=
 ⟨n, by rw [h], fun h0 => by omega, hb⟩
theorem sizeOut_mk {w w' : World} {o : OpD} {n E : Int} (h : opE o = E) (hn : E = 0 → n = opSz o) (hb : Below w.heap.size w w') : SizeOut w o (.returned (.tuple #[.int .i64 n, .int .i64 E])) w' :=
 ⟨n, by rw [h], fun h0 => hn (h.symm.trans h0), hb⟩
set_option maxRecDepth 100000 in
set_option maxHeartbeats 2000000 in
theorem size_any (o : OpD) (av : Value) (w : World) (hv : AtRow w av o.attrs) (ht : o.text.size ≤ maxLen) (hz : Sized o.attrs) :
 Calls Try.prog 60 #[opAgg o av] w (SizeOut w o) := by
 have Hv := hid hv; have Hz := hid hz; have Ht := hid ht; obtain ⟨aa, acap, rfl, _⟩ := hv; obtain ⟨W, hW⟩ : ∃ W, W = w.alloc (.cells #[.int .i64 o.kind, .int .i64 o.n, .string o.text, .slice aa o.attrs.length acap] 40) := ⟨_, rfl⟩; have BW := hid (show Below w.heap.size w W by rw [hW]; exact (Below.refl _ _).alloc (Nat.le_refl _) _); have c0 : W.cell? ⟨w.heap.size, 0, none⟩ = some (.int .i64 o.kind) := by rw [hW]; go_simp
 have c1 : W.cell? ⟨w.heap.size, 1, none⟩ = some (.int .i64 o.n) := by rw [hW]; go_simp
 have c2 : W.cell? ⟨w.heap.size, 2, none⟩ = some (.string o.text) := by rw [hW]; go_simp
 have c3 : W.cell? ⟨w.heap.size, 3, none⟩ = some (.slice aa o.attrs.length acap) := by rw [hW]; go_simp
 have hlt : w.heap.size < W.heap.size := by rw [hW]; simp
 have HW := hid hW; clear hz hW
 by_cases hk1 : o.kind = 1
 ·have k1 : (o.kind == 1) = true := by rw [hk1]; rfl
  by_cases hn : o.n < 1
  ·have e30 := hid (show opE o = 30 by unfold opE; rw [if_pos hk1, if_pos (.inl hn)])
   clear hk1; go_enter Try.func60, Try.ntmps60
   go_wp2_with fail
   rw [← HW.out]; go_wp2_with fail
   go_ret2
   exact sizeOut_bad e30.out BW.out
  ·have hn1 : 1 ≤ o.n := by omega
   by_cases ht0 : o.text.size = 0
   ·obtain ⟨t1, t2⟩ := text_empty ht0
    have e1 := hid (show opE o = chgE o.attrs by unfold opE; rw [if_pos hk1, if_neg (by omega)]); have e2 := hid (show opSz o = o.n by unfold opSz; rw [if_neg (by omega)]); have T := hid t2; clear hk1 hn ht0 t2; go_enter Try.func60, Try.ntmps60
    go_wp2_with fail
    rw [← HW.out]; go_wp2_with fail
    go_region_held3 (fun w' => w'.cell? ⟨w.heap.size, 1, none⟩ = some (.int .i64 o.n) ∧ w'.cell? ⟨w.heap.size, 3, none⟩ = some (.slice aa o.attrs.length acap))
     (first
      | exact ⟨c1, c3⟩
      | exact ⟨(BA.cell (by exact hlt)).trans c1, (BA.cell (by exact hlt)).trans c3⟩)
     (first
      | (go_at_call_of 73 (Value.slice aa o.attrs.length acap); refine (changeD_any _ o.attrs _ (Hv.out.below ((BW.out.drew).trans ((Below.refl _ _).mono BW.out.size))) Hz.out).mono ?_; rintro e wA ⟨rfl, hbA⟩; have BA : Below W.heap.size W wA := of_drew hbA))
    go_wp2_with fail
    go_ret2
    exact sizeOut_mk e1.out (fun _ => e2.out.symm) (BW.out.trans (BA.mono BW.out.size))
   ·have t1 := text_full ht0
    have e30 := hid (show opE o = 30 by unfold opE; rw [if_pos hk1, if_pos (.inr ht0)]); clear hk1 hn ht0; go_enter Try.func60, Try.ntmps60
    go_wp2_with fail
    rw [← HW.out]; go_wp2_with fail
    go_ret2
    exact sizeOut_bad e30.out BW.out
 ·have k1 : (o.kind == 1) = false := by rw [beq_eq_false_iff_ne]; exact hk1
  by_cases hk2 : o.kind = 2
  ·have k2 : (o.kind == 2) = true := by rw [hk2]; rfl
   by_cases hn : o.n = 0
   ·have n0 : (o.n != 0) = false := by rw [hn]; rfl
    by_cases ht0 : o.text.size = 0
    ·obtain ⟨t1, t2⟩ := text_empty ht0
     have e30 := hid (show opE o = 30 by unfold opE; rw [if_neg hk1, if_pos hk2, if_pos (.inr ht0)]); clear hk1 hk2 hn ht0 t2; go_enter Try.func60, Try.ntmps60
     go_wp2_with fail
     rw [← HW.out]; go_wp2_with fail
     go_ret2
     exact sizeOut_bad e30.out BW.out
    ·have t1 := text_full ht0
     have e0 : opE o = if er o.text.data.toList ≠ 0 then er o.text.data.toList else rgtE o.attrs := by unfold opE; rw [if_neg hk1, if_pos hk2, if_neg (by omega)]
     have e2 := hid (show opSz o = cnt o.text.data.toList by unfold opSz; rw [if_pos hk2])
     by_cases he : er o.text.data.toList = 0
     ·have e1 := hid (show opE o = rgtE o.attrs by rw [e0, if_neg (by simpa using he)])
      have Hcnt : ∀ W : World, Calls Try.prog 87 #[.string o.text] W fun e w' => e = .returned (.tuple #[.int .i64 (cnt o.text.data.toList), .int .i64 0]) ∧ Below W.heap.size W w' := fun W => by have := count_any o.text W Ht.out; rw [he] at this; exact this
      have HC := hid Hcnt; clear hk1 hk2 hn ht0 he e0 Hcnt; go_enter Try.func60, Try.ntmps60
      go_wp2_with fail
      rw [← HW.out]; go_wp2_with fail
      refine (HC.out _).mono ?_; rintro e w1 ⟨rfl, b1⟩; have d3 : w1.cell? ⟨w.heap.size, 3, none⟩ = some (.slice aa o.attrs.length acap) := (b1.cell (by exact hlt)).trans c3; have B1 := hid (BW.out.trans (b1.mono BW.out.size)); clear b1; go_wp2_with fail
      refine (rightD_any _ o.attrs _ (Hv.out.below B1.out) Hz.out).mono ?_; rintro e w2 ⟨rfl, b2⟩; have B2 := hid (B1.out.trans (b2.mono B1.out.size)); clear b2; go_wp2_with fail
      go_ret2
      exact sizeOut_mk e1.out (fun _ => e2.out.symm) B2.out
     ·have h10 : er o.text.data.toList = 10 := (er_cases _).resolve_left he
      have e1 := hid (show opE o = 10 by rw [e0, if_pos (by simpa using he), h10]); have Hcnt : ∀ W : World, Calls Try.prog 87 #[.string o.text] W fun e w' => e = .returned (.tuple #[.int .i64 (cnt o.text.data.toList), .int .i64 10]) ∧ Below W.heap.size W w' := fun W => by have := count_any o.text W Ht.out; rw [h10] at this; exact this
      have HC := hid Hcnt; clear hk1 hk2 hn ht0 he e0 Hcnt h10; go_enter Try.func60, Try.ntmps60
      go_wp2_with fail
      rw [← HW.out]; go_wp2_with fail
      refine (HC.out _).mono ?_; rintro e w1 ⟨rfl, b1⟩; have B1 := hid (BW.out.trans (b1.mono BW.out.size)); clear b1; go_wp2_with fail
      go_ret2
      exact sizeOut_mk e1.out (fun h0 => absurd h0 (by decide)) B1.out
   ·have n0 : (o.n != 0) = true := by rw [bne_iff_ne]; exact hn
    have e30 := hid (show opE o = 30 by unfold opE; rw [if_neg hk1, if_pos hk2, if_pos (.inl hn)]); clear hk1 hk2 hn; go_enter Try.func60, Try.ntmps60
    go_wp2_with fail
    rw [← HW.out]; go_wp2_with fail
    go_ret2
    exact sizeOut_bad e30.out BW.out
  ·have k2 : (o.kind == 2) = false := by rw [beq_eq_false_iff_ne]; exact hk2
   by_cases hk3 : o.kind = 3
   ·have k3 : (o.kind == 3) = true := by rw [hk3]; rfl
    by_cases hn : o.n < 1
    ·have e30 := hid (show opE o = 30 by unfold opE; rw [if_neg hk1, if_neg hk2, if_pos hk3, if_pos (.inl hn)])
     clear hk1 hk2 hk3; go_enter Try.func60, Try.ntmps60
     go_wp2_with fail
     rw [← HW.out]; go_wp2_with fail
     go_ret2
     exact sizeOut_bad e30.out BW.out
    ·have hn1 : 1 ≤ o.n := by omega
     by_cases ht0 : o.text.size = 0
     ·obtain ⟨t1, t2⟩ := text_empty ht0
      by_cases ha : o.attrs.length = 0
      ·have l0 : decide ((0 : Int) < (o.attrs.length : Int)) = false := decide_eq_false (by omega)
       have l1 : decide (0 < o.attrs.length) = false := decide_eq_false (by omega); have e1 := hid (show opE o = 0 by unfold opE; rw [if_neg hk1, if_neg hk2, if_pos hk3, if_neg (by omega)]); have e2 := hid (show opSz o = o.n by unfold opSz; rw [if_neg hk2]); clear hk1 hk2 hk3 hn ht0 ha t2; go_enter Try.func60, Try.ntmps60
       go_wp2_with fail
       rw [← HW.out]; go_wp2_with fail
       go_ret2
       exact sizeOut_mk e1.out (fun _ => e2.out.symm) BW.out
      ·have l0 : decide ((0 : Int) < (o.attrs.length : Int)) = true := decide_eq_true (by omega)
       have l1 : decide (0 < o.attrs.length) = true := decide_eq_true (by omega); have l2 : 0 < o.attrs.length := by omega
       have e30 := hid (show opE o = 30 by unfold opE; rw [if_neg hk1, if_neg hk2, if_pos hk3, if_pos (.inr (.inr ha))]); clear hk1 hk2 hk3 hn ht0 ha t2; go_enter Try.func60, Try.ntmps60
       go_wp2_with fail
       rw [← HW.out]; go_wp2_with fail
       go_ret2
       exact sizeOut_bad e30.out BW.out
     ·have t1 := text_full ht0
      have e30 := hid (show opE o = 30 by unfold opE; rw [if_neg hk1, if_neg hk2, if_pos hk3, if_pos (.inr (.inl ht0))]); clear hk1 hk2 hk3 hn ht0; go_enter Try.func60, Try.ntmps60
      go_wp2_with fail
      rw [← HW.out]; go_wp2_with fail
      go_ret2
      exact sizeOut_bad e30.out BW.out
   ·have k3 : (o.kind == 3) = false := by rw [beq_eq_false_iff_ne]; exact hk3
    have e30 := hid (show opE o = 30 by unfold opE; rw [if_neg hk1, if_neg hk2, if_neg hk3]); clear hk1 hk2 hk3; go_enter Try.func60, Try.ntmps60
    go_wp2_with fail
    rw [← HW.out]; go_wp2_with fail
    go_ret2
    exact sizeOut_bad e30.out BW.out
end
section
open Go.RowKit Ch
open Lib (hid)
theorem size_ok (o : OpD) (av : Value) (w : World) (hv : AtRow w av o.attrs) (ht : o.text.size ≤ maxLen) (hz : Sized o.attrs) (he : opE o = 0) :
 Calls Try.prog 60 #[opAgg o av] w fun e w' => e = .returned (.tuple #[.int .i64 (opSz o), .int .i64 0]) ∧ Below w.heap.size w w' :=
 (size_any o av w hv ht hz).mono fun e w' ⟨n, h1, h2, h3⟩ => ⟨by rw [h1, he, h2 he], h3⟩
theorem size_bad (o : OpD) (av : Value) (w : World) (hv : AtRow w av o.attrs) (ht : o.text.size ≤ maxLen) (hz : Sized o.attrs) :
 Calls Try.prog 60 #[opAgg o av] w fun e w' => ∃ n, e = .returned (.tuple #[.int .i64 n, .int .i64 (opE o)]) ∧ Below w.heap.size w w' :=
 (size_any o av w hv ht hz).mono fun _e _w' ⟨n, h1, _, h3⟩ => ⟨n, h1, h3⟩
theorem opSz_lim {o : OpD} (_he : opE o = 0) (hk : o.kind = 2) : 0 ≤ opSz o ∧ opSz o ≤ 20000 := by
 unfold opSz; rw [if_pos hk]; exact cnt_nonneg _
theorem opSz_n {o : OpD} (hk : o.kind ≠ 2) : opSz o = o.n := by
 unfold opSz; rw [if_neg hk]
theorem drop_at {ops : List OpD} {k : Nat} (h : k < ops.length) : ops.drop k = ops[k] :: ops.drop (k + 1) := List.drop_eq_getElem_cons h
theorem scan_bad {o : OpD} {r : List OpD} {left u : Int} (h : opE o ≠ 0) : scan left u (o :: r) = (0, 0, opE o) := by rw [scan, if_pos h]
theorem scan_put {o : OpD} {r : List OpD} {left u : Int} (h : opE o = 0) (hk : o.kind = 2) : scan left u (o :: r) = scan left (u + opSz o) r := by rw [scan, if_neg (by simpa using h), if_pos hk]
theorem scan_over {o : OpD} {r : List OpD} {left u : Int} (h : opE o = 0) (hk : o.kind ≠ 2) (hl : left < o.n) : scan left u (o :: r) = (0, 0, 31) := by rw [scan, if_neg (by simpa using h), if_neg hk, if_pos hl]
theorem scan_cut {o : OpD} {r : List OpD} {left u : Int} (h : opE o = 0) (hk : o.kind = 3) (hl : ¬ left < o.n) : scan left u (o :: r) = scan (left - o.n) (u - o.n) r := by rw [scan, if_neg (by simpa using h), if_neg (by omega), if_neg hl, if_pos hk]
theorem scan_keep {o : OpD} {r : List OpD} {left u : Int} (h : opE o = 0) (hk : o.kind ≠ 2) (hk3 : o.kind ≠ 3) (hl : ¬ left < o.n) : scan left u (o :: r) = scan (left - o.n) u r := by rw [scan, if_neg (by simpa using h), if_neg hk, if_neg hl, if_neg hk3]
def ToOut (w : World) (f : Int) (ops : List OpD) (e : Ending) (w' : World) : Prop := e = .returned (.tuple #[.int .i64 (toN f ops), .int .i64 (toE f ops)]) ∧ Below w.heap.size w w'
theorem toOut_mk {w w' : World} {f n E : Int} {ops : List OpD} (h : toE f ops = E) (hn : toN f ops = n) (hb : Below w.heap.size w w') : ToOut w f ops (.returned (.tuple #[.int .i64 n, .int .i64 E])) w' := ⟨by rw [h, hn], hb⟩
theorem toOut_bad {w w' : World} {f E : Int} {ops : List OpD} (h : toE f ops = E) (hE : E ≠ 0) (hb : Below w.heap.size w w') : ToOut w f ops (.returned (.tuple #[.int .i64 0, .int .i64 E])) w' :=
 toOut_mk h (toN_bad (by rw [h]; exact hE)) hb
theorem toE_scan {f E : Int} {ops : List OpD} {l u : Int} (h0 : 0 ≤ f) (h1 : f ≤ 20000) (h2 : ops.length ≤ 2000) (h : scan f f ops = (l, u, E)) (hE : E ≠ 0) : toE f ops = E := by
 unfold toE; rw [if_neg (by omega), if_neg (by omega), h, if_pos hE]
theorem toE_end {f : Int} {ops : List OpD} {l u : Int} (h0 : 0 ≤ f) (h1 : f ≤ 20000) (h2 : ops.length ≤ 2000) (h : scan f f ops = (l, u, 0)) : toE f ops = (if 20000 < u then 3 else 0) ∧ (¬ 20000 < u → toN f ops = u) := by
 have e : toE f ops = (if 20000 < u then 3 else 0) := by
  unfold toE; rw [if_neg (by omega), if_neg (by omega), h, if_neg (by simp)]
 refine ⟨e, fun hu => ?_⟩; rw [if_neg hu] at e; unfold toN; rw [if_pos e, h]
set_option maxRecDepth 100000 in
set_option maxHeartbeats 4000000 in
theorem to_any (f : Int) (v : Value) (ops : List OpD) (w : World) (hv : OpRow w v ops) (hz : OSized ops) :
 Calls Try.prog 39 #[chAgg f v] w (ToOut w f ops) := by
 have Hv := hid hv; have Hz := hid hz; obtain ⟨aa, acap, rfl, v1, v2, v3⟩ := hv; have V3 := hid v3; have hn : ops.length ≤ 9223372036854775807 := Nat.le_trans v1 v2; obtain ⟨W, hW⟩ : ∃ W, W = w.alloc (.cells #[.int .i64 f, .slice aa ops.length acap] 24) := ⟨_, rfl⟩; have BW := hid (show Below w.heap.size w W by rw [hW]; exact (Below.refl _ _).alloc (Nat.le_refl _) _); have c0 : W.cell? ⟨w.heap.size, 0, none⟩ = some (.int .i64 f) := by rw [hW]; go_simp
 have c1 : W.cell? ⟨w.heap.size, 1, none⟩ = some (.slice aa ops.length acap) := by rw [hW]; go_simp
 have HW := hid hW; clear hz hW v1 v2 v3
 by_cases hf : f < 0
 ·have e31 := hid (show toE f ops = 31 by unfold toE; rw [if_pos (.inl hf)])
  go_enter Try.func39, Try.ntmps39
  go_wp2_with fail
  rw [← HW.out]; go_wp2_with fail
  go_ret2
  exact toOut_bad e31.out (by decide) BW.out
 ·by_cases hf2 : 20000 < f
  ·have e31 := hid (show toE f ops = 31 by unfold toE; rw [if_pos (.inr hf2)])
   have hf0 : 0 ≤ f := by omega
   clear hf; go_enter Try.func39, Try.ntmps39
   go_wp2_with fail
   rw [← HW.out]; go_wp2_with fail
   go_ret2
   exact toOut_bad e31.out (by decide) BW.out
  ·have hf0 : 0 ≤ f := by omega
   have hf3 : f ≤ 20000 := by omega
   by_cases hl : 2000 < ops.length
   ·have e2 := hid (show toE f ops = 2 by unfold toE; rw [if_neg (by omega), if_pos hl])
    have l0 : decide ((2000 : Int) < (ops.length : Int)) = true := decide_eq_true (by omega); have l1 : decide (2000 < ops.length) = true := decide_eq_true (by omega); clear hf hf2; go_enter Try.func39, Try.ntmps39
    go_wp2_with fail
    rw [← HW.out]; go_wp2_with fail
    go_ret2
    exact toOut_bad e2.out (by decide) BW.out
   ·have hl2 : ops.length ≤ 2000 := by omega
    have l0 : decide ((2000 : Int) < (ops.length : Int)) = false := decide_eq_false (by omega); have l1 : decide (2000 < ops.length) = false := decide_eq_false (by omega); clear hf hf2 hl; go_enter Try.func39, Try.ntmps39
    go_wp2_with fail
    rw [← HW.out]; go_wp2_with fail
    go_quiet (fail)
    go_wp2_with fail
    go_loopw [4, 5, 29] (fun x y i wr => ∃ (left u : Int) (k : Nat), x = .int .i64 left ∧ y = .int .i64 u ∧ i = .int .i64 (k : Int) ∧ k ≤ ops.length ∧ scan f f ops = scan left u (ops.drop k) ∧ 0 ≤ left ∧ left ≤ 20000 ∧ left ≤ u ∧ u ≤ 20000 + 20000 * k ∧ Below w.heap.size w wr) (fun _ _ i _ => ops.length - (intOf i).toNat)
    case atStart => exact ⟨f, f, 0, rfl, rfl, rfl, Nat.zero_le _, rfl, hf0, hf3, Int.le_refl _, by omega, below_drewN BW.out _⟩
    case round =>
     obtain ⟨left, u, k, rfl, rfl, rfl, hk, hs, g1, g2, g3, g4, hb⟩ := hrel; have HB := hid hb
     by_cases hlt : k < ops.length
     ·have hlt' : (k : Int) < (ops.length : Int) := by omega
      obtain ⟨b, off, rfl, hbl, av, r0, _, x0, x1, x2, x3⟩ := V3.out k hlt; have z := Hz.out _ (List.getElem_mem hlt); rw [drop_at hlt] at hs; obtain ⟨o, ho⟩ : ∃ o, o = ops[k] := ⟨_, rfl⟩; rw [← ho] at r0 x0 x1 x2 z hs; obtain ⟨ar, cr, rfl⟩ := r0.shape; have y0 : wr.cell? ⟨b, off + k * 4, none⟩ = some (.int .i64 o.kind) := (hb.cell (by exact hbl)).trans x0; have y1 : wr.cell? ⟨b, off + k * 4 + 1, none⟩ = some (.int .i64 o.n) := (hb.cell (by exact hbl)).trans x1; have y2 : wr.cell? ⟨b, off + k * 4 + 2, none⟩ = some (.string o.text) := (hb.cell (by exact hbl)).trans x2; have y3 : wr.cell? ⟨b, off + k * 4 + 3, none⟩ = some (.slice ar o.attrs.length cr) := (hb.cell (by exact hbl)).trans x3; have hs0 : w.heap.size ≤ wr.heap.size := hb.size; obtain ⟨X, hX⟩ : ∃ X, X = wr.alloc (.cells #[.int .i64 o.kind, .int .i64 o.n, .string o.text, .slice ar o.attrs.length cr] 40) := ⟨_, rfl⟩; have BX := hid (show Below w.heap.size w X by rw [hX]; exact hb.alloc hs0 _)
      have R0 := hid (r0.below BX.out); have Z := hid z; have d0 : X.cell? ⟨wr.heap.size, 0, none⟩ = some (.int .i64 o.kind) := by rw [hX]; go_simp
      have d1 : X.cell? ⟨wr.heap.size, 1, none⟩ = some (.int .i64 o.n) := by rw [hX]; go_simp
      have d2 : X.cell? ⟨wr.heap.size, 2, none⟩ = some (.string o.text) := by rw [hX]; go_simp
      have d3 : X.cell? ⟨wr.heap.size, 3, none⟩ = some (.slice ar o.attrs.length cr) := by rw [hX]; go_simp
      have hXs : wr.heap.size < X.heap.size := by rw [hX]; simp
      have HX := hid hX; have HS := hid hs; clear ho r0 x0 x1 x2 x3 z hb hX hs
      by_cases he : opE o = 0
      ·have He := hid he
       by_cases hk2 : o.kind = 2
       ·have k2 : (o.kind == 2) = true := by rw [hk2]; rfl
        obtain ⟨s0, s1⟩ := opSz_lim he hk2; have HS2 := hid (HS.out.trans (scan_put he hk2)); have HC := hid (size_ok o _ X R0.out Z.out.1 Z.out.2 he); have w1' : IntKind.i64.wrap (u + opSz o) = u + opSz o := IntWalk.i64_in _ (by omega); clear he hk2; go_wp2_with fail
        rw [← HX.out]; go_wp2_with fail
        refine HC.out.mono ?_; rintro e w2 ⟨rfl, b2⟩; have e0 : w2.cell? ⟨wr.heap.size, 0, none⟩ = some (.int .i64 o.kind) := (b2.cell (by exact hXs)).trans d0; have B2 := hid (BX.out.trans (b2.mono BX.out.size)); clear b2; go_wp2_with fail
        go_roundw
        case rel => exact ⟨left, u + opSz o, k + 1, rfl, rfl, by go_num, by omega, HS2.out, g1, g2, by omega, by omega, B2.out⟩
        case measure => simp [intOf]; omega
       ·have k2 : (o.kind == 2) = false := by rw [beq_eq_false_iff_ne]; exact hk2
        have hn1 := opE_n he hk2; have hsz := opSz_n hk2; have HC := size_ok o _ X R0.out Z.out.1 Z.out.2 he; rw [hsz] at HC; have HC := hid HC
        by_cases hl3 : left < o.n
        ·have HS2 := hid (toE_scan hf0 hf3 hl2 (HS.out.trans (scan_over he hk2 hl3)) (by decide))
         clear he hk2 hsz; go_wp2_with fail
         rw [← HX.out]; go_wp2_with fail
         refine HC.out.mono ?_; rintro e w2 ⟨rfl, b2⟩; have e0 : w2.cell? ⟨wr.heap.size, 0, none⟩ = some (.int .i64 o.kind) := (b2.cell (by exact hXs)).trans d0; have B2 := hid (BX.out.trans (b2.mono BX.out.size)); clear b2; go_wp2_with fail
         go_ret2
         exact toOut_bad HS2.out (by decide) B2.out
        ·have hl4 : o.n ≤ left := by omega
         by_cases hk3 : o.kind = 3
         ·have k3 : (o.kind == 3) = true := by rw [hk3]; rfl
          have HS2 := hid (HS.out.trans (scan_cut he hk3 hl3)); clear he hk2 hsz hk3 hl3; go_wp2_with fail
          rw [← HX.out]; go_wp2_with fail
          refine HC.out.mono ?_; rintro e w2 ⟨rfl, b2⟩; have e0 : w2.cell? ⟨wr.heap.size, 0, none⟩ = some (.int .i64 o.kind) := (b2.cell (by exact hXs)).trans d0; have B2 := hid (BX.out.trans (b2.mono BX.out.size)); clear b2; go_wp2_with fail
          go_roundw
          case rel => exact ⟨left - o.n, u - o.n, k + 1, rfl, rfl, by go_num, by omega, HS2.out, by omega, by omega, by omega, by omega, B2.out⟩
          case measure => simp [intOf]; omega
         ·have k3 : (o.kind == 3) = false := by rw [beq_eq_false_iff_ne]; exact hk3
          have HS2 := hid (HS.out.trans (scan_keep he hk2 hk3 hl3)); clear he hk2 hsz hk3 hl3; go_wp2_with fail
          rw [← HX.out]; go_wp2_with fail
          refine HC.out.mono ?_; rintro e w2 ⟨rfl, b2⟩; have e0 : w2.cell? ⟨wr.heap.size, 0, none⟩ = some (.int .i64 o.kind) := (b2.cell (by exact hXs)).trans d0; have B2 := hid (BX.out.trans (b2.mono BX.out.size)); clear b2; go_wp2_with fail
          go_roundw
          case rel => exact ⟨left - o.n, u, k + 1, rfl, rfl, by go_num, by omega, HS2.out, by omega, by omega, by omega, by omega, B2.out⟩
          case measure => simp [intOf]; omega
      ·have t1 : (opE o != 0) = true := by rw [bne_iff_ne]; exact he
       have HS2 := hid (toE_scan hf0 hf3 hl2 (HS.out.trans (scan_bad he)) he); have HC := hid (size_bad o _ X R0.out Z.out.1 Z.out.2); have He := hid he; clear he; go_wp2_with fail
       rw [← HX.out]; go_wp2_with fail
       refine HC.out.mono ?_; rintro e w2 ⟨n2, rfl, b2⟩; have B2 := hid (BX.out.trans (b2.mono BX.out.size)); clear b2; go_wp2_with fail
       go_ret2
       exact toOut_bad HS2.out He.out B2.out
     ·have hkn : k = ops.length := by omega
      subst hkn; rw [List.drop_length] at hs; obtain ⟨q1, q2⟩ := toE_end hf0 hf3 hl2 (hs.trans rfl)
      by_cases hu : 20000 < u
      ·rw [if_pos hu] at q1
       have Q1 := hid q1; clear q1 q2 hs hb; go_wp2_with fail
       go_ret2
       exact toOut_bad Q1.out (by decide) HB.out
      ·rw [if_neg hu] at q1
       have Q1 := hid (And.intro q1 (q2 hu)); have hu2 : u ≤ 20000 := by omega
       clear q1 q2 hs hb; go_wp2_with fail
       go_ret2
       exact toOut_mk Q1.out.1 Q1.out.2 HB.out
theorem changeRight_any (f : Int) (v : Value) (ops : List OpD) (w : World) (hv : OpRow w v ops) (hz : OSized ops) :
 Calls Try.prog 59 #[chAgg f v] w fun e w' => e = .returned (.int .i64 (toE f ops)) ∧ Below w.heap.size w w' := by
 have HC := hid (to_any f v ops _ (hv.below (below_box w (.cells #[.int .i64 f, v] 24))) hz); obtain ⟨aa, acap, rfl⟩ := hv.shape; clear hv hz; go_enter Try.func59, Try.ntmps59
 go_wp2_with fail
 refine HC.out.mono ?_; rintro e w1 ⟨rfl, hb⟩; go_wp2_with fail
 go_ret
 exact ⟨rfl, (below_box w _).trans (hb.mono (by simp))⟩
end
section
open Go.RowKit Ch
instance : DecidableEq OpD := fun x y => decidable_of_iff (x.kind = y.kind ∧ x.n = y.n ∧ x.text = y.text ∧ x.attrs = y.attrs)
 ⟨fun ⟨h1, h2, h3, h4⟩ => by cases x; cases y; simp_all, fun h => by subst h; exact ⟨rfl, rfl, rfl, rfl⟩⟩
def alikeB (x y : OpD) : Bool := decide (x.kind = y.kind ∧ x.attrs = y.attrs)
def sameOps (l m : List OpD) : Bool := decide (l = m)
def sameCh (f g : Int) (l m : List OpD) : Bool := decide (f = g ∧ l = m)
theorem sameOps_len {l m : List OpD} (h : l.length ≠ m.length) : sameOps l m = false := decide_eq_false fun e => h (by rw [e])
theorem sameOps_at {l m : List OpD} {n : Nat} (h1 : n < l.length) (h2 : n < m.length) (h : l[n] ≠ m[n]) : sameOps l m = false := decide_eq_false fun e => by
 subst e; exact h rfl
theorem sameOps_all {l m : List OpD} (hl : l.length = m.length) (h : ∀ j (h1 : j < l.length) (h2 : j < m.length), l[j] = m[j]) : sameOps l m = true := decide_eq_true (List.ext_getElem hl h)
theorem alikeB_kind {x y : OpD} (h : x.kind ≠ y.kind) : alikeB x y = false := decide_eq_false fun e => h e.1
theorem alikeB_same {x y : OpD} (h : x.kind = y.kind) : alikeB x y = sameB x.attrs y.attrs := by
 unfold alikeB sameB
 by_cases ha : x.attrs = y.attrs
 ·rw [decide_eq_true ha, decide_eq_true ⟨h, ha⟩]
 ·rw [decide_eq_false ha, decide_eq_false fun e => ha e.2]
def OutB (w : World) (r : Bool) (e : Ending) (w' : World) : Prop := e = .returned (.bool r) ∧ Below w.heap.size w w'
theorem outB_mk {w w' : World} {r r' : Bool} (h : r = r') (hb : Below w.heap.size w w') : OutB w r (.returned (.bool r')) w' := ⟨by rw [h], hb⟩
set_option maxRecDepth 100000 in
set_option maxHeartbeats 2000000 in
theorem alike_any (x y : OpD) (xv yv : Value) (w : World) (hx : AtRow w xv x.attrs) (hy : AtRow w yv y.attrs) :
 Calls Try.prog 79 #[opAgg x xv, opAgg y yv] w (OutB w (alikeB x y)) := by
 have Hx := Lib.hid hx; have Hy := Lib.hid hy; obtain ⟨a, c, rfl⟩ := hx.shape; obtain ⟨b, d, rfl⟩ := hy.shape; obtain ⟨W, hW⟩ : ∃ W, W = (w.alloc (.cells #[.int .i64 x.kind, .int .i64 x.n, .string x.text, .slice a x.attrs.length c] 40)).alloc (.cells #[.int .i64 y.kind, .int .i64 y.n, .string y.text, .slice b y.attrs.length d] 40) := ⟨_, rfl⟩; have BW := Lib.hid (show Below w.heap.size w W by rw [hW]; exact ((Below.refl _ _).alloc (Nat.le_refl _) _).alloc (by simp) _); have c0 : W.cell? ⟨w.heap.size, 0, none⟩ = some (.int .i64 x.kind) := by rw [hW]; go_simp
 have c3 : W.cell? ⟨w.heap.size, 3, none⟩ = some (.slice a x.attrs.length c) := by rw [hW]; go_simp
 have d0 : W.cell? ⟨w.heap.size + 1, 0, none⟩ = some (.int .i64 y.kind) := by rw [hW]; go_simp
 have d3 : W.cell? ⟨w.heap.size + 1, 3, none⟩ = some (.slice b y.attrs.length d) := by rw [hW]; go_simp
 have HW := Lib.hid hW; clear hx hy hW
 by_cases hk : x.kind = y.kind
 ·have k1 : (x.kind == y.kind) = true := by rw [beq_iff_eq]; exact hk
  have hR := Lib.hid (alikeB_same hk); clear hk; go_enter Try.func79, Try.ntmps79
  go_wp2_with fail
  rw [← HW.out]; go_wp2_with fail
  refine (same_any _ _ x.attrs y.attrs _ (Hx.out.below BW.out) (Hy.out.below BW.out)).mono ?_; rintro e w1 ⟨rfl, k, rfl⟩; go_wp2_with fail
  go_ret
  exact outB_mk hR.out (below_drewN BW.out _)
 ·have k1 : (x.kind == y.kind) = false := by rw [beq_eq_false_iff_ne]; exact hk
  have hR := Lib.hid (alikeB_kind hk); clear hk; go_enter Try.func79, Try.ntmps79
  go_wp2_with fail
  rw [← HW.out]; go_wp2_with fail
  go_ret
  exact outB_mk hR.out (BW.out)
theorem beq_text {a b : ByteArray} : (a.toList == b.toList) = decide (a = b) := by
 by_cases h : a = b
 ·rw [h]; simp
 ·rw [decide_eq_false h, beq_eq_false_iff_ne]
  exact fun e => h (toList_ba e)
end
section
open Go.RowKit Ch
end
section
open Go.RowKit Ch
def Out (ts : List TypeId) : Obj → Prop
 | .cells _ e _ => e ∉ ts
 | _ => True
structure Keep (B : Nat) (ts : List TypeId) (w w' : World) : Prop where
 below : Below B w w'
 all : ∀ (i : Nat) (o : Obj), w.heap[i]? = some o → Out ts o → w'.heap[i]? = some o
theorem Keep.kept {B : Nat} {ts : List TypeId} {w w' : World} (h : Keep B ts w w') (i : Nat) (cs : Array Value) (e : TypeId) (fr : Nat × Nat) (hi : w.heap[i]? = some (Obj.cells cs e fr)) (he : e ∉ ts) : w'.heap[i]? = some (Obj.cells cs e fr) := h.all i _ hi he
theorem lt_of_heap {w : World} {i : Nat} {o : Obj} (h : w.heap[i]? = some o) : i < w.heap.size := (Array.getElem?_eq_some_iff.1 h).1
theorem Keep.refl (B : Nat) (ts : List TypeId) (w : World) : Keep B ts w w := ⟨Below.refl _ _, fun _ _ h _ => h⟩
theorem Keep.trans {B : Nat} {ts : List TypeId} {a b c : World} (h : Keep B ts a b) (k : Keep B ts b c) : Keep B ts a c :=
 ⟨h.below.trans k.below, fun i o hi ho => k.all i o (h.all i o hi ho) ho⟩
theorem Keep.more {B : Nat} {ts us : List TypeId} {w w' : World} (h : Keep B ts w w') (hs : ∀ t, t ∈ ts → t ∈ us) : Keep B us w w' :=
 ⟨h.below, fun i o hi ho => h.all i o hi (by cases o <;> first | trivial | exact fun ht => ho (hs _ ht))⟩
theorem Keep.mono {B C : Nat} {ts : List TypeId} {w w' : World} (h : Keep B ts w w') (hB : C ≤ B) : Keep C ts w w' := ⟨h.below.mono hB, h.all⟩
theorem keep_below {B : Nat} {ts : List TypeId} {w w' : World} (h : Below w.heap.size w w') (hB : B ≤ w.heap.size) : Keep B ts w w' :=
 ⟨h.mono hB, fun i _ hi _ => (h.block i (lt_of_heap hi)).trans hi⟩
theorem keep_set {B b : Nat} {ts : List TypeId} {w : World} {cs : Array Value} {e : TypeId} {fr : Nat × Nat} (hb : w.heap[b]? = some (.cells cs e fr)) (he : e ∈ ts) (hB : B ≤ b) (p : Addr) (hp : p.block = b) (u : Value) : Keep B ts w (w.setCell p u) :=
 ⟨(Below.refl _ _).setCell (by rw [hp]; exact hB) u, fun i o hi ho => by
   rw [Below.heap_setCell w p u i (by
    rintro rfl; rw [hp, hb] at hi; cases hi
    exact ho he)]
   exact hi⟩
theorem keep_grown {B : Nat} {ts : List TypeId} {w w' : World} {row : Option Nat} (hg : w.grownBy w' row) (hB : B ≤ w.heap.size) (hr : ∀ k, row = some k → B ≤ k ∧ ∃ cs e fr, w.heap[k]? = some (.cells cs e fr) ∧ e ∈ ts) : Keep B ts w w' :=
 ⟨(Below.refl _ _).grown hg hB fun k hk => (hr k hk).1, fun i o hi ho => by
   rw [hg.block i (lt_of_heap hi) (by
    intro hk; obtain ⟨_, cs', e', fr', h1, h2⟩ := hr i hk.symm; rw [h1] at hi; cases hi
    exact ho h2)]
   exact hi⟩
theorem own_row {w : World} {C k n : Nat} {e : TypeId} {v : Value} {xs : List Value} (h : w.ownsRow C e k v n xs) : ∀ j, v.ownBlock = some j → C ≤ j ∧ ∃ cs fr, w.heap[j]? = some (.cells cs e fr) := by
 intro j hj; rcases h.2 with ⟨rfl, _⟩ | ⟨g, cap, cur, rfl, hg, hc, _⟩
 ·simp [Value.ownBlock] at hj
 ·simp only [Value.ownBlock, Option.some.injEq] at hj
  subst hj; exact ⟨hg, cur, (0, 0), hc⟩
theorem keep_row {B k n : Nat} {ts : List TypeId} {w w' : World} {e : TypeId} {v : Value} {xs : List Value} (h : w.ownsRow B e k v n xs) (hg : w.grownBy w' v.ownBlock) (he : e ∈ ts) (hB : B ≤ w.heap.size) : Keep B ts w w' :=
 keep_grown hg hB fun j hj => by
  obtain ⟨h1, cs, fr, h2⟩ := own_row h j hj; exact ⟨h1, cs, e, fr, h2, he⟩
theorem Keep.own {B C k n : Nat} {ts : List TypeId} {w w' : World} {e : TypeId} {v : Value} {xs : List Value} (hk : Keep B ts w w') (h : w.ownsRow C e k v n xs) (he : e ∉ ts) : w'.ownsRow C e k v n xs :=
 ⟨h.1, h.2.imp id fun ⟨g, cap, cur, a, b, c, d⟩ => ⟨g, cap, cur, a, b, hk.kept g cur e (0, 0) c he, d⟩⟩
theorem block_ne {w : World} {i j : Nat} {cs cs' : Array Value} {e e' : TypeId} {fr fr' : Nat × Nat} (h : w.heap[i]? = some (.cells cs e fr)) (h' : w.heap[j]? = some (.cells cs' e' fr')) (hne : e ≠ e') : i ≠ j := by
 rintro rfl; rw [h] at h'; simp only [Option.some.injEq, Obj.cells.injEq] at h'; exact hne h'.2.1
theorem own_ne {w : World} {C k n i : Nat} {e e' : TypeId} {v : Value} {xs : List Value} {cs : Array Value} {fr : Nat × Nat} (h : w.ownsRow C e k v n xs) (h' : w.heap[i]? = some (.cells cs e' fr)) (hne : e ≠ e') : v.ownBlock ≠ some i := fun hv => by
 obtain ⟨_, cs', fr', h2⟩ := own_row h i hv; exact block_ne h2 h' hne rfl
def opCells (p : OpD × Value) : List Value := [.int .i64 p.1.kind, .int .i64 p.1.n, .string p.1.text, p.2]
def flatO (ps : List (OpD × Value)) : List Value := ps.flatMap opCells
theorem flatO_len (ps : List (OpD × Value)) : (flatO ps).length = ps.length * 4 := by
 induction ps with
 | nil => rfl
 | cons x r ih => simp [flatO, opCells] at ih ⊢; omega
theorem flatO_snoc (ps : List (OpD × Value)) (p : OpD × Value) : flatO (ps ++ [p]) = flatO ps ++ opCells p := by simp [flatO]
theorem flatO_at {ps : List (OpD × Value)} {i : Nat} (h : i < ps.length) (j : Nat) (hj : j < 4) : (flatO ps)[i * 4 + j]? = (opCells ps[i])[j]? := by
 induction ps generalizing i with
 | nil => simp at h
 | cons x r ih =>
   have e : flatO (x :: r) = opCells x ++ flatO r := rfl; have hx : (opCells x).length = 4 := rfl; rw [e]; cases i with
   | zero => rw [List.getElem?_append_left (by omega)]; simp
   | succ i =>
     rw [List.getElem?_append_right (by omega), hx]; have e2 : (i + 1) * 4 + j - 4 = i * 4 + j := by omega
     rw [e2, ih (by simpa using h)]; rfl
theorem flatO_one {ps : List (OpD × Value)} (h : ∀ p ∈ ps, p.2.oneCell' = true) : ∀ u ∈ flatO ps, u.oneCell' = true := fun u hu => by
 unfold flatO at hu; obtain ⟨x, hx, hu⟩ := List.mem_flatMap.1 hu; simp [opCells] at hu; rcases hu with rfl | rfl | rfl | rfl
 ·rfl
 ·rfl
 ·rfl
 ·exact h x hx
theorem own_one {w : World} {C k n : Nat} {e : TypeId} {v : Value} {xs : List Value} (h : w.ownsRow C e k v n xs) : v.oneCell' = true := by
 rcases h.2 with ⟨rfl, _⟩ | ⟨g, cap, cur, rfl, _⟩ <;> rfl
def OwnP (w : World) (B : Nat) (v : Value) (ps : List (OpD × Value)) : Prop :=
 w.ownsRow B 40 4 v ps.length (flatO ps) ∧ ∀ p ∈ ps, w.ownsRow B 81 2 p.2 p.1.attrs.length (flat p.1.attrs)
def OwnOps (w : World) (B : Nat) (v : Value) (l : List OpD) : Prop := ∃ ps : List (OpD × Value), ps.map (·.1) = l ∧ OwnP w B v ps
theorem OwnP.row {w : World} {B : Nat} {v : Value} {ps : List (OpD × Value)} (h : OwnP w B v ps) : OpRow w v (ps.map (·.1)) := by
 have hl : (ps.map (·.1)).length = ps.length := by simp
 rcases h.1.2 with ⟨rfl, h0⟩ | ⟨g, cap, cur, rfl, _, hg, hn, hm, _⟩
 ·have : ps = [] := List.length_eq_zero_iff.1 h0
  subst this; exact OpRow.nil w
 ·refine ⟨_, cap, by rw [hl], by omega, hm, fun i hi => ?_⟩
  have hi' : i < ps.length := by omega
  refine ⟨g, 0, rfl, lt_of_heap hg, ps[i].2, ?_, ?_, ?_⟩
  ·have := row_of_own (h.2 _ (List.getElem_mem hi'))
   rw [List.getElem_map]; exact this
  ·exact proper_own (h.2 _ (List.getElem_mem hi'))
  ·have e : ∀ j, j < 4 → w.cell? ⟨g, 0 + i * 4 + j, none⟩ = (opCells ps[i])[j]? := fun j hj => by
    rw [Nat.zero_add, h.1.cellAt _ (by omega), flatO_at hi' j hj]
   rw [List.getElem_map]; exact ⟨e 0 (by omega), e 1 (by omega), e 2 (by omega), e 3 (by omega)⟩
theorem OwnOps.row {w : World} {B : Nat} {v : Value} {l : List OpD} (h : OwnOps w B v l) : OpRow w v l := by
 obtain ⟨ps, rfl, h⟩ := h; exact h.row
theorem OwnP.keep {w w' : World} {B C : Nat} {ts : List TypeId} {v : Value} {ps : List (OpD × Value)} (h : OwnP w B v ps) (hk : Keep C ts w w') (h1 : 40 ∉ ts) (h2 : 81 ∉ ts) : OwnP w' B v ps :=
 ⟨hk.own h.1 h1, fun p hp => hk.own (h.2 p hp) h2⟩
theorem OwnP.base {w : World} {B C : Nat} {v : Value} {ps : List (OpD × Value)} (h : OwnP w B v ps) (hc : C ≤ B) : OwnP w C v ps := ⟨own_base h.1 hc, fun p hp => own_base (h.2 p hp) hc⟩
theorem OwnOps.base {w : World} {B C : Nat} {v : Value} {l : List OpD} (h : OwnOps w B v l) (hc : C ≤ B) : OwnOps w C v l := by
 obtain ⟨ps, e, h⟩ := h; exact ⟨ps, e, h.base hc⟩
theorem OwnOps.below {w w' : World} {B : Nat} {v : Value} {l : List OpD} (h : OwnOps w B v l) (hb : Below w.heap.size w w') : OwnOps w' B v l := by
 obtain ⟨ps, e, h⟩ := h; exact ⟨ps, e, h.keep (keep_below (ts := []) hb (Nat.le_refl _)) (by simp) (by simp)⟩
theorem infoOp : (Try.prog.info? 40).map (fun i => (i.zero, i.size, i.bytes)) = some (some (.agg #[.int .i64 0, .int .i64 0, .string ⟨#[]⟩, .slice none 0 0]), 4, 56) := by kernel_rfl
theorem step_append_own {P : Program} {ops : Array Oper} {o : Oper} {a : Act} {w : World} {K : Act → World → Prop} {Q : Exit → Act → World → Prop} {E : Prop}
 (hg : o.guard = none) (s x : Operand) (t : TypeId) (hop : o.op = Op.call { callee := Callee.builtin Builtin.append, args := #[s, x], argTypes := #[t, t] })
 (e : TypeId) (i : TypeInfo) (z : Value) (size bytes : Nat) (h1 : P.underlying t = some (.slice e)) (h2 : P.info? e = some i) (h3 : i.zero = some z) (h4 : i.size = size) (h5 : i.bytes = bytes) (h6 : z.cells.size = size) (h7 : 0 < size)
 (base : Nat) (v : Value) (n : Nat) (xs : List Value) (hs : a.eval s = v) (hown : w.ownsRow base e size v n xs)
 (ad : Addr) (m c : Nat) (news : List Value) (hx : a.eval x = .slice (some ad) m c) (hn : news.length = m * size) (hc : ∀ j u, news[j]? = some u → w.cell? (ad.add j) = some u) (h1c : ∀ u ∈ news, u.oneCell' = true)
 (b1 : n + m ≤ maxLen) (b2 : (n + m) * bytes ≤ 140737488355328) (hbase : base ≤ w.heap.size)
 (hK : ∀ v' w', w'.ownsRow base e size v' (n + m) (xs ++ news) → w.grownBy w' v.ownBlock → K (a.put o.dst v') w') :
 if Region.wanted o (yielded ops a.tmps) = true then Oper.wp P o a w K Q else E := by
 have hw : Region.wanted o (yielded ops a.tmps) = true := by simp [Region.wanted, hg]
 rw [if_pos hw]; obtain ⟨v', w', hrun, r1, r2, _⟩ := run_append_own (P := P) w base t o.type e i z size bytes h1 h2 h3 h4 h5 h6 h7 v n xs hown ad m c news hn hc h1c b1 b2 hbase; unfold Oper.wp; simp [execOp, hop, resolve, invoke, builtin, hs, hx, hrun, Result.andThen]; exact hK v' w' r1 r2
def NBlk (w : World) (b : Nat) (ov ad bv : Value) (g : Int) : Prop := w.heap[b]? = some (.cells #[ov, ad, bv, .int .i64 g] 56 (0, 0))
theorem NBlk.cells {w : World} {b : Nat} {ov ad bv : Value} {g : Int} (h : NBlk w b ov ad bv g) : w.cell? ⟨b, 0, none⟩ = some ov ∧ w.cell? ⟨b, 1, none⟩ = some ad ∧ w.cell? ⟨b, 2, none⟩ = some bv ∧ w.cell? ⟨b, 3, none⟩ = some (.int .i64 g) ∧
 ∀ j, w.frozen? ⟨b, j, none⟩ = false := by
 unfold NBlk at h; refine ⟨by simp [World.cell?, h], by simp [World.cell?, h], by simp [World.cell?, h], by simp [World.cell?, h], fun j => by simp [World.frozen?, h]⟩
theorem NBlk.keep {w w' : World} {b C : Nat} {ts : List TypeId} {ov ad bv : Value} {g : Int} (h : NBlk w b ov ad bv g) (hk : Keep C ts w w') (h1 : 56 ∉ ts) : NBlk w' b ov ad bv g := hk.kept _ _ _ _ h h1
theorem nblk_set {w : World} {b j : Nat} {cs : Array Value} {e : TypeId} {u : Value} (h : w.heap[b]? = some (.cells cs e (0, 0))) : (w.setCell ⟨b, j, none⟩ u).heap[b]? = some (.cells (cs.setIfInBounds j u) e (0, 0)) := by
 simp [World.setCell, Array.getElem?_modify, h]
theorem NBlk.set0 {w : World} {b : Nat} {ov ad bv u : Value} {g : Int} (h : NBlk w b ov ad bv g) : NBlk (w.setCell ⟨b, 0, none⟩ u) b u ad bv g := nblk_set h
theorem NBlk.set1 {w : World} {b : Nat} {ov ad bv u : Value} {g : Int} (h : NBlk w b ov ad bv g) : NBlk (w.setCell ⟨b, 1, none⟩ u) b ov u bv g := nblk_set h
theorem NBlk.set2 {w : World} {b : Nat} {ov ad bv u : Value} {g : Int} (h : NBlk w b ov ad bv g) : NBlk (w.setCell ⟨b, 2, none⟩ u) b ov ad u g := nblk_set h
theorem NBlk.set3 {w : World} {b : Nat} {ov ad bv : Value} {g k : Int} (h : NBlk w b ov ad bv g) : NBlk (w.setCell ⟨b, 3, none⟩ (.int .i64 k)) b ov ad bv k := nblk_set h
end
section
open Go.RowKit Ch
open Lib (hid)
def SmallA (l : List (ByteArray × ByteArray)) : Prop := l.length ≤ 1048576 ∧ ∀ x ∈ l, x.1.size ≤ 1048576 ∧ x.2.size ≤ 1048576
theorem SmallA.sized {l : List (ByteArray × ByteArray)} (h : SmallA l) : Sized l := fun x hx => by
 have := h.2 x hx; unfold maxLen; omega
theorem flat_take_succ {l : List (ByteArray × ByteArray)} {k : Nat} (h : k < l.length) : flat (l.take (k + 1)) = flat (l.take k) ++ [.string l[k].1, .string l[k].2] := by
 rw [List.take_succ_eq_append_getElem h, flat_snoc]
theorem take_len {α : Type} {l : List α} {k : Nat} (h : k ≤ l.length) : (l.take k).length = k := by rw [List.length_take]; omega
set_option maxRecDepth 100000 in
set_option maxHeartbeats 4000000 in
theorem cloneAttrs_any (v : Value) (l : List (ByteArray × ByteArray)) (w : World) (hv : AtRow w v l) (hz : SmallA l) : Calls Try.prog 81 #[v] w (MergeOut w l) := by
 obtain ⟨a, cap, rfl, h1, h2, h3⟩ := hv; have hn : l.length ≤ 9223372036854775807 := Nat.le_trans h1 h2; have H3 := hid h3; have Hz := hid hz; obtain ⟨i0, hi, hz0, hz1, hz2⟩ := info_parts infoAttr; have Hi := hid (And.intro hi (And.intro hz0 (And.intro hz1 hz2))); clear h1 h2 h3 hz hi hz0 hz1 hz2; go_enter Try.func81, Try.ntmps81
 go_wp2_with fail
 go_loopw [3, 8] (fun o i wr => ∃ n : Nat, i = .int .i64 (n : Int) ∧ n ≤ l.length ∧ wr.ownsRow w.heap.size 81 2 o n (flat (l.take n)) ∧ Below w.heap.size w wr) (fun _ i _ => l.length - (intOf i).toNat)
 case atStart => exact ⟨0, rfl, Nat.zero_le _, World.ownsRow_nil _ _ _ _, Below.refl _ _⟩
 case round =>
  obtain ⟨n, rfl, hk, hown, hb⟩ := hrel; obtain ⟨oa, oc, rfl⟩ := own_slice hown; have HO := hid hown; have HB := hid hb
  by_cases hlt : n < l.length
  ·have hlt' : (n : Int) < (l.length : Int) := by omega
   obtain ⟨b, off, rfl, hbl, x1', z1'⟩ := H3.out n hlt; obtain ⟨s0, s1⟩ := Hz.out.2 _ (List.getElem_mem hlt); have hln := Hz.out.1; have hf := flat_take_succ hlt; have x1 : wr.cell? ⟨b, off + n * 2, none⟩ = some (.string l[n].1) := by rw [hb.cell (by exact hbl)]; exact x1'
   have z1 : wr.cell? ⟨b, off + n * 2 + 1, none⟩ = some (.string l[n].2) := by rw [hb.cell (by exact hbl)]; exact z1'
   obtain ⟨x, hx⟩ : ∃ x, x = l[n] := ⟨_, rfl⟩; rw [← hx] at x1 z1 hf s0 s1; have hs0 := hb.size; obtain ⟨W, hW⟩ : ∃ W, W = wr.alloc (.cells #[.string x.1, .string x.2] 81) := ⟨_, rfl⟩; have BW := hid (show Below wr.heap.size wr W by rw [hW]; exact below_box _ _); have c0 : W.cell? ⟨wr.heap.size, 0, none⟩ = some (.string x.1) := by rw [hW]; go_simp
   have c1 : W.cell? ⟨wr.heap.size, 1, none⟩ = some (.string x.2) := by rw [hW]; go_simp
   have hlW : wr.heap.size < W.heap.size := by rw [hW]; simp
   have HW := hid hW; have HF := hid hf; have HN := hid (And.intro s0 (And.intro s1 hln)); have HNE := hid (show some wr.heap.size ≠ (Value.slice oa n oc).ownBlock from fun e => by have := (hown.lt _ e.symm).2; omega); clear hx hown hb x1' z1' hW hf s0 s1 hln; go_wp2_with fail
   rw [← HW.out]
   go_region_held3 (fun w' => w'.cell? ⟨wr.heap.size, 0, none⟩ = some (.string x.1) ∧ w'.cell? ⟨wr.heap.size, 1, none⟩ = some (.string x.2))
    (first
     | exact ⟨c0, c1⟩
     | exact ⟨(BA.cell (by exact hlW)).trans c0, (BA.cell (by exact hlW)).trans c1⟩
     | exact ⟨(BB.cell (by exact hlW)).trans c0, (BB.cell (by exact hlW)).trans c1⟩
     | exact ⟨((BB.alloc BB.size _).cell (by exact hlW)).trans c0, ((BB.alloc BB.size _).cell (by exact hlW)).trans c1⟩
     | exact ⟨k0, k1⟩)
    (first
     | (go_at_call_of 98 (Value.string x.1); refine (clone_any _ _ (by have := HN.out.1; omega)).mono ?_; rintro e wA ⟨rfl, hbA⟩; have BA : Below W.heap.size W wA := of_drew hbA)
     | (go_at_call_of 98 (Value.string x.2); refine (clone_any _ _ (by have := HN.out.2.1; omega)).mono ?_; rintro e wB ⟨rfl, hbB⟩; have BB : Below W.heap.size W wB := BA.trans (hbB.mono BA.size); have OB := row_below (row_below HO.out BW.out) BB)
     | (refine step_append_own rfl (.tmp 12) (.tmp 20) 38 rfl 81 i0 (.agg #[.string ⟨#[]⟩, .string ⟨#[]⟩]) 2 32 Try.underlying38 Hi.out.1 Hi.out.2.1 Hi.out.2.2.1 Hi.out.2.2.2 rfl (by decide) w.heap.size _ n (flat (l.take n)) rfl (OB.alloc _) ⟨wB.heap.size, 0, none⟩ 1 1 [.string x.1, .string x.2] rfl rfl (new_at2 _ _ _ _) (fun u hu => by simp at hu; rcases hu with rfl | rfl <;> rfl) (by unfold maxLen; have := HN.out.2.2; omega) (by have := HN.out.2.2; omega) (by have := BB.size; have := BW.out.size; simp; omega) ?_; intro v' wC oC gC; have k0 : wC.cell? ⟨wr.heap.size, 0, none⟩ = some (.string x.1) := gC.cell (((BB.alloc BB.size _).cell (by exact hlW)).trans c0) HNE.out; have k1 : wC.cell? ⟨wr.heap.size, 1, none⟩ = some (.string x.2) := gC.cell (((BB.alloc BB.size _).cell (by exact hlW)).trans c1) HNE.out))
   have hl1 : (l.take (n + 1)).length = n + 1 := take_len (by omega); have B1 : Below w.heap.size w wC := ((HB.out.trans (BW.out.mono hs0)).trans ((BB.alloc BB.size _).mono (Nat.le_trans hs0 BW.out.size))).grown gC (by have := BB.size; have := BW.out.size; simp; omega) (fun k hk => (HO.out.lt k hk).1); rw [← HF.out] at oC; have OC := hid oC; have HB1 := hid B1; clear B1 BA BB OB k0 k1 oC gC hbA hbB c0 c1 hl1 x1 z1; go_wp2_with fail
   go_roundw
   case rel => exact ⟨n + 1, by go_num, by omega, OC.out, HB1.out⟩
   case measure => simp [intOf]; omega
  ·have hkn : n = l.length := by omega
   subst hkn; rw [List.take_length] at hown; have HO := hid hown; clear hown hb; go_wp2_with fail
   go_ret
   exact ⟨_, rfl, HO.out, HB.out⟩
end
section
open Go.RowKit Ch
open Lib (hid)
abbrev selfB (b : Nat) : Value := .pointer (some ⟨b, 1, none⟩)
def Addrs (b : Nat) (ad : Value) : Prop := ad = .pointer none ∨ ad = selfB b
theorem infoBld : (Try.prog.info? 52).map (fun i => i.size != 0) = some true := by kernel_rfl
theorem infoU8 : (Try.prog.info? 5).map (fun i => (i.zero, i.size, i.bytes)) = some (some (.int .u8 0), 1, 1) := by kernel_rfl
theorem liesBld : liesAt Try.prog Try.prog.depth 56 (4 / Try.prog.cellsOf 56) 1 52 1 = true := by kernel_rfl
theorem NBlk.shape {w : World} {b : Nat} {ov ad bv : Value} {g : Int} (h : NBlk w b ov ad bv g) : w.shape? b = some (56, 4) := by
 unfold NBlk at h; simp [World.shape?, h]
def CCOut (w : World) (b : Nat) (ov bv : Value) (g : Int) (e : Ending) (w' : World) : Prop := e = .returned (.tuple #[]) ∧ NBlk w' b ov (selfB b) bv g ∧ w.grownBy w' (some b)
set_option maxHeartbeats 1000000 in
set_option maxRecDepth 100000 in
theorem copyCheck_any (b : Nat) (ov ad bv : Value) (g : Int) (w : World) (h : NBlk w b ov ad bv g) (ha : Addrs b ad) :
 Calls Try.prog 103 #[selfB b] w (CCOut w b ov bv g) := by
 obtain ⟨j, hj, hjs⟩ := Option.map_eq_some_iff.1 infoBld; have hj0 : j.size ≠ 0 := by simpa using hjs
 obtain ⟨k0, k1, k2, k3, k4⟩ := h.cells; have f1 := k4 1; have HN := hid h; rcases ha with rfl | rfl
 ·clear h k0 k2 k3 k4 hjs
  go_enter Try.func103, Try.ntmps103
  go_wp2_with fail
  rw [Lib.run_to_unsafe w ⟨b, 1, none⟩ Try.underlying49 Try.underlying147 hj hj0 HN.out.shape (show 1 < 4 by decide)]; simp only [Result.andThen]; rw [Oper.upon_value]; go_wp2_with fail
  rw [run_callFunc_extern Try.func113 (by kernel_rfl) (by kernel_rfl) (by kernel_rfl) (e := Extern.AbiNoEscape.same) (by kernel_rfl)]; rw [Lib.run_noEscape]; simp only [Result.andThen]; rw [Oper.upon_value]; go_wp2_with fail
  rw [Lib.run_from_unsafe w ⟨b, 1, none⟩ Try.underlying147 Try.underlying49 hj HN.out.shape liesBld]; simp only [Result.andThen]; rw [Oper.upon_value]; go_wp2_with fail
  go_end0
  exact ⟨rfl, HN.out.set1, only_setCell (grown_refl _ _) rfl _⟩
 ·clear h k0 k2 k3 k4 hjs
  go_enter Try.func103, Try.ntmps103
  go_wp2_with fail
  rw [Lib.run_neq_ptr_same w _ Try.underlying49 hj]; go_wp2_with fail
  go_end0
  exact ⟨rfl, HN.out, grown_refl _ _⟩
def Holds8 (w : World) (B : Nat) (bv : Value) (bt : List UInt8) : Prop := w.ownsRow B 5 1 bv bt.length (Lib.byteCells bt) ∧ (bt = [] → bv = .slice none 0 0)
theorem holds8_nil (w : World) (B : Nat) : Holds8 w B (.slice none 0 0) [] := ⟨World.ownsRow_nil _ _ _ _, fun _ => rfl⟩
def WSOut (w : World) (B b : Nat) (ov : Value) (g : Int) (bt : List UInt8) (e : Ending) (w' : World) : Prop :=
 (∃ n : Int, e = .returned (.tuple #[.int .i64 n, .nilIface])) ∧ (∃ bv, NBlk w' b ov (selfB b) bv g ∧ Holds8 w' B bv bt) ∧ Keep B [56, 5] w w'
set_option maxHeartbeats 2000000 in
set_option maxRecDepth 100000 in
theorem writeString_any (B b : Nat) (ov ad bv : Value) (g : Int) (bt : List UInt8) (s : ByteArray) (w : World) (h : NBlk w b ov ad bv g) (ha : Addrs b ad) (hB : B ≤ b) (hh : Holds8 w B bv bt) (hl : bt.length + s.size ≤ 140737488355328) :
 Calls Try.prog 82 #[selfB b, .string s] w (WSOut w B b ov g (bt ++ s.data.toList)) := by
 have HC := hid (copyCheck_any b ov ad bv g w h ha); have HN := hid h; have HH := hid hh; have HL := hid hl; have HBw := hid (show B ≤ w.heap.size from Nat.le_trans hB (Nat.le_of_lt (lt_of_heap h))); obtain ⟨i0, hi, hz0, hz1, hz2⟩ := info_parts infoU8; have Hi := hid (And.intro hi (And.intro hz0 (And.intro hz1 hz2))); clear h hh hl hi hz0 hz1 hz2; go_enter Try.func82, Try.ntmps82
 go_wp2_with fail
 refine HC.out.mono ?_; rintro e w1 ⟨rfl, h1, g1⟩; obtain ⟨k0, k1, k2, k3, k4⟩ := h1.cells; have H1 := hid h1; have K1 : Keep B [56, 5] w w1 := keep_grown g1 HBw.out fun k hk => by
  cases hk
  exact ⟨hB, _, _, _, HN.out, by simp⟩
 have O1 : w1.ownsRow B 5 1 bv bt.length (Lib.byteCells bt) := HH.out.1.kept g1 (.inr (own_ne HH.out.1 HN.out (by decide))); have HK1 := hid K1; have HO1 := hid O1; have hs1 : B ≤ w1.heap.size := Nat.le_trans HBw.out g1.size; clear h1 g1 K1 O1 k0 k1 k3 k4; go_wp2_with (at_builtin; refine Lib.wpList_append_own_string _ rfl (.tmp 12) (.tmp 13) 50 9 rfl B 5 i0 Try.underlying50 Try.underlying9 Hi.out.1 Hi.out.2.1 Hi.out.2.2.1 Hi.out.2.2.2 bv bt.length (Lib.byteCells bt) rfl HO1.out s rfl (by have := HL.out; unfold maxLen; omega) HL.out hs1 ?_; intro v' w2 o2 g2 i2; obtain ⟨va, vc, rfl⟩ := own_slice o2; have I2 := hid i2; clear i2; have H2 : NBlk w2 b ov (selfB b) bv g := (g2.block b (lt_of_heap H1.out) (fun e => own_ne HO1.out H1.out (by decide) e.symm)).trans H1.out; have f2 : w2.frozen? ⟨b, 2, none⟩ = false := H2.cells.2.2.2.2 2; obtain ⟨q0, q1, q2, q3, q4⟩ := H2.cells; have HH2 := hid H2; have HO2 := hid o2; have HG2 := hid g2; clear H2 o2 g2 q0 q1 q3 q4 k2)
 go_ret2
 refine ⟨⟨_, rfl⟩, ⟨_, HH2.out.set2, ?_⟩, ?_⟩
 ·have hk2 : Keep B [56] w2 (w2.setCell ⟨b, 2, none⟩ (.slice va (bt.length + s.size) vc)) := keep_set HH2.out (by simp) hB _ rfl _
  have := hk2.own HO2.out (by decide); refine ⟨?_, fun e => ?_⟩
  ·rw [List.length_append, Lib.byteCells_append]
   exact this
  ·obtain ⟨e1, e2⟩ := List.append_eq_nil_iff.1 e
   exact I2.out.2 ⟨HH.out.2 e1, by rw [size_data, e2]; rfl⟩
 ·exact (HK1.out.trans (keep_row HO1.out HG2.out (by simp) hs1)).trans (keep_set HH2.out (by simp) hB _ rfl _)
theorem heap_freeze (w : World) (p : Addr) (n i : Nat) (h : i ≠ p.block) : (w.freeze p n).heap[i]? = w.heap[i]? := by
 unfold World.freeze; split
 ·rfl
 ·simp only [Array.getElem?_modify]
  rw [if_neg (fun e => h e.symm)]
theorem keep_freeze {B g : Nat} {ts : List TypeId} {w : World} {cs : Array Value} {e : TypeId} {fr : Nat × Nat} (hb : w.heap[g]? = some (.cells cs e fr)) (he : e ∈ ts) (hB : B ≤ g) (n : Nat) : Keep B ts w (w.freeze ⟨g, 0, none⟩ n) :=
 ⟨Lib.below_freeze (Below.refl _ _) hB n, fun i o hi ho => by
  rw [heap_freeze w _ n i (fun hh => by
   subst hh; rw [hb] at hi; cases hi
   exact ho he)]
  exact hi⟩
theorem Keep.drew {B : Nat} {ts : List TypeId} {a w : World} (h : Keep B ts a w) : Keep B ts a w.drew := ⟨h.below.drew, h.all⟩
theorem of_drewK {B : Nat} {ts : List TypeId} {a w : World} (h : Keep B ts a.drew w) : Keep B ts a w := ⟨⟨h.below.os, h.below.tape, h.below.output, h.below.size, h.below.block⟩, h.all⟩
def StrOut (w : World) (B : Nat) (bt : List UInt8) (e : Ending) (w' : World) : Prop := e = .returned (.string ⟨bt.toArray⟩) ∧ Keep B [5] w w'
set_option maxHeartbeats 2000000 in
set_option maxRecDepth 100000 in
theorem builderString_any (B b : Nat) (ov ad bv : Value) (g : Int) (bt : List UInt8) (w : World) (h : NBlk w b ov ad bv g) (hh : Holds8 w B bv bt) :
 Calls Try.prog 101 #[selfB b] w (StrOut w B bt) := by
 obtain ⟨k0, k1, k2, k3, k4⟩ := h.cells
 by_cases h0 : bt = []
 ·obtain rfl := hh.2 h0
  have e0 : (⟨bt.toArray⟩ : ByteArray) = ⟨#[]⟩ := by rw [h0]
  have HE := hid (show (⟨#[]⟩ : ByteArray) = ⟨bt.toArray⟩ from e0.symm); have hUS : ∀ q : Option Addr, (Builtin.unsafeString_ #[146, 3] 9 #[.pointer q, .int .i64 0]).run Try.prog w.drew = .ok (.string .empty) w.drew := fun q => Lib.run_unsafeString_none w.drew _ _ _ q; have hSD : (Builtin.unsafeSliceData_ #[50] 146 #[.slice none 0 0]).run Try.prog w.drew = .ok (.pointer none) w.drew := rfl; have c1 : w.drew.cell? ⟨b, 2, none⟩ = some (.slice none 0 0) := k2; clear h hh e0 h0 k0 k1 k3 k4; go_enter Try.func101, Try.ntmps101
  go_wp2_with fail
  go_region
  all_goals (go_wp2_with fail; go_ret; exact ⟨by rw [← HE.out]; rfl, (Keep.refl _ _ _).drew⟩)
 ·have hl0 : bt.length ≠ 0 := by simpa using h0
  obtain ⟨gg, cap, cur, rfl, hbg, hg, hnc, hcm, hcs, htake⟩ : ∃ gg cap cur, bv = .slice (some ⟨gg, 0, none⟩) bt.length cap ∧ B ≤ gg ∧ w.heap[gg]? = some (.cells cur 5 (0, 0)) ∧ bt.length ≤ cap ∧ cap ≤ maxLen ∧ cur.size = cap * 1 ∧ cur.toList.take (bt.length * 1) = Lib.byteCells bt := by
   rcases hh.1.2 with ⟨_, hz⟩ | ⟨gg, cap, cur, hv, r⟩
   ·exact absurd hz hl0
   ·exact ⟨gg, cap, cur, hv, r⟩
  have c1 : w.drew.cell? ⟨b, 2, none⟩ = some (.slice (some ⟨gg, 0, none⟩) bt.length cap) := k2
  have hSD : (Builtin.unsafeSliceData_ #[50] 146 #[.slice (some ⟨gg, 0, none⟩) bt.length cap]).run Try.prog w.drew = .ok (.pointer (some ⟨gg, 0, none⟩)) w.drew :=
   Lib.run_unsafeSliceData_row _ _ _ _ _ _ (by omega)
  have hUS : (Builtin.unsafeString_ #[146, 3] 9 #[.pointer (some ⟨gg, 0, none⟩), .int .i64 bt.length]).run Try.prog w.drew = .ok (.string ⟨bt.toArray⟩) (w.drew.freeze ⟨gg, 0, none⟩ bt.length) := by
   refine Lib.run_unsafeString_row w.drew 146 3 9 5 Try.underlying146 (by kernel_rfl) gg cur.size (by have hg' : w.drew.heap[gg]? = some (.cells cur 5 (0, 0)) := hg; simp [World.shape?, hg']) bt h0 (by omega) (by unfold maxLen at hcm; omega) ?_; intro j x hx; exact hh.1.cells (g := gg) rfl j (.int .u8 x.toNat) (by simp [Lib.byteCells, hx])
  have HG := hid hg; have HBG := hid hbg; clear h hh h0 hl0 k0 k1 k3 k4 hg hnc hcm hcs htake hbg; go_enter Try.func101, Try.ntmps101
  go_wp2_with fail
  go_region
  all_goals (go_wp2_with fail; go_ret; exact ⟨rfl, (Keep.refl _ _ _).drew.trans (keep_freeze (w := w.drew) HG.out (by simp) HBG.out _)⟩)
def ResetOut (w : World) (b : Nat) (ov : Value) (g : Int) (e : Ending) (w' : World) : Prop := e = .returned (.tuple #[]) ∧ NBlk w' b ov (.pointer none) (.slice none 0 0) g ∧ w.grownBy w' (some b)
set_option maxHeartbeats 1000000 in
set_option maxRecDepth 100000 in
theorem reset_any (b : Nat) (ov ad bv : Value) (g : Int) (w : World) (h : NBlk w b ov ad bv g) :
 Calls Try.prog 102 #[selfB b] w (ResetOut w b ov g) := by
 obtain ⟨k0, k1, k2, k3, k4⟩ := h.cells; have f1 := k4 1; have f2 := k4 2; have HN := hid h; have hlt := lt_of_heap h; clear h k0 k3 k4; go_enter Try.func102, Try.ntmps102
 go_wp2_with fail
 go_end0
 exact ⟨rfl, HN.out.set1.set2, only_setCell (p := ⟨b, 2, none⟩) (only_setCell (p := ⟨b, 1, none⟩) (grown_refl _ (some b)) rfl _) rfl _⟩
end
section
open Go.RowKit Ch
open Lib (hid)
theorem run_append_new {P : Program} (w : World) (base : Nat) (t ty e : TypeId) (i : TypeInfo) (z : Value) (size bytes : Nat) (ht : P.underlying t = some (.slice e)) (hi : P.info? e = some i) (hz : i.zero = some z)
 (hsize : i.size = size) (hby : i.bytes = bytes) (hzs : z.cells.size = size) (hsz : 0 < size)
 (v : Value) (n : Nat) (xs : List Value) (hown : w.ownsRow base e size v n xs)
 (a : Addr) (m c : Nat) (news : List Value) (hl : news.length = m * size) (hnews : ∀ j u, news[j]? = some u → w.cell? (a.add j) = some u) (h1 : ∀ u ∈ news, u.oneCell' = true)
 (h63 : n + m ≤ maxLen) (hbytes : (n + m) * bytes ≤ 140737488355328) (hbase : base ≤ w.heap.size) :
 ∃ v' w', (Builtin.append_ #[t, t] ty #[v, .slice (some a) m c]).run P w = .ok v' w' ∧ w'.ownsRow base e size v' (n + m) (xs ++ news) ∧ w.grownBy w' v.ownBlock ∧
  ∀ j, j < w.heap.size → v.ownBlock ≠ some j → v'.ownBlock ≠ some j := by
 obtain ⟨v', w', hrun, h2, h3, _⟩ := run_append_own (P := P) w base t ty e i z size bytes ht hi hz hsize hby hzs hsz v n xs hown a m c news hl hnews h1 h63 hbytes hbase; refine ⟨v', w', hrun, h2, h3, fun j hj hne => ?_⟩; rcases hown.2 with ⟨rfl, rfl⟩ | ⟨g, cap, cur, rfl, hb, hg, hn, hm, hc, ht2⟩
 ·have hx : xs = [] := List.length_eq_zero_iff.1 (by rw [hown.1]; simp)
  subst hx; obtain ⟨v2, w2, hrun2, k2, k3, _⟩ := run_append_own (P := P) w w.heap.size t ty e i z size bytes ht hi hz hsize hby hzs hsz (.slice none 0 0) 0 [] (World.ownsRow_nil w _ e size) a m c news hl hnews h1 h63 hbytes (Nat.le_refl _); rw [hrun] at hrun2; simp only [Result.ok.injEq] at hrun2; obtain ⟨rfl, rfl⟩ := hrun2; intro hv; have := (k2.lt j hv).1; omega
 ·by_cases hroom : n + m ≤ cap
  ·have hrr := run_append_room_cells (P := P) w t ty e i ht hi g 0 n cap a m c news (by rw [hsize]; exact hl) hnews h1 hroom
    (fun k hk => by
     have hk2 : n * i.size + k < cur.size := by
      rw [hc, hsize]; have : n * size + m * size ≤ cap * size := by rw [← Nat.add_mul]; exact Nat.mul_le_mul_right _ hroom
      omega
     simp [World.cell?, hg, Array.getElem?_eq_getElem hk2])
    (fun k hk => by simp [World.frozen?, hg])
   rw [hrun] at hrr; simp only [Result.ok.injEq] at hrr; obtain ⟨rfl, _⟩ := hrr; exact hne
  ·obtain ⟨v2, w2, hrun2, k2, k3⟩ := run_append_arg_grows (P := P) w t ty e i z size bytes ht hi hz hsize hby hzs hsz ⟨g, 0, none⟩ n cap xs hown.1 (hown.cells (g := g) rfl) a m c news hl hnews (by omega) h63 hbytes
   rw [hrun] at hrun2; simp only [Result.ok.injEq] at hrun2; obtain ⟨rfl, rfl⟩ := hrun2; intro hv; have := (k2.lt j hv).1; omega
theorem step_append_new {P : Program} {ops : Array Oper} {o : Oper} {a : Act} {w : World} {K : Act → World → Prop} {Q : Exit → Act → World → Prop} {E : Prop}
 (hg : o.guard = none) (s x : Operand) (t : TypeId) (hop : o.op = Op.call { callee := Callee.builtin Builtin.append, args := #[s, x], argTypes := #[t, t] })
 (e : TypeId) (i : TypeInfo) (z : Value) (size bytes : Nat) (h1 : P.underlying t = some (.slice e)) (h2 : P.info? e = some i) (h3 : i.zero = some z) (h4 : i.size = size) (h5 : i.bytes = bytes) (h6 : z.cells.size = size) (h7 : 0 < size)
 (base : Nat) (v : Value) (n : Nat) (xs : List Value) (hs : a.eval s = v) (hown : w.ownsRow base e size v n xs)
 (ad : Addr) (m c : Nat) (news : List Value) (hx : a.eval x = .slice (some ad) m c) (hn : news.length = m * size) (hc : ∀ j u, news[j]? = some u → w.cell? (ad.add j) = some u) (h1c : ∀ u ∈ news, u.oneCell' = true)
 (b1 : n + m ≤ maxLen) (b2 : (n + m) * bytes ≤ 140737488355328) (hbase : base ≤ w.heap.size)
 (hK : ∀ v' w', w'.ownsRow base e size v' (n + m) (xs ++ news) → w.grownBy w' v.ownBlock → (∀ j, j < w.heap.size → v.ownBlock ≠ some j → v'.ownBlock ≠ some j) → K (a.put o.dst v') w') :
 if Region.wanted o (yielded ops a.tmps) = true then Oper.wp P o a w K Q else E := by
 have hw : Region.wanted o (yielded ops a.tmps) = true := by simp [Region.wanted, hg]
 rw [if_pos hw]; obtain ⟨v', w', hrun, r1, r2, r3⟩ := run_append_new (P := P) w base t o.type e i z size bytes h1 h2 h3 h4 h5 h6 h7 v n xs hown ad m c news hn hc h1c b1 b2 hbase; unfold Oper.wp; simp [execOp, hop, resolve, invoke, builtin, hs, hx, hrun, Result.andThen]; exact hK v' w' r1 r2 r3
theorem wpList_append_new {P : Program} {ops : Array Oper} {rest : List Oper} {o : Oper} {a : Act} {w : World} {Q : Exit → Act → World → Prop}
 (hgd : o.guard = none) (s x : Operand) (t : TypeId) (hop : o.op = Op.call { callee := Callee.builtin Builtin.append, args := #[s, x], argTypes := #[t, t] })
 (e : TypeId) (i : TypeInfo) (z : Value) (size bytes : Nat) (h1 : P.underlying t = some (.slice e)) (h2 : P.info? e = some i) (h3 : i.zero = some z) (h4 : i.size = size) (h5 : i.bytes = bytes) (h6 : z.cells.size = size) (h7 : 0 < size)
 (base : Nat) (v : Value) (n : Nat) (xs : List Value) (hs : a.eval s = v) (hown : w.ownsRow base e size v n xs)
 (ad : Addr) (m c : Nat) (news : List Value) (hx : a.eval x = .slice (some ad) m c) (hn : news.length = m * size) (hc : ∀ j u, news[j]? = some u → w.cell? (ad.add j) = some u) (h1c : ∀ u ∈ news, u.oneCell' = true)
 (b1 : n + m ≤ maxLen) (b2 : (n + m) * bytes ≤ 140737488355328) (hbase : base ≤ w.heap.size)
 (h : ∀ v' w', w'.ownsRow base e size v' (n + m) (xs ++ news) → w.grownBy w' v.ownBlock → (∀ j, j < w.heap.size → v.ownBlock ≠ some j → v'.ownBlock ≠ some j) → wpList P ops Q rest (a.put o.dst v') w') : wpList P ops Q (o :: rest) a w := by
 refine wpList_plain hgd fun K hK => ?_; obtain ⟨v', w', hr, r1, r2, r3⟩ := run_append_new (P := P) w base t o.type e i z size bytes h1 h2 h3 h4 h5 h6 h7 v n xs hown ad m c news hn hc h1c b1 b2 hbase; unfold Oper.wp execOp; simp only [hop, resolve, invoke, builtin, Sem.run_bind, Sem.run_pure, Result.andThen_ok, List.map_toArray, List.map_cons, List.map_nil, hs, hx, hr]; exact hK _ _ (h v' w' r1 r2 r3)
abbrev TS : List TypeId := [40, 56, 5]
structure KeepO (B : Nat) (w w' : World) (ov ov' : Value) : Prop where
 keep : Keep B TS w w'
 ops : ∀ (i : Nat) (cs : Array Value) (fr : Nat × Nat), w.heap[i]? = some (Obj.cells cs 40 fr) → ov.ownBlock ≠ some i → w'.heap[i]? = some (Obj.cells cs 40 fr) ∧ ov'.ownBlock ≠ some i
theorem KeepO.trans {B : Nat} {a b c : World} {u v x : Value} (h : KeepO B a b u v) (k : KeepO B b c v x) : KeepO B a c u x :=
 ⟨h.keep.trans k.keep, fun i cs fr hi hne => k.ops i cs fr (h.ops i cs fr hi hne).1 (h.ops i cs fr hi hne).2⟩
theorem keepO_of {B : Nat} {ts : List TypeId} {w w' : World} (h : Keep B ts w w') (hs : ∀ t, t ∈ ts → t ∈ TS) (ho : 40 ∉ ts) (v : Value) : KeepO B w w' v v :=
 ⟨h.more hs, fun i cs fr hi hne => ⟨h.kept i cs _ fr hi ho, hne⟩⟩
theorem keepO_below {B : Nat} {w w' : World} (h : Below w.heap.size w w') (hB : B ≤ w.heap.size) (v : Value) : KeepO B w w' v v :=
 keepO_of (ts := []) (keep_below h hB) (fun t ht => by cases ht) (by simp) v
theorem keepO_grown {B n : Nat} {w w' : World} {v v' : Value} {xs : List Value} (h : w.ownsRow B 40 4 v n xs) (hg : w.grownBy w' v.ownBlock) (hB : B ≤ w.heap.size) (hn : ∀ j, j < w.heap.size → v.ownBlock ≠ some j → v'.ownBlock ≠ some j) : KeepO B w w' v v' :=
 ⟨keep_row h hg (by simp) hB, fun i cs fr hi hne => ⟨(hg.block i (lt_of_heap hi) (fun e => hne e.symm)).trans hi, hn i (lt_of_heap hi) hne⟩⟩
theorem KeepO.base {B C : Nat} {w w' : World} {u v : Value} (h : KeepO B w w' u v) (hc : C ≤ B) : KeepO C w w' u v := ⟨h.keep.mono hc, h.ops⟩
def noText (o : OpD) : OpD := { o with text := ⟨#[]⟩ }
def NSt (w : World) (B b : Nat) (ov : Value) (l : List OpD) (g : Int) : Prop :=
 ∃ (ps : List (OpD × Value)) (ad bv : Value) (bt : List UInt8), NBlk w b ov ad bv g ∧ Addrs b ad ∧ OwnP w B ov ps ∧ Holds8 w B bv bt ∧
  ((l = [] ∧ ps = [] ∧ bt = []) ∨ ∃ x r fr xv, l = x :: r ∧ ps = fr ++ [(noText x, xv)] ∧ fr.map (·.1) = r.reverse ∧ bt = x.text.data.toList)
def FSt (w : World) (B b : Nat) (ov : Value) (l : List OpD) (g : Int) : Prop :=
 ∃ (ps : List (OpD × Value)) (ad bv : Value), NBlk w b ov ad bv g ∧ Addrs b ad ∧ OwnP w B ov ps ∧ Holds8 w B bv [] ∧ ps.map (·.1) = l.reverse
theorem NSt.lt {w : World} {B b : Nat} {ov : Value} {l : List OpD} {g : Int} (h : NSt w B b ov l g) : b < w.heap.size := by
 obtain ⟨_, _, _, _, h, _⟩ := h; exact lt_of_heap h
theorem last_cells {w : World} {B gg cap : Nat} {fr : List (OpD × Value)} {p : OpD × Value} (h : w.ownsRow B 40 4 (.slice (some ⟨gg, 0, none⟩) (fr.length + 1) cap) (fr.length + 1) (flatO (fr ++ [p]))) :
 w.cell? ⟨gg, fr.length * 4, none⟩ = some (.int .i64 p.1.kind) ∧ w.cell? ⟨gg, fr.length * 4 + 1, none⟩ = some (.int .i64 p.1.n) ∧ w.cell? ⟨gg, fr.length * 4 + 2, none⟩ = some (.string p.1.text) ∧ w.cell? ⟨gg, fr.length * 4 + 3, none⟩ = some p.2 := by
 have e : ∀ j, j < 4 → w.cell? ⟨gg, fr.length * 4 + j, none⟩ = (opCells p)[j]? := fun j hj => by
  rw [h.cellAt _ (by omega), flatO_snoc, List.getElem?_append_right (by rw [flatO_len]; omega), flatO_len]
  congr 1
  omega
 exact ⟨e 0 (by omega), e 1 (by omega), e 2 (by omega), e 3 (by omega)⟩
theorem last_set {w : World} {B gg cap : Nat} {fr : List (OpD × Value)} {p q : OpD × Value} (h : w.ownsRow B 40 4 (.slice (some ⟨gg, 0, none⟩) (fr.length + 1) cap) (fr.length + 1) (flatO (fr ++ [p]))) (j : Nat) (u : Value) (hq : (opCells p).set j u = opCells q) :
 (w.setCell ⟨gg, fr.length * 4 + j, none⟩ u).ownsRow B 40 4 (.slice (some ⟨gg, 0, none⟩) (fr.length + 1) cap) (fr.length + 1) (flatO (fr ++ [q])) := by
 have := (h.stored (fr.length * 4 + j) u).1; have e : (flatO (fr ++ [p])).set (fr.length * 4 + j) u = flatO (fr ++ [q]) := by
  rw [flatO_snoc, flatO_snoc, List.set_append_right _ _ (by rw [flatO_len]; omega), flatO_len, ← hq]
  congr 2
  omega
 rw [e] at this; exact this
theorem OwnP.len {w : World} {B : Nat} {v : Value} {fr : List (OpD × Value)} {p : OpD × Value} (h : OwnP w B v (fr ++ [p])) : w.ownsRow B 40 4 v (fr.length + 1) (flatO (fr ++ [p])) := by
 have := h.1
 rwa [List.length_append, List.length_singleton] at this
theorem ownP_mk {w : World} {B : Nat} {v : Value} {fr : List (OpD × Value)} {p : OpD × Value} (h : w.ownsRow B 40 4 v (fr.length + 1) (flatO (fr ++ [p]))) (ha : ∀ q ∈ fr, w.ownsRow B 81 2 q.2 q.1.attrs.length (flat q.1.attrs)) (hp : w.ownsRow B 81 2 p.2 p.1.attrs.length (flat p.1.attrs)) : OwnP w B v (fr ++ [p]) := by
 refine ⟨by rw [List.length_append, List.length_singleton]; exact h, fun q hq => ?_⟩; rcases List.mem_append.1 hq with hq | hq
 ·exact ha q hq
 ·rw [List.mem_singleton.1 hq]; exact hp
theorem own_heap {w : World} {B k gg n m cap : Nat} {e : TypeId} {xs : List Value} (h : w.ownsRow B e k (.slice (some ⟨gg, 0, none⟩) n cap) m xs) : B ≤ gg ∧ ∃ cs, w.heap[gg]? = some (.cells cs e (0, 0)) := by
 rcases h.2 with ⟨h', _⟩ | ⟨g', cap', cur, h', hb, hg, _⟩
 ·simp at h'
 ·simp only [Value.slice.injEq, Option.some.injEq, Addr.mk.injEq, and_true] at h'
  obtain ⟨rfl, _, _⟩ := h'; exact ⟨hb, cur, hg⟩
theorem OwnP.setLast {w : World} {B gg cap : Nat} {fr : List (OpD × Value)} {x y : OpD} {xv : Value} (h : OwnP w B (.slice (some ⟨gg, 0, none⟩) (fr.length + 1) cap) (fr ++ [(x, xv)])) (j : Nat) (u : Value) (hq : (opCells (x, xv)).set j u = opCells (y, xv)) (ha : y.attrs = x.attrs) :
 OwnP (w.setCell ⟨gg, fr.length * 4 + j, none⟩ u) B (.slice (some ⟨gg, 0, none⟩) (fr.length + 1) cap) (fr ++ [(y, xv)]) ∧ KeepO B w (w.setCell ⟨gg, fr.length * 4 + j, none⟩ u) (.slice (some ⟨gg, 0, none⟩) (fr.length + 1) cap) (.slice (some ⟨gg, 0, none⟩) (fr.length + 1) cap) := by
 obtain ⟨hB, cs, hg⟩ := own_heap h.len; have hk : Keep B [40] w (w.setCell ⟨gg, fr.length * 4 + j, none⟩ u) := keep_set hg (by simp) hB _ rfl u; refine ⟨ownP_mk (last_set h.len j u hq) (fun q hq => hk.own (h.2 q (List.mem_append_left _ hq)) (by decide)) ?_, hk.more (by simp), fun i cs' fr' hi hne => ⟨?_, hne⟩⟩
 ·have := hk.own (h.2 (x, xv) (by simp)) (by decide)
  show World.ownsRow _ _ _ _ xv y.attrs.length (flat y.attrs)
  rw [ha]; exact this
 ·rw [Below.heap_setCell _ _ _ _ (fun e => hne (by rw [e]; rfl))]
  exact hi
theorem set_other {w : World} {p q : Addr} {u v : Value} (h : p.block ≠ q.block) (hc : w.cell? q = some v) : (w.setCell p u).cell? q = some v :=
 (World.cell?_of_block (Below.heap_setCell w p u q.block fun e => h e.symm)).trans hc
def FinOut (w : World) (B b : Nat) (ov : Value) (l : List OpD) (g : Int) (e : Ending) (w' : World) : Prop := e = .returned (.tuple #[]) ∧ FSt w' B b ov l g ∧ KeepO B w w' ov ov
set_option maxHeartbeats 4000000 in
set_option maxRecDepth 100000 in
theorem finish_any (B b : Nat) (ov : Value) (l : List OpD) (g : Int) (w : World) (h : NSt w B b ov l g) (hB : B ≤ b) (hl : l.length ≤ 1000100) :
 Calls Try.prog 80 #[.pointer (some ⟨b, 0, none⟩)] w (FinOut w B b ov l g) := by
 have hBw : B ≤ w.heap.size := Nat.le_trans hB (Nat.le_of_lt h.lt); obtain ⟨ps, ad, bv, bt, hN, hA, hP, hH, hcase⟩ := h; obtain ⟨k0, k1, k2, k3, k4⟩ := hN.cells; rcases hcase with ⟨rfl, rfl, rfl⟩ | ⟨x, r, fr, xv, rfl, rfl, hfr, rfl⟩
 ·obtain ⟨a, c, rfl⟩ := own_slice hP.1
  have HF := hid (show FSt w B b (.slice a ([] : List (OpD × Value)).length c) [] g from ⟨[], ad, bv, hN, hA, hP, hH, rfl⟩); clear hN hP hH hA k1 k2 k3 k4; go_enter Try.func80, Try.ntmps80
  go_wp2_with fail
  go_end0
  exact ⟨rfl, HF.out, keepO_below (Below.refl _ _) hBw _⟩
 ·obtain ⟨gg, cap, hov⟩ := ownsRow_open hP.len (Nat.succ_pos _)
  subst hov; have hm : fr.length ≤ 1000100 := by
   have := congrArg List.length hfr; simp at this hl; omega
  obtain ⟨q0, q1, q2, q3⟩ := last_cells hP.len; have f2 : w.frozen? ⟨gg, fr.length * 4 + 2, none⟩ = false := hP.len.frozenAt _; have HN := hid hN; have HP := hid hP; have HH := hid hH; have HFR := hid hfr; clear hN hP hH hA k1 k2 k3 k4 q0 q1 q3 hfr hl; have hneq : gg ≠ b := by
   obtain ⟨_, cs, hcs⟩ := own_heap HP.out.len; exact block_ne hcs HN.out (by decide)
  have HNE := hid hneq; have i1 : (0 : Int) ≤ (fr.length : Int) := by omega
  have i2 : (fr.length : Int) < (fr.length : Int) + 1 := by omega
  clear hneq; go_enter Try.func80, Try.ntmps80
  go_wp2_with fail
  go_region_held3 (fun w' => w'.cell? ⟨b, 0, none⟩ = some (.slice (some ⟨gg, 0, none⟩) (fr.length + 1) cap))
   (first
    | exact k0
    | exact kA
    | exact set_other HNE.out kA)
   (first
    | (go_at_call 101; refine (builderString_any B b _ ad bv g x.text.data.toList _ (by exact HN.out) (by exact HH.out)).mono ?_; rintro e wA ⟨rfl, KA⟩; have NA := NBlk.keep (w := w.drew) HN.out KA (by decide); have kA := NA.cells.1; have PA := OwnP.keep (w := w.drew) HP.out KA (by decide) (by decide); have qA := (last_cells PA.len).2.2.1; have fA : wA.frozen? ⟨gg, fr.length * 4 + 2, none⟩ = false := PA.len.frozenAt _))
  obtain ⟨P2, K2⟩ := OwnP.setLast (y := x) PA 2 (.string ⟨x.text.data⟩) rfl rfl; have N2 := NBlk.keep (w := wA) NA (keep_set (B := B) (ts := [40]) (own_heap PA.len).2.choose_spec (by simp) (own_heap PA.len).1 ⟨gg, fr.length * 4 + 2, none⟩ rfl (.string ⟨x.text.data⟩)) (by decide); have KK := hid ((keepO_of (B := B) (of_drewK KA) (by simp) (by decide) (.slice (some ⟨gg, 0, none⟩) (fr.length + 1) cap)).trans K2); have HP2 := hid P2; have HN2 := hid N2; clear P2 K2 N2 PA NA KA kA qA fA; go_wp2_with fail
  refine (reset_any b _ ad bv g _ HN2.out).mono ?_; rintro e w3 ⟨rfl, N3, g3⟩; have K3 : Keep B [56] _ w3 := keep_grown g3 (by have := KK.out.keep.below.size; omega) fun k hk => by
   cases hk
   exact ⟨hB, _, _, _, HN2.out, by simp⟩
  have F3 : FSt w3 B b (.slice (some ⟨gg, 0, none⟩) (fr.length + 1) cap) (x :: r) g := ⟨_, _, _, N3, .inl rfl, HP2.out.keep K3 (by decide) (by decide), holds8_nil _ _, by rw [List.map_append, HFR.out, List.reverse_cons]; rfl⟩; have KK3 := KK.out.trans (keepO_of K3 (by simp) (by decide) _); have HF3 := hid F3; have HK3 := hid KK3; clear N3 g3 K3 F3 KK3; go_wp2_with fail
  go_end0
  exact ⟨rfl, HF3.out, HK3.out⟩
end
end Go.Proofs.Ytchceolbbkhnnaa
