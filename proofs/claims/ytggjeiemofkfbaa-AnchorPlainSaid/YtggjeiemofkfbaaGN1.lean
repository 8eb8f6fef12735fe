/- Texts of this seat, put together: AnM, AnR, AnA, AnS, AnV, AnW, AnX. -/
import Derived.Test.YtggjeiemofkfbaaGP1
import Derived.Test.YtggjeiemofkfbaaGC2
import Derived.Test.YtggjeiemofkfbaaGA1
import Derived.Test.YtggjeiemofkfbaaGD1
import Derived.BigQuiet
import Derived.Deep.QuietTactic
/- Places that a changeset moves, in plain words: what the program reckons over the operations, and the same rune by rune. -/
namespace Go.Proofs.Ytggjeiemofkfbaa
namespace An
open Rn Ch
open At hiding put
open Cp (Atm atm atms rns1 kA dA iA OkX)

/-- Does an insert at a place come behind a place? -/
def away (up : Bool) (a p : Int) : Bool := if up then decide (a < p) else decide (a ≤ p)
def stepA (up : Bool) (a : Int) (s : Int × Int) (o : OpD) : Int × Int :=
  if o.kind = 2 then (s.1 + (if away up a s.2 = true then 0 else cnt o.text.data.toList), s.2 + o.n)
  else if o.kind = 3 then (s.1 - min o.n (max (a - s.2) 0), s.2 + o.n)
  else (s.1, s.2 + o.n)
def foldA (up : Bool) (a : Int) (l : List OpD) : Int × Int := l.foldl (stepA up a) (a, 0)
def aheadR (up : Bool) (a : Int) (l : List OpD) : Int := (foldA up a l).1
theorem foldA_snoc (up : Bool) (a : Int) (l : List OpD) (o : OpD) : foldA up a (l ++ [o]) = stepA up a (foldA up a l) o := by simp [foldA]
theorem foldA_take {up : Bool} {a : Int} {l : List OpD} {k : Nat} (h : k < l.length) : foldA up a (l.take (k + 1)) = stepA up a (foldA up a (l.take k)) l[k] := by
  rw [List.take_succ_eq_append_getElem h, foldA_snoc]
/-- On the way no number grows large. -/
theorem foldA_lim {up : Bool} {a : Int} (h0 : 0 ≤ a) (h1 : a ≤ 20000) {l : List OpD} (hl : ∀ o ∈ l, 0 ≤ o.n ∧ o.n ≤ 20000) : ∀ k : Nat, k ≤ l.length →
    -(20000 * (k : Int)) ≤ (foldA up a (l.take k)).1 ∧ (foldA up a (l.take k)).1 ≤ 20000 + 20000 * (k : Int) ∧ 0 ≤ (foldA up a (l.take k)).2 ∧ (foldA up a (l.take k)).2 ≤ 20000 * (k : Int) := by
  intro k
  induction k with
  | zero => intro _; simp [foldA]; omega
  | succ k ih =>
    intro hk
    obtain ⟨i1, i2, i3, i4⟩ := ih (by omega)
    obtain ⟨n0, n1⟩ := hl l[k] (List.getElem_mem _)
    obtain ⟨c0, c1⟩ := cnt_nonneg l[k].text.data.toList
    rw [foldA_take (by omega)]
    generalize foldA up a (l.take k) = s at i1 i2 i3 i4
    obtain ⟨x, p⟩ := s
    simp only at i1 i2 i3 i4
    unfold stepA
    split
    · simp only
      split <;> omega
    · split
      · simp only; omega
      · simp only; omega

/-- Rune by rune. -/
def placeA (up : Bool) (a : Int) : List Atm → Int → Int
  | [], _ => 0
  | .ins _ _ :: r, p => (if away up a p = true then 0 else 1) + placeA up a r p
  | .keep _ :: r, p => (if p < a then 1 else 0) + placeA up a r (p + 1)
  | .del :: r, p => placeA up a r (p + 1)
theorem placeA_nonneg (up : Bool) (a : Int) : ∀ (l : List Atm) (p : Int), 0 ≤ placeA up a l p
  | [], _ => Int.le_refl _
  | .ins _ _ :: r, p => by have := placeA_nonneg up a r p; rw [placeA]; split <;> omega
  | .keep _ :: r, p => by have := placeA_nonneg up a r (p + 1); rw [placeA]; split <;> omega
  | .del :: r, p => by have := placeA_nonneg up a r (p + 1); rw [placeA]; omega
theorem placeA_append (up : Bool) (a : Int) (B : List Atm) : ∀ (A : List Atm) (p : Int), placeA up a (A ++ B) p = placeA up a A p + placeA up a B (p + kA A)
  | [], p => by simp [placeA, kA]
  | .ins c x :: r, p => by rw [List.cons_append, placeA, placeA, placeA_append up a B r p, kA]; omega
  | .keep x :: r, p => by
    rw [List.cons_append, placeA, placeA, placeA_append up a B r (p + 1), kA, show p + 1 + (kA r : Int) = p + ((kA r + 1 : Nat) : Int) by omega]; omega
  | .del :: r, p => by
    rw [List.cons_append, placeA, placeA, placeA_append up a B r (p + 1), kA, show p + 1 + (kA r : Int) = p + ((kA r + 1 : Nat) : Int) by omega]
/-- Runes behind a changeset's atoms. -/
def nA (l : List Atm) : Int := (kA l : Int) - dA l + iA l
theorem nA_append (a b : List Atm) : nA (a ++ b) = nA a + nA b := by
  obtain ⟨h1, h2, h3⟩ := Cp.sums_append a b
  unfold nA; omega
theorem placeA_le (up : Bool) (a : Int) : ∀ (l : List Atm) (p : Int), placeA up a l p ≤ nA l
  | [], _ => by simp [placeA, nA, kA, dA, iA]
  | .ins _ _ :: r, p => by have := placeA_le up a r p; rw [placeA]; simp only [nA, kA, dA, iA] at this ⊢; split <;> omega
  | .keep _ :: r, p => by have := placeA_le up a r (p + 1); rw [placeA]; simp only [nA, kA, dA, iA] at this ⊢; split <;> omega
  | .del :: r, p => by have := placeA_le up a r (p + 1); rw [placeA]; simp only [nA, kA, dA, iA] at this ⊢; omega
/-- Ahead of the place all are counted. -/
theorem placeA_all {up : Bool} {a : Int} : ∀ (l : List Atm) (p : Int), (if up then p + kA l ≤ a else p + kA l < a) → placeA up a l p = nA l
  | [], _, _ => by simp [placeA, nA, kA, dA, iA]
  | .ins _ _ :: r, p, h => by
    have := placeA_all (up := up) (a := a) r p (by cases up <;> simp only [kA, if_true, Bool.false_eq_true, if_false] at h ⊢ <;> omega)
    rw [placeA, this]
    have e : away up a p = false := by
      unfold away
      cases up <;> simp only [kA, if_true, Bool.false_eq_true, if_false] at h ⊢ <;> exact decide_eq_false (by omega)
    rw [e]; simp only [nA, kA, dA, iA, Bool.false_eq_true, if_false]; omega
  | .keep _ :: r, p, h => by
    have := placeA_all (up := up) (a := a) r (p + 1) (by cases up <;> simp only [kA, if_true, Bool.false_eq_true, if_false] at h ⊢ <;> omega)
    rw [placeA, this, if_pos (by cases up <;> simp only [kA, if_true, Bool.false_eq_true, if_false] at h <;> omega)]
    simp only [nA, kA, dA, iA]; omega
  | .del :: r, p, h => by
    have := placeA_all (up := up) (a := a) r (p + 1) (by cases up <;> simp only [kA, if_true, Bool.false_eq_true, if_false] at h ⊢ <;> omega)
    rw [placeA, this]
    simp only [nA, kA, dA, iA]; omega
/-- Behind it none. -/
theorem placeA_none {up : Bool} {a : Int} : ∀ (l : List Atm) (p : Int), (if up then a < p else a ≤ p) → placeA up a l p = 0
  | [], _, _ => rfl
  | .ins _ _ :: r, p, h => by
    rw [placeA, placeA_none r p h]
    have e : away up a p = true := by
      unfold away
      cases up <;> simp only [if_true, Bool.false_eq_true, if_false] at h ⊢ <;> exact decide_eq_true (by omega)
    rw [e]; rfl
  | .keep _ :: r, p, h => by
    rw [placeA, placeA_none (up := up) (a := a) r (p + 1) (by cases up <;> simp only [if_true, Bool.false_eq_true, if_false] at h ⊢ <;> omega), if_neg (by cases up <;> simp only [if_true, Bool.false_eq_true, if_false] at h <;> omega)]; rfl
  | .del :: r, p, h => by
    rw [placeA, placeA_none (up := up) (a := a) r (p + 1) (by cases up <;> simp only [if_true, Bool.false_eq_true, if_false] at h ⊢ <;> omega)]
theorem placeA_keeps (up : Bool) (a : Int) (x : Cp.AL) (n : Nat) : ∀ p, placeA up a (List.replicate n (.keep x)) p = min (n : Int) (max (a - p) 0) := by
  induction n with
  | zero => intro p; simp [placeA]; omega
  | succ n ih => intro p; rw [List.replicate_succ, placeA, ih]; split <;> omega
theorem placeA_dels (up : Bool) (a : Int) (n : Nat) : ∀ p, placeA up a (List.replicate n .del) p = 0 := by
  induction n with
  | zero => intro p; rfl
  | succ n ih => intro p; rw [List.replicate_succ, placeA, ih]
theorem placeA_inss (up : Bool) (a : Int) (x : Cp.AL) (cs : List Nat) (p : Int) : placeA up a (cs.map fun c => .ins c x) p = if away up a p = true then 0 else (cs.length : Int) := by
  induction cs with
  | nil => simp [placeA]
  | cons c r ih => rw [List.map_cons, placeA, ih, List.length_cons]; split <;> omega
/-- An operation's step, by its atoms. -/
theorem stepA_eq {up : Bool} {a : Int} {o : OpD} (h : opE o = 0) (n p : Int) :
    stepA up a (n, p) o = (n - max (a - p) 0 + placeA up a (atm o) p + max (a - (p + kA (atm o))) 0, p + kA (atm o)) := by
  rcases Cp.opE_shape h with ⟨k, b, _, _⟩ | ⟨k, b, _, _, _, _, f, _⟩ | ⟨k, b, _, _⟩
  · obtain ⟨t1, _, _⟩ := Cp.sums_keep o.attrs o.n.toNat
    rw [Cp.atm_keep k, placeA_keeps, t1]
    unfold stepA
    rw [if_neg (by omega), if_neg (by omega)]
    refine Prod.ext ?_ ?_
    · show n = _
      omega
    · show p + o.n = _
      omega
  · obtain ⟨t1, _, _⟩ := Cp.sums_ins o.attrs (rns1 o.text)
    rw [Cp.atm_ins k, placeA_inss, t1]
    unfold stepA
    rw [if_pos k, f]
    refine Prod.ext ?_ ?_
    · show n + _ = _
      simp only [Int.natCast_zero, Int.add_zero]
      split <;> omega
    · show p + o.n = _
      omega
  · obtain ⟨t1, _, _⟩ := Cp.sums_del o.n.toNat
    rw [Cp.atm_del k, placeA_dels, t1]
    unfold stepA
    rw [if_neg (by omega), if_pos k]
    refine Prod.ext ?_ ?_
    · show n - _ = _
      omega
    · show p + o.n = _
      omega
theorem foldA_eq {up : Bool} {a : Int} : ∀ (ops : List OpD), allE ops → ∀ n p, ops.foldl (stepA up a) (n, p) = (n - max (a - p) 0 + placeA up a (atms ops) p + max (a - (p + kA (atms ops))) 0, p + kA (atms ops)) := by
  intro ops
  induction ops with
  | nil => intro _ n p; simp only [List.foldl_nil, atms, List.flatMap_nil, placeA, kA]; refine Prod.ext ?_ ?_ <;> simp <;> omega
  | cons o r ih =>
    intro h n p
    rw [List.foldl_cons, stepA_eq (h o (List.mem_cons_self ..)), ih fun x hx => h x (List.mem_cons_of_mem _ hx), Cp.atms_cons, placeA_append]
    obtain ⟨h1, _, _⟩ := Cp.sums_append (atm o) (atms r)
    rw [h1]
    refine Prod.ext ?_ ?_
    · simp only [Int.natCast_add, ← Int.add_assoc]
      omega
    · simp only; omega
/-- All of the atoms: behind the last all else is kept. -/
def fullA (f : Int) (ops : List OpD) : List Atm := atms ops ++ List.replicate (f - kd ops).toNat (.keep [])
theorem aheadR_eq {up : Bool} {a f : Int} {ops : List OpD} (h : OkC f ops) (h0 : 0 ≤ a) (h1 : a ≤ f) : aheadR up a ops = placeA up a (fullA f ops) 0 := by
  obtain ⟨k1, _, _⟩ := Cp.sums_atms h.2.2.2.1
  have hk := h.2.2.2.2.1
  unfold aheadR foldA fullA
  rw [foldA_eq ops h.2.2.2.1, placeA_append, placeA_keeps]
  simp only
  omega
theorem full_sums {f : Int} {ops : List OpD} (h : OkC f ops) : (kA (fullA f ops) : Int) = f ∧ nA (fullA f ops) = f - dl ops + ins ops := by
  obtain ⟨k1, k2, k3⟩ := Cp.sums_atms h.2.2.2.1
  have hk := h.2.2.2.2.1
  obtain ⟨s1, s2, s3⟩ := Cp.sums_append (atms ops) (List.replicate (f - kd ops).toNat (.keep []))
  obtain ⟨t1, t2, t3⟩ := Cp.sums_keep [] (f - kd ops).toNat
  unfold nA fullA
  omega
/-- Places keep their order. -/
theorem placeA_mono {u v : Bool} {a b : Int} (hk : a ≤ b) (hi : ∀ p, away u a p = false → away v b p = false) : ∀ (l : List Atm) (p : Int), placeA u a l p ≤ placeA v b l p
  | [], _ => Int.le_refl _
  | .ins _ _ :: r, p => by
    have := placeA_mono hk hi r p
    rw [placeA, placeA]
    by_cases h : away u a p = true
    · rw [if_pos h]; split <;> omega
    · rw [if_neg h, if_neg (by rw [hi p (Bool.not_eq_true _ ▸ h)]; simp)]; omega
  | .keep _ :: r, p => by
    have := placeA_mono hk hi r (p + 1)
    rw [placeA, placeA]
    split
    · rw [if_pos (by omega)]; omega
    · split <;> omega
  | .del :: r, p => by
    have := placeA_mono hk hi r (p + 1)
    rw [placeA, placeA]; exact this
theorem up_mono {a b : Int} (h : a ≤ b) (l : List Atm) (p : Int) : placeA true a l p ≤ placeA true b l p :=
  placeA_mono h (fun q hq => by unfold away at hq ⊢; simp only [if_true, decide_eq_false_iff_not] at hq ⊢; omega) l p
theorem down_mono {a b : Int} (h : a ≤ b) (l : List Atm) (p : Int) : placeA false a l p ≤ placeA false b l p :=
  placeA_mono h (fun q hq => by unfold away at hq ⊢; simp only [Bool.false_eq_true, if_false, decide_eq_false_iff_not] at hq ⊢; omega) l p
theorem down_up (a : Int) (l : List Atm) (p : Int) : placeA false a l p ≤ placeA true a l p :=
  placeA_mono (Int.le_refl _) (fun q hq => by unfold away at hq ⊢; simp only [if_true, Bool.false_eq_true, if_false, decide_eq_false_iff_not] at hq ⊢; omega) l p
theorem up_down {a b : Int} (h : a < b) (l : List Atm) (p : Int) : placeA true a l p ≤ placeA false b l p :=
  placeA_mono (by omega) (fun q hq => by unfold away at hq ⊢; simp only [if_true, Bool.false_eq_true, if_false, decide_eq_false_iff_not] at hq ⊢; omega) l p
/-- Is an atom ahead? -/
def isAhead (up : Bool) (a q : Int) : Atm → Bool
  | .ins _ _ => !away up a q
  | .keep _ => decide (q < a)
  | .del => false
theorem ahead_iff {up : Bool} {a : Int} (A B : List Atm) (x : Atm) (hx : x ≠ .del) : (nA A < placeA up a (A ++ x :: B) 0 ↔ isAhead up a (kA A) x = true) := by
  rw [placeA_append, Int.zero_add]
  have h0 := placeA_nonneg up a B (kA A)
  have h1 := placeA_nonneg up a B (kA A + 1)
  have h2 := placeA_le up a A 0
  cases x with
  | del => exact absurd rfl hx
  | ins c y =>
    rw [placeA]
    by_cases h : away up a (kA A) = true
    · rw [if_pos h, placeA_none B _ (by unfold away at h; cases up <;> simpa using h)]
      simp only [isAhead, h]
      simp; omega
    · rw [if_neg h, placeA_all A 0 (by unfold away at h; cases up <;> simp only [if_true, Bool.false_eq_true, if_false, decide_eq_true_eq] at h ⊢ <;> omega)]
      simp only [isAhead, Bool.not_eq_true _ ▸ h]
      simp; omega
  | keep y =>
    rw [placeA]
    by_cases h : (kA A : Int) < a
    · rw [if_pos h, placeA_all A 0 (by cases up <;> simp only [if_true, Bool.false_eq_true, if_false] <;> omega)]
      simp only [isAhead, decide_eq_true_eq]
      omega
    · rw [if_neg h, placeA_none B _ (by cases up <;> simp only [if_true, Bool.false_eq_true, if_false] <;> omega)]
      simp only [isAhead, decide_eq_true_eq]
      omega
end An
end Go.Proofs.Ytggjeiemofkfbaa

/- How many runes a text has, as the library counts. -/
namespace Go.Proofs.Ytggjeiemofkfbaa
open Go.RowKit Rn Ch

theorem t5_dec (cs : List Nat) (h : allOk cs) (k : Nat) (hk : k < cs.length) : dec ((T cs).data.toList.drop (txt (cs.take k)).length) = (cs.getD k 0, (enc (cs.getD k 0)).length) := by
  have e : txt cs = txt (cs.take k) ++ txt (cs.drop k) := by rw [← txt_append, List.take_append_drop]
  rw [T_data, e, List.drop_left, List.drop_eq_getElem_cons hk, txt_cons, List.getD_eq_getElem?_getD, List.getElem?_eq_getElem hk]
  exact dec_enc _ (h _ (List.getElem_mem hk)) _
theorem len5_succ (cs : List Nat) (k : Nat) (hk : k < cs.length) : (txt (cs.take (k + 1))).length = (txt (cs.take k)).length + (enc (cs.getD k 0)).length := by
  rw [List.take_succ_eq_append_getElem hk, txt_append, List.length_append, List.getD_eq_getElem?_getD, List.getElem?_eq_getElem hk]
  simp [txt]

theorem runeFrom_T (cs : List Nat) (h : allOk cs) : ∀ (fuel k : Nat), k ≤ cs.length → (T cs).size ≤ fuel + (txt (cs.take k)).length → Lib.runeCountFrom (T cs) fuel (txt (cs.take k)).length = cs.length - k := by
  intro fuel
  induction fuel with
  | zero =>
    intro k hk hf
    have hle := len_take_le cs k
    have hsz := T_size cs
    have : k = cs.length := by
      apply Classical.byContradiction
      intro hne
      have h1 := len5_succ cs k (by omega)
      have h2 := len_take_le cs (k + 1)
      have h3 := enc_pos (cs.getD k 0)
      omega
    rw [this, Nat.sub_self]; rfl
  | succ fuel ih =>
    intro k hk hf
    have hle := len_take_le cs k
    have hsz := T_size cs
    by_cases hlt : k < cs.length
    · have h1 := len5_succ cs k hlt
      have h2 := len_take_le cs (k + 1)
      have h3 := enc_pos (cs.getD k 0)
      unfold Lib.runeCountFrom
      rw [if_pos (by omega), decode_eq, t5_dec cs h k hlt, ← h1, ih (k + 1) (by omega) (by omega)]
      omega
    · have : k = cs.length := by omega
      have h4 : ¬ (txt (cs.take k)).length < (T cs).size := by rw [this, List.take_length]; omega
      rw [Lib.runeCountFrom_end _ _ _ h4]; omega
theorem runeCount_T {cs : List Nat} (h : allOk cs) : Lib.runeCount (T cs) = cs.length := by
  have := runeFrom_T cs h (T cs).size 0 (Nat.zero_le _) (by omega)
  simpa [Lib.runeCount, txt] using this
theorem runeCount_cnt {s : ByteArray} (h : er s.data.toList = 0) : (Lib.runeCount s : Int) = cnt s.data.toList ∧ s.size ≤ 80000 := by
  cases hr : rd s.data.toList with
  | none => rw [er_none hr] at h; omega
  | some cs =>
    have h1 := rd_some hr
    have h2 := (txt_len cs).2
    refine ⟨?_, ?_⟩
    · rw [cnt_some hr, rd_T hr, runeCount_T h1.1]
    · rw [rd_T hr, T_size]; have := h1.2.2; omega
end Go.Proofs.Ytggjeiemofkfbaa

/- The program's anchor: how many runes stand ahead of a place. -/
namespace Go.Proofs.Ytggjeiemofkfbaa
open Go.RowKit Rn Ch
open An (away aheadR foldA stepA foldA_take foldA_lim)

/-- A closure that tells what an insert adds. -/
structure Adds (F : FuncId) (C : Array Value) (up : Bool) (a : Int) (w0 : World) : Prop where
  enters : ∀ args W, (callFunc F args).run Try.prog W = .ok (.enter F args) W
  does : ∀ (p n : Int) (W : World), Below w0.heap.size w0 W → Calls Try.prog F (#[.int .i64 p, .int .i64 n] ++ C) W fun e w' => e = .returned (.int .i64 (if away up a p = true then 0 else n)) ∧ Below W.heap.size W w'
theorem startD_any (p n a : Int) (b : Nat) (w : World) (hb : w.cell? ⟨b, 0, none⟩ = some (.int .i64 a)) :
    Calls Try.prog 78 #[.int .i64 p, .int .i64 n, .pointer (some ⟨b, 0, none⟩)] w fun e w' => e = .returned (.int .i64 (if away true a p = true then 0 else n)) ∧ Below w.heap.size w w' := by
  by_cases h : a < p
  · have e : away true a p = true := decide_eq_true h
    rw [e]
    go_enter Try.func78, Try.ntmps78
    go_wp2_with fail
    go_ret
    exact ⟨rfl, Below.refl _ _⟩
  · have e : away true a p = false := decide_eq_false h
    rw [e]
    go_enter Try.func78, Try.ntmps78
    go_wp2_with fail
    go_ret
    exact ⟨rfl, Below.refl _ _⟩
theorem endD_any (p n a : Int) (b : Nat) (w : World) (hb : w.cell? ⟨b, 0, none⟩ = some (.int .i64 a)) :
    Calls Try.prog 79 #[.int .i64 p, .int .i64 n, .pointer (some ⟨b, 0, none⟩)] w fun e w' => e = .returned (.int .i64 (if away false a p = true then 0 else n)) ∧ Below w.heap.size w w' := by
  by_cases h : a ≤ p
  · have e : away false a p = true := decide_eq_true h
    rw [e]
    go_enter Try.func79, Try.ntmps79
    go_wp2_with fail
    go_ret
    exact ⟨rfl, Below.refl _ _⟩
  · have e : away false a p = false := decide_eq_false h
    rw [e]
    go_enter Try.func79, Try.ntmps79
    go_wp2_with fail
    go_ret
    exact ⟨rfl, Below.refl _ _⟩
theorem stepA_ins {up : Bool} {a : Int} {s : Int × Int} {o : OpD} (k : o.kind = 2) : stepA up a s o = (s.1 + (if away up a s.2 = true then 0 else cnt o.text.data.toList), s.2 + o.n) := by
  unfold stepA; rw [if_pos k]
theorem stepA_del {up : Bool} {a : Int} {s : Int × Int} {o : OpD} (k : o.kind = 3) : stepA up a s o = (s.1 - min o.n (max (a - s.2) 0), s.2 + o.n) := by
  unfold stepA; rw [if_neg (by omega), if_pos k]
theorem stepA_keep {up : Bool} {a : Int} {s : Int × Int} {o : OpD} (k : o.kind = 1) : stepA up a s o = (s.1, s.2 + o.n) := by
  unfold stepA; rw [if_neg (by omega), if_neg (by omega)]
set_option maxRecDepth 100000 in
set_option maxHeartbeats 4000000 in
theorem ahead_any {F : FuncId} {C : Array Value} {up : Bool} {a f : Int} (v : Value) (ops : List OpD) (w0 w : World) (hA : Adds F C up a w0) (hw : Below w0.heap.size w0 w) (hv : OpRow w v ops) (hok : OkC f ops) (h0 : 0 ≤ a) (h1 : a ≤ 20000) :
    Calls Try.prog 77 #[chAgg f v, .int .i64 a, .func (.func F) #[] C] w fun e w' => e = .returned (.int .i64 (aheadR up a ops)) ∧ Below w.heap.size w w' := by
  have HOK := Lib.hid hok
  have HV := Lib.hid hv
  have HLM := Lib.hid (foldA_lim (up := up) h0 h1 (l := ops) (fun o ho => ⟨(vop_of hok ho).n0, (vop_of hok ho).n1⟩))
  obtain ⟨aa, acap, rfl, v1, v2, v3⟩ := hv
  have V3 := Lib.hid v3
  have hn : ops.length ≤ 9223372036854775807 := Nat.le_trans v1 v2
  have HL2 := Lib.hid hok.2.2.1
  obtain ⟨W, hW⟩ : ∃ W, W = w.alloc (.cells #[.int .i64 f, .slice aa ops.length acap] 24) := ⟨_, rfl⟩
  have BW := Lib.hid (show Below w.heap.size w W by rw [hW]; exact (Below.refl _ _).alloc (Nat.le_refl _) _)
  have c0 : W.cell? ⟨w.heap.size, 0, none⟩ = some (.int .i64 f) := by rw [hW]; go_simp
  have c1 : W.cell? ⟨w.heap.size, 1, none⟩ = some (.slice aa ops.length acap) := by rw [hW]; go_simp
  have HW := Lib.hid hW
  have HB0 := Lib.hid hw
  have HAD := Lib.hid hA
  have HE := hA.enters
  clear hok hW v1 v2 v3 hw hA
  go_enter Try.func77, Try.ntmps77
  go_wp2_with fail
  rw [← HW.out]
  go_wp2_with fail
  go_loopw [7, 8, 15] (fun x y i wr => ∃ k : Nat, x = .int .i64 (foldA up a (ops.take k)).1 ∧ y = .int .i64 (foldA up a (ops.take k)).2 ∧ i = .int .i64 (k : Int) ∧ k ≤ ops.length ∧ Below w.heap.size w wr) (fun _ _ i _ => ops.length - (intOf i).toNat)
  case atStart => exact ⟨0, rfl, rfl, rfl, Nat.zero_le _, BW.out⟩
  case round =>
    obtain ⟨k, rfl, rfl, rfl, hk, hb⟩ := hrel
    by_cases hlt : k < ops.length
    · have hlt' : (k : Int) < (ops.length : Int) := by omega
      obtain ⟨b, off, rfl, hbl, av, r0, _, x0, x1, x2, x3⟩ := V3.out k hlt
      have hop := HOK.out.2.2.2.1 _ (List.getElem_mem hlt)
      have hvo := vop_of HOK.out (List.getElem_mem hlt)
      have HT := Lib.hid (foldA_take (up := up) (a := a) hlt)
      obtain ⟨s1, s2, s3, s4⟩ := HLM.out k hk
      have l2 := HL2.out
      generalize foldA up a (ops.take k) = s at HT s1 s2 s3 s4 ⊢
      obtain ⟨n, p⟩ := s
      simp only at s1 s2 s3 s4 ⊢
      obtain ⟨o, ho⟩ : ∃ o, o = ops[k] := ⟨_, rfl⟩
      rw [← ho] at r0 x0 x1 x2 hop hvo HT
      have n0 := hvo.n0
      have n1 := hvo.n1
      obtain ⟨ar, cr, rfl⟩ := r0.shape
      have y0 : wr.cell? ⟨b, off + k * 4, none⟩ = some (.int .i64 o.kind) := (hb.cell (by exact hbl)).trans x0
      have y1 : wr.cell? ⟨b, off + k * 4 + 1, none⟩ = some (.int .i64 o.n) := (hb.cell (by exact hbl)).trans x1
      have y2 : wr.cell? ⟨b, off + k * 4 + 2, none⟩ = some (.string o.text) := (hb.cell (by exact hbl)).trans x2
      have y3 : wr.cell? ⟨b, off + k * 4 + 3, none⟩ = some (.slice ar o.attrs.length cr) := (hb.cell (by exact hbl)).trans x3
      have hs0 : w.heap.size ≤ wr.heap.size := hb.size
      obtain ⟨X, hX⟩ : ∃ X, X = wr.alloc (.cells #[.int .i64 o.kind, .int .i64 o.n, .string o.text, .slice ar o.attrs.length cr] 40) := ⟨_, rfl⟩
      have BX := Lib.hid (show Below w.heap.size w X by rw [hX]; exact hb.alloc hs0 _)
      have d0 : X.cell? ⟨wr.heap.size, 0, none⟩ = some (.int .i64 o.kind) := by rw [hX]; go_simp
      have d1 : X.cell? ⟨wr.heap.size, 1, none⟩ = some (.int .i64 o.n) := by rw [hX]; go_simp
      have d2 : X.cell? ⟨wr.heap.size, 2, none⟩ = some (.string o.text) := by rw [hX]; go_simp
      have d3 : X.cell? ⟨wr.heap.size, 3, none⟩ = some (.slice ar o.attrs.length cr) := by rw [hX]; go_simp
      have hXs : wr.heap.size < X.heap.size := by rw [hX]; simp
      have HX := Lib.hid hX
      have wp : IntKind.i64.wrap (p + o.n) = p + o.n := IntWalk.i64_in _ (by omega)
      have HOP := Lib.hid hop
      clear ho r0 x0 x1 x2 x3 hb hX hop hvo
      by_cases hk2 : o.kind = 2
      · have k2 : (o.kind == 2) = true := by rw [hk2]; rfl
        have hter := ((opE_put hk2).1 HOP.out).2.2.1
        obtain ⟨hrc, hts⟩ := runeCount_cnt hter
        obtain ⟨cn0, cn1⟩ := cnt_nonneg o.text.data.toList
        rw [stepA_ins hk2] at HT
        have HRC := Lib.hid (Try.utf8_RuneCountInString o.text X (by omega))
        rw [hrc] at HRC
        have hin : IntKind.i64.wrap (n + (if away up a p = true then 0 else cnt o.text.data.toList)) = n + (if away up a p = true then 0 else cnt o.text.data.toList) := IntWalk.i64_in _ (by split <;> omega)
        obtain ⟨dd, hdd⟩ : ∃ dd, dd = (if away up a p = true then 0 else cnt o.text.data.toList) := ⟨_, rfl⟩
        rw [← hdd] at hin HT
        have HDD := Lib.hid hdd
        clear hk2 hdd
        go_wp2_with fail
        rw [← HX.out]
        go_wp2_with fail
        refine HRC.out.mono ?_
        rintro e w2 ⟨rfl, pos, hw2⟩
        have b2 : Below X.heap.size X w2 := by rw [hw2]; exact (Below.refl X.heap.size X).alloc (Nat.le_refl _) _
        have e1 : w2.cell? ⟨wr.heap.size, 1, none⟩ = some (.int .i64 o.n) := (b2.cell (by exact hXs)).trans d1
        have hX2 : wr.heap.size < w2.heap.size := Nat.lt_of_lt_of_le hXs b2.size
        have B2 := Lib.hid (BX.out.trans (b2.mono BX.out.size))
        clear b2 hw2
        go_wp2_with fail
        refine (HAD.out.does p (cnt o.text.data.toList) w2 (HB0.out.trans (B2.out.mono HB0.out.size))).mono ?_
        rw [← HDD.out]
        rintro e w3 ⟨rfl, b3⟩
        have e1 : w3.cell? ⟨wr.heap.size, 1, none⟩ = some (.int .i64 o.n) := (b3.cell (by exact hX2)).trans e1
        have B3 := Lib.hid (B2.out.trans (b3.mono B2.out.size))
        clear b3
        go_wp2_with fail
        go_roundw
        case rel => exact ⟨k + 1, by rw [HT.out], by rw [HT.out], by go_num, by omega, B3.out⟩
        case measure => simp [intOf]; omega
      · have k2 : (o.kind == 2) = false := by rw [beq_eq_false_iff_ne]; exact hk2
        by_cases hk3 : o.kind = 3
        · have k3 : (o.kind == 3) = true := by rw [hk3]; rfl
          rw [stepA_del hk3] at HT
          have w1 : IntKind.i64.wrap (a - p) = a - p := IntWalk.i64_in _ (by omega)
          have w2 : IntKind.i64.wrap (n - min o.n (max (a - p) 0)) = n - min o.n (max (a - p) 0) := IntWalk.i64_in _ (by omega)
          clear hk2 hk3
          go_wp2_with fail
          rw [← HX.out]
          go_wp2_with fail
          go_roundw
          case rel => exact ⟨k + 1, by rw [HT.out], by rw [HT.out], by go_num, by omega, BX.out⟩
          case measure => simp [intOf]; omega
        · have k3 : (o.kind == 3) = false := by rw [beq_eq_false_iff_ne]; exact hk3
          have hk1 : o.kind = 1 := by rcases opE_kind HOP.out with h | h | h <;> omega
          rw [stepA_keep hk1] at HT
          clear hk2 hk3 hk1
          go_wp2_with fail
          rw [← HX.out]
          go_wp2_with fail
          go_roundw
          case rel => exact ⟨k + 1, by rw [HT.out], by rw [HT.out], by go_num, by omega, BX.out⟩
          case measure => simp [intOf]; omega
    · have hkn : k = ops.length := by omega
      subst hkn
      rw [List.take_length]
      have HB := Lib.hid hb
      clear hb
      go_wp2_with fail
      go_ret
      exact ⟨rfl, HB.out⟩
end Go.Proofs.Ytggjeiemofkfbaa

/- The program's anchor: Start, End. -/
namespace Go.Proofs.Ytggjeiemofkfbaa
open Go.RowKit Rn Ch
open An (away aheadR)

def AheadOut (up : Bool) (a : Int) (ops : List OpD) (w : World) (e : Ending) (w' : World) : Prop := e = .returned (.int .i64 (aheadR up a ops)) ∧ Below w.heap.size w w'
set_option maxRecDepth 100000 in
set_option maxHeartbeats 2000000 in
theorem atStart_any (f a : Int) (v : Value) (ops : List OpD) (w : World) (hv : OpRow w v ops) (hok : OkC f ops) (h0 : 0 ≤ a) (h1 : a ≤ 20000) :
    Calls Try.prog 60 #[chAgg f v, .int .i64 a] w (AheadOut true a ops w) := by
  obtain ⟨aa, acap, rfl⟩ := hv.shape
  obtain ⟨W, hW⟩ : ∃ W, W = (w.alloc (.cells #[.int .i64 f, .slice aa ops.length acap] 24)).alloc (.cells #[.int .i64 a] 3) := ⟨_, rfl⟩
  have BW := Lib.hid (show Below w.heap.size w W by rw [hW]; exact ((Below.refl _ _).alloc (Nat.le_refl _) _).alloc (by simp) _)
  have c0 : W.cell? ⟨w.heap.size, 0, none⟩ = some (.int .i64 f) := by rw [hW]; go_simp
  have c1 : W.cell? ⟨w.heap.size, 1, none⟩ = some (.slice aa ops.length acap) := by rw [hW]; go_simp
  have c2 : W.cell? ⟨w.heap.size + 1, 0, none⟩ = some (.int .i64 a) := by rw [hW]; go_simp
  have hl : w.heap.size + 1 < W.heap.size := by rw [hW]; simp
  have HC := Lib.hid (ahead_any (F := 78) (C := #[.pointer (some ⟨w.heap.size + 1, 0, none⟩)]) (up := true) (a := a) (f := f) _ ops W W ⟨fun args W => by kernel_rfl, fun p n W' hb => startD_any p n a _ W' ((hb.cell (by exact hl)).trans c2)⟩ (Below.refl _ _) (hv.below BW.out) hok h0 h1)
  have HW := Lib.hid hW
  clear hW hv hok
  go_enter Try.func60, Try.ntmps60
  go_wp2_with fail
  rw [← HW.out]
  go_wp2_with fail
  refine HC.out.mono ?_
  rintro e w1 ⟨rfl, b⟩
  have B1 := Lib.hid (BW.out.trans (b.mono BW.out.size))
  clear b
  go_wp2_with fail
  go_ret
  exact ⟨rfl, B1.out⟩
set_option maxRecDepth 100000 in
set_option maxHeartbeats 2000000 in
theorem atEnd_any (f a : Int) (v : Value) (ops : List OpD) (w : World) (hv : OpRow w v ops) (hok : OkC f ops) (h0 : 0 ≤ a) (h1 : a ≤ 20000) :
    Calls Try.prog 61 #[chAgg f v, .int .i64 a] w (AheadOut false a ops w) := by
  obtain ⟨aa, acap, rfl⟩ := hv.shape
  obtain ⟨W, hW⟩ : ∃ W, W = (w.alloc (.cells #[.int .i64 f, .slice aa ops.length acap] 24)).alloc (.cells #[.int .i64 a] 3) := ⟨_, rfl⟩
  have BW := Lib.hid (show Below w.heap.size w W by rw [hW]; exact ((Below.refl _ _).alloc (Nat.le_refl _) _).alloc (by simp) _)
  have c0 : W.cell? ⟨w.heap.size, 0, none⟩ = some (.int .i64 f) := by rw [hW]; go_simp
  have c1 : W.cell? ⟨w.heap.size, 1, none⟩ = some (.slice aa ops.length acap) := by rw [hW]; go_simp
  have c2 : W.cell? ⟨w.heap.size + 1, 0, none⟩ = some (.int .i64 a) := by rw [hW]; go_simp
  have hl : w.heap.size + 1 < W.heap.size := by rw [hW]; simp
  have HC := Lib.hid (ahead_any (F := 79) (C := #[.pointer (some ⟨w.heap.size + 1, 0, none⟩)]) (up := false) (a := a) (f := f) _ ops W W ⟨fun args W => by kernel_rfl, fun p n W' hb => endD_any p n a _ W' ((hb.cell (by exact hl)).trans c2)⟩ (Below.refl _ _) (hv.below BW.out) hok h0 h1)
  have HW := Lib.hid hW
  clear hW hv hok
  go_enter Try.func61, Try.ntmps61
  go_wp2_with fail
  rw [← HW.out]
  go_wp2_with fail
  refine HC.out.mono ?_
  rintro e w1 ⟨rfl, b⟩
  have B1 := Lib.hid (BW.out.trans (b.mono BW.out.size))
  clear b
  go_wp2_with fail
  go_ret
  exact ⟨rfl, B1.out⟩

theorem ownOps_keepC {w w' : World} {B C : Nat} {v : Value} {l : List OpD} (h : OwnOps w B v l) (hk : Keep C [24] w w') : OwnOps w' B v l := by
  obtain ⟨ps, e, hP⟩ := h
  exact ⟨ps, e, hP.keep hk (by decide) (by decide)⟩
/-- One of the two, as a value. -/
structure Moves (F : FuncId) (up : Bool) : Prop where
  enters : ∀ args W, (callFunc F args).run Try.prog W = .ok (.enter F args) W
  does : ∀ (f a : Int) (v : Value) (ops : List OpD) (w : World), OpRow w v ops → OkC f ops → 0 ≤ a → a ≤ 20000 → Calls Try.prog F #[chAgg f v, .int .i64 a] w (AheadOut up a ops w)
theorem moves_start : Moves 60 true := ⟨fun args W => by kernel_rfl, fun f a v ops w h1 h2 h3 h4 => atStart_any f a v ops w h1 h2 h3 h4⟩
theorem moves_end : Moves 61 false := ⟨fun args W => by kernel_rfl, fun f a v ops w h1 h2 h3 h4 => atEnd_any f a v ops w h1 h2 h3 h4⟩

/-- What Start, End answer. -/
def movE (f : Int) (ops : List OpD) (a : Int) : Int := if toE f ops ≠ 0 then toE f ops else if a < 0 ∨ f < a then 1 else 0
def movN (up : Bool) (f : Int) (ops : List OpD) (a : Int) : Int := if movE f ops a = 0 then aheadR up a (norm ops) else 0
def MovOut (up : Bool) (f : Int) (ops : List OpD) (a : Int) (w : World) (e : Ending) (w' : World) : Prop :=
  e = .returned (.tuple #[.int .i64 (movN up f ops a), .int .i64 (movE f ops a)]) ∧ Below w.heap.size w w'
theorem movOut_bad {up : Bool} {f a E : Int} {ops : List OpD} {w w' : World} (h : movE f ops a = E) (h0 : E ≠ 0) (hb : Below w.heap.size w w') : MovOut up f ops a w (.returned (.tuple #[.int .i64 0, .int .i64 E])) w' :=
  ⟨by unfold movN; rw [h, if_neg h0], hb⟩
theorem movOut_ok {up : Bool} {f a : Int} {ops : List OpD} {w w' : World} (h : movE f ops a = 0) (hb : Below w.heap.size w w') : MovOut up f ops a w (.returned (.tuple #[.int .i64 (aheadR up a (norm ops)), .int .i64 0])) w' :=
  ⟨by unfold movN; rw [h, if_pos rfl], hb⟩
theorem movE_ok {f a : Int} {ops : List OpD} (h : toE f ops = 0) (h0 : 0 ≤ a) (h1 : a ≤ f) : movE f ops a = 0 := by
  unfold movE; rw [if_neg (by omega), if_neg (by omega)]
set_option maxRecDepth 100000 in
set_option maxHeartbeats 4000000 in
theorem moved_any {F : FuncId} {up : Bool} (hF : Moves F up) (f a : Int) (v : Value) (ops : List OpD) (w : World) (hv : OpRow w v ops) (hz : OSized ops) :
    Calls Try.prog 59 #[chAgg f v, .int .i64 a, .func (.func F) #[] #[]] w (MovOut up f ops a w) := by
  have HF := hF.enters
  have HFD := Lib.hid hF.does
  clear hF
  obtain ⟨aa, acap, rfl⟩ := hv.shape
  obtain ⟨W, hW, x, bW⟩ : ∃ W, W = w.alloc (.cells #[.int .i64 f, .slice aa ops.length acap] 24) ∧ W.heap[w.heap.size]? = some (.cells #[.int .i64 f, .slice aa ops.length acap] 24 (0, 0)) ∧ Below w.heap.size w W := ⟨_, rfl, heap_new _ _, below_box _ _⟩
  have HW := Lib.hid hW
  have HX := Lib.hid x
  have BW := Lib.hid bW
  have c0 := (cells2 x).1
  have c1 := (cells2 x).2.1
  by_cases he : toE f ops = 0
  · have HN := Lib.hid (normal_ok f _ ops W (hv.below bW) hz he)
    have HOK := Lib.hid ((toE_iff f ops).1 he)
    have HE := Lib.hid he
    clear hv hW x bW he
    go_enter Try.func59, Try.ntmps59
    go_wp2_with fail
    rw [← HW.out]
    go_wp2_with fail
    refine HN.out.mono ?_
    rintro e w1 ⟨v1, rfl, O1, b⟩
    have x1 := (b.block _ (lt_of_heap HX.out)).trans HX.out
    have HO1 := Lib.hid O1
    obtain ⟨ba, bc, hsh⟩ := O1.row.shape
    have HX1 := Lib.hid x1
    have B1 := Lib.hid (BW.out.trans (b.mono BW.out.size))
    obtain ⟨p0, p1, p2, p3⟩ := cells2 x1
    have hs1 := lt_of_heap x1
    subst hsh
    obtain ⟨W2, hW2, q1, q2⟩ : ∃ W2, W2 = (w1.setCell ⟨w.heap.size, 0, none⟩ (.int .i64 f)).setCell ⟨w.heap.size, 1, none⟩ (.slice ba (norm ops).length bc) ∧ W2.heap[w.heap.size]? = some (.cells #[.int .i64 f, .slice ba (norm ops).length bc] 24 (0, 0)) ∧ Keep w.heap.size [24] w1 W2 :=
      ⟨_, rfl, (agg_set _ _ x1).1, (agg_set _ _ x1).2.1⟩
    have HW2 := Lib.hid hW2
    have B2 := Lib.hid (B1.out.trans q2.below)
    have R2 := Lib.hid (OwnOps.row (ownOps_keepC O1 q2))
    obtain ⟨r0, r1, r2, r3⟩ := cells2 q1
    have hs2 := lt_of_heap q1
    have HOKN := Lib.hid (norm_ok HOK.out).1
    clear b c0 c1 x1 O1 hW2 q1 q2
    by_cases h0 : a < 0
    · have E1 := Lib.hid (show movE f ops a = 1 by unfold movE; rw [if_neg (by rw [HE.out]; simp), if_pos (.inl h0)])
      go_wp2_with fail
      rw [← HW2.out]
      go_wp2_with fail
      go_ret2
      exact movOut_bad E1.out (by decide) B2.out
    · have h0' : 0 ≤ a := by omega
      by_cases h1 : f < a
      · have E1 := Lib.hid (show movE f ops a = 1 by unfold movE; rw [if_neg (by rw [HE.out]; simp), if_pos (.inr h1)])
        clear h0
        go_wp2_with fail
        rw [← HW2.out]
        go_wp2_with fail
        go_ret2
        exact movOut_bad E1.out (by decide) B2.out
      · have h1' : a ≤ f := by omega
        have hf := HOK.out.2.1
        have E1 := Lib.hid (movE_ok HE.out h0' h1')
        have HC := Lib.hid (HFD.out f a _ (norm ops) W2 R2.out HOKN.out h0' (by omega))
        clear h0 h1 hf
        go_wp2_with fail
        rw [← HW2.out]
        go_wp2_with fail
        refine HC.out.mono ?_
        rintro e w3 ⟨rfl, b⟩
        have B3 := Lib.hid (B2.out.trans (b.mono B2.out.size))
        clear b
        go_wp2_with fail
        go_ret2
        exact movOut_ok E1.out B3.out
  · have HN := Lib.hid (normal_bad f _ ops W (hv.below bW) hz he)
    have te : (toE f ops != 0) = true := by rw [bne_iff_ne]; exact he
    have HE := Lib.hid he
    have E1 := Lib.hid (show movE f ops a = toE f ops by unfold movE; rw [if_pos he])
    clear hv hW x bW he
    go_enter Try.func59, Try.ntmps59
    go_wp2_with fail
    rw [← HW.out]
    go_wp2_with fail
    refine HN.out.mono ?_
    rintro e w1 ⟨rfl, b⟩
    have x1 := (b.block _ (lt_of_heap HX.out)).trans HX.out
    have B1 := Lib.hid (BW.out.trans (b.mono BW.out.size))
    obtain ⟨p0, p1, p2, p3⟩ := cells2 x1
    have hs1 := lt_of_heap x1
    obtain ⟨W2, hW2, q2⟩ : ∃ W2, W2 = (w1.setCell ⟨w.heap.size, 0, none⟩ (.int .i64 0)).setCell ⟨w.heap.size, 1, none⟩ (.slice none 0 0) ∧ Keep w.heap.size [24] w1 W2 :=
      ⟨_, rfl, (agg_set _ _ x1).2.1⟩
    have HW2 := Lib.hid hW2
    have B2 := Lib.hid (B1.out.trans q2.below)
    clear b c0 c1 x1 hW2 q2
    go_wp2_with fail
    rw [← HW2.out]
    go_wp2_with fail
    go_ret2
    exact movOut_bad E1.out HE.out B2.out
set_option maxRecDepth 100000 in
set_option maxHeartbeats 2000000 in
theorem anStart_any (f a : Int) (v : Value) (ops : List OpD) (w : World) (hv : OpRow w v ops) (hz : OSized ops) :
    Calls Try.prog 31 #[chAgg f v, .int .i64 a] w (MovOut true f ops a w) := by
  obtain ⟨aa, acap, rfl⟩ := hv.shape
  obtain ⟨W, hW, x, bW⟩ : ∃ W, W = w.alloc (.cells #[.int .i64 f, .slice aa ops.length acap] 24) ∧ W.heap[w.heap.size]? = some (.cells #[.int .i64 f, .slice aa ops.length acap] 24 (0, 0)) ∧ Below w.heap.size w W := ⟨_, rfl, heap_new _ _, below_box _ _⟩
  have HW := Lib.hid hW
  have BW := Lib.hid bW
  have c0 := (cells2 x).1
  have c1 := (cells2 x).2.1
  have HC := Lib.hid (moved_any moves_start f a _ ops W (hv.below bW) hz)
  clear hW bW x hv hz
  go_enter Try.func31, Try.ntmps31
  go_wp2_with fail
  rw [← HW.out]
  go_wp2_with fail
  refine HC.out.mono ?_
  rintro e w1 ⟨rfl, b⟩
  have B1 := Lib.hid (BW.out.trans (b.mono BW.out.size))
  clear b
  go_wp2_with fail
  go_ret2
  exact ⟨rfl, B1.out⟩
set_option maxRecDepth 100000 in
set_option maxHeartbeats 2000000 in
theorem anEnd_any (f a : Int) (v : Value) (ops : List OpD) (w : World) (hv : OpRow w v ops) (hz : OSized ops) :
    Calls Try.prog 32 #[chAgg f v, .int .i64 a] w (MovOut false f ops a w) := by
  obtain ⟨aa, acap, rfl⟩ := hv.shape
  obtain ⟨W, hW, x, bW⟩ : ∃ W, W = w.alloc (.cells #[.int .i64 f, .slice aa ops.length acap] 24) ∧ W.heap[w.heap.size]? = some (.cells #[.int .i64 f, .slice aa ops.length acap] 24 (0, 0)) ∧ Below w.heap.size w W := ⟨_, rfl, heap_new _ _, below_box _ _⟩
  have HW := Lib.hid hW
  have BW := Lib.hid bW
  have c0 := (cells2 x).1
  have c1 := (cells2 x).2.1
  have HC := Lib.hid (moved_any moves_end f a _ ops W (hv.below bW) hz)
  clear hW bW x hv hz
  go_enter Try.func32, Try.ntmps32
  go_wp2_with fail
  rw [← HW.out]
  go_wp2_with fail
  refine HC.out.mono ?_
  rintro e w1 ⟨rfl, b⟩
  have B1 := Lib.hid (BW.out.trans (b.mono BW.out.size))
  clear b
  go_wp2_with fail
  go_ret2
  exact ⟨rfl, B1.out⟩
end Go.Proofs.Ytggjeiemofkfbaa

/- The program's anchor: Right, Move. -/
namespace Go.Proofs.Ytggjeiemofkfbaa
open Go.RowKit Rn Ch
open An (away aheadR)

structure RgD where
  f : Int
  t : Int
  lost : Bool
abbrev rgAgg (r : RgD) : Value := .agg #[.int .i64 r.f, .int .i64 r.t, .bool r.lost]
def rgFit (r : RgD) (n : Int) : Bool := (if r.lost then decide (r.f = r.t) else decide (r.f < r.t)) && decide (0 ≤ r.f) && decide (r.t ≤ n)
def rgE (r : RgD) (n : Int) : Int := if rgFit r n = true then 0 else 80
theorem cells3 {W : World} {n : Nat} {t : TypeId} {a b c : Value} (h : W.heap[n]? = some (.cells #[a, b, c] t (0, 0))) : W.cell? ⟨n, 0, none⟩ = some a ∧ W.cell? ⟨n, 1, none⟩ = some b ∧ W.cell? ⟨n, 2, none⟩ = some c ∧ W.frozen? ⟨n, 0, none⟩ = false ∧ W.frozen? ⟨n, 1, none⟩ = false ∧ W.frozen? ⟨n, 2, none⟩ = false :=
  ⟨by simp [World.cell?, h], by simp [World.cell?, h], by simp [World.cell?, h], by simp [World.frozen?, h], by simp [World.frozen?, h], by simp [World.frozen?, h]⟩
theorem agg_set3 {W : World} {n : Nat} {t : TypeId} {a b c : Value} (x y z : Value) (h : W.heap[n]? = some (.cells #[a, b, c] t (0, 0))) :
    (((W.setCell ⟨n, 0, none⟩ x).setCell ⟨n, 1, none⟩ y).setCell ⟨n, 2, none⟩ z).heap[n]? = some (.cells #[x, y, z] t (0, 0)) ∧ Keep n [t] W (((W.setCell ⟨n, 0, none⟩ x).setCell ⟨n, 1, none⟩ y).setCell ⟨n, 2, none⟩ z) := by
  have h1 : (W.setCell ⟨n, 0, none⟩ x).heap[n]? = some (.cells #[x, b, c] t (0, 0)) := nblk_set h
  have h2 : ((W.setCell ⟨n, 0, none⟩ x).setCell ⟨n, 1, none⟩ y).heap[n]? = some (.cells #[x, y, c] t (0, 0)) := nblk_set h1
  have h3 : (((W.setCell ⟨n, 0, none⟩ x).setCell ⟨n, 1, none⟩ y).setCell ⟨n, 2, none⟩ z).heap[n]? = some (.cells #[x, y, z] t (0, 0)) := nblk_set h2
  exact ⟨h3, ((keep_set (B := n) (ts := [t]) h (by simp) (Nat.le_refl _) ⟨n, 0, none⟩ rfl x).trans (keep_set (B := n) (ts := [t]) h1 (by simp) (Nat.le_refl _) ⟨n, 1, none⟩ rfl y)).trans (keep_set (B := n) (ts := [t]) h2 (by simp) (Nat.le_refl _) ⟨n, 2, none⟩ rfl z)⟩
theorem results_rgN {fn : Func} {i j : Nat} (h : fn.results = #[.cell i 46, .tmp j]) {tmps : Array Value} {w : World} {b4 : Nat} {v x y z : Value} (h4 : tmps.getD i undef = .pointer (some ⟨b4, 0, none⟩)) (h5 : tmps.getD j undef = v)
    (z4 : w.cell? ⟨b4, 0, none⟩ = some x) (z5 : w.cell? ⟨b4, 1, none⟩ = some y) (z6 : w.cell? ⟨b4, 2, none⟩ = some z) : (results fn tmps).run Try.prog w = .ok (.tuple #[.agg #[x, y, z], v]) w := by
  rw [Array.getD_eq_getD_getElem?] at h4 h5
  simp [results, h, h4, h5, go_sem, z4, z5, z6]
set_option maxRecDepth 100000 in
set_option maxHeartbeats 2000000 in
theorem anRight_any (r : RgD) (n : Int) (w : World) : Calls Try.prog 37 #[rgAgg r, .int .i64 n] w fun e w' => e = .returned (.int .i64 (rgE r n)) ∧ Below w.heap.size w w' := by
  obtain ⟨f, t, l⟩ := r
  obtain ⟨W, hW, x, bW⟩ : ∃ W, W = w.alloc (.cells #[.int .i64 f, .int .i64 t, .bool l] 46) ∧ W.heap[w.heap.size]? = some (.cells #[.int .i64 f, .int .i64 t, .bool l] 46 (0, 0)) ∧ Below w.heap.size w W := ⟨_, rfl, heap_new _ _, below_box _ _⟩
  have HW := Lib.hid hW
  have BW := Lib.hid bW
  obtain ⟨c0, c1, c2, _⟩ := cells3 x
  clear hW bW x
  cases l with
  | true =>
    by_cases e1 : f = t
    · have t1 : (f == t) = true := by rw [e1]; exact beq_self_eq_true _
      by_cases e2 : 0 ≤ f
      · by_cases e3 : t ≤ n
        · have HR : Hid (rgE ⟨f, t, true⟩ n = 0) := Lib.hid (by simp [rgE, rgFit, e1, e3]; omega)
          clear e1
          go_enter Try.func37, Try.ntmps37
          go_wp2_with fail
          rw [← HW.out]
          go_wp2_with fail
          all_goals (first | (go_ret; exact ⟨show Ending.returned (.int .i64 0) = .returned (.int .i64 (rgE ⟨f, t, true⟩ n)) from by rw [HR.out], BW.out⟩) | (exfalso; omega))
        · have HR : Hid (rgE ⟨f, t, true⟩ n = 80) := Lib.hid (by simp [rgE, rgFit, e3])
          clear e1
          go_enter Try.func37, Try.ntmps37
          go_wp2_with fail
          rw [← HW.out]
          go_wp2_with fail
          all_goals (first | (go_ret; exact ⟨show Ending.returned (.int .i64 80) = .returned (.int .i64 (rgE ⟨f, t, true⟩ n)) from by rw [HR.out], BW.out⟩) | (exfalso; omega))
      · have HR : Hid (rgE ⟨f, t, true⟩ n = 80) := Lib.hid (by simp [rgE, rgFit, e2])
        clear e1
        go_enter Try.func37, Try.ntmps37
        go_wp2_with fail
        rw [← HW.out]
        go_wp2_with fail
        all_goals (first | (go_ret; exact ⟨show Ending.returned (.int .i64 80) = .returned (.int .i64 (rgE ⟨f, t, true⟩ n)) from by rw [HR.out], BW.out⟩) | (exfalso; omega))
    · have t1 : (f == t) = false := by rw [beq_eq_false_iff_ne]; exact e1
      have HR : Hid (rgE ⟨f, t, true⟩ n = 80) := Lib.hid (by simp [rgE, rgFit, e1])
      clear e1
      go_enter Try.func37, Try.ntmps37
      go_wp2_with fail
      rw [← HW.out]
      go_wp2_with fail
      all_goals (first | (go_ret; exact ⟨show Ending.returned (.int .i64 80) = .returned (.int .i64 (rgE ⟨f, t, true⟩ n)) from by rw [HR.out], BW.out⟩) | (exfalso; omega))
  | false =>
    by_cases e1 : f < t
    · by_cases e2 : 0 ≤ f
      · by_cases e3 : t ≤ n
        · have HR : Hid (rgE ⟨f, t, false⟩ n = 0) := Lib.hid (by simp [rgE, rgFit, e1, e2, e3])
          go_enter Try.func37, Try.ntmps37
          go_wp2_with fail
          rw [← HW.out]
          go_wp2_with fail
          all_goals (first | (go_ret; exact ⟨show Ending.returned (.int .i64 0) = .returned (.int .i64 (rgE ⟨f, t, false⟩ n)) from by rw [HR.out], BW.out⟩) | (exfalso; omega))
        · have HR : Hid (rgE ⟨f, t, false⟩ n = 80) := Lib.hid (by simp [rgE, rgFit, e3])
          go_enter Try.func37, Try.ntmps37
          go_wp2_with fail
          rw [← HW.out]
          go_wp2_with fail
          all_goals (first | (go_ret; exact ⟨show Ending.returned (.int .i64 80) = .returned (.int .i64 (rgE ⟨f, t, false⟩ n)) from by rw [HR.out], BW.out⟩) | (exfalso; omega))
      · have HR : Hid (rgE ⟨f, t, false⟩ n = 80) := Lib.hid (by simp [rgE, rgFit, e2])
        go_enter Try.func37, Try.ntmps37
        go_wp2_with fail
        rw [← HW.out]
        go_wp2_with fail
        all_goals (first | (go_ret; exact ⟨show Ending.returned (.int .i64 80) = .returned (.int .i64 (rgE ⟨f, t, false⟩ n)) from by rw [HR.out], BW.out⟩) | (exfalso; omega))
    · have HR : Hid (rgE ⟨f, t, false⟩ n = 80) := Lib.hid (by simp [rgE, rgFit, e1])
      go_enter Try.func37, Try.ntmps37
      go_wp2_with fail
      rw [← HW.out]
      go_wp2_with fail
      all_goals (first | (go_ret; exact ⟨show Ending.returned (.int .i64 80) = .returned (.int .i64 (rgE ⟨f, t, false⟩ n)) from by rw [HR.out], BW.out⟩) | (exfalso; omega))
end Go.Proofs.Ytggjeiemofkfbaa

/- The program's anchor: Move. -/
namespace Go.Proofs.Ytggjeiemofkfbaa
open Go.RowKit Rn Ch
open An (away aheadR)

def mvE (f : Int) (ops : List OpD) (r : RgD) : Int := if toE f ops ≠ 0 then toE f ops else rgE r f
def mvA (ops : List OpD) (r : RgD) : Int := aheadR true r.f (norm ops)
def mvB (ops : List OpD) (r : RgD) : Int := if r.lost = true then mvA ops r else aheadR false r.t (norm ops)
def mvR (f : Int) (ops : List OpD) (r : RgD) : RgD := if mvE f ops r = 0 then ⟨mvA ops r, mvB ops r, decide (mvA ops r = mvB ops r)⟩ else ⟨0, 0, false⟩
def MvOut (f : Int) (ops : List OpD) (r : RgD) (w : World) (e : Ending) (w' : World) : Prop :=
  e = .returned (.tuple #[rgAgg (mvR f ops r), .int .i64 (mvE f ops r)]) ∧ Below w.heap.size w w'
theorem mvOut_bad {f E : Int} {ops : List OpD} {r : RgD} {w w' : World} (h : mvE f ops r = E) (h0 : E ≠ 0) (hb : Below w.heap.size w w') : MvOut f ops r w (.returned (.tuple #[.agg #[.int .i64 0, .int .i64 0, .bool false], .int .i64 E])) w' :=
  ⟨by unfold mvR; rw [h, if_neg h0], hb⟩
theorem mvOut_ok {f a b : Int} {l : Bool} {ops : List OpD} {r : RgD} {w w' : World} (h : mvE f ops r = 0) (ha : a = mvA ops r) (hl : b = mvB ops r) (he : l = decide (a = b)) (hb : Below w.heap.size w w') : MvOut f ops r w (.returned (.tuple #[.agg #[.int .i64 a, .int .i64 b, .bool l], .int .i64 0])) w' :=
  ⟨by unfold mvR; rw [h, if_pos rfl, he, ha, hl], hb⟩
theorem rgE_ok {r : RgD} {n : Int} (h : rgE r n = 0) : 0 ≤ r.f ∧ r.t ≤ n ∧ r.f ≤ r.t ∧ (r.lost = true → r.f = r.t) ∧ (r.lost = false → r.f < r.t) := by
  unfold rgE at h
  by_cases hf : rgFit r n = true
  · unfold rgFit at hf
    rw [Bool.and_eq_true, Bool.and_eq_true, decide_eq_true_eq, decide_eq_true_eq] at hf
    obtain ⟨⟨h1, h2⟩, h3⟩ := hf
    cases hl : r.lost with
    | true => rw [hl, if_pos rfl, decide_eq_true_eq] at h1; exact ⟨h2, h3, by omega, fun _ => h1, fun h => (by cases h)⟩
    | false => rw [hl, if_neg (by simp), decide_eq_true_eq] at h1; exact ⟨h2, h3, by omega, fun h => (by cases h), fun _ => h1⟩
  · rw [if_neg hf] at h; omega
theorem box3V (w : World) (o1 o2 o3 : Obj) : (((w.alloc o1).alloc o2).alloc o3).heap[w.heap.size]? = some o1 ∧ (((w.alloc o1).alloc o2).alloc o3).heap[w.heap.size + 1]? = some o2 ∧ (((w.alloc o1).alloc o2).alloc o3).heap[w.heap.size + 2]? = some o3 ∧ Below w.heap.size w (((w.alloc o1).alloc o2).alloc o3) := by
  refine ⟨?_, ?_, ?_, (((Below.refl _ _).alloc (Nat.le_refl _) _).alloc (by simp) _).alloc (by simp; omega) _⟩
  · rw [Below.heap_alloc _ _ _ (by simp; omega), Below.heap_alloc _ _ _ (by simp)]; exact heap_new _ _
  · rw [Below.heap_alloc _ _ _ (by simp)]
    have := heap_new (w.alloc o1) o2
    rwa [World.size_alloc] at this
  · have := heap_new ((w.alloc o1).alloc o2) o3
    rwa [World.size_alloc, World.size_alloc] at this
theorem box2V (w : World) (o1 o2 : Obj) : ((w.alloc o1).alloc o2).heap[w.heap.size]? = some o1 ∧ ((w.alloc o1).alloc o2).heap[w.heap.size + 1]? = some o2 ∧ Below w.heap.size w ((w.alloc o1).alloc o2) := by
  refine ⟨(Below.heap_alloc _ _ _ (by simp)).trans (heap_new _ _), ?_, ((Below.refl _ _).alloc (Nat.le_refl _) _).alloc (by simp) _⟩
  have := heap_new (w.alloc o1) o2
  rwa [World.size_alloc] at this
set_option maxRecDepth 100000 in
set_option maxHeartbeats 8000000 in
theorem anMove_any (f : Int) (r : RgD) (v : Value) (ops : List OpD) (w : World) (hv : OpRow w v ops) (hz : OSized ops) :
    Calls Try.prog 33 #[chAgg f v, rgAgg r] w (MvOut f ops r w) := by
  obtain ⟨aa, acap, rfl⟩ := hv.shape
  obtain ⟨W, hW, x, y, z, bW⟩ : ∃ W, W = ((w.alloc (.cells #[.int .i64 f, .slice aa ops.length acap] 24)).alloc (.cells #[.int .i64 r.f, .int .i64 r.t, .bool r.lost] 46)).alloc (.cells #[.int .i64 0, .int .i64 0, .bool false] 46) ∧
    W.heap[w.heap.size]? = some (.cells #[.int .i64 f, .slice aa ops.length acap] 24 (0, 0)) ∧ W.heap[w.heap.size + 1]? = some (.cells #[.int .i64 r.f, .int .i64 r.t, .bool r.lost] 46 (0, 0)) ∧ W.heap[w.heap.size + 2]? = some (.cells #[.int .i64 0, .int .i64 0, .bool false] 46 (0, 0)) ∧ Below w.heap.size w W :=
    ⟨_, rfl, (box3V _ _ _ _).1, (box3V _ _ _ _).2.1, (box3V _ _ _ _).2.2.1, (box3V _ _ _ _).2.2.2⟩
  have HW := Lib.hid hW
  have HX := Lib.hid x
  have HY := Lib.hid y
  have HZ := Lib.hid z
  have BW := Lib.hid bW
  have c0 := (cells2 x).1
  have c1 := (cells2 x).2.1
  by_cases he : toE f ops = 0
  · have HN := Lib.hid (normal_ok f _ ops W (hv.below bW) hz he)
    have HOK := Lib.hid ((toE_iff f ops).1 he)
    have HE := Lib.hid he
    clear hv hW x y z bW he
    go_enter Try.func33, Try.ntmps33
    go_wp2_with fail
    rw [← HW.out]
    go_wp2_with fail
    refine HN.out.mono ?_
    rintro e w1 ⟨v1, rfl, O1, b⟩
    have x1 := (b.block _ (lt_of_heap HX.out)).trans HX.out
    have y1 := (b.block _ (lt_of_heap HY.out)).trans HY.out
    have z1 := (b.block _ (lt_of_heap HZ.out)).trans HZ.out
    obtain ⟨ba, bc, hsh⟩ := O1.row.shape
    have B1 := Lib.hid (BW.out.trans (b.mono BW.out.size))
    obtain ⟨p0, p1, p2, p3⟩ := cells2 x1
    have hs1 := lt_of_heap x1
    subst hsh
    obtain ⟨W2, hW2, q1, q2⟩ : ∃ W2, W2 = (w1.setCell ⟨w.heap.size, 0, none⟩ (.int .i64 f)).setCell ⟨w.heap.size, 1, none⟩ (.slice ba (norm ops).length bc) ∧ W2.heap[w.heap.size]? = some (.cells #[.int .i64 f, .slice ba (norm ops).length bc] 24 (0, 0)) ∧ Keep w.heap.size [24] w1 W2 :=
      ⟨_, rfl, (agg_set _ _ x1).1, (agg_set _ _ x1).2.1⟩
    have y2 := q2.kept _ _ _ _ y1 (by decide)
    have z2 := q2.kept _ _ _ _ z1 (by decide)
    have HX2 := Lib.hid q1
    have HY2 := Lib.hid y2
    have HZ2 := Lib.hid z2
    have HW2 := Lib.hid hW2
    have B2 := Lib.hid (B1.out.trans q2.below)
    have R2 := Lib.hid (OwnOps.row (ownOps_keepC O1 q2))
    obtain ⟨r0, r1, _, _⟩ := cells2 q1
    obtain ⟨s0, s1, s2, _⟩ := cells3 y2
    have hs2 := lt_of_heap q1
    have HOKN := Lib.hid (norm_ok HOK.out).1
    have HR := Lib.hid (anRight_any r f W2)
    obtain ⟨u0, u1, u2, _⟩ := cells3 y1
    have hu1 := lt_of_heap y1
    clear b c0 c1 x1 y1 z1 O1 hW2 q1 q2 y2 z2
    go_wp2_with fail
    rw [← HW2.out]
    refine HR.out.mono ?_
    rintro e w3 ⟨rfl, b⟩
    have B3 := Lib.hid (B2.out.trans (b.mono B2.out.size))
    have x3 := (b.block _ (lt_of_heap HX2.out)).trans HX2.out
    have y3 := (b.block _ (lt_of_heap HY2.out)).trans HY2.out
    have z3 := (b.block _ (lt_of_heap HZ2.out)).trans HZ2.out
    have R3 := Lib.hid (R2.out.below b)
    clear r0 r1 s0 s1 s2 b hs1 hs2 p0 p1 p2 p3 u0 u1 u2 hu1
    by_cases hr : rgE r f = 0
    · obtain ⟨g0, g1, g2, g3, g4⟩ := rgE_ok hr
      have E1 := Lib.hid (show mvE f ops r = 0 by unfold mvE; rw [if_neg (by rw [HE.out]; simp), hr])
      obtain ⟨r0, r1, _, _⟩ := cells2 x3
      obtain ⟨s0, s1, s2, _⟩ := cells3 y3
      have hf := HOK.out.2.1
      have HS := Lib.hid (atStart_any f r.f _ (norm ops) w3 R3.out HOKN.out g0 (by omega))
      have HX3 := Lib.hid x3
      have HY3 := Lib.hid y3
      have HZ3 := Lib.hid z3
      have hrt : (rgE r f == 0) = true := by rw [hr]; rfl
      have hrn : (rgE r f != 0) = false := by rw [hr]; rfl
      have G := Lib.hid (And.intro g0 (And.intro g1 g2))
      clear x3 y3 z3 hr hf g0 g1 g2 g3 g4
      go_wp2_with fail
      refine HS.out.mono ?_
      rintro e w4 ⟨rfl, b⟩
      have B4 := Lib.hid (B3.out.trans (b.mono B3.out.size))
      have x4 := (b.block _ (lt_of_heap HX3.out)).trans HX3.out
      have y4 := (b.block _ (lt_of_heap HY3.out)).trans HY3.out
      have z4 := (b.block _ (lt_of_heap HZ3.out)).trans HZ3.out
      have R4 := Lib.hid (R3.out.below b)
      clear r0 r1 s0 s1 s2 b
      obtain ⟨r0, r1, _, _⟩ := cells2 x4
      obtain ⟨s0, s1, s2, _⟩ := cells3 y4
      obtain ⟨a, ha⟩ : ∃ a, a = aheadR true r.f (norm ops) := ⟨_, rfl⟩
      rw [← ha]
      have HA := Lib.hid ha
      clear ha
      by_cases hl : r.lost = true
      · rw [hl] at s2
        obtain ⟨k0, k1, k2, k3, k4, k5⟩ := cells3 z4
        have hs4 := lt_of_heap z4
        have hkk : (a == a) = true := beq_self_eq_true a
        obtain ⟨q1, q2⟩ := agg_set3 (.int .i64 a) (.int .i64 a) (.bool true) z4
        have HQ1 := Lib.hid q1
        have HQ2 := Lib.hid q2
        have HL := Lib.hid (show a = mvB ops r by unfold mvB mvA; rw [if_pos hl, HA.out])
        clear x4 y4 z4 q1 q2 hl
        go_wp2_with fail
        refine bodyPost_ret (results_rgN rfl rfl rfl (cells3 HQ1.out).1 (cells3 HQ1.out).2.1 (cells3 HQ1.out).2.2.1) rfl ?_
        exact mvOut_ok E1.out HA.out HL.out (by simp) (B4.out.trans (HQ2.out.below.mono (by omega)))
      · have hl' : r.lost = false := Bool.not_eq_true _ ▸ hl
        rw [hl'] at s2
        have HEE := Lib.hid (atEnd_any f r.t _ (norm ops) w4 R4.out HOKN.out (by have := G.out; omega) (by have := G.out; have := HOK.out.2.1; omega))
        have HZ4 := Lib.hid z4
        have HL0 := Lib.hid (show aheadR false r.t (norm ops) = mvB ops r by unfold mvB; rw [if_neg hl])
        clear x4 y4 z4 hl hl'
        go_wp2_with fail
        refine HEE.out.mono ?_
        rintro e w5 ⟨rfl, b⟩
        have B5 := Lib.hid (B4.out.trans (b.mono B4.out.size))
        have z5 := (b.block _ (lt_of_heap HZ4.out)).trans HZ4.out
        clear r0 r1 s0 s1 s2 b
        obtain ⟨b2, hb2⟩ : ∃ b2, b2 = aheadR false r.t (norm ops) := ⟨_, rfl⟩
        rw [← hb2]
        have HL := Lib.hid (hb2.trans HL0.out)
        obtain ⟨k0, k1, k2, k3, k4, k5⟩ := cells3 z5
        have hs5 := lt_of_heap z5
        obtain ⟨l, hl⟩ : ∃ l, l = (a == b2) := ⟨_, rfl⟩
        have hkk : (a == b2) = l := hl.symm
        obtain ⟨q1, q2⟩ := agg_set3 (.int .i64 a) (.int .i64 b2) (.bool l) z5
        have HQ1 := Lib.hid q1
        have HQ2 := Lib.hid q2
        have HLL := Lib.hid (show l = decide (a = b2) by rw [hl]; rfl)
        clear z5 q1 q2 hb2 hl
        go_wp2_with fail
        refine bodyPost_ret (results_rgN rfl rfl rfl (cells3 HQ1.out).1 (cells3 HQ1.out).2.1 (cells3 HQ1.out).2.2.1) rfl ?_
        exact mvOut_ok E1.out HA.out HL.out HLL.out (B5.out.trans (HQ2.out.below.mono (by omega)))
    · have E1 := Lib.hid (show mvE f ops r = rgE r f by unfold mvE; rw [if_neg (by rw [HE.out]; simp)])
      have hrt : (rgE r f == 0) = false := by rw [beq_eq_false_iff_ne]; exact hr
      have hrn : (rgE r f != 0) = true := by rw [bne_iff_ne]; exact hr
      have HRR := Lib.hid hr
      obtain ⟨k0, k1, k2, k3, k4, k5⟩ := cells3 z3
      have hs4 := lt_of_heap z3
      obtain ⟨q1, q2⟩ := agg_set3 (.int .i64 0) (.int .i64 0) (.bool false) z3
      have HQ1 := Lib.hid q1
      have HQ2 := Lib.hid q2
      clear x3 y3 z3 hr q1 q2
      go_wp2_with fail
      refine bodyPost_ret (results_rgN rfl rfl rfl (cells3 HQ1.out).1 (cells3 HQ1.out).2.1 (cells3 HQ1.out).2.2.1) rfl ?_
      exact mvOut_bad E1.out HRR.out (B3.out.trans (HQ2.out.below.mono (by omega)))
  · have HN := Lib.hid (normal_bad f _ ops W (hv.below bW) hz he)
    have te : (toE f ops == 0) = false := by rw [beq_eq_false_iff_ne]; exact he
    have te2 : (toE f ops != 0) = true := by rw [bne_iff_ne]; exact he
    have HE := Lib.hid he
    have E1 := Lib.hid (show mvE f ops r = toE f ops by unfold mvE; rw [if_pos he])
    clear hv hW x y z bW he
    go_enter Try.func33, Try.ntmps33
    go_wp2_with fail
    rw [← HW.out]
    go_wp2_with fail
    refine HN.out.mono ?_
    rintro e w1 ⟨rfl, b⟩
    have x1 := (b.block _ (lt_of_heap HX.out)).trans HX.out
    have z1 := (b.block _ (lt_of_heap HZ.out)).trans HZ.out
    have B1 := Lib.hid (BW.out.trans (b.mono BW.out.size))
    obtain ⟨p0, p1, p2, p3⟩ := cells2 x1
    have hs1 := lt_of_heap x1
    obtain ⟨W2, hW2, q2⟩ : ∃ W2, W2 = (w1.setCell ⟨w.heap.size, 0, none⟩ (.int .i64 0)).setCell ⟨w.heap.size, 1, none⟩ (.slice none 0 0) ∧ Keep w.heap.size [24] w1 W2 :=
      ⟨_, rfl, (agg_set _ _ x1).2.1⟩
    have HW2 := Lib.hid hW2
    have B2 := Lib.hid (B1.out.trans q2.below)
    have z2 := q2.kept _ _ _ _ z1 (by decide)
    obtain ⟨k0, k1, k2, k3, k4, k5⟩ := cells3 z1
    have hs4 := lt_of_heap z1
    obtain ⟨q3, q4⟩ := agg_set3 (.int .i64 0) (.int .i64 0) (.bool false) z2
    have HQ1 := Lib.hid q3
    have HQ2 := Lib.hid q4
    clear b c0 c1 x1 z1 hW2 q2 z2 q3 q4
    go_wp2_with fail
    rw [← HW2.out]
    refine bodyPost_ret (results_rgN rfl rfl rfl (cells3 HQ1.out).1 (cells3 HQ1.out).2.1 (cells3 HQ1.out).2.2.1) rfl ?_
    exact mvOut_bad E1.out HE.out (B2.out.trans (HQ2.out.below.mono (by omega)))
end Go.Proofs.Ytggjeiemofkfbaa

/- The law's own awake of layer 8: the document's examples. -/
namespace Go.Proofs.Ytggjeiemofkfbaa
open Go.RowKit Rn Ch
open An (away aheadR)

theorem heap_up8 {w w' : World} {i : Nat} {o : Obj} (h : w.heap[i]? = some o) (hb : Below w.heap.size w w') : w'.heap[i]? = some o := (hb.block i (lt_of_heap h)).trans h
theorem okc_sized8 {f : Int} {ops : List OpD} (h : OkC f ops) : OSized ops := fun o ho => by
  have hv := vop_of h ho
  exact ⟨by have := hv.text; unfold maxLen; omega, hv.attrs.sized⟩
abbrev bare8 (k n : Int) : OpD := ⟨k, n, ⟨#[]⟩, []⟩
abbrev put8 (t : ByteArray) : OpD := ⟨2, 0, t, []⟩
abbrev nil8 : Value := .slice none 0 0
def e8 : List OpD := [bare8 1 1, put8 ⟨#[120, 121]⟩, bare8 3 2, bare8 1 1, put8 ⟨#[122]⟩]
theorem e8_to : toE 6 e8 = 0 := by decide +kernel
theorem e8_norm : norm e8 = e8 := by decide +kernel
theorem e8_pl : aheadR true 1 e8 = 3 ∧ aheadR false 1 e8 = 1 ∧ aheadR true 3 e8 = 3 ∧ aheadR false 6 e8 = 7 ∧ aheadR false 3 e8 = 3 := by decide +kernel
theorem e8_sized : OSized e8 := okc_sized8 ((toE_iff _ _).1 e8_to)
theorem e8Row (w : World) : OpRow (w.alloc (.cells #[.int .i64 1, .int .i64 1, .string ⟨#[]⟩, .slice none 0 0, .int .i64 2, .int .i64 0, .string ⟨#[120, 121]⟩, .slice none 0 0, .int .i64 3, .int .i64 2, .string ⟨#[]⟩, .slice none 0 0, .int .i64 1, .int .i64 1, .string ⟨#[]⟩, .slice none 0 0, .int .i64 2, .int .i64 0, .string ⟨#[122]⟩, .slice none 0 0] 40)) (.slice (some ⟨w.heap.size, 0, none⟩) 5 5) e8 :=
  opRow_new w [(bare8 1 1, nil8), (put8 ⟨#[120, 121]⟩, nil8), (bare8 3 2, nil8), (bare8 1 1, nil8), (put8 ⟨#[122]⟩, nil8)] (fun p hp => by
    simp only [List.mem_cons, List.not_mem_nil, or_false] at hp
    rcases hp with rfl | rfl | rfl | rfl | rfl <;> exact ⟨rfl, rfl⟩) (by decide)
theorem e8_start {v : Value} {w : World} (h : OpRow w v e8) : Calls Try.prog 31 #[chAgg 6 v, .int .i64 1] w fun e w' => e = .returned (.tuple #[.int .i64 3, .int .i64 0]) ∧ Below w.heap.size w w' :=
  (anStart_any 6 1 v e8 w h e8_sized).mono fun e w' ⟨h1, h2⟩ => ⟨by
    have e0 : movE 6 e8 1 = 0 := movE_ok e8_to (by decide) (by decide)
    rw [h1]; unfold movN; rw [e0, if_pos rfl, e8_norm, e8_pl.1], h2⟩
theorem e8_end {v : Value} {w : World} (h : OpRow w v e8) : Calls Try.prog 32 #[chAgg 6 v, .int .i64 1] w fun e w' => e = .returned (.tuple #[.int .i64 1, .int .i64 0]) ∧ Below w.heap.size w w' :=
  (anEnd_any 6 1 v e8 w h e8_sized).mono fun e w' ⟨h1, h2⟩ => ⟨by
    have e0 : movE 6 e8 1 = 0 := movE_ok e8_to (by decide) (by decide)
    rw [h1]; unfold movN; rw [e0, if_pos rfl, e8_norm, e8_pl.2.1], h2⟩
theorem e8_mv1 {v : Value} {w : World} (h : OpRow w v e8) : Calls Try.prog 33 #[chAgg 6 v, .agg #[.int .i64 3, .int .i64 6, .bool false]] w fun e w' => e = .returned (.tuple #[.agg #[.int .i64 3, .int .i64 7, .bool false], .int .i64 0]) ∧ Below w.heap.size w w' :=
  (anMove_any 6 ⟨3, 6, false⟩ v e8 w h e8_sized).mono fun e w' ⟨h1, h2⟩ => ⟨by
    have e0 : mvE 6 e8 ⟨3, 6, false⟩ = 0 := by unfold mvE; rw [e8_to, if_neg (by decide)]; rfl
    rw [h1]; unfold mvR mvB mvA; rw [e0, if_pos rfl, if_neg (by decide), e8_norm, e8_pl.2.2.1, e8_pl.2.2.2.1]; rfl, h2⟩
theorem e8_mv2 {v : Value} {w : World} (h : OpRow w v e8) : Calls Try.prog 33 #[chAgg 6 v, .agg #[.int .i64 1, .int .i64 3, .bool false]] w fun e w' => e = .returned (.tuple #[.agg #[.int .i64 3, .int .i64 3, .bool true], .int .i64 0]) ∧ Below w.heap.size w w' :=
  (anMove_any 6 ⟨1, 3, false⟩ v e8 w h e8_sized).mono fun e w' ⟨h1, h2⟩ => ⟨by
    have e0 : mvE 6 e8 ⟨1, 3, false⟩ = 0 := by unfold mvE; rw [e8_to, if_neg (by decide)]; rfl
    rw [h1]; unfold mvR mvB mvA; rw [e0, if_pos rfl, if_neg (by decide), e8_norm, e8_pl.1, e8_pl.2.2.2.2]; rfl, h2⟩
set_option maxRecDepth 100000 in
set_option maxHeartbeats 4000000 in
theorem awake8_any (w : World) : Calls Try.prog 30 #[] w (OutB w true) := by
  go_enter Try.func30, Try.ntmps30
  have B0 := Lib.hid (Below.refl w.heap.size w)
  go_wp2_with fail
  refine (lawKeep_any 1 _).mono ?_
  rintro e w1 ⟨rfl, b⟩
  have B1 := Lib.hid (B0.out.trans (b.mono B0.out.size))
  clear b
  go_wp2_with fail
  refine (lawPut_any ⟨#[120, 121]⟩ _).mono ?_
  rintro e w2 ⟨rfl, b⟩
  have B2 := Lib.hid (B1.out.trans (b.mono B1.out.size))
  clear b
  go_wp2_with fail
  refine (lawCut_any 2 _).mono ?_
  rintro e w3 ⟨rfl, b⟩
  have B3 := Lib.hid (B2.out.trans (b.mono B2.out.size))
  clear b
  go_wp2_with fail
  refine (lawKeep_any 1 _).mono ?_
  rintro e w4 ⟨rfl, b⟩
  have B4 := Lib.hid (B3.out.trans (b.mono B3.out.size))
  clear b
  go_wp2_with fail
  refine (lawPut_any ⟨#[122]⟩ _).mono ?_
  rintro e w5 ⟨rfl, b⟩
  have B5 := Lib.hid (B4.out.trans (b.mono B4.out.size))
  clear b B0 B1 B2 B3 B4
  go_wp2_with fail
  obtain ⟨W, hW, rW, xW, bW⟩ : ∃ W, W = (w5.alloc (.cells #[.int .i64 1, .int .i64 1, .string ⟨#[]⟩, .slice none 0 0, .int .i64 2, .int .i64 0, .string ⟨#[120, 121]⟩, .slice none 0 0, .int .i64 3, .int .i64 2, .string ⟨#[]⟩, .slice none 0 0, .int .i64 1, .int .i64 1, .string ⟨#[]⟩, .slice none 0 0, .int .i64 2, .int .i64 0, .string ⟨#[122]⟩, .slice none 0 0] 40)).alloc (.cells #[.int .i64 6, .slice (some ⟨w5.heap.size, 0, none⟩) 5 5] 24) ∧
      OpRow W (.slice (some ⟨w5.heap.size, 0, none⟩) 5 5) e8 ∧ W.heap[w5.heap.size + 1]? = some (.cells #[.int .i64 6, .slice (some ⟨w5.heap.size, 0, none⟩) 5 5] 24 (0, 0)) ∧ Below w5.heap.size w5 W :=
    ⟨_, rfl, (e8Row w5).below (below_box _ _), by
      have := heap_new (w5.alloc (.cells #[.int .i64 1, .int .i64 1, .string ⟨#[]⟩, .slice none 0 0, .int .i64 2, .int .i64 0, .string ⟨#[120, 121]⟩, .slice none 0 0, .int .i64 3, .int .i64 2, .string ⟨#[]⟩, .slice none 0 0, .int .i64 1, .int .i64 1, .string ⟨#[]⟩, .slice none 0 0, .int .i64 2, .int .i64 0, .string ⟨#[122]⟩, .slice none 0 0] 40)) (.cells #[.int .i64 6, .slice (some ⟨w5.heap.size, 0, none⟩) 5 5] 24)
      rwa [World.size_alloc] at this, ((Below.refl _ _).alloc (Nat.le_refl _) _).alloc (by simp) _⟩
  rw [← hW]
  have BB := Lib.hid (B5.out.trans (bW.mono B5.out.size))
  have RW := Lib.hid rW
  have XW := Lib.hid xW
  clear hW rW xW bW B5
  refine (e8_start RW.out).mono ?_
  rintro e w6 ⟨rfl, b⟩
  have R6 := Lib.hid (RW.out.below b)
  have x6 := (b.block _ (lt_of_heap XW.out)).trans XW.out
  have B6 := Lib.hid (BB.out.trans (b.mono BB.out.size))
  have X6 := Lib.hid x6
  obtain ⟨p0, p1, _, _⟩ := cells2 x6
  clear b x6
  go_wp2_with fail
  refine (e8_end R6.out).mono ?_
  rintro e w7 ⟨rfl, b⟩
  have R7 := Lib.hid (R6.out.below b)
  have x7 := (b.block _ (lt_of_heap X6.out)).trans X6.out
  have B7 := Lib.hid (B6.out.trans (b.mono B6.out.size))
  have X7 := Lib.hid x7
  clear p0 p1
  obtain ⟨p0, p1, _, _⟩ := cells2 x7
  clear b x7
  go_wp2_with fail
  refine (e8_mv1 R7.out).mono ?_
  rintro e w8 ⟨rfl, b⟩
  have R8 := Lib.hid (R7.out.below b)
  have x8 := (b.block _ (lt_of_heap X7.out)).trans X7.out
  have B8 := Lib.hid (B7.out.trans (b.mono B7.out.size))
  have hl8 := lt_of_heap x8
  have X8 := Lib.hid x8
  clear p0 p1
  obtain ⟨p0, p1, _, _⟩ := cells2 x8
  obtain ⟨W9, hW9, x9, b9⟩ : ∃ W9, W9 = w8.alloc (.cells #[.int .i64 3, .int .i64 7, .bool false] 46) ∧ W9.heap[w8.heap.size]? = some (.cells #[.int .i64 3, .int .i64 7, .bool false] 46 (0, 0)) ∧ Below w8.heap.size w8 W9 := ⟨_, rfl, heap_new _ _, below_box _ _⟩
  have HW9 := Lib.hid hW9
  have HX9 := Lib.hid x9
  have R9 := Lib.hid (R8.out.below b9)
  have B9 := Lib.hid (B8.out.trans (b9.mono B8.out.size))
  have X9 := Lib.hid ((b9.block _ (lt_of_heap X8.out)).trans X8.out)
  clear b x8 hW9 x9 b9
  go_wp2_with fail
  rw [← HW9.out]
  refine (e8_mv2 R9.out).mono ?_
  rintro e w10 ⟨rfl, b⟩
  have B10 := Lib.hid (B9.out.trans (b.mono B9.out.size))
  have y10 := (b.block _ (lt_of_heap HX9.out)).trans HX9.out
  obtain ⟨q0, q1, q2, _⟩ := cells3 y10
  have hly := lt_of_heap y10
  clear b y10 p0 p1
  go_wp2_with fail
  go_ret
  exact ⟨rfl, B10.out.alloc B10.out.size _⟩
end Go.Proofs.Ytggjeiemofkfbaa
