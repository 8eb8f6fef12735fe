/- Plain rising rows of keys and values: what a key has, putting one in, and the four works on them. -/
import Derived.Test.YthcpagpiphemgaaProg
namespace Go.Proofs.Ythcpagpiphemgaa
namespace At
abbrev K := ByteArray
abbrev V := ByteArray

/-- An order without equals, of any two one way. -/
structure Strict (lt : K → K → Bool) : Prop where
  irr : ∀ a, lt a a = false
  tr : ∀ a b c, lt a b = true → lt b c = true → lt a c = true
  tot : ∀ a b, a ≠ b → lt a b = true ∨ lt b a = true
def look : List (K × V) → K → Option V
  | [], _ => none
  | x :: r, k => if x.1 = k then some x.2 else look r k
def Rises (lt : K → K → Bool) (l : List (K × V)) : Prop := l.Pairwise fun x y => lt x.1 y.1 = true
def put (lt : K → K → Bool) : List (K × V) → K × V → List (K × V)
  | [], p => [p]
  | q :: r, p => if lt q.1 p.1 = true then q :: put lt r p else p :: q :: r

variable {lt : K → K → Bool}
theorem Strict.ne (h : Strict lt) {a b : K} (hl : lt a b = true) : a ≠ b := fun e => by
  subst e
  rw [h.irr] at hl
  cases hl
theorem look_none {l : List (K × V)} {k : K} (h : ∀ x ∈ l, x.1 ≠ k) : look l k = none := by
  induction l with
  | nil => rfl
  | cons x r ih => rw [look, if_neg (h x (List.mem_cons_self ..)), ih fun y hy => h y (List.mem_cons_of_mem _ hy)]
theorem look_mem {l : List (K × V)} {k : K} {v : V} (h : look l k = some v) : (k, v) ∈ l := by
  induction l with
  | nil => cases h
  | cons x r ih =>
    rw [look] at h
    split at h
    · rename_i e
      injection h with h
      subst e; subst h
      exact List.mem_cons_self ..
    · exact List.mem_cons_of_mem _ (ih h)
theorem look_of_mem (hs : Strict lt) {l : List (K × V)} (h : Rises lt l) {x : K × V} (hx : x ∈ l) : look l x.1 = some x.2 := by
  induction l with
  | nil => cases hx
  | cons y r ih =>
    rw [look]
    rcases List.mem_cons.1 hx with rfl | hx
    · rw [if_pos rfl]
    · rw [if_neg (hs.ne ((List.pairwise_cons.1 h).1 x hx)), ih (List.pairwise_cons.1 h).2 hx]
theorem Rises.tail {x : K × V} {r : List (K × V)} (h : Rises lt (x :: r)) : Rises lt r := (List.pairwise_cons.1 h).2
theorem Rises.head (hs : Strict lt) {x : K × V} {r : List (K × V)} (h : Rises lt (x :: r)) : look r x.1 = none :=
  look_none fun y hy e => hs.ne ((List.pairwise_cons.1 h).1 y hy) e.symm
theorem Rises.before (hs : Strict lt) {x : K × V} {r : List (K × V)} (h : Rises lt (x :: r)) {k : K} (hk : lt k x.1 = true) : look (x :: r) k = none :=
  look_none fun y hy e => by
    rcases List.mem_cons.1 hy with rfl | hy
    · exact hs.ne hk e.symm
    · exact hs.ne (hs.tr _ _ _ hk ((List.pairwise_cons.1 h).1 y hy)) e.symm
/-- Two rising rows that answer alike are one. -/
theorem ext (hs : Strict lt) {l m : List (K × V)} (hl : Rises lt l) (hm : Rises lt m) (h : ∀ k, look l k = look m k) : l = m := by
  induction l generalizing m with
  | nil =>
    cases m with
    | nil => rfl
    | cons y s => have := h y.1; rw [look, look, if_pos rfl] at this; cases this
  | cons x r ih =>
    cases m with
    | nil => have := h x.1; rw [look, look, if_pos rfl] at this; cases this
    | cons y s =>
      have e1 : x.1 = y.1 := Decidable.byContradiction fun hne => by
        rcases hs.tot _ _ hne with hlt | hlt
        · have := h x.1
          rw [hm.before hs hlt, look, if_pos rfl] at this
          cases this
        · have := h y.1
          rw [hl.before hs hlt, look, if_pos rfl] at this
          cases this
      have e2 : x.2 = y.2 := by
        have := h x.1
        rw [look, if_pos rfl, look, if_pos e1.symm] at this
        exact Option.some.inj this
      have e3 : x = y := Prod.ext e1 e2
      subst e3
      rw [ih hl.tail hm.tail fun k => ?_]
      by_cases hk : x.1 = k
      · subst hk
        rw [hl.head hs, hm.head hs]
      · have := h k
        rwa [look, if_neg hk, look, if_neg hk] at this

theorem mem_put {l : List (K × V)} {p x : K × V} : x ∈ put lt l p ↔ x = p ∨ x ∈ l := by
  induction l with
  | nil => simp [put]
  | cons q r ih =>
    rw [put]
    split
    · rw [List.mem_cons, ih, List.mem_cons]
      constructor
      · rintro (h | h | h)
        · exact .inr (.inl h)
        · exact .inl h
        · exact .inr (.inr h)
      · rintro (h | h | h)
        · exact .inr (.inl h)
        · exact .inl h
        · exact .inr (.inr h)
    · rw [List.mem_cons]
theorem put_len (l : List (K × V)) (p : K × V) : (put lt l p).length = l.length + 1 := by
  induction l with
  | nil => rfl
  | cons q r ih =>
    rw [put]
    split
    · rw [List.length_cons, ih, List.length_cons]
    · rfl
theorem look_put {l : List (K × V)} {p : K × V} (hp : look l p.1 = none) (k : K) : look (put lt l p) k = if p.1 = k then some p.2 else look l k := by
  induction l with
  | nil => rfl
  | cons q r ih =>
    rw [look] at hp
    split at hp
    · cases hp
    · rename_i hne
      rw [put]
      split
      · rw [look, ih hp, look]
        by_cases hk : q.1 = k
        · rw [if_pos hk, if_pos hk, if_neg (fun e => hne (hk.trans e.symm))]
        · rw [if_neg hk, if_neg hk]
      · rw [look]
theorem rises_put (hs : Strict lt) {l : List (K × V)} {p : K × V} (hl : Rises lt l) (hp : look l p.1 = none) : Rises lt (put lt l p) := by
  induction l with
  | nil => exact List.pairwise_singleton _ _
  | cons q r ih =>
    rw [look] at hp
    split at hp
    · cases hp
    · rename_i hne
      rw [put]
      split
      · rename_i hlt
        refine List.pairwise_cons.2 ⟨fun y hy => ?_, ih hl.tail hp⟩
        rcases mem_put.1 hy with rfl | hy
        · exact hlt
        · exact (List.pairwise_cons.1 hl).1 y hy
      · rename_i hlt
        have hpq : lt p.1 q.1 = true := by
          rcases hs.tot _ _ hne with h | h
          · exact absurd h hlt
          · exact h
        refine List.pairwise_cons.2 ⟨fun y hy => ?_, hl⟩
        rcases List.mem_cons.1 hy with rfl | hy
        · exact hpq
        · exact hs.tr _ _ _ hpq ((List.pairwise_cons.1 hl).1 y hy)

/-- One after another put in, none of whose keys is there. -/
def puts (lt : K → K → Bool) (l ps : List (K × V)) : List (K × V) := ps.foldl (put lt) l
theorem puts_all (hs : Strict lt) {ps : List (K × V)} (hps : Rises lt ps) {l : List (K × V)} (hl : Rises lt l) (hd : ∀ x ∈ ps, look l x.1 = none) :
    Rises lt (puts lt l ps) ∧ (puts lt l ps).length = l.length + ps.length ∧ ∀ k, look (puts lt l ps) k = (look ps k).or (look l k) := by
  induction ps generalizing l with
  | nil => exact ⟨hl, rfl, fun k => rfl⟩
  | cons p r ih =>
    have hp := hd p (List.mem_cons_self ..)
    have hr := rises_put hs hl hp
    have hd2 : ∀ x ∈ r, look (put lt l p) x.1 = none := fun x hx => by
      rw [look_put hp, if_neg (hs.ne ((List.pairwise_cons.1 hps).1 x hx))]
      exact hd x (List.mem_cons_of_mem _ hx)
    obtain ⟨h1, h2, h3⟩ := ih hps.tail hr hd2
    refine ⟨h1, ?_, fun k => ?_⟩
    · show (puts lt (put lt l p) r).length = _
      rw [h2, put_len, List.length_cons]
      omega
    · show look (puts lt (put lt l p) r) k = _
      rw [h3, look_put hp, look]
      by_cases hk : p.1 = k
      · rw [if_pos hk, if_pos hk]
        have := hps.head hs
        rw [hk] at this
        rw [this]
        rfl
      · rw [if_neg hk, if_neg hk]
theorem mem_puts {ps l : List (K × V)} {x : K × V} : x ∈ puts lt l ps ↔ x ∈ ps ∨ x ∈ l := by
  induction ps generalizing l with
  | nil => simp [puts]
  | cons p r ih =>
    show x ∈ puts lt (put lt l p) r ↔ _
    rw [ih, mem_put, List.mem_cons]
    constructor
    · rintro (h | h | h)
      · exact .inl (.inr h)
      · exact .inl (.inl h)
      · exact .inr h
    · rintro ((h | h) | h)
      · exact .inr (.inl h)
      · exact .inl h
      · exact .inr (.inr h)

theorem look_keys (q : K → Bool) (l : List (K × V)) (k : K) : look (l.filter fun x => q x.1) k = if q k = true then look l k else none := by
  induction l with
  | nil => rw [List.filter_nil, look, ite_self]
  | cons x r ih =>
    rw [List.filter_cons]
    by_cases hq : q x.1 = true
    · rw [if_pos hq, look, ih, look]
      by_cases hk : x.1 = k
      · rw [if_pos hk, ← hk, if_pos hq, if_pos rfl]
      · rw [if_neg hk, if_neg hk]
    · rw [if_neg hq, ih, look]
      by_cases hk : x.1 = k
      · rw [← hk, if_neg hq, if_neg hq]
      · rw [if_neg hk]
theorem look_values (hs : Strict lt) (q : V → Bool) {l : List (K × V)} (h : Rises lt l) (k : K) : look (l.filter fun x => q x.2) k = (look l k).filter q := by
  induction l with
  | nil => rfl
  | cons x r ih =>
    rw [List.filter_cons, look]
    have ih := ih h.tail
    by_cases hk : x.1 = k
    · rw [if_pos hk]
      have h0 := h.head hs
      rw [hk] at h0
      by_cases hq : q x.2 = true
      · rw [if_pos hq, look, if_pos hk, Option.filter, if_pos hq]
      · rw [if_neg hq, ih, h0, Option.filter, if_neg hq]
        rfl
    · rw [if_neg hk, ← ih]
      by_cases hq : q x.2 = true
      · rw [if_pos hq, look, if_neg hk]
      · rw [if_neg hq]
theorem rises_filter {l : List (K × V)} (h : Rises lt l) (q : K × V → Bool) : Rises lt (l.filter q) := List.Pairwise.filter q h

/-- The four works, e the empty value. -/
def composeL (lt : K → K → Bool) (a b : List (K × V)) : List (K × V) := puts lt b (a.filter fun x => (look b x.1).isNone)
def applyL (lt : K → K → Bool) (e : V) (l c : List (K × V)) : List (K × V) := puts lt (puts lt [] (l.filter fun x => (look c x.1).isNone)) (c.filter fun x => decide (x.2 ≠ e))
def followL (a b : List (K × V)) (first : Bool) : List (K × V) := b.filter fun x => first || (look a x.1).isNone
def invertL (e : V) (l c : List (K × V)) : List (K × V) := c.filterMap fun x => if (look l x.1).getD e = x.2 then none else some (x.1, (look l x.1).getD e)

theorem compose_all (hs : Strict lt) {a b : List (K × V)} (ha : Rises lt a) (hb : Rises lt b) :
    Rises lt (composeL lt a b) ∧ ∀ k, look (composeL lt a b) k = (look b k).or (look a k) := by
  have hf := rises_filter ha fun x => (look b x.1).isNone
  have hd : ∀ x ∈ a.filter (fun x => (look b x.1).isNone), look b x.1 = none := fun x hx => by simpa using (List.mem_filter.1 hx).2
  obtain ⟨h1, _, h3⟩ := puts_all hs hf hb hd
  refine ⟨h1, fun k => ?_⟩
  rw [composeL, h3, look_keys fun k => (look b k).isNone]
  cases look b k <;> simp
theorem apply_all (hs : Strict lt) (e : V) {l c : List (K × V)} (hl : Rises lt l) (hc : Rises lt c) :
    Rises lt (applyL lt e l c) ∧ ∀ k, look (applyL lt e l c) k = match look c k with | none => look l k | some v => if v = e then none else some v := by
  have hf := rises_filter hl fun x => (look c x.1).isNone
  obtain ⟨h1, _, h3⟩ := puts_all hs hf (l := []) List.Pairwise.nil fun x _ => rfl
  have hg := rises_filter hc fun x => decide (x.2 ≠ e)
  have hk := h3
  have h4 : ∀ k, look (puts lt [] (l.filter fun x => (look c x.1).isNone)) k = if (look c k).isNone = true then look l k else none := fun k => by
    rw [h3, look_keys fun k => (look c k).isNone]
    split <;> simp [look]
  have hd : ∀ x ∈ c.filter (fun x => decide (x.2 ≠ e)), look (puts lt [] (l.filter fun x => (look c x.1).isNone)) x.1 = none := fun x hx => by
    rw [h4, look_of_mem hs hc (List.mem_filter.1 hx).1]
    rfl
  obtain ⟨h5, _, h6⟩ := puts_all hs hg h1 hd
  refine ⟨h5, fun k => ?_⟩
  rw [applyL, h6, h4, look_values hs (fun v => decide (v ≠ e)) hc]
  cases look c k with
  | none => simp
  | some v => by_cases hv : v = e <;> simp [hv, Option.filter]
theorem follow_all {a b : List (K × V)} (first : Bool) (hb : Rises lt b) :
    Rises lt (followL a b first) ∧ ∀ k, look (followL a b first) k = if (first || (look a k).isNone) = true then look b k else none :=
  ⟨rises_filter hb _, fun k => look_keys (fun k => first || (look a k).isNone) b k⟩
theorem invert_mem {e : V} {l c : List (K × V)} {y : K × V} (h : y ∈ invertL e l c) : ∃ v, (y.1, v) ∈ c ∧ y.2 = (look l y.1).getD e ∧ y.2 ≠ v := by
  obtain ⟨x, hx, hy⟩ := List.mem_filterMap.1 h
  split at hy
  · cases hy
  · rename_i hne
    injection hy with hy
    subst hy
    exact ⟨x.2, hx, rfl, hne⟩
theorem invert_all (hs : Strict lt) (e : V) {l c : List (K × V)} (hc : Rises lt c) :
    Rises lt (invertL e l c) ∧ ∀ k, look (invertL e l c) k = match look c k with | none => none | some v => if (look l k).getD e = v then none else some ((look l k).getD e) := by
  induction c with
  | nil => exact ⟨List.Pairwise.nil, fun k => rfl⟩
  | cons x r ih =>
    obtain ⟨h1, h2⟩ := ih hc.tail
    have hx : ∀ y ∈ invertL e l r, lt x.1 y.1 = true := fun y hy => by
      obtain ⟨v, hm, _⟩ := invert_mem hy
      exact (List.pairwise_cons.1 hc).1 (y.1, v) hm
    have hx0 : look (invertL e l r) x.1 = none := look_none fun y hy e => hs.ne (hx y hy) e.symm
    have hstep : invertL e l (x :: r) = if (look l x.1).getD e = x.2 then invertL e l r else (x.1, (look l x.1).getD e) :: invertL e l r := by
      unfold invertL
      rw [List.filterMap_cons]
      by_cases hv : (look l x.1).getD e = x.2
      · rw [if_pos hv, if_pos hv]
      · rw [if_neg hv, if_neg hv]
    rw [hstep]
    by_cases hv : (look l x.1).getD e = x.2
    · rw [if_pos hv]
      refine ⟨h1, fun k => ?_⟩
      rw [look]
      by_cases hk : x.1 = k
      · subst hk
        rw [if_pos rfl, hx0]
        show none = if _ then _ else _
        rw [if_pos hv]
      · rw [if_neg hk, h2]
    · rw [if_neg hv]
      refine ⟨List.pairwise_cons.2 ⟨hx, h1⟩, fun k => ?_⟩
      rw [look, look]
      by_cases hk : x.1 = k
      · subst hk
        rw [if_pos rfl, if_pos rfl]
        show _ = if _ then _ else _
        rw [if_neg hv]
      · rw [if_neg hk, if_neg hk, h2]

/-- What was changed is brought back (no value of l is empty). -/
theorem back (hs : Strict lt) (e : V) {l a : List (K × V)} (hl : Rises lt l) (ha : Rises lt a) (hne : ∀ x ∈ l, x.2 ≠ e) : applyL lt e (applyL lt e l a) (invertL e l a) = l := by
  obtain ⟨h1, h2⟩ := apply_all hs e hl ha
  obtain ⟨h3, h4⟩ := invert_all hs e (l := l) ha
  obtain ⟨h5, h6⟩ := apply_all hs e h1 h3
  refine ext hs h5 hl fun k => ?_
  rw [h6, h4, h2]
  have hk : ∀ v, look l k = some v → v ≠ e := fun v hv => hne _ (look_mem hv)
  cases hak : look a k with
  | none => rfl
  | some v =>
    cases hlk : look l k with
    | none => by_cases hv : e = v <;> simp [hv]
    | some u =>
      have := hk u hlk
      by_cases hv : u = v
      · subst hv
        simp [this]
      · simp [hv, this]
/-- Two changes, one after the other, are one. -/
theorem two (hs : Strict lt) (e : V) {l a b : List (K × V)} (hl : Rises lt l) (ha : Rises lt a) (hb : Rises lt b) : applyL lt e (applyL lt e l a) b = applyL lt e l (composeL lt a b) := by
  obtain ⟨h1, h2⟩ := apply_all hs e hl ha
  obtain ⟨h3, h4⟩ := compose_all hs ha hb
  obtain ⟨h5, h6⟩ := apply_all hs e h1 hb
  obtain ⟨h7, h8⟩ := apply_all hs e hl h3
  refine ext hs h5 h7 fun k => ?_
  rw [h6, h8, h4, h2]
  cases look b k with
  | none => rfl
  | some v => rfl
/-- In whatever order, one of them first. -/
theorem meets (hs : Strict lt) (e : V) {l a b : List (K × V)} (first : Bool) (hl : Rises lt l) (ha : Rises lt a) (hb : Rises lt b) :
    applyL lt e (applyL lt e l a) (followL a b first) = applyL lt e (applyL lt e l b) (followL b a (!first)) := by
  obtain ⟨h1, h2⟩ := apply_all hs e hl ha
  obtain ⟨h1', h2'⟩ := apply_all hs e hl hb
  obtain ⟨h3, h4⟩ := follow_all (a := a) first hb
  obtain ⟨h3', h4'⟩ := follow_all (a := b) (!first) ha
  obtain ⟨h5, h6⟩ := apply_all hs e h1 h3
  obtain ⟨h7, h8⟩ := apply_all hs e h1' h3'
  refine ext hs h5 h7 fun k => ?_
  rw [h6, h8, h4, h4', h2, h2']
  cases look a k <;> cases look b k <;> cases first <;> simp
theorem three (hs : Strict lt) {a b c : List (K × V)} (ha : Rises lt a) (hb : Rises lt b) (hc : Rises lt c) : composeL lt (composeL lt a b) c = composeL lt a (composeL lt b c) := by
  obtain ⟨h1, h2⟩ := compose_all hs ha hb
  obtain ⟨h3, h4⟩ := compose_all hs hb hc
  obtain ⟨h5, h6⟩ := compose_all hs h1 hc
  obtain ⟨h7, h8⟩ := compose_all hs ha h3
  refine ext hs h5 h7 fun k => ?_
  rw [h6, h8, h2, h4]
  cases look c k <;> rfl
theorem compose_nil (hs : Strict lt) {c : List (K × V)} (hc : Rises lt c) : composeL lt [] c = c ∧ composeL lt c [] = c := by
  obtain ⟨h1, h2⟩ := compose_all hs (a := []) List.Pairwise.nil hc
  obtain ⟨h3, h4⟩ := compose_all hs hc (b := []) List.Pairwise.nil
  exact ⟨rfl, ext hs h3 hc fun k => by rw [h4]; rfl⟩
theorem apply_nil (hs : Strict lt) (e : V) {l : List (K × V)} (hl : Rises lt l) : applyL lt e l [] = l := by
  obtain ⟨h1, h2⟩ := apply_all hs e hl (c := []) List.Pairwise.nil
  exact ext hs h1 hl fun k => by rw [h2]; rfl
theorem follow_nil (c : List (K × V)) (first : Bool) : followL [] c first = c ∧ followL c [] first = [] := by
  refine ⟨?_, rfl⟩
  unfold followL
  simp [look]
end At
end Go.Proofs.Ythcpagpiphemgaa
