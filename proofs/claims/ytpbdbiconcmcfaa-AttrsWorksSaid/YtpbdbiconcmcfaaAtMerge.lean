/- Plain maths of merging two rising rows by a choice. -/
import Derived.Test.YtpbdbiconcmcfaaAt
import Derived.Test.YtpbdbiconcmcfaaAtRow
import Derived.Lib.Bytealg
namespace Go.Proofs.Ytpbdbiconcmcfaa
namespace At

theorem less_irr (x : List UInt8) : Op.bytesLess x x = false := by
  have := less_not x x
  cases h : Op.bytesLess x x with
  | false => rfl
  | true => rw [h] at this; simp at this
theorem less_tr : ∀ x y z : List UInt8, Op.bytesLess x y = true → Op.bytesLess y z = true → Op.bytesLess x z = true
  | [], [], _, h, _ => by simp [Op.bytesLess] at h
  | [], _ :: _, [], _, h => by simp [Op.bytesLess] at h
  | [], _ :: _, _ :: _, _, _ => rfl
  | _ :: _, [], _, h, _ => by simp [Op.bytesLess] at h
  | _ :: _, _ :: _, [], _, h => by simp [Op.bytesLess] at h
  | a :: x, b :: y, c :: z, h1, h2 => by
    simp only [Op.bytesLess, Bool.or_eq_true, decide_eq_true_eq, Bool.and_eq_true, beq_iff_eq] at h1 h2 ⊢
    rcases h1 with h1 | ⟨rfl, h1⟩
    · rcases h2 with h2 | ⟨rfl, h2⟩
      · exact .inl (Nat.lt_trans (show a.toNat < b.toNat from h1) (show b.toNat < c.toNat from h2))
      · exact .inl h1
    · rcases h2 with h2 | ⟨rfl, h2⟩
      · exact .inl h2
      · exact .inr ⟨rfl, less_tr x y z h1 h2⟩
def ltB (a b : ByteArray) : Bool := Op.bytesLess a.toList b.toList
theorem strictB : Strict ltB where
  irr a := less_irr _
  tr a b c := less_tr _ _ _
  tot a b h := by
    have := less_not a.toList b.toList
    have hne : (a.toList == b.toList) = false := by rw [beq_eq_false_iff_ne]; exact fun e => h (toList_ba e)
    rw [hne, Bool.or_false] at this
    unfold ltB
    rw [this]
    cases Op.bytesLess b.toList a.toList <;> simp
theorem cmp_eq : ∀ x y : List UInt8, Lib.compareBytes x y = if Op.bytesLess x y = true then -1 else if Op.bytesLess y x = true then 1 else 0
  | [], [] => rfl
  | [], _ :: _ => rfl
  | _ :: _, [] => rfl
  | a :: x, b :: y => by
    have ih := cmp_eq x y
    rw [Lib.compareBytes, Op.bytesLess, Op.bytesLess, ih]
    by_cases h1 : a < b
    · simp [h1]
    · by_cases h2 : b < a
      · have hne : ¬ a = b := fun e => by subst e; exact absurd h2 (by simp)
        simp [h1, h2, hne]
      · have he : a = b := by
          apply UInt8.toNat_inj.1
          have h1' : ¬ a.toNat < b.toNat := h1
          have h2' : ¬ b.toNat < a.toNat := h2
          omega
        subst he
        simp

abbrev O := Option (K × V)
def mergeL (ch : O → O → O) : List (K × V) → List (K × V) → List (K × V)
  | [], [] => []
  | x :: r, [] => (ch (some x) none).toList ++ mergeL ch r []
  | [], y :: s => (ch none (some y)).toList ++ mergeL ch [] s
  | x :: r, y :: s => if ltB x.1 y.1 = true then (ch (some x) none).toList ++ mergeL ch r (y :: s) else if ltB y.1 x.1 = true then (ch none (some y)).toList ++ mergeL ch (x :: r) s else (ch (some x) (some y)).toList ++ mergeL ch r s
termination_by a b => a.length + b.length
decreasing_by all_goals simp; try omega

/-- The choice keeps the key, and makes nothing of nothing. -/
structure Keeps (ch : O → O → O) : Prop where
  none : ch none none = none
  key : ∀ k x y z, (∀ u, x = some u → u.1 = k) → (∀ u, y = some u → u.1 = k) → ch x y = some z → z.1 = k

theorem Keeps.left {ch : O → O → O} (hk : Keeps ch) {x z : K × V} (h : ch (some x) Option.none = some z) : z.1 = x.1 := hk.key x.1 (some x) Option.none z (fun u hu => by cases hu; rfl) (fun u hu => by cases hu) h
theorem Keeps.right {ch : O → O → O} (hk : Keeps ch) {y z : K × V} (h : ch Option.none (some y) = some z) : z.1 = y.1 := hk.key y.1 Option.none (some y) z (fun u hu => by cases hu) (fun u hu => by cases hu; rfl) h
theorem Keeps.both {ch : O → O → O} (hk : Keeps ch) {x y z : K × V} (he : x.1 = y.1) (h : ch (some x) (some y) = some z) : z.1 = x.1 := hk.key x.1 (some x) (some y) z (fun u hu => by cases hu; rfl) (fun u hu => by cases hu; exact he.symm) h
theorem toList_len (o : O) : o.toList.length ≤ 1 := by cases o <;> simp
theorem mergeL_len (ch : O → O → O) (a b : List (K × V)) : (mergeL ch a b).length ≤ a.length + b.length := by
  fun_induction mergeL ch a b with
  | case1 => simp
  | case2 x r ih => have := toList_len (ch (some x) none); simp at ih ⊢; omega
  | case3 y s ih => have := toList_len (ch none (some y)); simp at ih ⊢; omega
  | case4 x r y s _ ih => have := toList_len (ch (some x) none); simp at ih ⊢; omega
  | case5 x r y s _ _ ih => have := toList_len (ch none (some y)); simp at ih ⊢; omega
  | case6 x r y s _ _ ih => have := toList_len (ch (some x) (some y)); simp at ih ⊢; omega

theorem look_cons (x : K × V) (r : List (K × V)) (k : K) : look (x :: r) k = if x.1 = k then some x.2 else look r k := rfl
theorem look_nil (k : K) : look ([] : List (K × V)) k = none := rfl
theorem eq_of_not {a b : K} (h1 : ¬ ltB a b = true) (h2 : ¬ ltB b a = true) : a = b := Decidable.byContradiction fun h => by
  rcases strictB.tot a b h with h | h
  · exact h1 h
  · exact h2 h

/-- All keys of a row come behind one. -/
def After (k : K) (l : List (K × V)) : Prop := ∀ y ∈ l, ltB k y.1 = true
theorem After.none {k : K} {l : List (K × V)} (h : After k l) : look l k = Option.none := look_none fun y hy e => by
  have := h y hy
  rw [e, strictB.irr] at this
  cases this
theorem After.cons {k : K} {x : K × V} {l : List (K × V)} (h1 : ltB k x.1 = true) (h : Rises ltB (x :: l)) : After k (x :: l) := fun y hy => by
  rcases List.mem_cons.1 hy with rfl | hy
  · exact h1
  · exact strictB.tr _ _ _ h1 ((List.pairwise_cons.1 h).1 y hy)
theorem After.tail {x : K × V} {l : List (K × V)} (h : Rises ltB (x :: l)) : After x.1 l := fun y hy => (List.pairwise_cons.1 h).1 y hy
theorem After.nil {k : K} : After k [] := fun y hy => by cases hy

/-- What a choice makes of what two rows have at a key. -/
def at2 (ch : O → O → O) (k : K) (x y : Option V) : Option V := (ch (x.map fun v => (k, v)) (y.map fun v => (k, v))).map (·.2)
theorem at2_none {ch : O → O → O} (hk : Keeps ch) (k : K) : at2 ch k none none = none := by unfold at2; simp [hk.none]

theorem merge_mem {ch : O → O → O} (hk : Keeps ch) (a b : List (K × V)) : ∀ z ∈ mergeL ch a b, (∃ x ∈ a, x.1 = z.1) ∨ (∃ y ∈ b, y.1 = z.1) := by
  fun_induction mergeL ch a b with
  | case1 => intro z hz; cases hz
  | case2 x r ih =>
    intro z hz
    rcases List.mem_append.1 hz with h | h
    · exact .inl ⟨x, List.mem_cons_self .., Eq.symm (hk.left (by simpa using h))⟩
    · rcases ih z h with ⟨u, hu, he⟩ | ⟨u, hu, he⟩
      · exact .inl ⟨u, List.mem_cons_of_mem _ hu, he⟩
      · cases hu
  | case3 y s ih =>
    intro z hz
    rcases List.mem_append.1 hz with h | h
    · exact .inr ⟨y, List.mem_cons_self .., Eq.symm (hk.right (by simpa using h))⟩
    · rcases ih z h with ⟨u, hu, he⟩ | ⟨u, hu, he⟩
      · cases hu
      · exact .inr ⟨u, List.mem_cons_of_mem _ hu, he⟩
  | case4 x r y s _ ih =>
    intro z hz
    rcases List.mem_append.1 hz with h | h
    · exact .inl ⟨x, List.mem_cons_self .., Eq.symm (hk.left (by simpa using h))⟩
    · rcases ih z h with ⟨u, hu, he⟩ | ⟨u, hu, he⟩
      · exact .inl ⟨u, List.mem_cons_of_mem _ hu, he⟩
      · exact .inr ⟨u, hu, he⟩
  | case5 x r y s _ _ ih =>
    intro z hz
    rcases List.mem_append.1 hz with h | h
    · exact .inr ⟨y, List.mem_cons_self .., Eq.symm (hk.right (by simpa using h))⟩
    · rcases ih z h with ⟨u, hu, he⟩ | ⟨u, hu, he⟩
      · exact .inl ⟨u, hu, he⟩
      · exact .inr ⟨u, List.mem_cons_of_mem _ hu, he⟩
  | case6 x r y s h1 h2 ih =>
    intro z hz
    have he := eq_of_not h1 h2
    rcases List.mem_append.1 hz with h | h
    · exact .inl ⟨x, List.mem_cons_self .., Eq.symm (hk.both he (by simpa using h))⟩
    · rcases ih z h with ⟨u, hu, he⟩ | ⟨u, hu, he⟩
      · exact .inl ⟨u, List.mem_cons_of_mem _ hu, he⟩
      · exact .inr ⟨u, List.mem_cons_of_mem _ hu, he⟩

theorem merge_after {ch : O → O → O} (hk : Keeps ch) {a b : List (K × V)} {k : K} (ha : After k a) (hb : After k b) : After k (mergeL ch a b) := fun z hz => by
  rcases merge_mem hk a b z hz with ⟨x, hx, he⟩ | ⟨x, hx, he⟩
  · rw [← he]; exact ha x hx
  · rw [← he]; exact hb x hx

/-- One choice ahead of a row that comes behind its key. -/
theorem step_rises {o : O} {k : K} {m : List (K × V)} (ho : ∀ z, o = some z → z.1 = k) (hm : Rises ltB m) (ha : After k m) : Rises ltB (o.toList ++ m) := by
  cases o with
  | none => exact hm
  | some z => exact List.pairwise_cons.2 ⟨fun y hy => by rw [ho z rfl]; exact ha y hy, hm⟩
theorem step_look {o : O} {k : K} {m : List (K × V)} (ho : ∀ z, o = some z → z.1 = k) (ha : After k m) (j : K) : look (o.toList ++ m) j = if j = k then o.map (·.2) else look m j := by
  cases o with
  | none =>
    by_cases hj : j = k
    · rw [if_pos hj, hj]; exact ha.none
    · rw [if_neg hj]; rfl
  | some z =>
    have hz := ho z rfl
    show look (z :: m) j = _
    rw [look]
    by_cases hj : j = k
    · rw [if_pos (hz.trans hj.symm), if_pos hj]; rfl
    · rw [if_neg (fun e => hj (e.symm.trans hz)), if_neg hj]

theorem merge_all {ch : O → O → O} (hk : Keeps ch) (a b : List (K × V)) : Rises ltB a → Rises ltB b → Rises ltB (mergeL ch a b) ∧ ∀ k, look (mergeL ch a b) k = at2 ch k (look a k) (look b k) := by
  fun_induction mergeL ch a b with
  | case1 => exact fun _ _ => ⟨List.Pairwise.nil, fun k => (at2_none hk k).symm⟩
  | case2 x r ih =>
    intro ha hb
    obtain ⟨h1, h2⟩ := ih ha.tail hb
    have ho : ∀ z, ch (some x) none = some z → z.1 = x.1 := fun z hz => hk.key x.1 _ _ z (fun u hu => by cases hu; rfl) (fun u hu => by cases hu) hz
    have haf := merge_after hk (After.tail ha) (After.nil (k := x.1))
    refine ⟨step_rises ho h1 haf, fun k => ?_⟩
    rw [step_look ho haf, h2, look_cons x r]
    by_cases hj : k = x.1
    · subst hj
      rw [if_pos rfl, if_pos rfl]; rfl
    · rw [if_neg hj, if_neg (fun e : x.1 = k => hj e.symm)]
  | case3 y s ih =>
    intro ha hb
    obtain ⟨h1, h2⟩ := ih ha hb.tail
    have ho : ∀ z, ch none (some y) = some z → z.1 = y.1 := fun z hz => hk.key y.1 _ _ z (fun u hu => by cases hu) (fun u hu => by cases hu; rfl) hz
    have haf := merge_after hk (After.nil (k := y.1)) (After.tail hb)
    refine ⟨step_rises ho h1 haf, fun k => ?_⟩
    rw [step_look ho haf, h2, look_cons y s]
    by_cases hj : k = y.1
    · subst hj
      rw [if_pos rfl, if_pos rfl]; rfl
    · rw [if_neg hj, if_neg (fun e : y.1 = k => hj e.symm)]
  | case4 x r y s hlt ih =>
    intro ha hb
    obtain ⟨h1, h2⟩ := ih ha.tail hb
    have ho : ∀ z, ch (some x) none = some z → z.1 = x.1 := fun z hz => hk.key x.1 _ _ z (fun u hu => by cases hu; rfl) (fun u hu => by cases hu) hz
    have hab := After.cons hlt hb
    have haf := merge_after hk (After.tail ha) hab
    refine ⟨step_rises ho h1 haf, fun k => ?_⟩
    rw [step_look ho haf, h2, look_cons x r]
    by_cases hj : k = x.1
    · subst hj
      rw [if_pos rfl, if_pos rfl, hab.none]; rfl
    · rw [if_neg hj, if_neg (fun e : x.1 = k => hj e.symm)]
  | case5 x r y s hge hlt ih =>
    intro ha hb
    obtain ⟨h1, h2⟩ := ih ha hb.tail
    have ho : ∀ z, ch none (some y) = some z → z.1 = y.1 := fun z hz => hk.key y.1 _ _ z (fun u hu => by cases hu) (fun u hu => by cases hu; rfl) hz
    have hab := After.cons hlt ha
    have haf := merge_after hk hab (After.tail hb)
    refine ⟨step_rises ho h1 haf, fun k => ?_⟩
    rw [step_look ho haf, h2, look_cons y s]
    by_cases hj : k = y.1
    · subst hj
      rw [if_pos rfl, if_pos rfl, hab.none]; rfl
    · rw [if_neg hj, if_neg (fun e : y.1 = k => hj e.symm)]
  | case6 x r y s hge hle ih =>
    intro ha hb
    obtain ⟨h1, h2⟩ := ih ha.tail hb.tail
    have he := eq_of_not hge hle
    have ho : ∀ z, ch (some x) (some y) = some z → z.1 = x.1 := fun z hz => hk.key x.1 _ _ z (fun u hu => by cases hu; rfl) (fun u hu => by cases hu; exact he.symm) hz
    have haf := merge_after hk (After.tail ha) (by rw [he]; exact After.tail hb)
    refine ⟨step_rises ho h1 haf, fun k => ?_⟩
    rw [step_look ho haf, h2, look_cons x r, look_cons y s]
    by_cases hj : k = x.1
    · subst hj
      rw [if_pos rfl, if_pos rfl, if_pos he.symm]
      unfold at2
      simp only [Option.map_some]
      have ex : ((x.1, x.2) : K × V) = x := rfl
      have ey : ((x.1, y.2) : K × V) = y := Prod.ext he rfl
      rw [ex, ey]
    · rw [if_neg hj, if_neg (fun e : x.1 = k => hj e.symm), if_neg (fun e : y.1 = k => hj (he.trans e).symm)]

/-- The four choices. -/
def emp : V := ⟨#[]⟩
def chApply (x y : O) : O := match y with | none => x | some y => if y.2 = emp then none else some y
def chCompose (x y : O) : O := match y with | none => x | some y => some y
def chFollow (first : Bool) (x y : O) : O := if x.isSome && !first then none else y
def chInvert (x y : O) : O := match y with | none => none | some y => if (x.getD (y.1, emp)).2 = y.2 then none else some (x.getD (y.1, emp))

theorem keepsApply : Keeps chApply where
  none := rfl
  key k x y z hx hy h := by
    cases y with
    | none => exact hx z h
    | some y =>
      unfold chApply at h
      simp only at h
      split at h
      · cases h
      · cases h; exact hy _ rfl
theorem keepsCompose : Keeps chCompose where
  none := rfl
  key k x y z hx hy h := by
    cases y with
    | none => exact hx z h
    | some y => exact hy z h
theorem keepsFollow (first : Bool) : Keeps (chFollow first) where
  none := by simp [chFollow]
  key k x y z hx hy h := by
    unfold chFollow at h
    split at h
    · cases h
    · exact hy z h
theorem keepsInvert : Keeps chInvert where
  none := rfl
  key k x y z hx hy h := by
    cases y with
    | none => cases h
    | some y =>
      unfold chInvert at h
      simp only at h
      split at h
      · cases h
      · cases h
        cases x with
        | none => exact hy y rfl
        | some x => exact hx _ rfl

theorem merge_apply {l c : List (K × V)} (hl : Rises ltB l) (hc : Rises ltB c) : mergeL chApply l c = applyL ltB emp l c := by
  obtain ⟨h1, h2⟩ := merge_all keepsApply l c hl hc
  obtain ⟨h3, h4⟩ := apply_all strictB emp hl hc
  refine ext strictB h1 h3 fun k => ?_
  rw [h2, h4]
  unfold at2 chApply
  cases look l k <;> cases hcv : look c k with
  | none => simp
  | some v => by_cases hv : v = emp <;> simp [hv]
theorem merge_compose {a b : List (K × V)} (ha : Rises ltB a) (hb : Rises ltB b) : mergeL chCompose a b = composeL ltB a b := by
  obtain ⟨h1, h2⟩ := merge_all keepsCompose a b ha hb
  obtain ⟨h3, h4⟩ := compose_all strictB ha hb
  refine ext strictB h1 h3 fun k => ?_
  rw [h2, h4]
  unfold at2 chCompose
  cases look a k <;> cases look b k <;> simp
theorem merge_follow {a b : List (K × V)} (first : Bool) (ha : Rises ltB a) (hb : Rises ltB b) : mergeL (chFollow first) a b = followL a b first := by
  obtain ⟨h1, h2⟩ := merge_all (keepsFollow first) a b ha hb
  obtain ⟨h3, h4⟩ := follow_all (a := a) first hb
  refine ext strictB h1 h3 fun k => ?_
  rw [h2, h4]
  unfold at2 chFollow
  cases look a k <;> cases look b k <;> cases first <;> simp
theorem merge_invert {l c : List (K × V)} (hl : Rises ltB l) (hc : Rises ltB c) : mergeL chInvert l c = invertL emp l c := by
  obtain ⟨h1, h2⟩ := merge_all keepsInvert l c hl hc
  obtain ⟨h3, h4⟩ := invert_all strictB emp (l := l) hc
  refine ext strictB h1 h3 fun k => ?_
  rw [h2, h4]
  unfold at2 chInvert
  cases hlv : look l k <;> cases hcv : look c k with
  | none => simp
  | some v => simp; split <;> simp_all
end At
end Go.Proofs.Ytpbdbiconcmcfaa
