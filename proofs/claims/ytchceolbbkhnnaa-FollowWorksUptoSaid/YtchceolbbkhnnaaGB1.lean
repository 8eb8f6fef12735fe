import Derived.Test.YtchceolbbkhnnaaGA1
import Derived.Test.YtchceolbbkhnnaaGA2
import Derived.Lib.Bytealg
import Derived.StillTailTactics
import Derived.Laws.OwnMore
namespace Go.Proofs.Ytchceolbbkhnnaa
section
namespace At
theorem less_irr (x : List UInt8) : Op.bytesLess x x = false := by
 have := less_not x x; cases h : Op.bytesLess x x with
 | false => rfl
 | true => rw [h] at this; simp at this
theorem less_tr : ∀ x y z : List UInt8, Op.bytesLess x y = true → Op.bytesLess y z = true → Op.bytesLess x z = true
 | [], [], _, h, _ => by simp [Op.bytesLess] at h
 | [], _ :: _, [], _, h => by simp [Op.bytesLess] at h
 | [], _ :: _, _ :: _, _, _ => rfl
 | _ :: _, [], _, h, _ => by simp [Op.bytesLess] at h
 | _ :: _, _ :: _, [], _, h => by simp [Op.bytesLess] at h
 | a :: x, b :: y, c :: z, h1, h2 => by
   simp only [Op.bytesLess, Bool.or_eq_true, decide_eq_true_eq, Bool.and_eq_true, beq_iff_eq] at h1 h2 ⊢; rcases h1 with h1 | ⟨rfl, h1⟩
   ·rcases h2 with h2 | ⟨rfl, h2⟩
    ·exact .inl (Nat.lt_trans (show a.toNat < b.toNat from h1) (show b.toNat < c.toNat from h2))
    ·exact .inl h1
   ·rcases h2 with h2 | ⟨rfl, h2⟩
    ·exact .inl h2
    ·exact .inr ⟨rfl, less_tr x y z h1 h2⟩
def ltB (a b : ByteArray) : Bool := Op.bytesLess a.toList b.toList
theorem strictB : Strict ltB where
 irr a := less_irr _
 tr a b c := less_tr _ _ _
 tot a b h := by
  have := less_not a.toList b.toList; have hne : (a.toList == b.toList) = false := by rw [beq_eq_false_iff_ne]; exact fun e => h (toList_ba e)
  rw [hne, Bool.or_false] at this; unfold ltB; rw [this]; cases Op.bytesLess b.toList a.toList <;> simp
theorem cmp_eq : ∀ x y : List UInt8, Lib.compareBytes x y = if Op.bytesLess x y = true then -1 else if Op.bytesLess y x = true then 1 else 0
 | [], [] => rfl
 | [], _ :: _ => rfl
 | _ :: _, [] => rfl
 | a :: x, b :: y => by
   have ih := cmp_eq x y; rw [Lib.compareBytes, Op.bytesLess, Op.bytesLess, ih]
   by_cases h1 : a < b
   ·simp [h1]
   ·by_cases h2 : b < a
    ·have hne : ¬ a = b := fun e => by subst e; exact absurd h2 (by simp)
     simp [h1, h2, hne]
    ·have he : a = b := by
      apply UInt8.toNat_inj.1; have h1' : ¬ a.toNat < b.toNat := h1; have h2' : ¬ b.toNat < a.toNat := h2; omega
     subst he; simp
abbrev O := Option (K × V)
def mergeL (ch : O → O → O) : List (K × V) → List (K × V) → List (K × V)
 | [], [] => []
 | x :: r, [] => (ch (some x) none).toList ++ mergeL ch r []
 | [], y :: s => (ch none (some y)).toList ++ mergeL ch [] s
 | x :: r, y :: s => if ltB x.1 y.1 = true then (ch (some x) none).toList ++ mergeL ch r (y :: s) else if ltB y.1 x.1 = true then (ch none (some y)).toList ++ mergeL ch (x :: r) s else (ch (some x) (some y)).toList ++ mergeL ch r s
termination_by a b => a.length + b.length
decreasing_by all_goals simp; try omega
structure Keeps (ch : O → O → O) : Prop where
 none : ch none none = none
 key : ∀ k x y z, (∀ u, x = some u → u.1 = k) → (∀ u, y = some u → u.1 = k) → ch x y = some z → z.1 = k
theorem Keeps.left {ch : O → O → O} (hk : Keeps ch) {x z : K × V} (h : ch (some x) Option.none = some z) : z.1 = x.1 := hk.key x.1 (some x) Option.none z (fun u hu => by cases hu; rfl) (fun u hu => by cases hu) h
theorem Keeps.right {ch : O → O → O} (hk : Keeps ch) {y z : K × V} (h : ch Option.none (some y) = some z) : z.1 = y.1 := hk.key y.1 Option.none (some y) z (fun u hu => by cases hu) (fun u hu => by cases hu; rfl) h
theorem Keeps.both {ch : O → O → O} (hk : Keeps ch) {x y z : K × V} (he : x.1 = y.1) (h : ch (some x) (some y) = some z) : z.1 = x.1 := hk.key x.1 (some x) (some y) z (fun u hu => by cases hu; rfl) (fun u hu => by cases hu; exact he.symm) h
theorem toList_len (o : O) : o.toList.length ≤ 1 := by cases o <;> simp
theorem mergeL_len (ch : O → O → O) (a b : List (K × V)) : (mergeL ch a b).length ≤ a.length + b.length := by
 fun_induction mergeL ch a b with
 | case1 => simp
 | case2 x r ih => have := toList_len (ch (some x) none); simp at ih ⊢; omega
 | case3 y s ih => have := toList_len (ch none (some y)); simp at ih ⊢; omega
 | case4 x r y s _ ih => have := toList_len (ch (some x) none); simp at ih ⊢; omega
 | case5 x r y s _ _ ih => have := toList_len (ch none (some y)); simp at ih ⊢; omega
 | case6 x r y s _ _ ih => have := toList_len (ch (some x) (some y)); simp at ih ⊢; omega
theorem look_cons (x : K × V) (r : List (K × V)) (k : K) : look (x :: r) k = if x.1 = k then some x.2 else look r k := rfl
theorem eq_of_not {a b : K} (h1 : ¬ ltB a b = true) (h2 : ¬ ltB b a = true) : a = b := Decidable.byContradiction fun h => by
 rcases strictB.tot a b h with h | h
 ·exact h1 h
 ·exact h2 h
def After (k : K) (l : List (K × V)) : Prop := ∀ y ∈ l, ltB k y.1 = true
theorem After.none {k : K} {l : List (K × V)} (h : After k l) : look l k = Option.none := look_none fun y hy e => by
 have := h y hy; rw [e, strictB.irr] at this; cases this
theorem After.cons {k : K} {x : K × V} {l : List (K × V)} (h1 : ltB k x.1 = true) (h : Rises ltB (x :: l)) : After k (x :: l) := fun y hy => by
 rcases List.mem_cons.1 hy with rfl | hy
 ·exact h1
 ·exact strictB.tr _ _ _ h1 ((List.pairwise_cons.1 h).1 y hy)
theorem After.tail {x : K × V} {l : List (K × V)} (h : Rises ltB (x :: l)) : After x.1 l := fun y hy => (List.pairwise_cons.1 h).1 y hy
theorem After.nil {k : K} : After k [] := fun y hy => by cases hy
def at2 (ch : O → O → O) (k : K) (x y : Option V) : Option V := (ch (x.map fun v => (k, v)) (y.map fun v => (k, v))).map (·.2)
theorem at2_none {ch : O → O → O} (hk : Keeps ch) (k : K) : at2 ch k none none = none := by unfold at2; simp [hk.none]
theorem merge_mem {ch : O → O → O} (hk : Keeps ch) (a b : List (K × V)) : ∀ z ∈ mergeL ch a b, (∃ x ∈ a, x.1 = z.1) ∨ (∃ y ∈ b, y.1 = z.1) := by
 fun_induction mergeL ch a b with
 | case1 => intro z hz; cases hz
 | case2 x r ih =>
   intro z hz; rcases List.mem_append.1 hz with h | h
   ·exact .inl ⟨x, List.mem_cons_self .., Eq.symm (hk.left (by simpa using h))⟩
   ·rcases ih z h with ⟨u, hu, he⟩ | ⟨u, hu, he⟩
    ·exact .inl ⟨u, List.mem_cons_of_mem _ hu, he⟩
    ·cases hu
 | case3 y s ih =>
   intro z hz; rcases List.mem_append.1 hz with h | h
   ·exact .inr ⟨y, List.mem_cons_self .., Eq.symm (hk.right (by simpa using h))⟩
   ·rcases ih z h with ⟨u, hu, he⟩ | ⟨u, hu, he⟩
    ·cases hu
    ·exact .inr ⟨u, List.mem_cons_of_mem _ hu, he⟩
 | case4 x r y s _ ih =>
   intro z hz; rcases List.mem_append.1 hz with h | h
   ·exact .inl ⟨x, List.mem_cons_self .., Eq.symm (hk.left (by simpa using h))⟩
   ·rcases ih z h with ⟨u, hu, he⟩ | ⟨u, hu, he⟩
    ·exact .inl ⟨u, List.mem_cons_of_mem _ hu, he⟩
    ·exact .inr ⟨u, hu, he⟩
 | case5 x r y s _ _ ih =>
   intro z hz; rcases List.mem_append.1 hz with h | h
   ·exact .inr ⟨y, List.mem_cons_self .., Eq.symm (hk.right (by simpa using h))⟩
   ·rcases ih z h with ⟨u, hu, he⟩ | ⟨u, hu, he⟩
    ·exact .inl ⟨u, hu, he⟩
    ·exact .inr ⟨u, List.mem_cons_of_mem _ hu, he⟩
 | case6 x r y s h1 h2 ih =>
   intro z hz; have he := eq_of_not h1 h2; rcases List.mem_append.1 hz with h | h
   ·exact .inl ⟨x, List.mem_cons_self .., Eq.symm (hk.both he (by simpa using h))⟩
   ·rcases ih z h with ⟨u, hu, he⟩ | ⟨u, hu, he⟩
    ·exact .inl ⟨u, List.mem_cons_of_mem _ hu, he⟩
    ·exact .inr ⟨u, List.mem_cons_of_mem _ hu, he⟩
theorem merge_after {ch : O → O → O} (hk : Keeps ch) {a b : List (K × V)} {k : K} (ha : After k a) (hb : After k b) : After k (mergeL ch a b) := fun z hz => by
 rcases merge_mem hk a b z hz with ⟨x, hx, he⟩ | ⟨x, hx, he⟩
 ·rw [← he]; exact ha x hx
 ·rw [← he]; exact hb x hx
theorem step_rises {o : O} {k : K} {m : List (K × V)} (ho : ∀ z, o = some z → z.1 = k) (hm : Rises ltB m) (ha : After k m) : Rises ltB (o.toList ++ m) := by
 cases o with
 | none => exact hm
 | some z => exact List.pairwise_cons.2 ⟨fun y hy => by rw [ho z rfl]; exact ha y hy, hm⟩
theorem step_look {o : O} {k : K} {m : List (K × V)} (ho : ∀ z, o = some z → z.1 = k) (ha : After k m) (j : K) : look (o.toList ++ m) j = if j = k then o.map (·.2) else look m j := by
 cases o with
 | none =>
   by_cases hj : j = k
   ·rw [if_pos hj, hj]; exact ha.none
   ·rw [if_neg hj]; rfl
 | some z =>
   have hz := ho z rfl; show look (z :: m) j = _
   rw [look]
   by_cases hj : j = k
   ·rw [if_pos (hz.trans hj.symm), if_pos hj]; rfl
   ·rw [if_neg (fun e => hj (e.symm.trans hz)), if_neg hj]
theorem merge_all {ch : O → O → O} (hk : Keeps ch) (a b : List (K × V)) : Rises ltB a → Rises ltB b → Rises ltB (mergeL ch a b) ∧ ∀ k, look (mergeL ch a b) k = at2 ch k (look a k) (look b k) := by
 fun_induction mergeL ch a b with
 | case1 => exact fun _ _ => ⟨List.Pairwise.nil, fun k => (at2_none hk k).symm⟩
 | case2 x r ih =>
   intro ha hb; obtain ⟨h1, h2⟩ := ih ha.tail hb; have ho : ∀ z, ch (some x) none = some z → z.1 = x.1 := fun z hz => hk.key x.1 _ _ z (fun u hu => by cases hu; rfl) (fun u hu => by cases hu) hz; have haf := merge_after hk (After.tail ha) (After.nil (k := x.1)); refine ⟨step_rises ho h1 haf, fun k => ?_⟩; rw [step_look ho haf, h2, look_cons x r]
   by_cases hj : k = x.1
   ·subst hj
    rw [if_pos rfl, if_pos rfl]; rfl
   ·rw [if_neg hj, if_neg (fun e : x.1 = k => hj e.symm)]
 | case3 y s ih =>
   intro ha hb; obtain ⟨h1, h2⟩ := ih ha hb.tail; have ho : ∀ z, ch none (some y) = some z → z.1 = y.1 := fun z hz => hk.key y.1 _ _ z (fun u hu => by cases hu) (fun u hu => by cases hu; rfl) hz; have haf := merge_after hk (After.nil (k := y.1)) (After.tail hb); refine ⟨step_rises ho h1 haf, fun k => ?_⟩; rw [step_look ho haf, h2, look_cons y s]
   by_cases hj : k = y.1
   ·subst hj
    rw [if_pos rfl, if_pos rfl]; rfl
   ·rw [if_neg hj, if_neg (fun e : y.1 = k => hj e.symm)]
 | case4 x r y s hlt ih =>
   intro ha hb; obtain ⟨h1, h2⟩ := ih ha.tail hb; have ho : ∀ z, ch (some x) none = some z → z.1 = x.1 := fun z hz => hk.key x.1 _ _ z (fun u hu => by cases hu; rfl) (fun u hu => by cases hu) hz; have hab := After.cons hlt hb; have haf := merge_after hk (After.tail ha) hab; refine ⟨step_rises ho h1 haf, fun k => ?_⟩; rw [step_look ho haf, h2, look_cons x r]
   by_cases hj : k = x.1
   ·subst hj
    rw [if_pos rfl, if_pos rfl, hab.none]; rfl
   ·rw [if_neg hj, if_neg (fun e : x.1 = k => hj e.symm)]
 | case5 x r y s hge hlt ih =>
   intro ha hb; obtain ⟨h1, h2⟩ := ih ha hb.tail; have ho : ∀ z, ch none (some y) = some z → z.1 = y.1 := fun z hz => hk.key y.1 _ _ z (fun u hu => by cases hu) (fun u hu => by cases hu; rfl) hz; have hab := After.cons hlt ha; have haf := merge_after hk hab (After.tail hb); refine ⟨step_rises ho h1 haf, fun k => ?_⟩; rw [step_look ho haf, h2, look_cons y s]
   by_cases hj : k = y.1
   ·subst hj
    rw [if_pos rfl, if_pos rfl, hab.none]; rfl
   ·rw [if_neg hj, if_neg (fun e : y.1 = k => hj e.symm)]
 | case6 x r y s hge hle ih =>
   intro ha hb; obtain ⟨h1, h2⟩ := ih ha.tail hb.tail; have he := eq_of_not hge hle; have ho : ∀ z, ch (some x) (some y) = some z → z.1 = x.1 := fun z hz => hk.key x.1 _ _ z (fun u hu => by cases hu; rfl) (fun u hu => by cases hu; exact he.symm) hz; have haf := merge_after hk (After.tail ha) (by rw [he]; exact After.tail hb); refine ⟨step_rises ho h1 haf, fun k => ?_⟩; rw [step_look ho haf, h2, look_cons x r, look_cons y s]
   by_cases hj : k = x.1
   ·subst hj
    rw [if_pos rfl, if_pos rfl, if_pos he.symm]; unfold at2; simp only [Option.map_some]; have ex : ((x.1, x.2) : K × V) = x := rfl; have ey : ((x.1, y.2) : K × V) = y := Prod.ext he rfl; rw [ex, ey]
   ·rw [if_neg hj, if_neg (fun e : x.1 = k => hj e.symm), if_neg (fun e : y.1 = k => hj (he.trans e).symm)]
def emp : V := ⟨#[]⟩
def chFollow (first : Bool) (x y : O) : O := if x.isSome && !first then none else y
theorem keepsFollow (first : Bool) : Keeps (chFollow first) where
 none := by simp [chFollow]
 key k x y z hx hy h := by
  unfold chFollow at h; split at h
  ·cases h
  ·exact hy z h
theorem merge_follow {a b : List (K × V)} (first : Bool) (ha : Rises ltB a) (hb : Rises ltB b) : mergeL (chFollow first) a b = followL a b first := by
 obtain ⟨h1, h2⟩ := merge_all (keepsFollow first) a b ha hb; obtain ⟨h3, h4⟩ := follow_all (a := a) first hb
 refine ext strictB h1 h3 fun k => ?_; rw [h2, h4]; unfold at2 chFollow; cases look a k <;> cases look b k <;> cases first <;> simp
end At
end
section
open Go.RowKit At
def PtrAt (w : World) (p : Value) (o : O) : Prop :=
 match o with
 | none => p = .pointer none
 | some z => ∃ b off, p = .pointer (some ⟨b, off, none⟩) ∧ b < w.heap.size ∧ w.cell? ⟨b, off, none⟩ = some (.string z.1) ∧ w.cell? ⟨b, off + 1, none⟩ = some (.string z.2)
theorem PtrAt.below {w w' : World} {p : Value} {o : O} (h : PtrAt w p o) (hb : Below w.heap.size w w') : PtrAt w' p o := by
 cases o with
 | none => exact h
 | some z =>
   obtain ⟨b, off, rfl, h1, h2, h3⟩ := h; exact ⟨b, off, rfl, Nat.lt_of_lt_of_le h1 hb.size, by rw [hb.cell (by exact h1)]; exact h2, by rw [hb.cell (by exact h1)]; exact h3⟩
def ChOut (w : World) (o : O) (e : Ending) (w' : World) : Prop := ∃ p, e = .returned p ∧ PtrAt w' p o ∧ Below w.heap.size w w'
theorem emp_toList : emp.toList = [] := by rw [ByteArray.toList_eq]; rfl
theorem beq_empty {s : ByteArray} : (s = emp) ↔ s.toList = [] := ⟨fun h => by subst h; exact emp_toList, fun h => toList_ba (by rw [h, emp_toList])⟩
set_option maxHeartbeats 1000000 in
theorem order_any (x y : ByteArray × ByteArray) (w : World) :
 Calls Try.prog 96 #[.agg #[.string x.1, .string x.2], .agg #[.string y.1, .string y.2]] w fun e w' => e = .returned (.int .i64 (Lib.compareBytes x.1.data.toList y.1.data.toList)) ∧ Below w.heap.size w w' := by
 go_enter Try.func96, Try.ntmps96
 go_wp2_with fail
 refine (Try.strings_Compare _ _ _).mono ?_; rintro e w1 ⟨rfl, rfl⟩; go_wp2_with fail
 go_ret
 exact ⟨rfl, ((Below.refl _ _).alloc (Nat.le_refl _) _).alloc (by simp) _⟩
set_option maxHeartbeats 1000000 in
theorem chFollow_any (first : Bool) (c : Nat) (x y : Value) (ox oy : O) (w : World) (hc : w.cell? ⟨c, 0, none⟩ = some (.bool first)) (hx : PtrAt w x ox) (hy : PtrAt w y oy) :
 Calls Try.prog 106 #[x, y, .pointer (some ⟨c, 0, none⟩)] w (ChOut w (chFollow first ox oy)) := by
 have Hy := Lib.hid hy; clear hy; cases ox with
 | none =>
   obtain rfl : x = .pointer none := hx; have ho : chFollow first none oy = oy := by unfold chFollow; rfl
   have Ho := Lib.hid ho; clear ho; go_enter Try.func106, Try.ntmps106
   go_wp2_with fail
   go_ret
   refine ⟨_, rfl, ?_, Below.refl _ _⟩; rw [Ho.out]; exact Hy.out
 | some z =>
   obtain ⟨b, off, rfl, h1, h2, h3⟩ := hx; cases first with
   | true =>
     go_enter Try.func106, Try.ntmps106
     go_wp2_with fail
     go_ret
     refine ⟨_, rfl, ?_, Below.refl _ _⟩; exact Hy.out
   | false =>
     go_enter Try.func106, Try.ntmps106
     go_wp2_with fail
     go_ret
     refine ⟨_, rfl, ?_, Below.refl _ _⟩; rfl
end
section
open Go.RowKit At
theorem AtRow.open {w : World} {v : Value} {x : ByteArray × ByteArray} {r : List (ByteArray × ByteArray)} (h : AtRow w v (x :: r)) :
 ∃ b off cap, v = .slice (some ⟨b, off, none⟩) (r.length + 1) cap ∧ r.length + 1 ≤ cap ∧ cap ≤ maxLen ∧ b < w.heap.size ∧ w.cell? ⟨b, off, none⟩ = some (.string x.1) ∧ w.cell? ⟨b, off + 1, none⟩ = some (.string x.2) := by
 obtain ⟨a, cap, rfl, h1, h2, h3⟩ := h; obtain ⟨b, off, rfl, h4, h5, h6⟩ := h3 0 (by simp); exact ⟨b, off, cap, rfl, h1, h2, h4, by simpa using h5, by simpa using h6⟩
theorem AtRow.open0 {w : World} {v : Value} (h : AtRow w v []) : ∃ a cap, v = .slice a 0 cap := by
 obtain ⟨a, cap, rfl, _⟩ := h; exact ⟨a, cap, rfl⟩
theorem tail_run {w : World} {x : ByteArray × ByteArray} {r : List (ByteArray × ByteArray)} {b off cap : Nat} (h : AtRow w (.slice (some ⟨b, off, none⟩) (r.length + 1) cap) (x :: r)) :
 ∃ v', (∀ W, (Instr.sliceAt 38 (.slice (some ⟨b, off, none⟩) (r.length + 1) cap) (some (.int .i64 1)) none none).run Try.prog W = .ok v' W) ∧ AtRow w v' r := by
 obtain ⟨a, cap', he, h1, h2, h3⟩ := h; simp only [Value.slice.injEq] at he; obtain ⟨rfl, _, rfl⟩ := he; refine ⟨sliced (some ⟨b, off, none⟩) 1 (r.length + 1) cap 2, fun W => by rw [run_sliceAt_slice W _ _ _ _ _ undAttrs, run_slice_l W _ _ _ _ undAttrs .i64 _ (by omega) (by omega), elemAttrs, Try.sizeOf81]; rfl, ?_⟩; have hl : (x :: r).length = r.length + 1 := rfl; rw [hl] at h1; unfold sliced
 by_cases hc : cap = 1
 ·rw [if_pos hc]
  refine ⟨some ⟨b, off, none⟩, cap - 1, by rw [Nat.add_sub_cancel], by omega, by omega, fun i hi => by omega⟩
 ·rw [if_neg hc]
  refine ⟨some ⟨b, off + 2, none⟩, cap - 1, by rw [Nat.add_sub_cancel]; rfl, by omega, by omega, fun i hi => ?_⟩; obtain ⟨b', off', he, h4, h5, h6⟩ := h3 (i + 1) (by simp; exact hi); simp only [Option.some.injEq, Addr.mk.injEq, and_true] at he; obtain ⟨rfl, rfl⟩ := he; have e1 : off + 2 + i * 2 = off + (i + 1) * 2 := by omega
  exact ⟨b, off + 2, rfl, h4, by rw [e1]; simpa using h5, by rw [e1]; simpa using h6⟩
theorem wpList_tail {P : Program} {ops : Array Oper} {Q : Exit → Act → World → Prop} {a : Act} {w : World} {rest : List Oper} {dst : Option Tmp} {t ty : TypeId} {pos : String} {after : Array Edge} {x : Operand} (v v' : Value)
 (hx : a.eval x = v) (hrun : (Instr.sliceAt t v (some (.int .i64 1)) none none).run P w = .ok v' w) (h : wpList P ops Q rest (a.put dst v') w) :
 wpList P ops Q ({ dst := dst, op := .slice t x (some (.const (.int .i64 1))) none none, type := ty, pos := pos, after := after, guard := none } :: rest) a w :=
 wpList_plain rfl fun K hK => by
  subst hx; have hk := hK _ _ h; have e : (execOp a.eval { dst := dst, op := .slice t x (some (.const (.int .i64 1))) none none, type := ty, pos := pos, after := after, guard := none }).run P w = .ok (.value v') w := by
   show (Sem.run P (do let v ← Instr.sliceAt t (a.eval x) (some (.int .i64 1)) none none; pure (Next.value v)) w) = _
   rw [Sem.run_bind, hrun]; rfl
  show Oper.upon _ _ _ _ _ _
  rw [e]; exact hk
theorem cmpB (a b : ByteArray) : Lib.compareBytes a.data.toList b.data.toList = if ltB a b = true then -1 else if ltB b a = true then 1 else 0 := by
 rw [At.cmp_eq]; unfold ltB; rw [ByteArray.toList_eq, ByteArray.toList_eq]
theorem order_at (x y : ByteArray × ByteArray) (c : Int) (hc : Lib.compareBytes x.1.data.toList y.1.data.toList = c) (W : World) :
 Calls Try.prog 96 #[.agg #[.string x.1, .string x.2], .agg #[.string y.1, .string y.2]] W fun e w' => e = .returned (.int .i64 c) ∧ Below W.heap.size W w' := by
 subst hc; exact order_any x y W
theorem ptr_of {w W : World} {b off : Nat} {x : ByteArray × ByteArray} (BW : Below w.heap.size w W) (lt : b < w.heap.size) (p : w.cell? ⟨b, off, none⟩ = some (.string x.1) ∧ w.cell? ⟨b, off + 1, none⟩ = some (.string x.2)) : PtrAt W (.pointer (some ⟨b, off, none⟩)) (some x) :=
 ⟨b, off, rfl, Nat.lt_of_lt_of_le lt BW.size, by rw [BW.cell (by exact lt)]; exact p.1, by rw [BW.cell (by exact lt)]; exact p.2⟩
structure Chooses (F : FuncId) (C : Array Value) (ch : O → O → O) (w0 : World) : Prop where
 enters : ∀ args W, (callFunc F args).run Try.prog W = .ok (.enter F args) W
 does : ∀ (x y : Value) (ox oy : O) (W : World), Below w0.heap.size w0 W → PtrAt W x ox → PtrAt W y oy → Calls Try.prog F (#[x, y] ++ C) W (ChOut W (ch ox oy))
end
end Go.Proofs.Ytchceolbbkhnnaa
