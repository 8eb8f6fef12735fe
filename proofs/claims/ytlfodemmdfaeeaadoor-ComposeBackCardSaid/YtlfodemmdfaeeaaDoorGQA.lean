/- Texts of this seat, put together: AtMergeQ, AtClosQ, AtApplyQ, AtLawsQ, CsQ, DyQ, DrQ, DkQ, HaQ, CtQ, CuQ, MhQ, MiQ, CvQ, MnQ, MoQ. -/
import Derived.Test.YtlfodemmdfaeeaaDoorGB1
import Derived.Test.YtlfodemmdfaeeaaDoorGB3
import Derived.Test.YtlfodemmdfaeeaaDoorGP1
import Derived.Test.YtlfodemmdfaeeaaDoorGG1
import Derived.Test.YtlfodemmdfaeeaaDoorGE2
import Derived.Test.YtlfodemmdfaeeaaDoorGH1
import Derived.Test.YtlfodemmdfaeeaaDoorGP2
import Derived.Test.YtlfodemmdfaeeaaDoorGM4
import Derived.Test.YtlfodemmdfaeeaaDoorGM5
import Derived.Lib.Bytealg
import Derived.RangeFuncBox
/- Plain maths of merging two rising rows by a choice. -/
namespace Go.Proofs.YtlfodemmdfaeeaaDoor
namespace At

def chCompose (x y : O) : O := match y with | none => x | some y => some y
def chInvert (x y : O) : O := match y with | none => none | some y => if (x.getD (y.1, emp)).2 = y.2 then none else some (x.getD (y.1, emp))

theorem keepsCompose : Keeps chCompose where
  none := rfl
  key k x y z hx hy h := by
    cases y with
    | none => exact hx z h
    | some y => exact hy z h
theorem keepsInvert : Keeps chInvert where
  none := rfl
  key k x y z hx hy h := by
    cases y with
    | none => cases h
    | some y =>
      unfold chInvert at h
      simp only at h
      split at h
      · cases h
      · cases h
        cases x with
        | none => exact hy y rfl
        | some x => exact hx _ rfl

theorem merge_compose {a b : List (K × V)} (ha : Rises ltB a) (hb : Rises ltB b) : mergeL chCompose a b = composeL ltB a b := by
  obtain ⟨h1, h2⟩ := merge_all keepsCompose a b ha hb
  obtain ⟨h3, h4⟩ := compose_all strictB ha hb
  refine ext strictB h1 h3 fun k => ?_
  rw [h2, h4]
  unfold at2 chCompose
  cases look a k <;> cases look b k <;> simp
theorem merge_invert {l c : List (K × V)} (hl : Rises ltB l) (hc : Rises ltB c) : mergeL chInvert l c = invertL emp l c := by
  obtain ⟨h1, h2⟩ := merge_all keepsInvert l c hl hc
  obtain ⟨h3, h4⟩ := invert_all strictB emp (l := l) hc
  refine ext strictB h1 h3 fun k => ?_
  rw [h2, h4]
  unfold at2 chInvert
  cases hlv : look l k <;> cases hcv : look c k with
  | none => simp
  | some v => simp; split <;> simp_all
end At
end Go.Proofs.YtlfodemmdfaeeaaDoor

/- The program's closures: the order of two attributes, and the four choices. -/
namespace Go.Proofs.YtlfodemmdfaeeaaDoor
open Go.RowKit At

set_option maxHeartbeats 1000000 in
theorem chCompose_any (x y : Value) (ox oy : O) (w : World) (hx : PtrAt w x ox) (hy : PtrAt w y oy) :
    Calls Tryd.prog 91 #[x, y] w (ChOut w (chCompose ox oy)) := by
  cases oy with
  | none =>
    obtain rfl : y = .pointer none := hy
    have Hx := Lib.hid hx
    clear hx
    go_enter Tryd.func91, Tryd.ntmps91
    go_wp2_with fail
    go_ret
    exact ⟨_, rfl, Hx.out, Below.refl _ _⟩
  | some z =>
    have Hy := Lib.hid hy
    obtain ⟨b, off, rfl, h1, h2, h3⟩ := hy
    clear hx
    go_enter Tryd.func91, Tryd.ntmps91
    go_wp2_with fail
    go_ret
    exact ⟨_, rfl, Hy.out, Below.refl _ _⟩

set_option maxHeartbeats 1000000 in
theorem chInvert_any (x y : Value) (ox oy : O) (w : World) (hx : PtrAt w x ox) (hy : PtrAt w y oy) :
    Calls Tryd.prog 47 #[x, y] w (ChOut w (chInvert ox oy)) := by
  cases oy with
  | none =>
    obtain rfl : y = .pointer none := hy
    clear hx
    go_enter Tryd.func47, Tryd.ntmps47
    go_wp2_with fail
    go_ret
    exact ⟨_, rfl, rfl, Below.refl _ _⟩
  | some z =>
    obtain ⟨b, off, rfl, h1, h2, h3⟩ := hy
    cases ox with
    | none =>
      obtain rfl : x = .pointer none := hx
      by_cases hz : emp = z.2
      · have t0 : ([] == z.2.toList) = true := by rw [beq_empty.1 hz.symm]; rfl
        have t1 : z.2.toList.isEmpty = true := by rw [beq_empty.1 hz.symm]; rfl
        have ho : chInvert none (some z) = none := by unfold chInvert; simp only [Option.getD_none]; rw [if_pos hz]
        have Ho := Lib.hid ho
        clear hz ho
        go_enter Tryd.func47, Tryd.ntmps47
        go_wp2_with fail
        go_quiet (fail)
        go_wp2_with fail
        go_ret
        refine ⟨_, rfl, ?_, below_drewN ((Below.refl _ _).alloc (Nat.le_refl _) _) _⟩
        rw [Ho.out]; rfl
      · have t0 : ([] == z.2.toList) = false := by rw [beq_eq_false_iff_ne]; exact fun e => hz (beq_empty.2 e.symm).symm
        have t1 : z.2.toList.isEmpty = false := by cases h : z.2.toList with | nil => rw [h] at t0; cases t0 | cons _ _ => rfl
        have ho : chInvert none (some z) = some (z.1, emp) := by unfold chInvert; simp only [Option.getD_none]; rw [if_neg hz]
        have Ho := Lib.hid ho
        clear hz ho
        go_enter Tryd.func47, Tryd.ntmps47
        go_wp2_with fail
        go_quiet (fail)
        go_wp2_with fail
        go_ret
        refine ⟨_, rfl, ?_, below_drewN ((Below.refl _ _).alloc (Nat.le_refl _) _) _⟩
        rw [Ho.out]
        exact ⟨w.heap.size, 0, rfl, by simp, by go_simp, by go_simp; rfl⟩
    | some u =>
      have Hx := Lib.hid hx
      obtain ⟨b', off', rfl, g1, g2, g3⟩ := hx
      by_cases hz : u.2 = z.2
      · have t0 : (u.2.toList == z.2.toList) = true := by rw [hz]; simp
        have ho : chInvert (some u) (some z) = none := by unfold chInvert; simp only [Option.getD_some]; rw [if_pos hz]
        have Ho := Lib.hid ho
        clear hz ho
        go_enter Tryd.func47, Tryd.ntmps47
        go_wp2_with fail
        go_quiet (fail)
        go_wp2_with fail
        go_ret
        refine ⟨_, rfl, ?_, below_drewN (Below.refl _ _) _⟩
        rw [Ho.out]; rfl
      · have t0 : (u.2.toList == z.2.toList) = false := by rw [beq_eq_false_iff_ne]; exact fun e => hz (toList_ba e)
        have ho : chInvert (some u) (some z) = some u := by unfold chInvert; simp only [Option.getD_some]; rw [if_neg hz]
        have Ho := Lib.hid ho
        clear hz ho
        go_enter Tryd.func47, Tryd.ntmps47
        go_wp2_with fail
        go_quiet (fail)
        go_wp2_with fail
        go_ret
        refine ⟨_, rfl, ?_, below_drewN (Below.refl _ _) _⟩
        rw [Ho.out]; exact Hx.out.below (below_drewN (Below.refl _ _) _)
end Go.Proofs.YtlfodemmdfaeeaaDoor

/- The program's Apply, Compose, Follow, Invert. -/
namespace Go.Proofs.YtlfodemmdfaeeaaDoor
open Go.RowKit At

theorem choosesCompose (w : World) : Chooses 91 #[] chCompose w where
  enters args W := by kernel_rfl
  does x y ox oy W _ hx hy := chCompose_any x y ox oy W hx hy
theorem choosesInvert (w : World) : Chooses 47 #[] chInvert w where
  enters args W := by kernel_rfl
  does x y ox oy W _ hx hy := chInvert_any x y ox oy W hx hy
theorem valB_emp : valB emp = true := by decide +kernel

theorem mem_invertL {l c : List (K × V)} {x : K × V} (h : x ∈ invertL emp l c) : (∃ v, (x.1, v) ∈ c) ∧ (x.2 = emp ∨ x ∈ l) := by
  obtain ⟨v, h1, h2, _⟩ := invert_mem h
  refine ⟨⟨v, h1⟩, ?_⟩
  cases hk : At.look l x.1 with
  | none => rw [hk] at h2; exact .inl h2
  | some u =>
    rw [hk] at h2
    have := look_mem hk
    right
    have e : x = (x.1, u) := Prod.ext rfl h2
    rw [e]; exact this

set_option maxHeartbeats 2000000 in
theorem composeD_any (v u : Value) (l c : List (K × V)) (w : World) (hv : AtRow w v l) (hu : AtRow w u c) (hl : Sized l) (hc : Sized c) :
    Calls Tryd.prog 61 #[v, u] w (RowOut w (composeR l c) (composeE l c)) := by
  have Hv := Lib.hid hv
  have Hu := Lib.hid hu
  have Hl := Lib.hid hl
  have Hc := Lib.hid hc
  clear hv hu hl hc
  cases hr : chgB l with
  | false =>
    have hE : chgE l = 20 := by unfold chgE; rw [hr]; rfl
    have h1 : composeR l c = [] ∧ composeE l c = 20 := by unfold composeR composeE; rw [hr]; exact ⟨rfl, rfl⟩
    rw [h1.1, h1.2]
    clear h1 hr
    have HE := Lib.hid hE
    clear hE
    go_enter Tryd.func61, Tryd.ntmps61
    go_wp2_with fail
    refine (changeD_any v l _ Hv.out Hl.out).mono ?_
    rw [HE.out]
    rintro e w1 ⟨rfl, b1⟩
    go_wp2_with fail
    go_ret2
    exact rowOut_nil b1
  | true =>
    have hE : chgE l = 0 := by unfold chgE; rw [hr]; rfl
    have HE := Lib.hid hE
    clear hE
    cases hch : chgB c with
    | false =>
      have hE2 : chgE c = 20 := by unfold chgE; rw [hch]; rfl
      have h1 : composeR l c = [] ∧ composeE l c = 20 := by unfold composeR composeE; rw [hr, hch]; exact ⟨rfl, rfl⟩
      rw [h1.1, h1.2]
      clear h1 hr hch
      have HE2 := Lib.hid hE2
      clear hE2
      go_enter Tryd.func61, Tryd.ntmps61
      go_wp2_with fail
      refine (changeD_any v l _ Hv.out Hl.out).mono ?_
      rw [HE.out]
      rintro e w1 ⟨rfl, b1⟩
      have s1 := b1.size
      go_wp2_with fail
      refine (changeD_any u c _ (Hu.out.below b1) Hc.out).mono ?_
      rw [HE2.out]
      rintro e w2 ⟨rfl, b2⟩
      go_wp2_with fail
      go_ret2
      exact rowOut_nil (b1.trans (b2.mono s1))
    | true =>
      have hE2 : chgE c = 0 := by unfold chgE; rw [hch]; rfl
      have HE2 := Lib.hid hE2
      obtain ⟨ll, lo, lr⟩ := chg_iff.1 hr
      obtain ⟨cl, co, cr⟩ := chg_iff.1 hch
      have hm : mergeL chCompose l c = composeL ltB l c := merge_compose lr cr
      have Hm := Lib.hid hm
      have hsz : ∀ x ∈ mergeL chCompose l c, x.1.size ≤ 64 ∧ x.2.size ≤ 64 := by
        rw [hm]
        intro x hx
        rcases mem_composeL hx with h | h
        · exact ⟨keyB_size (lo x h).1, valB_size (lo x h).2⟩
        · exact ⟨keyB_size (co x h).1, valB_size (co x h).2⟩
      have Hsz := Lib.hid hsz
      clear hm hsz
      by_cases h8 : (composeL ltB l c).length ≤ 8
      · have h1 : composeR l c = composeL ltB l c ∧ composeE l c = 0 := by unfold composeR composeE; rw [hr, hch]; simp [h8]
        rw [h1.1, h1.2]
        clear h1
        clear hE2 hr hch lo co lr cr
        go_enter Tryd.func61, Tryd.ntmps61
        go_wp2_with fail
        refine (changeD_any v l _ Hv.out Hl.out).mono ?_
        rw [HE.out]
        rintro e w1 ⟨rfl, b1⟩
        have s1 := b1.size
        go_wp2_with fail
        refine (changeD_any u c _ (Hu.out.below b1) Hc.out).mono ?_
        rw [HE2.out]
        rintro e w2 ⟨rfl, b2⟩
        have s2 := b2.size
        go_wp2_with fail
        refine (cloned_any _ _ _ v u l c _ (choosesCompose _) (Hv.out.below (b1.trans (b2.mono s1))) (Hu.out.below (b1.trans (b2.mono s1))) ll cl Hsz.out).mono ?_
        rw [Hm.out]
        rintro e w3 ⟨r, rfl, o3, b3⟩
        have s3 := b3.size
        obtain ⟨ar, capr, rfl⟩ := own_slice o3
        go_wp2_with fail
        refine (limited_ok _ _ _ _ h8).mono ?_
        rintro e w4 ⟨rfl, rfl⟩
        go_wp2_with fail
        go_ret2
        exact ⟨_, rfl, own_base o3 (Nat.le_trans s1 s2), ((b1.trans (b2.mono s1)).trans (b3.mono (Nat.le_trans s1 s2)))⟩
      · have h1 : composeR l c = [] ∧ composeE l c = 3 := by unfold composeR composeE; rw [hr, hch]; simp [h8]
        rw [h1.1, h1.2]
        clear h1
        clear hE2 hr hch lo co lr cr
        go_enter Tryd.func61, Tryd.ntmps61
        go_wp2_with fail
        refine (changeD_any v l _ Hv.out Hl.out).mono ?_
        rw [HE.out]
        rintro e w1 ⟨rfl, b1⟩
        have s1 := b1.size
        go_wp2_with fail
        refine (changeD_any u c _ (Hu.out.below b1) Hc.out).mono ?_
        rw [HE2.out]
        rintro e w2 ⟨rfl, b2⟩
        have s2 := b2.size
        go_wp2_with fail
        refine (cloned_any _ _ _ v u l c _ (choosesCompose _) (Hv.out.below (b1.trans (b2.mono s1))) (Hu.out.below (b1.trans (b2.mono s1))) ll cl Hsz.out).mono ?_
        rw [Hm.out]
        rintro e w3 ⟨r, rfl, o3, b3⟩
        have s3 := b3.size
        obtain ⟨ar, capr, rfl⟩ := own_slice o3
        go_wp2_with fail
        refine (limited_no _ _ _ _ h8).mono ?_
        rintro e w4 ⟨rfl, rfl⟩
        go_wp2_with fail
        go_ret2
        exact rowOut_nil ((b1.trans (b2.mono s1)).trans (b3.mono (Nat.le_trans s1 s2)))

set_option maxHeartbeats 2000000 in
theorem invertD_any (v u : Value) (l c : List (K × V)) (w : World) (hv : AtRow w v l) (hu : AtRow w u c) (hl : Sized l) (hc : Sized c) :
    Calls Tryd.prog 20 #[v, u] w (RowOut w (invertR l c) (invertE l c)) := by
  have Hv := Lib.hid hv
  have Hu := Lib.hid hu
  have Hl := Lib.hid hl
  have Hc := Lib.hid hc
  clear hv hu hl hc
  cases hr : rgtB l with
  | false =>
    have hE : rgtE l = 20 := by unfold rgtE; rw [hr]; rfl
    have h1 : invertR l c = [] ∧ invertE l c = 20 := by unfold invertR invertE; rw [hr]; exact ⟨rfl, rfl⟩
    rw [h1.1, h1.2]
    clear h1 hr
    have HE := Lib.hid hE
    clear hE
    go_enter Tryd.func20, Tryd.ntmps20
    go_wp2_with fail
    refine (rightD_any v l _ Hv.out Hl.out).mono ?_
    rw [HE.out]
    rintro e w1 ⟨rfl, b1⟩
    go_wp2_with fail
    go_ret2
    exact rowOut_nil b1
  | true =>
    have hE : rgtE l = 0 := by unfold rgtE; rw [hr]; rfl
    have HE := Lib.hid hE
    clear hE
    cases hch : chgB c with
    | false =>
      have hE2 : chgE c = 20 := by unfold chgE; rw [hch]; rfl
      have h1 : invertR l c = [] ∧ invertE l c = 20 := by unfold invertR invertE; rw [hr, hch]; exact ⟨rfl, rfl⟩
      rw [h1.1, h1.2]
      clear h1 hr hch
      have HE2 := Lib.hid hE2
      clear hE2
      go_enter Tryd.func20, Tryd.ntmps20
      go_wp2_with fail
      refine (rightD_any v l _ Hv.out Hl.out).mono ?_
      rw [HE.out]
      rintro e w1 ⟨rfl, b1⟩
      have s1 := b1.size
      go_wp2_with fail
      refine (changeD_any u c _ (Hu.out.below b1) Hc.out).mono ?_
      rw [HE2.out]
      rintro e w2 ⟨rfl, b2⟩
      go_wp2_with fail
      go_ret2
      exact rowOut_nil (b1.trans (b2.mono s1))
    | true =>
      have hE2 : chgE c = 0 := by unfold chgE; rw [hch]; rfl
      have HE2 := Lib.hid hE2
      obtain ⟨ll, lo, lr⟩ := rgt_iff.1 hr
      obtain ⟨cl, co, cr⟩ := chg_iff.1 hch
      have hm : mergeL chInvert l c = invertL emp l c := merge_invert lr cr
      have Hm := Lib.hid hm
      have hsz : ∀ x ∈ mergeL chInvert l c, x.1.size ≤ 64 ∧ x.2.size ≤ 64 := by
        rw [hm]
        intro x hx
        obtain ⟨⟨q, h1⟩, h2⟩ := mem_invertL hx
        refine ⟨keyB_size (co _ h1).1, ?_⟩
        rcases h2 with h2 | h2
        · rw [h2]; exact valB_size valB_emp
        · exact valB_size (valNE_iff.1 (lo x h2).2).2
      have Hsz := Lib.hid hsz
      clear hm hsz
      have h1 : invertR l c = invertL emp l c ∧ invertE l c = 0 := by unfold invertR invertE; rw [hr, hch]; simp
      rw [h1.1, h1.2]
      clear h1
      clear hE2 hr hch lo co lr cr
      go_enter Tryd.func20, Tryd.ntmps20
      go_wp2_with fail
      refine (rightD_any v l _ Hv.out Hl.out).mono ?_
      rw [HE.out]
      rintro e w1 ⟨rfl, b1⟩
      have s1 := b1.size
      go_wp2_with fail
      refine (changeD_any u c _ (Hu.out.below b1) Hc.out).mono ?_
      rw [HE2.out]
      rintro e w2 ⟨rfl, b2⟩
      have s2 := b2.size
      go_wp2_with fail
      refine (cloned_any _ _ _ v u l c _ (choosesInvert _) (Hv.out.below (b1.trans (b2.mono s1))) (Hu.out.below (b1.trans (b2.mono s1))) ll cl Hsz.out).mono ?_
      rw [Hm.out]
      rintro e w3 ⟨r, rfl, o3, b3⟩
      have s3 := b3.size
      go_wp2_with fail
      go_ret2
      exact ⟨_, rfl, own_base o3 (Nat.le_trans s1 s2), ((b1.trans (b2.mono s1)).trans (b3.mono (Nat.le_trans s1 s2)))⟩
end Go.Proofs.YtlfodemmdfaeeaaDoor

/- What follows of the four works, in plain words, and their contracts as the laws' walks take them. -/
namespace Go.Proofs.YtlfodemmdfaeeaaDoor
open Go.RowKit At

theorem composeE_zero {a b : List (K × V)} (h : composeE a b = 0) : chgB a = true ∧ chgB b = true ∧ (composeL ltB a b).length ≤ 8 ∧ composeR a b = composeL ltB a b := by
  unfold composeE at h
  unfold composeR
  split at h
  · rename_i h1
    rw [if_pos h1]
    split at h
    · rename_i h2
      rw [if_pos h2]
      simp only [Bool.and_eq_true] at h1
      exact ⟨h1.1, h1.2, h2, rfl⟩
    · cases h
  · cases h
theorem composeE_big {a b : List (K × V)} (h1 : chgB a = true) (h2 : chgB b = true) (h3 : ¬ (composeL ltB a b).length ≤ 8) : composeE a b = 3 ∧ composeR a b = [] := by
  unfold composeE composeR
  rw [h1, h2]
  simp [h3]
theorem chg_invert {l c : List (K × V)} (hl : rgtB l = true) (hc : chgB c = true) : chgB (invertL emp l c) = true := by
  obtain ⟨_, l2, l3⟩ := rgt_iff.1 hl
  obtain ⟨c1, c2, c3⟩ := chg_iff.1 hc
  refine chg_iff.2 ⟨Nat.le_trans (List.length_filterMap_le _ _) c1, fun x hx => ?_, (invert_all strictB emp c3).1⟩
  obtain ⟨⟨q, h1⟩, h2⟩ := mem_invertL hx
  refine ⟨(c2 _ h1).1, ?_⟩
  rcases h2 with h2 | h2
  · rw [h2]; exact valB_emp
  · exact (valNE_iff.1 (l2 x h2).2).2

theorem back_all {l a : List (K × V)} (h : applyE l a = 0) : invertE l a = 0 ∧ applyE (applyR l a) (invertR l a) = 0 ∧ applyR (applyR l a) (invertR l a) = l := by
  obtain ⟨h1, h2, h3, h4⟩ := applyE_zero h
  obtain ⟨i1, i2⟩ := invertE_mk h1 h2
  obtain ⟨l1, l2, l3⟩ := rgt_iff.1 h1
  obtain ⟨_, _, a3⟩ := chg_iff.1 h2
  have hb := back strictB emp l3 a3 fun x hx => (valNE_iff.1 (l2 x hx).2).1
  rw [h4, i2]
  obtain ⟨j1, j2⟩ := applyE_mk (rgt_apply h1 h2 h3) (chg_invert h1 h2) (by rw [hb]; exact l1)
  exact ⟨i1, j1, by rw [j2, hb]⟩
theorem two_all {l a b : List (K × V)} (h : applyE l a = 0) (h' : applyE (applyR l a) b = 0) (h'' : composeE a b = 0) : applyE l (composeR a b) = 0 ∧ applyR l (composeR a b) = applyR (applyR l a) b := by
  obtain ⟨h1, h2, h3, h4⟩ := applyE_zero h
  obtain ⟨k1, k2, k3, k4⟩ := applyE_zero h'
  obtain ⟨c1, c2, c3, c4⟩ := composeE_zero h''
  obtain ⟨_, _, l3⟩ := rgt_iff.1 h1
  obtain ⟨_, _, a3⟩ := chg_iff.1 h2
  obtain ⟨_, _, b3⟩ := chg_iff.1 k2
  have ht := two strictB emp l3 a3 b3
  rw [k4, c4]
  rw [h4] at k3 ⊢
  obtain ⟨j1, j2⟩ := applyE_mk h1 (chg_compose c1 c2 c3) (by rw [← ht]; exact k3)
  exact ⟨j1, by rw [j2, ht]⟩
end Go.Proofs.YtlfodemmdfaeeaaDoor

/- Two changesets as one: what may be, how long it is; with nothing; three. -/
namespace Go.Proofs.YtlfodemmdfaeeaaDoor
namespace Cp
open Rn Ch
open At hiding put

theorem fit_nil (B : List Atm) : fit [] B := by
  induction B with
  | nil => rw [fit] <;> simp
  | cons y B ih => cases y <;> (rw [fit] <;> first | exact ih | simp)
theorem fit_nilr (A : List Atm) : fit A [] := by
  induction A with
  | nil => exact fit_nil []
  | cons x A ih =>
    cases x with
    | del => exact (fit_del A []).2 ih
    | ins c a => rw [fit] <;> simp
    | keep a => rw [fit] <;> simp
theorem fit_ni (A : List Atm) (d : Nat) (b : AL) (B : List Atm) : fit A (.ins d b :: B) ↔ fit A B := by
  induction A with
  | nil => exact ⟨fun _ => fit_nil _, fun _ => fit_nil _⟩
  | cons x A ih =>
    cases x with
    | del => rw [fit_del, fit_del]; exact ih
    | ins c a => exact fit_ii c a A d b B
    | keep a => exact fit_ki a A d b B
end Cp
end Go.Proofs.YtlfodemmdfaeeaaDoor

/- Documents as rows of cells: put together, and apart; what operations make of them; normal forms do the same. -/
namespace Go.Proofs.YtlfodemmdfaeeaaDoor
open Go.RowKit Rn Ch At

theorem chgE_zero {a : AtL} : chgE a = 0 ↔ chgB a = true := by
  unfold chgE
  split
  · exact ⟨fun _ => by assumption, fun _ => rfl⟩
  · rename_i h; exact ⟨fun h' => by omega, fun h' => absurd h' h⟩
end Go.Proofs.YtlfodemmdfaeeaaDoor

/- The program's remembered: a way to make attributes of two rows, gone anew only where they are others. -/
namespace Go.Proofs.YtlfodemmdfaeeaaDoor
open Go.RowKit At Ch

set_option maxRecDepth 100000 in
theorem remembered_i (B : Nat) (w : World) : Calls Tryd.prog 19 #[.func (.func 20) #[] #[]] w fun e w' => e = .returned (.func (.func 43) #[] (capR w.heap.size)) ∧ Below w.heap.size w w' ∧ RemSt 20 invertR invertE w' B w.heap.size [] [] := by
  go_enter Tryd.func19, Tryd.ntmps19
  go_wp2_with fail
  go_ret
  refine ⟨rfl, ?_, .slice none 0 0, .slice none 0 0, .slice none 0 0, ?_, ?_, ?_, ?_, ?_, fun w' _ => row_nil w', fun w' _ => row_nil w', by rw [show invertR [] [] = [] by decide +kernel]; exact World.ownsRow_nil _ _ _ _⟩
  · exact (((((Below.refl _ w).alloc (Nat.le_refl _) _).alloc (by simp) _).alloc (by simp; omega) _).alloc (by simp; omega) _).alloc (by simp; omega) _
  · exact ((((Boxed.new w _ _).alloc _).alloc _).alloc _).alloc _
  · have := (((Boxed.new (w.alloc (.cells #[.func (.func 20) #[] #[]] WAYT)) 43 (.slice none 0 0)).alloc (.cells #[.slice none 0 0] 43)).alloc (.cells #[.slice none 0 0] 43)).alloc (.cells #[.int .i64 0] 27)
    simpa only [World.size_alloc] using this
  · have := ((Boxed.new ((w.alloc (.cells #[.func (.func 20) #[] #[]] WAYT)).alloc (.cells #[.slice none 0 0] 43)) 43 (.slice none 0 0)).alloc (.cells #[.slice none 0 0] 43)).alloc (.cells #[.int .i64 0] 27)
    simpa only [World.size_alloc] using this
  · have := (Boxed.new (((w.alloc (.cells #[.func (.func 20) #[] #[]] WAYT)).alloc (.cells #[.slice none 0 0] 43)).alloc (.cells #[.slice none 0 0] 43)) 43 (.slice none 0 0)).alloc (.cells #[.int .i64 0] 27)
    simpa only [World.size_alloc] using this
  · rw [show invertE [] [] = 0 by decide +kernel]
    have := Boxed.new ((((w.alloc (.cells #[.func (.func 20) #[] #[]] WAYT)).alloc (.cells #[.slice none 0 0] 43)).alloc (.cells #[.slice none 0 0] 43)).alloc (.cells #[.slice none 0 0] 43)) 27 (.int .i64 0)
    simpa only [World.size_alloc] using this

def LaidOut_i (w : World) (B bb : Nat) (L C : List (K × V)) (e : Ending) (w' : World) : Prop :=
  ∃ av, e = .returned (.tuple #[av, .int .i64 (invertE L C)]) ∧ RemSt 20 invertR invertE w' B bb L C ∧ w'.ownsRow B 99 2 av (invertR L C).length (flat (invertR L C)) ∧ Keep bb TM w w'

set_option maxRecDepth 100000 in
set_option maxHeartbeats 4000000 in
theorem laid_i (B bb : Nat) (L C L' C' : List (K × V)) (v u : Value) (w : World) (h : RemSt 20 invertR invertE w B bb L C) (hB : B ≤ bb) (hv : ∀ w', Below B w w' → AtRow w' v L') (hu : ∀ w', Below B w w' → AtRow w' u C') (hz : Sized L') (hy : Sized C') :
    Calls Tryd.prog 43 (#[v, u] ++ capR bb) w (LaidOut_i w B bb L' C') := by
  have h' := h
  obtain ⟨lv, cv, av, a, b, c, d, e, f, g, i⟩ := h
  have hbw : B ≤ w.heap.size := Nat.le_trans hB (Nat.le_of_lt a.lt)
  have hbb : bb ≤ w.heap.size := Nat.le_of_lt a.lt
  obtain ⟨va, vc, rfl⟩ := (hv w (Below.refl _ _)).shape
  obtain ⟨ua, uc, rfl⟩ := (hu w (Below.refl _ _)).shape
  obtain ⟨la, lc, rfl⟩ := (f w (Below.refl _ _)).shape
  obtain ⟨ca, cc, rfl⟩ := (g w (Below.refl _ _)).shape
  obtain ⟨aa, ac, rfl⟩ := own_slice i
  have a0 := a.cell
  have b0 := b.cell
  have c0 := c.cell
  have d0 := d.cell
  have e0 := e.cell
  have HS1 := Lib.hid (fun n => same_any (.slice va L'.length vc) (.slice la L.length lc) L' L (w.drewN n) (hv _ (below_drewN (Below.refl _ _) n)) (f _ (below_drewN (Below.refl _ _) n)))
  have HS2 := Lib.hid (fun n => same_any (.slice ua C'.length uc) (.slice ca C.length cc) C' C (w.drewN n) (hu _ (below_drewN (Below.refl _ _) n)) (g _ (below_drewN (Below.refl _ _) n)))
  have HH := Lib.hid h'
  have HI := Lib.hid i
  by_cases hL : L' = L
  · by_cases hC : C' = C
    · have s1 := sameB_of hL
      have s2 := sameB_of hC
      have HE := Lib.hid (And.intro hL hC)
      clear h' f g i hL hC
      unfold capR
      go_enter Tryd.func43, Tryd.ntmps43
      go_wp2_with fail
      refine (HS1.out 0).mono ?_
      rintro e w1 ⟨rfl, k1, rfl⟩
      rw [s1]
      go_wp2_with fail
      refine (HS2.out k1).mono ?_
      rintro e w2 ⟨rfl, k2, rfl⟩
      rw [s2]
      go_wp2_with fail
      go_quiet (fail)
      go_wp2_with fail
      obtain ⟨hL, hC⟩ := HE.out
      subst hL
      subst hC
      go_ret2
      have HBQ : Below w.heap.size w ((w.drewN (k1 + k2)).drewN nq) := below_drewN (below_drewN (Below.refl _ _) _) _
      have KQ : Keep bb TM w ((w.drewN (k1 + k2)).drewN nq) := keep_below HBQ hbb
      have KQ0 : Keep B [] w ((w.drewN (k1 + k2)).drewN nq) := keep_below HBQ hbw
      exact ⟨_, rfl, HH.out.keep KQ0 (by simp) (by simp) (by simp) (by simp), KQ0.own HI.out (by simp), KQ⟩
    · have s1 := sameB_of hL
      have s2 := sameB_not hC
      clear hL hC
      unfold capR
      go_enter Tryd.func43, Tryd.ntmps43
      go_wp2_with fail
      refine (HS1.out 0).mono ?_
      rintro e' w1 ⟨rfl, k1, rfl⟩
      rw [s1]
      go_wp2_with fail
      refine (HS2.out k1).mono ?_
      rintro e' w2 ⟨rfl, k2, rfl⟩
      rw [s2]
      have HBK : Below w.heap.size w (w.drewN (k1 + k2)) := below_drewN (Below.refl _ _) _
      have K0 : Keep bb TM w (w.drewN (k1 + k2)) := keep_below HBK hbb
      have A0 : Boxed (w.drewN (k1 + k2)) bb WAYT (.func (.func 20) #[] #[]) := (HBK.block _ a.lt).trans a
      have B0 : Boxed (w.drewN (k1 + k2)) (bb + 1) 43 (.slice la L.length lc) := (HBK.block _ b.lt).trans b
      have C0 : Boxed (w.drewN (k1 + k2)) (bb + 2) 43 (.slice ca C.length cc) := (HBK.block _ c.lt).trans c
      have D0 : Boxed (w.drewN (k1 + k2)) (bb + 3) 43 (.slice aa (invertR L C).length ac) := (HBK.block _ d.lt).trans d
      have E0 : Boxed (w.drewN (k1 + k2)) (bb + 4) 27 (.int .i64 (invertE L C)) := (HBK.block _ e.lt).trans e
      have b1 := b.frozen
      have c1 := c.frozen
      have HK0 := Lib.hid K0
      have HA0 := Lib.hid A0
      have HB0 := Lib.hid B0
      have HC0 := Lib.hid C0
      have HD0 := Lib.hid D0
      have HE0 := Lib.hid E0
      clear a b c d e A0 B0 C0 D0 E0 K0 HBK h' f g i
      go_wp2_with fail
      have B2 := (HB0.out.set (.slice va L'.length vc)).other (show bb + 1 ≠ bb + 2 by omega) (.slice ua C'.length uc)
      have C2 := (HC0.out.other (show bb + 2 ≠ bb + 1 by omega) (.slice va L'.length vc)).set (.slice ua C'.length uc)
      have D2 := (HD0.out.other (show bb + 3 ≠ bb + 1 by omega) (.slice va L'.length vc)).other (show bb + 3 ≠ bb + 2 by omega) (.slice ua C'.length uc)
      have E2 := (HE0.out.other (show bb + 4 ≠ bb + 1 by omega) (.slice va L'.length vc)).other (show bb + 4 ≠ bb + 2 by omega) (.slice ua C'.length uc)
      have A2 := (HA0.out.other (show bb ≠ bb + 1 by omega) (.slice va L'.length vc)).other (show bb ≠ bb + 2 by omega) (.slice ua C'.length uc)
      have K2 := (HK0.out.trans (keep_set (ts := TM) HB0.out (by simp) (Nat.le_succ bb) ⟨bb + 1, 0, none⟩ rfl (.slice va L'.length vc))).trans (keep_set (ts := TM) (HC0.out.other (show bb + 2 ≠ bb + 1 by omega) (.slice va L'.length vc)) (by simp) (by omega) ⟨bb + 2, 0, none⟩ rfl (.slice ua C'.length uc))
      obtain ⟨W2, hW2⟩ : ∃ W2, W2 = ((w.drewN (k1 + k2)).setCell ⟨bb + 1, 0, none⟩ (.slice va L'.length vc)).setCell ⟨bb + 2, 0, none⟩ (.slice ua C'.length uc) := ⟨_, rfl⟩
      rw [← hW2] at A2 B2 C2 D2 E2 K2 ⊢
      have hs2 := D2.lt
      have HK2 := Lib.hid K2
      have HA2 := Lib.hid A2
      have HB2 := Lib.hid B2
      have HC2 := Lib.hid C2
      have HD2 := Lib.hid D2
      have HE2 := Lib.hid E2
      clear A2 B2 C2 D2 E2 K2 hW2 a0 b0 c0 d0 e0 b1 c1
      refine (invertD_any (.slice va L'.length vc) (.slice ua C'.length uc) L' C' W2 (hv _ (HK2.out.below.mono hB)) (hu _ (HK2.out.below.mono hB)) hz hy).mono ?_
      rintro e w3 ⟨rv, rfl, own3, hb3⟩
      obtain ⟨ra, rc, rfl⟩ := own_slice own3
      have hbk : ∀ {i : Nat} {o : Obj}, W2.heap[i]? = some o → w3.heap[i]? = some o := fun hi => (hb3.block _ (lt_of_heap hi)).trans hi
      have D3 : Boxed w3 (bb + 3) 43 _ := hbk HD2.out
      have E3 : Boxed w3 (bb + 4) 27 _ := hbk HE2.out
      have A3 : Boxed w3 bb WAYT _ := hbk HA2.out
      have B3 : Boxed w3 (bb + 1) 43 _ := hbk HB2.out
      have C3 : Boxed w3 (bb + 2) 43 _ := hbk HC2.out
      have hBW2 : B ≤ W2.heap.size := Nat.le_trans hbw HK2.out.below.size
      have K3 := HK2.out.trans (keep_below (ts := TM) hb3 (Nat.le_trans hbb HK2.out.below.size))
      have d3 := D3.cell
      have df3 := D3.frozen
      have e3 := E3.cell
      have ef3 := E3.frozen
      have S1 := keep_set (B := bb) (ts := TM) D3 (by simp) (by omega) ⟨bb + 3, 0, none⟩ rfl (.slice ra (invertR L' C').length rc)
      have S2 := keep_set (B := bb) (ts := TM) (E3.other (show bb + 4 ≠ bb + 3 by omega) (.slice ra (invertR L' C').length rc)) (by simp) (by omega) ⟨bb + 4, 0, none⟩ rfl (.int .i64 (invertE L' C'))
      have OW := (S1.trans S2).own (own_base own3 hBW2) (by decide)
      have FIN : LaidOut_i w B bb L' C' (.returned (.tuple #[.slice ra (invertR L' C').length rc, .int .i64 (invertE L' C')])) _ := ⟨_, rfl, ⟨.slice va L'.length vc, .slice ua C'.length uc, .slice ra (invertR L' C').length rc,
        (A3.other (show bb ≠ bb + 3 by omega) _).other (show bb ≠ bb + 4 by omega) _, (B3.other (show bb + 1 ≠ bb + 3 by omega) _).other (show bb + 1 ≠ bb + 4 by omega) _, (C3.other (show bb + 2 ≠ bb + 3 by omega) _).other (show bb + 2 ≠ bb + 4 by omega) _,
        (D3.set _).other (show bb + 3 ≠ bb + 4 by omega) _, (E3.other (show bb + 4 ≠ bb + 3 by omega) _).set _, fun w' hb => hv w' ((((K3.trans S1).trans S2).below.mono hB).trans hb), fun w' hb => hu w' ((((K3.trans S1).trans S2).below.mono hB).trans hb), OW⟩, OW, (K3.trans S1).trans S2⟩
      have HF := Lib.hid FIN
      clear D3 E3 A3 B3 C3 K3 S1 S2 OW FIN own3 hb3 hbk
      go_wp2_with fail
      go_region
      all_goals (go_wp2_with fail; go_ret2; obtain ⟨x, hx1, hx2, hx3, hx4⟩ := HF.out; exact ⟨x, hx1, hx2.keep (ts := []) (Keep.refl _ _ _).drew (by simp) (by simp) (by simp) (by simp), hx3, hx4.drew⟩)
  · have s1 := sameB_not hL
    clear hL
    unfold capR
    go_enter Tryd.func43, Tryd.ntmps43
    go_wp2_with fail
    refine (HS1.out 0).mono ?_
    rintro e' w1 ⟨rfl, k1, rfl⟩
    rw [s1]
    have HBK : Below w.heap.size w (w.drewN k1) := below_drewN (Below.refl _ _) _
    have K0 : Keep bb TM w (w.drewN k1) := keep_below HBK hbb
    have A0 : Boxed (w.drewN k1) bb WAYT (.func (.func 20) #[] #[]) := (HBK.block _ a.lt).trans a
    have B0 : Boxed (w.drewN k1) (bb + 1) 43 (.slice la L.length lc) := (HBK.block _ b.lt).trans b
    have C0 : Boxed (w.drewN k1) (bb + 2) 43 (.slice ca C.length cc) := (HBK.block _ c.lt).trans c
    have D0 : Boxed (w.drewN k1) (bb + 3) 43 (.slice aa (invertR L C).length ac) := (HBK.block _ d.lt).trans d
    have E0 : Boxed (w.drewN k1) (bb + 4) 27 (.int .i64 (invertE L C)) := (HBK.block _ e.lt).trans e
    have b1 := b.frozen
    have c1 := c.frozen
    have HK0 := Lib.hid K0
    have HA0 := Lib.hid A0
    have HB0 := Lib.hid B0
    have HC0 := Lib.hid C0
    have HD0 := Lib.hid D0
    have HE0 := Lib.hid E0
    clear a b c d e A0 B0 C0 D0 E0 K0 HBK h' f g i
    go_wp2_with fail
    have B2 := (HB0.out.set (.slice va L'.length vc)).other (show bb + 1 ≠ bb + 2 by omega) (.slice ua C'.length uc)
    have C2 := (HC0.out.other (show bb + 2 ≠ bb + 1 by omega) (.slice va L'.length vc)).set (.slice ua C'.length uc)
    have D2 := (HD0.out.other (show bb + 3 ≠ bb + 1 by omega) (.slice va L'.length vc)).other (show bb + 3 ≠ bb + 2 by omega) (.slice ua C'.length uc)
    have E2 := (HE0.out.other (show bb + 4 ≠ bb + 1 by omega) (.slice va L'.length vc)).other (show bb + 4 ≠ bb + 2 by omega) (.slice ua C'.length uc)
    have A2 := (HA0.out.other (show bb ≠ bb + 1 by omega) (.slice va L'.length vc)).other (show bb ≠ bb + 2 by omega) (.slice ua C'.length uc)
    have K2 := (HK0.out.trans (keep_set (ts := TM) HB0.out (by simp) (Nat.le_succ bb) ⟨bb + 1, 0, none⟩ rfl (.slice va L'.length vc))).trans (keep_set (ts := TM) (HC0.out.other (show bb + 2 ≠ bb + 1 by omega) (.slice va L'.length vc)) (by simp) (by omega) ⟨bb + 2, 0, none⟩ rfl (.slice ua C'.length uc))
    obtain ⟨W2, hW2⟩ : ∃ W2, W2 = ((w.drewN k1).setCell ⟨bb + 1, 0, none⟩ (.slice va L'.length vc)).setCell ⟨bb + 2, 0, none⟩ (.slice ua C'.length uc) := ⟨_, rfl⟩
    rw [← hW2] at A2 B2 C2 D2 E2 K2 ⊢
    have hs2 := D2.lt
    have HK2 := Lib.hid K2
    have HA2 := Lib.hid A2
    have HB2 := Lib.hid B2
    have HC2 := Lib.hid C2
    have HD2 := Lib.hid D2
    have HE2 := Lib.hid E2
    clear A2 B2 C2 D2 E2 K2 hW2 a0 b0 c0 d0 e0 b1 c1
    refine (invertD_any (.slice va L'.length vc) (.slice ua C'.length uc) L' C' W2 (hv _ (HK2.out.below.mono hB)) (hu _ (HK2.out.below.mono hB)) hz hy).mono ?_
    rintro e w3 ⟨rv, rfl, own3, hb3⟩
    obtain ⟨ra, rc, rfl⟩ := own_slice own3
    have hbk : ∀ {i : Nat} {o : Obj}, W2.heap[i]? = some o → w3.heap[i]? = some o := fun hi => (hb3.block _ (lt_of_heap hi)).trans hi
    have D3 : Boxed w3 (bb + 3) 43 _ := hbk HD2.out
    have E3 : Boxed w3 (bb + 4) 27 _ := hbk HE2.out
    have A3 : Boxed w3 bb WAYT _ := hbk HA2.out
    have B3 : Boxed w3 (bb + 1) 43 _ := hbk HB2.out
    have C3 : Boxed w3 (bb + 2) 43 _ := hbk HC2.out
    have hBW2 : B ≤ W2.heap.size := Nat.le_trans hbw HK2.out.below.size
    have K3 := HK2.out.trans (keep_below (ts := TM) hb3 (Nat.le_trans hbb HK2.out.below.size))
    have d3 := D3.cell
    have df3 := D3.frozen
    have e3 := E3.cell
    have ef3 := E3.frozen
    have S1 := keep_set (B := bb) (ts := TM) D3 (by simp) (by omega) ⟨bb + 3, 0, none⟩ rfl (.slice ra (invertR L' C').length rc)
    have S2 := keep_set (B := bb) (ts := TM) (E3.other (show bb + 4 ≠ bb + 3 by omega) (.slice ra (invertR L' C').length rc)) (by simp) (by omega) ⟨bb + 4, 0, none⟩ rfl (.int .i64 (invertE L' C'))
    have OW := (S1.trans S2).own (own_base own3 hBW2) (by decide)
    have FIN : LaidOut_i w B bb L' C' (.returned (.tuple #[.slice ra (invertR L' C').length rc, .int .i64 (invertE L' C')])) _ := ⟨_, rfl, ⟨.slice va L'.length vc, .slice ua C'.length uc, .slice ra (invertR L' C').length rc,
      (A3.other (show bb ≠ bb + 3 by omega) _).other (show bb ≠ bb + 4 by omega) _, (B3.other (show bb + 1 ≠ bb + 3 by omega) _).other (show bb + 1 ≠ bb + 4 by omega) _, (C3.other (show bb + 2 ≠ bb + 3 by omega) _).other (show bb + 2 ≠ bb + 4 by omega) _,
      (D3.set _).other (show bb + 3 ≠ bb + 4 by omega) _, (E3.other (show bb + 4 ≠ bb + 3 by omega) _).set _, fun w' hb => hv w' ((((K3.trans S1).trans S2).below.mono hB).trans hb), fun w' hb => hu w' ((((K3.trans S1).trans S2).below.mono hB).trans hb), OW⟩, OW, (K3.trans S1).trans S2⟩
    have HF := Lib.hid FIN
    clear D3 E3 A3 B3 C3 K3 S1 S2 OW FIN own3 hb3 hbk
    go_wp2_with fail
    go_region
    all_goals (go_wp2_with fail; go_ret2; obtain ⟨x, hx1, hx2, hx3, hx4⟩ := HF.out; exact ⟨x, hx1, hx2.keep (ts := []) (Keep.refl _ _ _).drew (by simp) (by simp) (by simp) (by simp), hx3, hx4.drew⟩)
end Go.Proofs.YtlfodemmdfaeeaaDoor

/- What Apply and Inverse answer, by cells. -/
namespace Go.Proofs.YtlfodemmdfaeeaaDoor
open Go.RowKit Rn Ch At

theorem app_mk {l : List RunD} {f : Int} {ops : List OpD} (h1 : fitE l f ops = 0) (h2 : actOk ops (cellsD l)) (h3 : (docR (act ops (cellsD l))).length ≤ 2000) : appE l f ops = 0 := by
  obtain ⟨m1, m2⟩ := (fitG_of h1).met
  unfold appE
  rw [if_neg (by rw [h1]; simp), if_neg (by rw [m2.2 h2]; simp), if_neg (by rw [accA_out, m1]; omega)]
def invS (ys : List MD) (k : Nat) : List OpD × Int := (backs (ys.take k)).foldl addG ([], 0)
theorem invS_succ {ys : List MD} {k : Nat} (h : k < ys.length) : invS ys (k + 1) = addG (invS ys k) (backOne ys[k]) := by
  unfold invS backs
  rw [List.take_succ_eq_append_getElem h, List.map_append, List.foldl_append]; rfl
theorem back1 {y : MD} (k : y.1.kind = 1) : backOne y = ⟨1, 1, ⟨#[]⟩, invertR y.2.2 y.1.attrs⟩ ∧ outOne y = [appC y.1.attrs y.2] ∧ (if y.1.kind = 2 then [] else [y.2]) = [y.2] := by
  unfold backOne outOne; rw [if_pos k, if_pos k, if_neg (by omega)]; exact ⟨rfl, rfl, rfl⟩
theorem back2 {y : MD} (k : y.1.kind = 2) : backOne y = ⟨3, 1, ⟨#[]⟩, []⟩ ∧ outOne y = [y.2] ∧ (if y.1.kind = 2 then [] else [y.2]) = [] := by
  unfold backOne outOne; rw [if_neg (by omega), if_pos k, if_neg (by omega), if_pos k, if_pos k]; exact ⟨rfl, rfl, rfl⟩
theorem back3 {y : MD} (k : y.1.kind ≠ 1) (k' : y.1.kind ≠ 2) : backOne y = ⟨2, 0, E y.2.1, y.2.2⟩ ∧ outOne y = [] ∧ (if y.1.kind = 2 then [] else [y.2]) = [y.2] := by
  unfold backOne outOne; rw [if_neg k, if_neg k', if_neg k, if_neg k', if_neg k']; exact ⟨rfl, rfl, rfl⟩
theorem back_cases (y : MD) : (∃ a, backOne y = ⟨1, 1, ⟨#[]⟩, a⟩) ∨ backOne y = ⟨3, 1, ⟨#[]⟩, []⟩ ∨ backOne y = ⟨2, 0, E y.2.1, y.2.2⟩ := by
  by_cases k : y.1.kind = 1
  · exact .inl ⟨_, (back1 k).1⟩
  · by_cases k' : y.1.kind = 2
    · exact .inr (.inl (back2 k').1)
    · exact .inr (.inr (back3 k k').1)
theorem backOne_num (y : MD) : 0 ≤ (backOne y).n ∧ (backOne y).n ≤ 1 ∧ (backOne y).text.size ≤ 4 := by
  have hE := E_size y.2.1
  rcases back_cases y with ⟨a, h⟩ | h | h
  · rw [h]; exact ⟨by show (0 : Int) ≤ 1; omega, by show (1 : Int) ≤ 1; omega, Nat.zero_le _⟩
  · rw [h]; exact ⟨by show (0 : Int) ≤ 1; omega, by show (1 : Int) ≤ 1; omega, Nat.zero_le _⟩
  · rw [h]; exact ⟨by show (0 : Int) ≤ 0; omega, by show (0 : Int) ≤ 1; omega, hE⟩
theorem invS_sm (ys : List MD) : ∀ k, k ≤ ys.length → SmI k (4 * k) k (invS ys k) := by
  intro k
  induction k with
  | zero => intro _; exact smI_nil
  | succ k ih =>
    intro h
    obtain ⟨a, b, c⟩ := backOne_num ys[k]
    rw [invS_succ (by omega)]
    exact ((ih (by omega)).addG a).more (by omega) (by omega) (Nat.le_refl _)
theorem E_pos (c : Nat) : 1 ≤ (E c).size := by
  have h1 : (E c).size = (enc c).length := List.size_toArray
  rw [h1]; exact enc_pos c
theorem addG_back (s : List OpD × Int) (y : MD) : addG s (backOne y) = Ch.add s (backOne y) := by
  unfold addG
  rw [if_neg]
  have hE := E_pos y.2.1
  rcases back_cases y with ⟨a, h⟩ | h | h
  · rw [h]; rintro ⟨h, _⟩; have : (1 : Int) = 0 := h; omega
  · rw [h]; rintro ⟨h, _⟩; have : (1 : Int) = 0 := h; omega
  · rw [h]; rintro ⟨_, h⟩; have : (E y.2.1).size = 0 := h; omega
theorem foldG (ys : List MD) : ∀ s : List OpD × Int, (backs ys).foldl addG s = (backs ys).foldl Ch.add s := by
  induction ys with
  | nil => intro s; rfl
  | cons y r ih =>
    intro s
    show List.foldl addG (addG s (backOne y)) (backs r) = List.foldl Ch.add (Ch.add s (backOne y)) (backs r)
    rw [addG_back, ih]
theorem invS_all (ys : List MD) : chgL (invS ys ys.length) = norm (backs ys) := by
  unfold invS chgL norm fold
  rw [List.take_length, foldG]

/-- What has gone in. -/
def orig (ys : List MD) : List CD := ys.flatMap fun y => if y.1.kind = 2 then [] else [y.2]
theorem orig_append (a b : List MD) : orig (a ++ b) = orig a ++ orig b := by simp [orig]
theorem orig_map (o : OpD) (xs : List CD) : orig (xs.map fun x => (o, x)) = if o.kind = 2 then [] else xs := by
  induction xs with
  | nil => split <;> rfl
  | cons x r ih =>
    have e : orig ((o, x) :: r.map fun x => (o, x)) = (if o.kind = 2 then [] else [x]) ++ orig (r.map fun x => (o, x)) := rfl
    rw [List.map_cons, e, ih]
    split <;> rfl
theorem orig_met (ops : List OpD) : ∀ {cs : List CD}, cs.length ≤ 20000 → orig (metC (ops ++ [restQ.1]) cs) = cs := by
  induction ops with
  | nil =>
    intro cs hn
    have e : metC ([] ++ [restQ.1]) cs = cs.map fun x => (restQ.1, x) := by
      show metC [restQ.1] cs = _
      rw [metC, if_neg (by decide), metC, List.append_nil]
      congr 1
      exact List.take_of_length_le (by show cs.length ≤ 20000; exact hn)
    rw [e, orig_map, if_neg (by decide)]
  | cons o r ih =>
    intro cs hn
    rw [List.cons_append, metC]
    split
    · rename_i k
      rw [orig_append, orig_map, if_pos k, ih hn]; rfl
    · rename_i k
      rw [orig_append, orig_map, if_neg k, ih (by rw [List.length_drop]; omega), List.take_append_drop]
theorem backs_act (ys : List MD) (h : ∀ y ∈ ys, MetOk y) (r : List OpD) (cs : List CD) : act (backs ys ++ r) (outC ys ++ cs) = orig ys ++ act r cs ∧ (actOk (backs ys ++ r) (outC ys ++ cs) ↔ actOk r cs) := by
  induction ys with
  | nil => exact ⟨rfl, Iff.rfl⟩
  | cons y s ih =>
    obtain ⟨i1, i2⟩ := ih fun x hx => h x (List.mem_cons_of_mem _ hx)
    obtain ⟨hk, hc, hr, hb⟩ := h y (List.mem_cons_self ..)
    have e1 : backs (y :: s) ++ r = backOne y :: (backs s ++ r) := rfl
    have e2 : outC (y :: s) ++ cs = outOne y ++ (outC s ++ cs) := by
      have : outC (y :: s) = outOne y ++ outC s := rfl
      rw [this, List.append_assoc]
    have e3 : orig (y :: s) = (if y.1.kind = 2 then [] else [y.2]) ++ orig s := rfl
    rw [e1, e2, e3, List.append_assoc, ← i1, ← i2]
    rcases hk with k | k | k
    · obtain ⟨eb, eo, ei⟩ := back1 k
      have ha : applyE y.2.2 y.1.attrs = 0 := by unfold badA at hb; rwa [if_pos k] at hb
      obtain ⟨b1, b2, b3⟩ := back_all ha
      rw [eb, eo, ei, (act_keep rfl).1, (act_keep rfl).2]
      have et : (1 : Int).toNat = 1 := rfl
      simp only [et, List.singleton_append, List.take_succ_cons, List.take_zero, List.drop_succ_cons, List.drop_zero, List.map_cons, List.map_nil, List.mem_singleton, forall_eq]
      refine ⟨?_, fun hh => hh.2, fun hh => ⟨b2, hh⟩⟩
      congr 1
      show (y.2.1, applyR (applyR y.2.2 y.1.attrs) (invertR y.2.2 y.1.attrs)) = y.2
      rw [b3]
    · obtain ⟨eb, eo, ei⟩ := back2 k
      rw [eb, eo, ei, (act_cut rfl).1, (act_cut rfl).2]
      exact ⟨rfl, Iff.rfl⟩
    · obtain ⟨eb, eo, ei⟩ := back3 (y := y) (by omega) (by omega)
      rw [eb, eo, ei, (act_ins rfl).1, (act_ins rfl).2]
      refine ⟨?_, Iff.rfl⟩
      show cellsD [⟨E y.2.1, y.2.2⟩] ++ _ = _
      rw [cellsD_one, rns_E hc]; rfl
theorem er_E {c : Nat} (h : ok c) : er (E c).data.toList = 0 ∧ cnt (E c).data.toList = 1 := by
  have e : rd (E c).data.toList = some [c] := by rw [E_eq, T_data]; exact rd_txt [c] (allOk_one h) (by simp)
  rw [er_some e, cnt_some e]; exact ⟨rfl, rfl⟩
theorem backOne_ok {y : MD} (h : MetOk y) : opE (backOne y) = 0 := by
  obtain ⟨hk, hc, hr, hb⟩ := h
  rcases hk with k | k | k
  · rw [(back1 k).1]
    have ha : applyE y.2.2 y.1.attrs = 0 := by unfold badA at hb; rwa [if_pos k] at hb
    obtain ⟨a1, a2, _⟩ := applyE_zero ha
    refine (opE_keep rfl).2 ⟨by show (1 : Int) ≤ 1; omega, rfl, chgE_zero.2 ?_⟩
    show chgB (invertR y.2.2 y.1.attrs) = true
    rw [(invertE_mk a1 a2).2]
    exact chg_invert a1 a2
  · rw [(back2 k).1]
    exact (opE_cut rfl).2 ⟨by show (1 : Int) ≤ 1; omega, rfl, rfl⟩
  · rw [(back3 (y := y) (by omega) (by omega)).1]
    have := E_pos y.2.1
    exact (opE_put rfl).2 ⟨rfl, by show (E y.2.1).size ≠ 0; omega, (er_E hc).1, rgtE_zero.2 hr⟩
theorem backs_sums (ys : List MD) (h : ∀ y ∈ ys, MetOk y) : allE (backs ys) ∧ kd (backs ys) = ((outC ys).length : Int) ∧ ins (backs ys) ≤ ((orig ys).length : Int) := by
  induction ys with
  | nil => exact ⟨(fun x hx => by cases hx), rfl, Int.le_refl _⟩
  | cons y s ih =>
    obtain ⟨i1, i2, i3⟩ := ih fun x hx => h x (List.mem_cons_of_mem _ hx)
    have hy := h y (List.mem_cons_self ..)
    have e1 : backs (y :: s) = backOne y :: backs s := rfl
    have e2 : outC (y :: s) = outOne y ++ outC s := rfl
    have e3 : orig (y :: s) = (if y.1.kind = 2 then [] else [y.2]) ++ orig s := rfl
    have ha : allE (backs (y :: s)) := fun x hx => by
      rcases List.mem_cons.1 hx with rfl | hx
      · exact backOne_ok hy
      · exact i1 x hx
    refine ⟨ha, ?_⟩
    rw [e1, e2, e3, kd, ins, List.length_append, List.length_append]
    rcases hy.kind with k | k | k
    · obtain ⟨eb, eo, ei⟩ := back1 k
      rw [eb, eo, ei]
      show (if (1 : Int) = 2 then 0 else 1) + kd (backs s) = _ ∧ (if (1 : Int) = 2 then _ else 0) + ins (backs s) ≤ _
      rw [if_neg (by omega), if_neg (by omega)]
      simp only [List.length_cons, List.length_nil]
      omega
    · obtain ⟨eb, eo, ei⟩ := back2 k
      rw [eb, eo, ei]
      show (if (3 : Int) = 2 then 0 else 1) + kd (backs s) = _ ∧ (if (3 : Int) = 2 then _ else 0) + ins (backs s) ≤ _
      rw [if_neg (by omega), if_neg (by omega)]
      simp only [List.length_cons, List.length_nil]
      omega
    · obtain ⟨eb, eo, ei⟩ := back3 (y := y) (by omega) (by omega)
      have hc := (er_E hy.cok).2
      rw [eb, eo, ei]
      show (if (2 : Int) = 2 then 0 else 0) + kd (backs s) = _ ∧ (if (2 : Int) = 2 then cnt (E y.2.1).data.toList else 0) + ins (backs s) ≤ _
      rw [if_pos rfl, if_pos rfl, hc]
      simp only [List.length_cons, List.length_nil]
      omega
def invE (l : List RunD) (f : Int) (ops : List OpD) : Int := if appE l f ops ≠ 0 then appE l f ops else if 2000 < (invL l ops).length then 2 else 0
theorem met_ok {l : List RunD} {f : Int} {ops : List OpD} (h : AppF l f ops) : ∀ y ∈ metD l ops, MetOk y := by
  have hg := fitG_of h.fit
  obtain ⟨m1, m2⟩ := hg.met
  have hb := errA_zero.1 (m2.2 h.ok)
  have key : ∀ (os : List OpD) (cs : List CD), (∀ o ∈ os, o = restQ.1 ∨ opE o = 0) → okCs cs → ∀ y ∈ metC os cs, (y.1.kind = 1 ∨ y.1.kind = 2 ∨ y.1.kind = 3) ∧ ok y.2.1 ∧ rgtB y.2.2 = true := by
    intro os
    induction os with
    | nil => intro cs _ _ y hy; cases hy
    | cons o r ih =>
      intro cs ho hc y hy
      have hkk : o.kind = 1 ∨ o.kind = 2 ∨ o.kind = 3 := by
        rcases ho o (List.mem_cons_self ..) with rfl | h
        · exact .inl rfl
        · exact opE_kind h
      have hr : ∀ o ∈ r, o = restQ.1 ∨ opE o = 0 := fun x hx => ho x (List.mem_cons_of_mem _ hx)
      rw [metC] at hy
      split at hy
      · rename_i k
        rcases List.mem_append.1 hy with hy | hy
        · obtain ⟨x, hx, rfl⟩ := List.mem_map.1 hy
          have h0 : opE o = 0 := by
            rcases ho o (List.mem_cons_self ..) with rfl | h
            · exact absurd k (by decide)
            · exact h
          exact ⟨hkk, insC_ok h0 k x (List.mem_of_mem_take hx)⟩
        · exact ih cs hr hc y hy
      · rcases List.mem_append.1 hy with hy | hy
        · obtain ⟨x, hx, rfl⟩ := List.mem_map.1 hy
          exact ⟨hkk, hc x (List.mem_of_mem_take hx)⟩
        · exact ih _ hr (fun x hx => hc x (List.mem_of_mem_drop hx)) y hy
  intro y hy
  obtain ⟨a, b, c⟩ := key (ops ++ [restQ.1]) (cellsD l) (fun o ho => by
    rcases List.mem_append.1 ho with ho | ho
    · exact .inr (hg.okc.2.2.2.1 o ho)
    · exact .inl (List.mem_singleton.1 ho)) (fun x hx => hg.doc.cell hx) y hy
  exact ⟨a, b, c, hb y hy⟩
theorem invF_of {l : List RunD} {f : Int} {ops : List OpD} (h : appE l f ops = 0) (hl : (invL l ops).length ≤ 2000) : InvF l f ops := by
  have ha := appF_of h
  have hg := fitG_of ha.fit
  obtain ⟨m1, m2⟩ := hg.met
  have hm := met_ok ha
  obtain ⟨s1, s2, s3⟩ := backs_sums (metD l ops) hm
  have ho : orig (metD l ops) = cellsD l := orig_met ops hg.doc.n1
  rw [m1] at s2
  rw [ho] at s3
  have hn1 := hg.doc.n1
  have hins : ins (backs (metD l ops)) ≤ 20000 := by omega
  obtain ⟨n1, n2, n3, n4⟩ := norm_sums s1 hins
  have hnum := ha.num
  have hnn := ha.nn
  have hn := ha.n
  have hcs : okCs (act ops (cellsD l)) := ha.cok
  obtain ⟨e1, e2⟩ := eqv_norm s1 hins (act ops (cellsD l)) (fun x hx => (hcs x hx).2)
  obtain ⟨b1, b2⟩ := backs_act (metD l ops) hm [] []
  rw [List.append_nil, List.append_nil, m1, ho] at b1
  rw [List.append_nil, List.append_nil, m1] at b2
  have eb : act (backs (metD l ops)) (act ops (cellsD l)) = cellsD l := b1.trans (List.append_nil _)
  have hlen := act_len (backs (metD l ops)) (cs := act ops (cellsD l)) s1 (by omega)
  rw [eb] at hlen
  have hto : toE (lenN (appL l f ops)) (invL l ops) = 0 := by
    refine (toE_iff _ _).2 ⟨by omega, by omega, hl, n1, ?_, ?_⟩
    · show kd (norm (backs (metD l ops))) ≤ _; omega
    · show _ - dl (norm (backs (metD l ops))) + ins (norm (backs (metD l ops))) ≤ _; omega
  have hfit : fitE (appL l f ops) (lenN (appL l f ops)) (invL l ops) = 0 := fit_iff.2 ⟨ha.right, hto, rfl⟩
  have hact : act (invL l ops) (cellsD (appL l f ops)) = cellsD l := by rw [ha.cells]; exact e1.trans eb
  have hok : actOk (invL l ops) (cellsD (appL l f ops)) := by rw [ha.cells]; exact e2.2 (b2.2 trivial)
  have hdoc : docR (cellsD l) = l.reverse := hg.doc.doc
  have happ := app_mk hfit hok (by rw [hact, hdoc, List.length_reverse]; exact hg.doc.len)
  exact ⟨hto, norm_once s1 hins, happ, by rw [(appF_of happ).val, hact, hdoc, List.reverse_reverse]⟩
end Go.Proofs.YtlfodemmdfaeeaaDoor

/- What atoms make of a row of cells: what operations make of them; one for two does what both do; two made beside each other make one row. -/
namespace Go.Proofs.YtlfodemmdfaeeaaDoor
namespace Cp
open Rn Ch
open At hiding put

/-- One for two does what both do, one behind the other. -/
theorem actA_comp : ∀ (A B : List Atm) (cs : List CD), OkX A → OkX B → fit A B → kA A ≤ cs.length → okCs cs → okA A cs → okA B (actA A cs) → okA (comp A B) cs ∧ actA (comp A B) cs = actA B (actA A cs)
  | [], B, cs, _, _, _, _, _, _, hb => by rw [comp_nil]; rw [actA_nil] at hb ⊢; exact ⟨hb, rfl⟩
  | x :: A, [], cs, _, _, _, _, _, ha, _ => by rw [comp_nilr, actA_nil]; exact ⟨ha, rfl⟩
  | .del :: A, y :: B, [], _, _, _, hk, _, _, _ => by simp [kA] at hk
  | .del :: A, y :: B, x :: t, hA, hB, hf, hk, hc, ha, hb => by
    rw [actA_del] at hb ⊢
    rw [comp_del, actA_del, okA_del]
    exact actA_comp A (y :: B) t (okX_cons.1 hA).2 hB ((fit_del ..).1 hf) (by simp [kA] at hk; omega) (okCs_tail hc) ((okA_del ..).1 ha) hb
  | .ins c a :: A, .ins d b :: B, cs, hA, hB, hf, hk, hc, ha, hb => by
    obtain ⟨i1, i2⟩ := actA_comp (.ins c a :: A) B cs hA (okX_cons.1 hB).2 ((fit_ii ..).1 hf) hk hc ha ((okA_ins ..).1 hb)
    rw [comp_ii, okA_ins, actA_ins, actA_ins, i2]
    exact ⟨i1, rfl⟩
  | .keep a :: A, .ins d b :: B, cs, hA, hB, hf, hk, hc, ha, hb => by
    obtain ⟨i1, i2⟩ := actA_comp (.keep a :: A) B cs hA (okX_cons.1 hB).2 ((fit_ki ..).1 hf) hk hc ha ((okA_ins ..).1 hb)
    rw [comp_ki, okA_ins, actA_ins, actA_ins, i2]
    exact ⟨i1, rfl⟩
  | .ins c a :: A, .keep b :: B, cs, hA, hB, hf, hk, hc, ha, hb => by
    rw [actA_ins] at hb ⊢
    obtain ⟨b1, b2⟩ := (okA_keep ..).1 hb
    obtain ⟨_, _, _, e4⟩ := applyE_zero b1
    obtain ⟨i1, i2⟩ := actA_comp A B cs (okX_cons.1 hA).2 (okX_cons.1 hB).2 ((fit_ik ..).1 hf).2 (by simpa [kA] using hk) hc ((okA_ins ..).1 ha) b2
    rw [comp_ik, okA_ins, actA_ins, actA_keep, i2]
    refine ⟨i1, ?_⟩
    show (c, apl a b) :: _ = (c, applyR a b) :: _
    rw [e4]
  | .ins c a :: A, .del :: B, cs, hA, hB, hf, hk, hc, ha, hb => by
    rw [actA_ins, actA_del]
    rw [actA_ins, okA_del] at hb
    rw [comp_id]
    exact actA_comp A B cs (okX_cons.1 hA).2 (okX_cons.1 hB).2 ((fit_id ..).1 hf) (by simpa [kA] using hk) hc ((okA_ins ..).1 ha) hb
  | .keep a :: A, .keep b :: B, [], _, _, _, hk, _, _, _ => by simp [kA] at hk
  | .keep a :: A, .keep b :: B, x :: t, hA, hB, hf, hk, hc, ha, hb => by
    rw [actA_keep] at hb ⊢
    obtain ⟨a1, a2⟩ := (okA_keep ..).1 ha
    obtain ⟨b1, b2⟩ := (okA_keep ..).1 hb
    obtain ⟨f1, f2⟩ := (fit_kk ..).1 hf
    obtain ⟨m1, m2⟩ := composeE_mk (okX_cons.1 hA).1 (okX_cons.1 hB).1 f1
    obtain ⟨t1, t2⟩ := two_all a1 (show applyE (applyR x.2 a) b = 0 from b1) m1
    rw [m2] at t1 t2
    obtain ⟨i1, i2⟩ := actA_comp A B t (okX_cons.1 hA).2 (okX_cons.1 hB).2 f2 (by simp [kA] at hk; omega) (okCs_tail hc) a2 b2
    rw [comp_kk, okA_keep, actA_keep, actA_keep, i2]
    refine ⟨⟨t1, i1⟩, ?_⟩
    show (x.1, applyR x.2 (cmp a b)) :: _ = (x.1, applyR (applyR x.2 a) b) :: _
    rw [show applyR x.2 (cmp a b) = _ from t2]
  | .keep a :: A, .del :: B, [], _, _, _, hk, _, _, _ => by simp [kA] at hk
  | .keep a :: A, .del :: B, x :: t, hA, hB, hf, hk, hc, ha, hb => by
    rw [actA_keep, actA_del]
    rw [actA_keep, okA_del] at hb
    rw [comp_kd, okA_del, actA_del]
    exact actA_comp A B t (okX_cons.1 hA).2 (okX_cons.1 hB).2 ((fit_kd ..).1 hf) (by simp [kA] at hk; omega) (okCs_tail hc) ((okA_keep ..).1 ha).2 hb
termination_by A B => A.length + B.length
end Cp
end Go.Proofs.YtlfodemmdfaeeaaDoor

/- Pieces that go through the same runes, and their atoms. -/
namespace Go.Proofs.YtlfodemmdfaeeaaDoor
namespace Cp
open Rn Ch
open At hiding put

theorem comp_dels (n : Nat) (A B : List Atm) : comp (List.replicate n .del ++ A) B = List.replicate n .del ++ comp A B := by
  induction n with
  | zero => rfl
  | succ n ih => rw [List.replicate_succ, List.cons_append, comp_del, ih]; rfl
theorem fit_dels (n : Nat) (A B : List Atm) : fit (List.replicate n .del ++ A) B ↔ fit A B := by
  induction n with
  | zero => exact Iff.rfl
  | succ n ih => rw [List.replicate_succ, List.cons_append, fit_del, ih]
theorem comp_inss {A : List Atm} (h : nd A) (b : AL) (cs : List Nat) (B : List Atm) : comp A ((cs.map fun c => .ins c b) ++ B) = (cs.map fun c => .ins c b) ++ comp A B := by
  induction cs with
  | nil => rfl
  | cons c r ih =>
    rw [List.map_cons, List.cons_append, List.cons_append, ← ih]
    cases A with
    | nil => rw [comp_nil, comp_nil]
    | cons x A =>
      cases x with
      | del => exact absurd rfl (h A)
      | ins d a => exact comp_ii ..
      | keep a => exact comp_ki ..
theorem fit_inss (A : List Atm) (b : AL) (cs : List Nat) (B : List Atm) : fit A ((cs.map fun c => .ins c b) ++ B) ↔ fit A B := by
  induction cs with
  | nil => exact Iff.rfl
  | cons c r ih => rw [List.map_cons, List.cons_append, fit_ni, ih]
theorem comp_zik (a b : AL) (A B : List Atm) (cs : List Nat) : comp ((cs.map fun c => .ins c a) ++ A) (List.replicate cs.length (.keep b) ++ B) = (cs.map fun c => .ins c (apl a b)) ++ comp A B := by
  induction cs with
  | nil => rfl
  | cons c r ih => rw [List.map_cons, List.length_cons, List.replicate_succ, List.cons_append, List.cons_append, comp_ik, ih]; rfl
theorem fit_zik (a b : AL) (A B : List Atm) (cs : List Nat) (h : cs ≠ []) : fit ((cs.map fun c => .ins c a) ++ A) (List.replicate cs.length (.keep b) ++ B) ↔ (apl a b).length ≤ 8 ∧ fit A B := by
  induction cs with
  | nil => exact absurd rfl h
  | cons c r ih =>
    rw [List.map_cons, List.length_cons, List.replicate_succ, List.cons_append, List.cons_append, fit_ik]
    by_cases hr : r = []
    · subst hr; exact Iff.rfl
    · rw [ih hr]; exact ⟨fun h => h.2, fun h => ⟨h.1, h⟩⟩
theorem comp_zid (a : AL) (A B : List Atm) (cs : List Nat) : comp ((cs.map fun c => .ins c a) ++ A) (List.replicate cs.length .del ++ B) = comp A B := by
  induction cs with
  | nil => rfl
  | cons c r ih => rw [List.map_cons, List.length_cons, List.replicate_succ, List.cons_append, List.cons_append, comp_id, ih]
theorem fit_zid (a : AL) (A B : List Atm) (cs : List Nat) : fit ((cs.map fun c => .ins c a) ++ A) (List.replicate cs.length .del ++ B) ↔ fit A B := by
  induction cs with
  | nil => exact Iff.rfl
  | cons c r ih => rw [List.map_cons, List.length_cons, List.replicate_succ, List.cons_append, List.cons_append, fit_id, ih]
theorem comp_zkk (a b : AL) (A B : List Atm) (n : Nat) : comp (List.replicate n (.keep a) ++ A) (List.replicate n (.keep b) ++ B) = List.replicate n (.keep (cmp a b)) ++ comp A B := by
  induction n with
  | zero => rfl
  | succ n ih => rw [List.replicate_succ, List.replicate_succ, List.cons_append, List.cons_append, comp_kk, ih]; rfl
theorem fit_zkk (a b : AL) (A B : List Atm) (n : Nat) (h : 0 < n) : fit (List.replicate n (.keep a) ++ A) (List.replicate n (.keep b) ++ B) ↔ (cmp a b).length ≤ 8 ∧ fit A B := by
  induction n with
  | zero => omega
  | succ n ih =>
    rw [List.replicate_succ, List.replicate_succ, List.cons_append, List.cons_append, fit_kk]
    by_cases hr : n = 0
    · subst hr; exact Iff.rfl
    · rw [ih (by omega)]; exact ⟨fun h => h.2, fun h => ⟨h.1, h⟩⟩
theorem comp_zkd (a : AL) (A B : List Atm) (n : Nat) : comp (List.replicate n (.keep a) ++ A) (List.replicate n .del ++ B) = List.replicate n .del ++ comp A B := by
  induction n with
  | zero => rfl
  | succ n ih => rw [List.replicate_succ, List.replicate_succ, List.cons_append, List.cons_append, comp_kd, ih]; rfl
theorem fit_zkd (a : AL) (A B : List Atm) (n : Nat) : fit (List.replicate n (.keep a) ++ A) (List.replicate n .del ++ B) ↔ fit A B := by
  induction n with
  | zero => exact Iff.rfl
  | succ n ih => rw [List.replicate_succ, List.replicate_succ, List.cons_append, List.cons_append, fit_kd, ih]

theorem one_ik {x y : OpD} (hx : Piece x) (hy : Piece y) (kx : x.kind = 2) (ky : y.kind = 1) (hn : ((rns1 x.text).length : Int) = y.n) (A B : List Atm) : OneF x y A B := by
  rcases opE_shape hx.1 with ⟨k, _⟩ | ⟨_, xn, xt, xT, xo, xl, xc, xr⟩ | ⟨k, _⟩
  · omega
  · rcases opE_shape hy.1 with ⟨_, yn, yt, yc⟩ | ⟨k, _⟩ | ⟨k, _⟩
    · have eO : oneO x y = { x with attrs := applyR x.attrs y.attrs } := by unfold oneO; rw [if_neg (by omega), if_neg (by omega), if_neg (by omega), if_pos kx]
      have eE : oneE x y = applyE x.attrs y.attrs := by unfold oneE; rw [if_neg (by omega), if_neg (by omega), if_neg (by omega), if_pos kx]
      have en : y.n.toNat = (rns1 x.text).length := by omega
      have hf : (apl x.attrs y.attrs).length ≤ 8 ↔ oneE x y = 0 := by
        rw [eE]
        by_cases h8 : (apl x.attrs y.attrs).length ≤ 8
        · exact ⟨fun _ => (applyE_mk xr yc h8).1, fun _ => h8⟩
        · exact ⟨fun h => absurd h h8, fun h => by rw [(applyE_big xr yc h8).1] at h; omega⟩
      refine ⟨?_, ?_, ?_, ?_⟩
      · by_cases h8 : (apl x.attrs y.attrs).length ≤ 8
        · exact .inl (hf.1 h8)
        · rw [eE]; exact .inr (applyE_big xr yc h8).1
      · rw [atm_ins kx, atm_keep ky, en, fit_zik _ _ _ _ _ xt, hf]
      · intro h0 s
        obtain ⟨z1, z2, z3, z4⟩ := applyE_zero (eE ▸ h0)
        rw [atm_ins kx, atm_keep ky, en, comp_zik, List.foldl_append, eO, z4]
        have hv : opE ({ x with attrs := apl x.attrs y.attrs } : OpD) = 0 := by
          refine (opE_put (o := { x with attrs := apl x.attrs y.attrs }) kx).2 ⟨xn, ((opE_put kx).1 hx.1).2.1, ((opE_put kx).1 hx.1).2.2.1, ?_⟩
          show rgtE (apl x.attrs y.attrs) = 0
          unfold rgtE; rw [if_pos (rgt_apply z1 z2 z3)]
        have h2 := fold_atm hv s
        rw [if_neg (not_zero hv), ← h2, atm_ins (o := { x with attrs := apl x.attrs y.attrs }) kx]
      · intro h0
        obtain ⟨z1, z2, z3, z4⟩ := applyE_zero (eE ▸ h0)
        rw [eO, z4]
        exact ⟨by show 0 ≤ x.n; omega, hx.2, by show x.text.size ≤ _; rw [xT]; exact T_small xl, .inl (rgt_apply z1 z2 z3)⟩
    · omega
    · omega
  · omega
theorem one_id {x y : OpD} (_hx : Piece x) (_hy : Piece y) (kx : x.kind = 2) (ky : y.kind = 3) (hn : ((rns1 x.text).length : Int) = y.n) (A B : List Atm) : OneF x y A B := by
  have eO : oneO x y = zeroO := by unfold oneO; rw [if_neg (by omega), if_neg (by omega), if_pos ky, if_pos kx]
  have eE : oneE x y = 0 := by unfold oneE; rw [if_neg (by omega), if_neg (by omega), if_pos ky]
  have en : y.n.toNat = (rns1 x.text).length := by omega
  refine ⟨.inl eE, ?_, fun _ s => ?_, fun _ => ?_⟩
  · rw [atm_ins kx, atm_del ky, en, fit_zid, eE]
    exact ⟨fun h => ⟨rfl, h⟩, fun h => h.2⟩
  · rw [atm_ins kx, atm_del ky, en, comp_zid, eO, if_pos ⟨rfl, rfl⟩]
  · rw [eO]
    exact ⟨Int.le_refl _, by show (0 : Int) ≤ _; omega, Nat.zero_le _, .inr chg_nil⟩
theorem one_kk {x y : OpD} (hx : Piece x) (hy : Piece y) (kx : x.kind = 1) (ky : y.kind = 1) (hn : x.n = y.n) (A B : List Atm) : OneF x y A B := by
  rcases opE_shape hx.1 with ⟨_, xn, xt, xc⟩ | ⟨k, _⟩ | ⟨k, _⟩
  · rcases opE_shape hy.1 with ⟨_, yn, yt, yc⟩ | ⟨k, _⟩ | ⟨k, _⟩
    · have eO : oneO x y = { x with attrs := composeR x.attrs y.attrs } := by unfold oneO; rw [if_neg (by omega), if_neg (by omega), if_neg (by omega), if_neg (by omega)]
      have eE : oneE x y = composeE x.attrs y.attrs := by unfold oneE; rw [if_neg (by omega), if_neg (by omega), if_neg (by omega), if_neg (by omega)]
      have en : y.n.toNat = x.n.toNat := by omega
      have hf : (cmp x.attrs y.attrs).length ≤ 8 ↔ oneE x y = 0 := by
        rw [eE]
        by_cases h8 : (cmp x.attrs y.attrs).length ≤ 8
        · exact ⟨fun _ => (composeE_mk xc yc h8).1, fun _ => h8⟩
        · exact ⟨fun h => absurd h h8, fun h => by rw [(composeE_big xc yc h8).1] at h; omega⟩
      refine ⟨?_, ?_, ?_, ?_⟩
      · by_cases h8 : (cmp x.attrs y.attrs).length ≤ 8
        · exact .inl (hf.1 h8)
        · rw [eE]; exact .inr (composeE_big xc yc h8).1
      · rw [atm_keep kx, atm_keep ky, en, fit_zkk _ _ _ _ _ (by omega), hf]
      · intro h0 s
        obtain ⟨z1, z2, z3, z4⟩ := composeE_zero (eE ▸ h0)
        rw [atm_keep kx, atm_keep ky, en, comp_zkk, List.foldl_append, eO, z4]
        have hv : opE ({ x with attrs := cmp x.attrs y.attrs } : OpD) = 0 := by
          refine (opE_keep (o := { x with attrs := cmp x.attrs y.attrs }) kx).2 ⟨xn, ((opE_keep kx).1 hx.1).2.1, ?_⟩
          show chgE (cmp x.attrs y.attrs) = 0
          unfold chgE; rw [if_pos (chg_compose z1 z2 z3)]
        have h2 := fold_atm hv s
        rw [if_neg (not_zero hv), ← h2, atm_keep (o := { x with attrs := cmp x.attrs y.attrs }) kx]
      · intro h0
        obtain ⟨z1, z2, z3, z4⟩ := composeE_zero (eE ▸ h0)
        rw [eO, z4]
        exact ⟨by show 0 ≤ x.n; omega, hx.2, by show x.text.size ≤ _; rw [xt]; exact Nat.zero_le _, .inr (chg_compose z1 z2 z3)⟩
    · omega
    · omega
  · omega
  · omega
theorem one_kd {x y : OpD} (_hx : Piece x) (hy : Piece y) (kx : x.kind = 1) (ky : y.kind = 3) (hn : x.n = y.n) (A B : List Atm) : OneF x y A B := by
  have eO : oneO x y = y := by unfold oneO; rw [if_neg (by omega), if_neg (by omega), if_pos ky, if_neg (by omega)]
  have eE : oneE x y = 0 := by unfold oneE; rw [if_neg (by omega), if_neg (by omega), if_pos ky]
  have en : x.n.toNat = y.n.toNat := by omega
  have hd := (opE_cut ky).1 hy.1
  refine ⟨.inl eE, ?_, fun _ s => ?_, fun _ => ?_⟩
  · rw [atm_keep kx, atm_del ky, en, fit_zkd, eE]
    exact ⟨fun h => ⟨rfl, h⟩, fun h => h.2⟩
  · rw [atm_keep kx, atm_del ky, en, comp_zkd, List.foldl_append, eO, if_neg (not_zero hy.1), ← fold_atm hy.1 s, atm_del ky]
  · rw [eO]
    exact ⟨by omega, hy.2, by omega, .inr (by rw [List.length_eq_zero_iff.1 hd.2.2]; exact chg_nil)⟩
/-- One alone: what the first takes away. -/
theorem one_first {x : OpD} (hx : Piece x) (kx : x.kind = 3) (y : OpD) (A B : List Atm) : oneE x y = 0 ∧ oneO x y = x ∧ (fit (atm x ++ A) B ↔ fit A B) ∧ ∀ s, (comp (atm x ++ A) B).foldl addA s = (comp A B).foldl addA (add s x) := by
  refine ⟨by unfold oneE; rw [if_pos kx], by unfold oneO; rw [if_pos kx], ?_, fun s => ?_⟩
  · rw [atm_del kx, fit_dels]
  · rw [← fold_atm hx.1 s, atm_del kx, comp_dels, List.foldl_append]
theorem one_second {x y : OpD} (hy : Piece y) (kx : x.kind ≠ 3) (ky : y.kind = 2) {A : List Atm} (hA : nd A) (B : List Atm) : oneE x y = 0 ∧ oneO x y = y ∧ (fit A (atm y ++ B) ↔ fit A B) ∧ ∀ s, (comp A (atm y ++ B)).foldl addA s = (comp A B).foldl addA (add s y) := by
  refine ⟨by unfold oneE; rw [if_neg kx, if_pos ky], by unfold oneO; rw [if_neg kx, if_pos ky], ?_, fun s => ?_⟩
  · rw [atm_ins ky, fit_inss]
  · rw [← fold_atm hy.1 s, atm_ins ky, comp_inss hA, List.foldl_append]
end Cp
end Go.Proofs.YtlfodemmdfaeeaaDoor

/- All that is met of two changesets: piece by piece, and what is made of it. -/
namespace Go.Proofs.YtlfodemmdfaeeaaDoor
open Go.RowKit Rn Ch
open At hiding put
open Cp (Piece OneF oneO oneE alC zeroO atm atms comp fit addA nd)

theorem step_of {x y : OpD} {A B : List Cp.Atm} (h : OneF x y A B) : StepF x y (fit (atm x ++ A) (atm y ++ B)) (fit A B) (comp (atm x ++ A) (atm y ++ B)) (comp A B) :=
  ⟨h.err, h.fit, fun h0 s => h.comp h0 s, h.small⟩
end Go.Proofs.YtlfodemmdfaeeaaDoor

/- The program's Meet: all that is met of two changesets, told one by one. -/
namespace Go.Proofs.YtlfodemmdfaeeaaDoor
open Go.RowKit Go.Shelf Rn Ch
open At hiding put
open Cp (Piece)
attribute [local go_sem] Oper.semAt_some

set_option maxRecDepth 100000 in
theorem meet5_any (f g : Int) (va vb : Value) (av : Value) (fn : Nat) (ha : av = .func (.func fn) #[] #[]) (h1 : ∃ a n c, va = .slice a n c) (h2 : ∃ a n c, vb = .slice a n c) (w : World) :
    Calls Tryd.prog 27 #[chAgg f va, chAgg g vb, av] w fun e w' =>
      e = .returned (.func (.func 56) #[] #[.pointer (some ⟨w.heap.size, 0, none⟩), .pointer (some ⟨w.heap.size + 1, 0, none⟩), .pointer (some ⟨w.heap.size + 1 + 1, 0, none⟩)]) ∧
      w' = ((w.alloc (.cells #[.int .i64 f, va] 25)).alloc (.cells #[.int .i64 g, vb] 25)).alloc (.cells #[av] 71) := by
  subst ha
  obtain ⟨a, n, c, rfl⟩ := h1
  obtain ⟨a', n', c', rfl⟩ := h2
  go_enter Tryd.func27, Tryd.ntmps27
  go_wp2_with fail
  go_ret
  exact ⟨rfl, rfl⟩
/-- alone, of pieces. -/
theorem alone_any (ab : Nat) (av : Value) (fn : Nat) (al : OpD → OpD → Int) (ha : av = .func (.func fn) #[] #[]) (eg : ∀ args w, (callFunc fn args).run Tryd.prog w = .ok (.enter fn args) w)
    (hal : ∀ W x y, Calls Tryd.prog fn #[opA4 x, opA4 y] W fun e w' => e = .returned (.int .i64 (al x.1 y.1)) ∧ Below W.heap.size W w') (w : World) (hb : Boxed w ab 71 av) (x y : QV5) :
    Calls Tryd.prog 59 #[op5 x, op5 y, .pointer (some ⟨ab, 0, none⟩)] w fun e w' => e = .returned (.int .i64 (al x.1 y.1)) ∧ Below w.heap.size w w' := by
  subst ha
  have hl := lt_of_heap hb
  have cb := hb.cell
  have HAL := Lib.hid (fun W => hal W x y)
  clear hb hal
  go_enter Tryd.func59, Tryd.ntmps59
  go_wp2_with fail
  refine (HAL.out _).mono ?_
  rintro e w1 ⟨rfl, b⟩
  have B1 := Lib.hid ((show Below w.heap.size w ((w.alloc (.cells (cell5 x) 115)).alloc (.cells (cell5 y) 115)) from ((Below.refl _ _).alloc (Nat.le_refl _) _).alloc (by simp) _).trans (b.mono (by simp; omega)))
  clear b
  go_wp2_with fail
  go_ret
  exact ⟨rfl, B1.out⟩
end Go.Proofs.YtlfodemmdfaeeaaDoor

/- The program's one: what two operations that met are together; whose is met alone. -/
namespace Go.Proofs.YtlfodemmdfaeeaaDoor
open Go.RowKit Rn Ch
open At hiding put
open Cp (oneO oneE alC zeroO)

/-- A row of attributes: one's own, or that of one of the two. -/
def RowS (w : World) (r : Value) (l : List (K × V)) (x y : QV5) : Prop := (∃ B, w.ownsRow B 99 2 r l.length (flat l)) ∨ (r = qv x ∧ l = x.1.attrs) ∨ (r = qv y ∧ l = y.1.attrs)
/-- What one answers. -/
def OneOut (w : World) (x y : QV5) (e : Ending) (w' : World) : Prop :=
  ∃ a c, e = .returned (.tuple #[opAgg (oneO x.1 y.1) (.slice a (oneO x.1 y.1).attrs.length c), .int .i64 (oneE x.1 y.1)]) ∧ RowS w' (.slice a (oneO x.1 y.1).attrs.length c) (oneO x.1 y.1).attrs x y ∧ Below w.heap.size w w'
theorem results_one {fn : Func} (h : fn.results = #[.cell 4 45, .tmp 5]) {tmps : Array Value} {w : World} {b4 : Nat} {x0 x1 x2 x3 v : Value} (h4 : tmps.getD 4 undef = .pointer (some ⟨b4, 0, none⟩)) (h5 : tmps.getD 5 undef = v)
    (a : w.heap[b4]? = some (.cells #[x0, x1, x2, x3] 45 (0, 0))) : (results fn tmps).run Tryd.prog w = .ok (.tuple #[.agg #[x0, x1, x2, x3], v]) w := by
  rw [Array.getD_eq_getD_getElem?] at h4 h5
  have a0 : w.cell? ⟨b4, 0, none⟩ = some x0 := by simp [World.cell?, a]
  have a1 : w.cell? ⟨b4, 1, none⟩ = some x1 := by simp [World.cell?, a]
  have a2 : w.cell? ⟨b4, 2, none⟩ = some x2 := by simp [World.cell?, a]
  have a3 : w.cell? ⟨b4, 3, none⟩ = some x3 := by simp [World.cell?, a]
  clear a
  simp [results, h, h4, h5, go_sem, a0, a1, a2, a3]
theorem three_new (w : World) (o1 o2 o3 : Obj) : (((w.alloc o1).alloc o2).alloc o3).heap[w.heap.size + 1 + 1]? = some o3 ∧ Below w.heap.size w (((w.alloc o1).alloc o2).alloc o3) := by
  have := heap_new ((w.alloc o1).alloc o2) o3
  rw [World.size_alloc, World.size_alloc] at this
  exact ⟨this, (((Below.refl _ _).alloc (Nat.le_refl _) _).alloc (by simp) _).alloc (by simp; omega) _⟩
theorem four_set {w : World} {a b B : Nat} {x0 x1 x2 x3 y0 y1 y2 y3 v u0 u1 u2 u3 : Value} (ha : w.heap[a]? = some (.cells #[x0, x1, x2, x3] 45 (0, 0))) (hb : w.heap[b]? = some (.cells #[y0, y1, y2, y3] 45 (0, 0))) (hne : b ≠ a) (hA : B ≤ a) (hB : B ≤ b) :
    (((((w.setCell ⟨a, 3, none⟩ v).setCell ⟨b, 0, none⟩ u0).setCell ⟨b, 1, none⟩ u1).setCell ⟨b, 2, none⟩ u2).setCell ⟨b, 3, none⟩ u3).heap[b]? = some (.cells #[u0, u1, u2, u3] 45 (0, 0)) ∧
    Keep B [45] w (((((w.setCell ⟨a, 3, none⟩ v).setCell ⟨b, 0, none⟩ u0).setCell ⟨b, 1, none⟩ u1).setCell ⟨b, 2, none⟩ u2).setCell ⟨b, 3, none⟩ u3) := by
  have k0 : (w.setCell ⟨a, 3, none⟩ v).heap[b]? = some (.cells #[y0, y1, y2, y3] 45 (0, 0)) := (Below.heap_setCell _ _ _ _ hne).trans hb
  have k1 : ((w.setCell ⟨a, 3, none⟩ v).setCell ⟨b, 0, none⟩ u0).heap[b]? = some (.cells #[u0, y1, y2, y3] 45 (0, 0)) := nblk_set k0
  have k2 : (((w.setCell ⟨a, 3, none⟩ v).setCell ⟨b, 0, none⟩ u0).setCell ⟨b, 1, none⟩ u1).heap[b]? = some (.cells #[u0, u1, y2, y3] 45 (0, 0)) := nblk_set k1
  have k3 : ((((w.setCell ⟨a, 3, none⟩ v).setCell ⟨b, 0, none⟩ u0).setCell ⟨b, 1, none⟩ u1).setCell ⟨b, 2, none⟩ u2).heap[b]? = some (.cells #[u0, u1, u2, y3] 45 (0, 0)) := nblk_set k2
  refine ⟨nblk_set k3, ?_⟩
  exact ((((keep_set (ts := [45]) ha (by simp) hA ⟨a, 3, none⟩ rfl v).trans (keep_set k0 (by simp) hB ⟨b, 0, none⟩ rfl u0)).trans (keep_set k1 (by simp) hB ⟨b, 1, none⟩ rfl u1)).trans (keep_set k2 (by simp) hB ⟨b, 2, none⟩ rfl u2)).trans (keep_set k3 (by simp) hB ⟨b, 3, none⟩ rfl u3)
set_option maxRecDepth 100000 in
set_option maxHeartbeats 4000000 in
theorem one_any (x y : QV5) (w : World) (hx : AtRow w (qv x) x.1.attrs) (hy : AtRow w (qv y) y.1.attrs) (sx : Sized x.1.attrs) (sy : Sized y.1.attrs) :
    Calls Tryd.prog 28 #[opAgg x.1 (qv x), opAgg y.1 (qv y)] w (OneOut w x y) := by
  obtain ⟨W, hW⟩ : ∃ W, W = ((w.alloc (.cells #[.int .i64 x.1.kind, .int .i64 x.1.n, .string x.1.text, qv x] 45)).alloc (.cells #[.int .i64 y.1.kind, .int .i64 y.1.n, .string y.1.text, qv y] 45)).alloc (.cells #[.int .i64 0, .int .i64 0, .string ⟨#[]⟩, .slice none 0 0] 45) := ⟨_, rfl⟩
  have BW := Lib.hid (show Below w.heap.size w W by rw [hW]; exact (((Below.refl _ _).alloc (Nat.le_refl _) _).alloc (by simp) _).alloc (by simp; omega) _)
  have HX := Lib.hid hx
  have HY := Lib.hid hy
  have HAP := Lib.hid (applyD_any (qv x) (qv y) x.1.attrs y.1.attrs W (hx.below BW.out) (hy.below BW.out) sx sy)
  have HCO := Lib.hid (composeD_any (qv x) (qv y) x.1.attrs y.1.attrs W (hx.below BW.out) (hy.below BW.out) sx sy)
  have hX : W.heap[w.heap.size]? = some (.cells #[.int .i64 x.1.kind, .int .i64 x.1.n, .string x.1.text, qv x] 45 (0, 0)) := by rw [hW]; exact (Below.heap_alloc _ _ _ (by simp; omega)).trans ((Below.heap_alloc _ _ _ (by simp)).trans (heap_new _ _))
  have hR : W.heap[w.heap.size + 1 + 1]? = some (.cells #[.int .i64 0, .int .i64 0, .string ⟨#[]⟩, .slice none 0 0] 45 (0, 0)) := by
    rw [hW]
    have := heap_new ((w.alloc (.cells #[.int .i64 x.1.kind, .int .i64 x.1.n, .string x.1.text, qv x] 45)).alloc (.cells #[.int .i64 y.1.kind, .int .i64 y.1.n, .string y.1.text, qv y] 45)) (.cells #[.int .i64 0, .int .i64 0, .string ⟨#[]⟩, .slice none 0 0] 45)
    rwa [World.size_alloc, World.size_alloc] at this
  have HXX := Lib.hid hX
  have HRR := Lib.hid hR
  have HW := Lib.hid hW
  clear hW hx hy sx sy hX hR
  unfold OneOut
  by_cases k1 : x.1.kind = 3
  · have t1 : (x.1.kind == 3) = true := by rw [k1]; rfl
    have eO : oneO x.1 y.1 = x.1 := by unfold oneO; rw [if_pos k1]
    have eE : oneE x.1 y.1 = 0 := by unfold oneE; rw [if_pos k1]
    rw [eO, eE]
    clear k1 eO eE
    go_enter Tryd.func28, Tryd.ntmps28
    go_wp2_with fail
    refine bodyPost_ret (results_one rfl rfl rfl (three_new _ _ _ _).1) rfl ?_
    exact ⟨_, _, rfl, .inr (.inl ⟨rfl, rfl⟩), (three_new _ _ _ _).2⟩
  · have t1 : (x.1.kind == 3) = false := by rw [beq_eq_false_iff_ne]; exact k1
    by_cases k2 : y.1.kind = 2
    · have t2 : (y.1.kind == 2) = true := by rw [k2]; rfl
      have eO : oneO x.1 y.1 = y.1 := by unfold oneO; rw [if_neg k1, if_pos k2]
      have eE : oneE x.1 y.1 = 0 := by unfold oneE; rw [if_neg k1, if_pos k2]
      rw [eO, eE]
      clear k1 k2 eO eE
      go_enter Tryd.func28, Tryd.ntmps28
      go_wp2_with fail
      refine bodyPost_ret (results_one rfl rfl rfl (three_new _ _ _ _).1) rfl ?_
      exact ⟨_, _, rfl, .inr (.inr ⟨rfl, rfl⟩), (three_new _ _ _ _).2⟩
    · have t2 : (y.1.kind == 2) = false := by rw [beq_eq_false_iff_ne]; exact k2
      by_cases k3 : y.1.kind = 3
      · have t3 : (y.1.kind == 3) = true := by rw [k3]; rfl
        by_cases k4 : x.1.kind = 2
        · have t4 : (x.1.kind == 2) = true := by rw [k4]; rfl
          have eO : oneO x.1 y.1 = zeroO := by unfold oneO; rw [if_neg k1, if_neg k2, if_pos k3, if_pos k4]
          have eE : oneE x.1 y.1 = 0 := by unfold oneE; rw [if_neg k1, if_neg k2, if_pos k3]
          rw [eO, eE]
          clear k1 k2 k3 k4 eO eE
          go_enter Tryd.func28, Tryd.ntmps28
          go_wp2_with fail
          refine bodyPost_ret (results_one rfl rfl rfl (three_new _ _ _ _).1) rfl ?_
          exact ⟨_, _, rfl, .inl ⟨0, World.ownsRow_nil _ _ _ _⟩, (three_new _ _ _ _).2⟩
        · have t4 : (x.1.kind == 2) = false := by rw [beq_eq_false_iff_ne]; exact k4
          have eO : oneO x.1 y.1 = y.1 := by unfold oneO; rw [if_neg k1, if_neg k2, if_pos k3, if_neg k4]
          have eE : oneE x.1 y.1 = 0 := by unfold oneE; rw [if_neg k1, if_neg k2, if_pos k3]
          rw [eO, eE]
          clear k1 k2 k3 k4 eO eE
          go_enter Tryd.func28, Tryd.ntmps28
          go_wp2_with fail
          refine bodyPost_ret (results_one rfl rfl rfl (three_new _ _ _ _).1) rfl ?_
          exact ⟨_, _, rfl, .inr (.inr ⟨rfl, rfl⟩), (three_new _ _ _ _).2⟩
      · have t3 : (y.1.kind == 3) = false := by rw [beq_eq_false_iff_ne]; exact k3
        by_cases k4 : x.1.kind = 2
        · have t4 : (x.1.kind == 2) = true := by rw [k4]; rfl
          have eO : oneO x.1 y.1 = { x.1 with attrs := applyR x.1.attrs y.1.attrs } := by unfold oneO; rw [if_neg k1, if_neg k2, if_neg k3, if_pos k4]
          have eE : oneE x.1 y.1 = applyE x.1.attrs y.1.attrs := by unfold oneE; rw [if_neg k1, if_neg k2, if_neg k3, if_pos k4]
          rw [eO, eE]
          clear k1 k2 k3 k4 eO eE
          go_enter Tryd.func28, Tryd.ntmps28
          go_wp2_with fail
          rw [show ((w.alloc (Obj.cells #[Value.int IntKind.i64 x.1.kind, Value.int IntKind.i64 x.1.n, Value.string x.1.text, qv x] 45)).alloc (Obj.cells #[Value.int IntKind.i64 y.1.kind, Value.int IntKind.i64 y.1.n, Value.string y.1.text, qv y] 45)).alloc (Obj.cells #[Value.int IntKind.i64 0, Value.int IntKind.i64 0, Value.string ⟨#[]⟩, Value.slice none 0 0] 45) = W from HW.out.symm]
          refine HAP.out.mono ?_
          rintro e w1 ⟨rv, rfl, hRow, b⟩
          obtain ⟨ra, rcap, rfl⟩ := own_slice hRow
          have B1 := Lib.hid (BW.out.trans (b.mono BW.out.size))
          have z0 := (b.block _ (lt_of_heap HXX.out)).trans HXX.out
          have z2 := (b.block _ (lt_of_heap HRR.out)).trans HRR.out
          have Z0 := Lib.hid z0
          have Z2 := Lib.hid z2
          have HROW := Lib.hid hRow
          have l2 := lt_of_heap z2
          have a0 : w1.cell? ⟨w.heap.size, 0, none⟩ = some (.int .i64 x.1.kind) := by simp [World.cell?, z0]
          have a1 : w1.cell? ⟨w.heap.size, 1, none⟩ = some (.int .i64 x.1.n) := by simp [World.cell?, z0]
          have a2 : w1.cell? ⟨w.heap.size, 2, none⟩ = some (.string x.1.text) := by simp [World.cell?, z0]
          have a3 : w1.cell? ⟨w.heap.size, 3, none⟩ = some (.slice x.2.1 x.1.attrs.length x.2.2) := by simp [World.cell?, z0]
          have f0 : ∀ j, w1.frozen? ⟨w.heap.size, j, none⟩ = false := fun j => by simp [World.frozen?, z0]
          have g0 : w1.cell? ⟨w.heap.size + 1 + 1, 0, none⟩ = some (.int .i64 0) := by simp [World.cell?, z2]
          have g1 : w1.cell? ⟨w.heap.size + 1 + 1, 1, none⟩ = some (.int .i64 0) := by simp [World.cell?, z2]
          have g2 : w1.cell? ⟨w.heap.size + 1 + 1, 2, none⟩ = some (.string ⟨#[]⟩) := by simp [World.cell?, z2]
          have g3 : w1.cell? ⟨w.heap.size + 1 + 1, 3, none⟩ = some (.slice none 0 0) := by simp [World.cell?, z2]
          have g4 : ∀ j, w1.frozen? ⟨w.heap.size + 1 + 1, j, none⟩ = false := fun j => by simp [World.frozen?, z2]
          clear b z0 z2 hRow
          go_wp2_with fail
          obtain ⟨q1, q2⟩ := four_set (v := .slice ra (applyR x.1.attrs y.1.attrs).length rcap) (u0 := .int .i64 x.1.kind) (u1 := .int .i64 x.1.n) (u2 := .string x.1.text) (u3 := .slice ra (applyR x.1.attrs y.1.attrs).length rcap) Z0.out Z2.out (show w.heap.size + 1 + 1 ≠ w.heap.size by omega) (Nat.le_refl _) (by omega)
          refine bodyPost_ret (results_one rfl rfl rfl q1) rfl ?_
          exact ⟨ra, rcap, rfl, .inl ⟨_, q2.own HROW.out (by decide)⟩, B1.out.trans q2.below⟩
        · have t4 : (x.1.kind == 2) = false := by rw [beq_eq_false_iff_ne]; exact k4
          have eO : oneO x.1 y.1 = { x.1 with attrs := composeR x.1.attrs y.1.attrs } := by unfold oneO; rw [if_neg k1, if_neg k2, if_neg k3, if_neg k4]
          have eE : oneE x.1 y.1 = composeE x.1.attrs y.1.attrs := by unfold oneE; rw [if_neg k1, if_neg k2, if_neg k3, if_neg k4]
          rw [eO, eE]
          clear k1 k2 k3 k4 eO eE
          go_enter Tryd.func28, Tryd.ntmps28
          go_wp2_with fail
          rw [show ((w.alloc (Obj.cells #[Value.int IntKind.i64 x.1.kind, Value.int IntKind.i64 x.1.n, Value.string x.1.text, qv x] 45)).alloc (Obj.cells #[Value.int IntKind.i64 y.1.kind, Value.int IntKind.i64 y.1.n, Value.string y.1.text, qv y] 45)).alloc (Obj.cells #[Value.int IntKind.i64 0, Value.int IntKind.i64 0, Value.string ⟨#[]⟩, Value.slice none 0 0] 45) = W from HW.out.symm]
          refine HCO.out.mono ?_
          rintro e w1 ⟨rv, rfl, hRow, b⟩
          obtain ⟨ra, rcap, rfl⟩ := own_slice hRow
          have B1 := Lib.hid (BW.out.trans (b.mono BW.out.size))
          have z0 := (b.block _ (lt_of_heap HXX.out)).trans HXX.out
          have z2 := (b.block _ (lt_of_heap HRR.out)).trans HRR.out
          have Z0 := Lib.hid z0
          have Z2 := Lib.hid z2
          have HROW := Lib.hid hRow
          have l2 := lt_of_heap z2
          have a0 : w1.cell? ⟨w.heap.size, 0, none⟩ = some (.int .i64 x.1.kind) := by simp [World.cell?, z0]
          have a1 : w1.cell? ⟨w.heap.size, 1, none⟩ = some (.int .i64 x.1.n) := by simp [World.cell?, z0]
          have a2 : w1.cell? ⟨w.heap.size, 2, none⟩ = some (.string x.1.text) := by simp [World.cell?, z0]
          have a3 : w1.cell? ⟨w.heap.size, 3, none⟩ = some (.slice x.2.1 x.1.attrs.length x.2.2) := by simp [World.cell?, z0]
          have f0 : ∀ j, w1.frozen? ⟨w.heap.size, j, none⟩ = false := fun j => by simp [World.frozen?, z0]
          have g0 : w1.cell? ⟨w.heap.size + 1 + 1, 0, none⟩ = some (.int .i64 0) := by simp [World.cell?, z2]
          have g1 : w1.cell? ⟨w.heap.size + 1 + 1, 1, none⟩ = some (.int .i64 0) := by simp [World.cell?, z2]
          have g2 : w1.cell? ⟨w.heap.size + 1 + 1, 2, none⟩ = some (.string ⟨#[]⟩) := by simp [World.cell?, z2]
          have g3 : w1.cell? ⟨w.heap.size + 1 + 1, 3, none⟩ = some (.slice none 0 0) := by simp [World.cell?, z2]
          have g4 : ∀ j, w1.frozen? ⟨w.heap.size + 1 + 1, j, none⟩ = false := fun j => by simp [World.frozen?, z2]
          clear b z0 z2 hRow
          go_wp2_with fail
          obtain ⟨q1, q2⟩ := four_set (v := .slice ra (composeR x.1.attrs y.1.attrs).length rcap) (u0 := .int .i64 x.1.kind) (u1 := .int .i64 x.1.n) (u2 := .string x.1.text) (u3 := .slice ra (composeR x.1.attrs y.1.attrs).length rcap) Z0.out Z2.out (show w.heap.size + 1 + 1 ≠ w.heap.size by omega) (Nat.le_refl _) (by omega)
          refine bodyPost_ret (results_one rfl rfl rfl q1) rfl ?_
          exact ⟨ra, rcap, rfl, .inl ⟨_, q2.own HROW.out (by decide)⟩, B1.out.trans q2.below⟩
end Go.Proofs.YtlfodemmdfaeeaaDoor

/- All that is met of two changesets: what is made of it is what their atoms make. -/
namespace Go.Proofs.YtlfodemmdfaeeaaDoor
open Go.RowKit Rn Ch
open At hiding put
open Cp (Piece OneF oneO oneE alC zeroO atm atms comp fit addA nd)

theorem nd_aq {q : QV5} {s : List QV5} (h : Piece q.1) (hk : q.1.kind ≠ 3) : nd (aq (q :: s)) := by
  intro r e
  rw [aq_cons] at e
  rcases Cp.opE_shape h.1 with ⟨k, a, b, c⟩ | ⟨k, a, b, c, d, _⟩ | ⟨k, _⟩
  · obtain ⟨n, hn⟩ : ∃ n, q.1.n.toNat = n + 1 := ⟨q.1.n.toNat - 1, by omega⟩
    rw [Cp.atm_keep k, hn, List.replicate_succ, List.cons_append] at e
    cases e
  · rw [Cp.atm_ins k] at e
    cases hr : Cp.rns1 q.1.text with
    | nil => exact b hr
    | cons x t => rw [hr, List.map_cons, List.cons_append] at e; cases e
  · exact absurd k hk
theorem one_nil {y : OpD} (hy : Piece y) (ky : y.kind ≠ 2) (m : Int) (hm : m = y.n) : oneE ⟨1, m, ⟨#[]⟩, []⟩ y = 0 ∧ oneO ⟨1, m, ⟨#[]⟩, []⟩ y = y := by
  have c3 : ¬ (1 : Int) = 3 := by decide
  have c2 : ¬ (1 : Int) = 2 := by decide
  rcases Cp.opE_shape hy.1 with ⟨k, a, b, c⟩ | ⟨k, _⟩ | ⟨k, a, b, c⟩
  · obtain ⟨⟨n1, n2⟩, _⟩ := nothing_c true c
    unfold oneE oneO
    rw [if_neg c3, if_neg ky, if_neg (by omega), if_neg c2, if_neg c3, if_neg ky, if_neg (by omega), if_neg c2]
    refine ⟨n1, ?_⟩
    show (⟨1, m, ⟨#[]⟩, composeR [] y.attrs⟩ : OpD) = y
    rw [n2]
    cases y
    simp only at k b hm ⊢
    rw [k, b, hm]
  · exact absurd k ky
  · unfold oneE oneO
    rw [if_neg c3, if_neg ky, if_pos k, if_neg c3, if_neg ky, if_pos k, if_neg c2]
    exact ⟨rfl, rfl⟩
theorem one_nilr {x : OpD} (hx : Piece x) (kx : x.kind ≠ 3) (m : Int) : oneE x ⟨1, m, ⟨#[]⟩, []⟩ = 0 ∧ oneO x ⟨1, m, ⟨#[]⟩, []⟩ = x := by
  have c3 : ¬ (1 : Int) = 3 := by decide
  have c2 : ¬ (1 : Int) = 2 := by decide
  rcases Cp.opE_shape hx.1 with ⟨k, a, b, c⟩ | ⟨k, _, _, _, _, _, _, r⟩ | ⟨k, _⟩
  · obtain ⟨_, ⟨n1, n2⟩, _⟩ := nothing_c true c
    unfold oneE oneO
    rw [if_neg kx, if_neg c2, if_neg c3, if_neg (by omega), if_neg kx, if_neg c2, if_neg c3, if_neg (by omega)]
    exact ⟨n1, by show { x with attrs := composeR x.attrs [] } = x; rw [n2]⟩
  · obtain ⟨n1, n2, _⟩ := nothing_l r
    unfold oneE oneO
    rw [if_neg kx, if_neg c2, if_neg c3, if_pos k, if_neg kx, if_neg c2, if_neg c3, if_pos k]
    exact ⟨n1, by show { x with attrs := applyR x.attrs [] } = x; rw [n2]⟩
  · exact absurd k kx
theorem met_ex : ∀ (n : Nat) (A C : List QV5), A.length + C.length ≤ n → VQ A → VQ C → ∃ ps, MetF A C ps := by
  intro n
  induction n with
  | zero =>
    intro A C hn _ _
    obtain rfl := List.length_eq_zero_iff.1 (show A.length = 0 by omega)
    obtain rfl := List.length_eq_zero_iff.1 (show C.length = 0 by omega)
    exact ⟨[], .done, Nat.zero_le _, fun p hp => (by cases hp), fun p hp => (by cases hp), fun p hp => (by cases hp), ⟨fun _ p hp => (by cases hp), fun _ => Cp.fit_nil _⟩, fun _ s => by rw [show comp (aq []) (aq []) = [] from Cp.comp_nil []]; rfl⟩
  | succ n ih =>
    intro A C hn hA hC
    by_cases h : A = [] ∧ C = []
    · obtain ⟨rfl, rfl⟩ := h
      exact ih [] [] (by simp) hA hC
    · have hne : A ≠ [] ∨ C ≠ [] := by
        by_cases ha : A = []
        · exact .inr fun hc => h ⟨ha, hc⟩
        · exact .inl ha
      have hal1 : alC (nxt5 A).1 (nxt5 C).1 = 1 ↔ (nxt5 A).1.kind = 3 := by
        unfold alC
        split
        · exact ⟨fun _ => by assumption, fun _ => rfl⟩
        · rename_i hk
          refine ⟨fun e => ?_, fun e => absurd e hk⟩
          split at e <;> omega
      have hal2 : alC (nxt5 A).1 (nxt5 C).1 = 2 ↔ (nxt5 A).1.kind ≠ 3 ∧ (nxt5 C).1.kind = 2 := by
        unfold alC
        split
        · rename_i hk
          exact ⟨fun e => by omega, fun e => absurd hk e.1⟩
        · rename_i hk
          split
          · rename_i h2; exact ⟨fun _ => ⟨hk, h2⟩, fun _ => rfl⟩
          · rename_i h2; exact ⟨fun e => by omega, fun e => absurd e.2 h2⟩
      by_cases k1 : (nxt5 A).1.kind = 3
      · -- what the first takes away
        cases A with
        | nil => exact absurd k1 (by decide)
        | cons q s =>
          rw [nxt_cons] at k1
          have hq := hA q (List.mem_cons_self ..)
          have hs : VQ s := fun r hr => hA r (List.mem_cons_of_mem _ hr)
          obtain ⟨f1, f2⟩ := cut_full hq
          have hst : stepM alC (q :: s) C = ((q, zeroQ5), s, C) := by
            unfold stepM
            rw [if_pos (hal1.2 k1), nxt_cons, firstCut_cons, rowTake_cons', if_pos f2, f1]
          obtain ⟨e1, e2, e3, e4⟩ := Cp.one_first hq k1 zeroQ5.1 (aq s) (aq C)
          obtain ⟨ps, hps⟩ := ih s C (by simp at hn; omega) hs hC
          refine ⟨_, hps.cons hst hne ⟨.inl e1, ?_, fun _ t => ?_, fun _ => ?_⟩ (by simp) (src_head rfl) (src_zero _) (fun r hr => ⟨r, List.mem_cons_of_mem _ hr, rfl, rfl⟩) (fromOf_refl _)⟩
          · rw [aq_cons, e3, e1]; exact ⟨fun x => ⟨rfl, x⟩, fun x => x.2⟩
          · show (comp (aq (q :: s)) (aq C)).foldl addA t = (comp (aq s) (aq C)).foldl addA (addG t (oneO q.1 zeroQ5.1))
            rw [aq_cons, e4, e2, addG_piece hq]
          · show 0 ≤ (oneO q.1 zeroQ5.1).n ∧ _
            rw [e2]; exact piece_small hq
      · by_cases k2 : (nxt5 C).1.kind = 2
        · -- what the second puts in
          cases C with
          | nil => exact absurd k2 (by decide)
          | cons q s =>
            rw [nxt_cons] at k2
            have hq := hC q (List.mem_cons_self ..)
            have hs : VQ s := fun r hr => hC r (List.mem_cons_of_mem _ hr)
            obtain ⟨f1, f2⟩ := cut_full hq
            have hst : stepM alC A (q :: s) = ((zeroQ5, q), A, s) := by
              unfold stepM
              rw [if_neg (fun e => k1 (hal1.1 e)), if_pos (hal2.2 ⟨k1, k2⟩), nxt_cons, firstCut_cons, rowTake_cons', if_pos f2, f1]
            have hnd : nd (aq A) := by
              cases A with
              | nil => intro r e; cases e
              | cons a t => exact nd_aq (hA a (List.mem_cons_self ..)) k1
            obtain ⟨e1, e2, e3, e4⟩ := Cp.one_second (x := zeroQ5.1) hq (by decide) k2 hnd (aq s)
            obtain ⟨ps, hps⟩ := ih A s (by simp at hn; omega) hA hs
            refine ⟨_, hps.cons hst hne ⟨.inl e1, ?_, fun _ t => ?_, fun _ => ?_⟩ (by simp) (src_zero _) (src_head rfl) (fromOf_refl _) (fun r hr => ⟨r, List.mem_cons_of_mem _ hr, rfl, rfl⟩)⟩
            · rw [aq_cons, e3, e1]; exact ⟨fun x => ⟨rfl, x⟩, fun x => x.2⟩
            · show (comp (aq A) (aq (q :: s))).foldl addA t = (comp (aq A) (aq s)).foldl addA (addG t (oneO zeroQ5.1 q.1))
              rw [aq_cons, e4, e2, addG_piece hq]
            · show 0 ≤ (oneO zeroQ5.1 q.1).n ∧ _
              rw [e2]; exact piece_small hq
        · have hst : stepM alC A C = ((firstCut A (minN A C), firstCut C (minN A C)), rowTake A (minN A C), rowTake C (minN A C)) := by
            unfold stepM
            rw [if_neg (fun e => k1 (hal1.1 e)), if_neg (fun e => k2 (hal2.1 e).2)]
          cases hA' : A with
          | nil =>
            cases hC' : C with
            | nil => exact absurd ⟨hA', hC'⟩ h
            | cons q s =>
              subst hA' hC'
              rw [nxt_cons] at k2
              have hq := hC q (List.mem_cons_self ..)
              have hs : VQ s := fun r hr => hC r (List.mem_cons_of_mem _ hr)
              obtain ⟨z1, z2, zp⟩ := piece_sz hq
              obtain ⟨f1, f2⟩ := cut_full hq
              have hm : minN [] (q :: s) = (szO q.1).toNat := by
                unfold minN
                rw [nxt_cons, show szO (nxt5 []).1 = 9223372036854775807 from szO_rest]
                omega
              have hn' : ((szO q.1).toNat : Int) = q.1.n := by
                rcases Cp.opE_shape hq.1 with ⟨k, a, b, c⟩ | ⟨k, _⟩ | ⟨k, a, b, c⟩
                · rw [szO_num b]; omega
                · exact absurd k k2
                · rw [szO_num b]; omega
              rw [hm] at hst
              have e1 : firstCut [] (szO q.1).toNat = (⟨1, ((szO q.1).toNat : Int), ⟨#[]⟩, []⟩, (none, 0)) := rfl
              rw [firstCut_cons, rowTake_cons', if_pos f2, f1, e1, show rowTake [] (szO q.1).toNat = [] from rfl] at hst
              obtain ⟨o1, o2⟩ := one_nil hq k2 ((szO q.1).toNat : Int) hn'
              obtain ⟨ps, hps⟩ := ih [] s (by simp at hn ⊢; omega) hA hs
              refine ⟨_, hps.cons hst hne ⟨.inl o1, ?_, fun _ t => ?_, fun _ => ?_⟩ (by simp) (.inl ⟨rfl, rfl⟩) (src_head rfl) (fromOf_refl _) (fun r hr => ⟨r, List.mem_cons_of_mem _ hr, rfl, rfl⟩)⟩
              · exact ⟨fun _ => ⟨o1, Cp.fit_nil _⟩, fun _ => Cp.fit_nil _⟩
              · show (comp (aq []) (aq (q :: s))).foldl addA t = (comp (aq []) (aq s)).foldl addA (addG t (oneO ⟨1, ((szO q.1).toNat : Int), ⟨#[]⟩, []⟩ q.1))
                rw [o2, addG_piece hq, show aq [] = [] from rfl, Cp.comp_nil, Cp.comp_nil, aq_cons, List.foldl_append, Cp.fold_atm hq.1]
              · show 0 ≤ (oneO ⟨1, ((szO q.1).toNat : Int), ⟨#[]⟩, []⟩ q.1).n ∧ _
                rw [o2]; exact piece_small hq
          | cons a t =>
            have ha := hA a (by rw [hA']; exact List.mem_cons_self ..)
            have ht : VQ t := fun r hr => hA r (by rw [hA']; exact List.mem_cons_of_mem _ hr)
            obtain ⟨z1, z2, zp⟩ := piece_sz ha
            cases hC' : C with
            | nil =>
              subst hA' hC'
              rw [nxt_cons] at k1
              obtain ⟨f1, f2⟩ := cut_full ha
              have hm : minN (a :: t) [] = (szO a.1).toNat := by
                unfold minN
                rw [nxt_cons, show szO (nxt5 []).1 = 9223372036854775807 from szO_rest]
                omega
              rw [hm] at hst
              have e1 : firstCut [] (szO a.1).toNat = (⟨1, ((szO a.1).toNat : Int), ⟨#[]⟩, []⟩, (none, 0)) := rfl
              rw [firstCut_cons, rowTake_cons', if_pos f2, f1, e1, show rowTake [] (szO a.1).toNat = [] from rfl] at hst
              obtain ⟨o1, o2⟩ := one_nilr ha k1 ((szO a.1).toNat : Int)
              obtain ⟨ps, hps⟩ := ih t [] (by simp at hn ⊢; omega) ht hC
              refine ⟨_, hps.cons hst hne ⟨.inl o1, ?_, fun _ u => ?_, fun _ => ?_⟩ (by simp) (src_head rfl) (.inl ⟨rfl, rfl⟩) (fun r hr => ⟨r, List.mem_cons_of_mem _ hr, rfl, rfl⟩) (fromOf_refl _)⟩
              · exact ⟨fun _ => ⟨o1, Cp.fit_nilr _⟩, fun _ => Cp.fit_nilr _⟩
              · show (comp (aq (a :: t)) (aq [])).foldl addA u = (comp (aq t) (aq [])).foldl addA (addG u (oneO a.1 ⟨1, ((szO a.1).toNat : Int), ⟨#[]⟩, []⟩))
                rw [o2, addG_piece ha, show aq [] = [] from rfl, Cp.comp_nilr, Cp.comp_nilr, aq_cons, List.foldl_append, Cp.fold_atm ha.1]
              · show 0 ≤ (oneO a.1 ⟨1, ((szO a.1).toNat : Int), ⟨#[]⟩, []⟩).n ∧ _
                rw [o2]; exact piece_small ha
            | cons q s =>
              subst hA' hC'
              rw [nxt_cons] at k1
              rw [nxt_cons] at k2
              have hq := hC q (List.mem_cons_self ..)
              obtain ⟨y1, y2, yp⟩ := piece_sz hq
              have hmn : ((minN (a :: t) (q :: s) : Nat) : Int) = min (szO a.1) (szO q.1) := by
                unfold minN
                rw [nxt_cons, nxt_cons]
                omega
              generalize minN (a :: t) (q :: s) = m at hst hmn
              obtain ⟨a1, a2, a3, a4, a5, a6⟩ := aq_take hA (m := m) (by omega) (by omega)
              obtain ⟨b1, b2, b3, b4, b5, b6⟩ := aq_take hC (m := m) (by omega) (by omega)
              obtain ⟨_, _, c1, _⟩ := zp.cut (m := m) (by omega)
              obtain ⟨_, _, d1, _⟩ := yp.cut (m := m) (by omega)
              obtain ⟨_, _, ka, _⟩ := cut_attrs a.1 m
              obtain ⟨_, _, kq, _⟩ := cut_attrs q.1 m
              rw [firstCut_cons, firstCut_cons] at hst
              have hl : (rowTake (a :: t) m).length + (rowTake (q :: s) m).length < (a :: t).length + (q :: s).length := by
                rw [List.length_cons, List.length_cons]
                rcases Int.le_total (szO a.1) (szO q.1) with hle | hle
                · have := a5 (by omega); rw [this]; omega
                · have := b5 (by omega); rw [this]; omega
              have hO : OneF (cutA a.1 m) (cutA q.1 m) (aq (rowTake (a :: t) m)) (aq (rowTake (q :: s) m)) := by
                rcases Cp.opE_shape a3.1 with ⟨k, _, xt, _⟩ | ⟨k, xn, _⟩ | ⟨k, _⟩
                · rcases Cp.opE_shape b3.1 with ⟨k', _, yt, _⟩ | ⟨k', _⟩ | ⟨k', _, yt, _⟩
                  · exact Cp.one_kk a3 b3 k k' (by rw [szO_num xt] at c1; rw [szO_num yt] at d1; omega) _ _
                  · omega
                  · exact Cp.one_kd a3 b3 k k' (by rw [szO_num xt] at c1; rw [szO_num yt] at d1; omega) _ _
                · rcases Cp.opE_shape b3.1 with ⟨k', _, yt, _⟩ | ⟨k', _⟩ | ⟨k', _, yt, _⟩
                  · exact Cp.one_ik a3 b3 k k' (by rw [szO_txt xn] at c1; rw [szO_num yt] at d1; omega) _ _
                  · omega
                  · exact Cp.one_id a3 b3 k k' (by rw [szO_txt xn] at c1; rw [szO_num yt] at d1; omega) _ _
                · omega
              have hS := step_of hO
              rw [← a1, ← b1] at hS
              obtain ⟨ps, hps⟩ := ih _ _ (by omega) a2 b2
              exact ⟨_, hps.cons hst hne hS hl (src_head (cut_attrs a.1 m).1) (src_head (cut_attrs q.1 m).1) a6 b6⟩
end Go.Proofs.YtlfodemmdfaeeaaDoor

/- What Compose's loop stands on: operations of one's own as pieces; what is added, of what is met. -/
namespace Go.Proofs.YtlfodemmdfaeeaaDoor
open Go.RowKit Rn Ch
open At hiding put
open Cp (Piece oneO oneE alC zeroO atm atms)

theorem sM_succ {ps : List (QV5 × QV5)} {k : Nat} (h : k < ps.length) : sM ps (k + 1) = addG (sM ps k) (oneO ps[k].1.1 ps[k].2.1) := by
  unfold sM
  rw [List.take_succ_eq_append_getElem h, List.foldl_append]; rfl
theorem sM_sm {A C : List QV5} {ps : List (QV5 × QV5)} (h : MetF A C ps) : ∀ k, k ≤ ps.length → (∀ i (_hi : i < k) (hl : i < ps.length), oneE ps[i].1.1 ps[i].2.1 = 0) → SmI (20000 * (k : Int)) (80000 * k) k (sM ps k) := by
  intro k
  induction k with
  | zero => intro _ _; exact smI_nil
  | succ k ih =>
    intro hk ha
    obtain ⟨a, b, c, _⟩ := h.small ps[k] (List.getElem_mem (by omega)) (ha k (by omega) (by omega))
    rw [sM_succ (by omega)]
    exact ((ih (by omega) fun i hi hl => ha i (by omega) hl).addG a).more (by rw [Int.natCast_add]; omega) (by omega) (Nat.le_refl _)
theorem sM_all {A C : List QV5} {ps : List (QV5 × QV5)} (h : MetF A C ps) (ha : ∀ p ∈ ps, oneE p.1.1 p.2.1 = 0) : chgL (sM ps ps.length) = Cp.cmpN (A.map (·.1)) (C.map (·.1)) := by
  unfold chgL sM Cp.cmpN Cp.normA
  rw [List.take_length, ← h.fold ha]
/-- Two normal forms, the one behind the other. -/
theorem nrm_zero {f g : Int} {A C : List OpD} (h1 : toE f A = 0) (h2 : toE g C = 0) (h3 : toN f A = g) : Cp.CmpF f (norm A) (norm C) g := by
  have o1 := (toE_iff f A).1 h1
  have o2 := (toE_iff g C).1 h2
  obtain ⟨n1, d1, i1⟩ := norm_ok o1
  obtain ⟨n2, d2, i2⟩ := norm_ok o2
  have := toN_ok h1
  exact ⟨n1, n2, by omega⟩
end Go.Proofs.YtlfodemmdfaeeaaDoor

/- What Compose keeps on the way: its loop over what is met. -/
namespace Go.Proofs.YtlfodemmdfaeeaaDoor
open Go.RowKit Rn Ch
open At hiding put
open Cp (Piece oneO oneE alC zeroO atm atms)

abbrev TB5 : List TypeId := [45, 58, 5, 25, 27]
end Go.Proofs.YtlfodemmdfaeeaaDoor
