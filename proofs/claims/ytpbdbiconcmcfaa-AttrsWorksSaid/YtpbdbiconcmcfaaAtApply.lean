/- The program's Apply, Compose, Follow, Invert. -/
import Derived.Test.YtpbdbiconcmcfaaAtCloned
import Derived.Test.YtpbdbiconcmcfaaAtRight
namespace Go.Proofs.Ytpbdbiconcmcfaa
open Go.RowKit At

theorem choosesApply (w : World) : Chooses 21 #[] chApply w where
  enters args W := by kernel_rfl
  does x y ox oy W _ hx hy := chApply_any x y ox oy W hx hy
theorem choosesCompose (w : World) : Chooses 22 #[] chCompose w where
  enters args W := by kernel_rfl
  does x y ox oy W _ hx hy := chCompose_any x y ox oy W hx hy
theorem choosesInvert (w : World) : Chooses 24 #[] chInvert w where
  enters args W := by kernel_rfl
  does x y ox oy W _ hx hy := chInvert_any x y ox oy W hx hy
theorem choosesFollow (first : Bool) (c : Nat) (w : World) (hc : w.cell? ⟨c, 0, none⟩ = some (.bool first)) : Chooses 23 #[.pointer (some ⟨c, 0, none⟩)] (chFollow first) w where
  enters args W := by kernel_rfl
  does x y ox oy W hb hx hy := chFollow_any first c x y ox oy W (by rw [hb.cell (by exact World.block_lt_of_cell? _ _ hc)]; exact hc) hx hy

/-- Which rows may be, in plain words. -/
theorem rises_of {l : List (K × V)} (h : ∀ i (hi : i < l.length), (if h0 : 0 < i then Op.bytesLess (l[i - 1]'(by omega)).1.toList l[i].1.toList else true) = true) : Rises ltB l := by
  have step : ∀ d i (hj : i + d + 1 < l.length), ltB (l[i]'(by omega)).1 (l[i + d + 1]'hj).1 = true := by
    intro d
    induction d with
    | zero =>
      intro i hj
      have := h (i + 1) hj
      rw [dif_pos (by omega)] at this
      exact this
    | succ d ih =>
      intro i hj
      have h1 := ih i (by omega)
      have h2 := h (i + (d + 1) + 1) hj
      rw [dif_pos (by omega)] at h2
      exact strictB.tr _ _ _ h1 h2
  refine List.pairwise_iff_getElem.2 fun i j hi hj hij => ?_
  have := step (j - i - 1) i (by omega)
  have e : i + (j - i - 1) + 1 = j := by omega
  simpa [e] using this
theorem adj_of {l : List (K × V)} (h : Rises ltB l) (i : Nat) (hi : i < l.length) : (if h0 : 0 < i then Op.bytesLess (l[i - 1]'(by omega)).1.toList l[i].1.toList else true) = true := by
  by_cases h0 : 0 < i
  · rw [dif_pos h0]
    exact List.pairwise_iff_getElem.1 h (i - 1) i (by omega) hi (by omega)
  · rw [dif_neg h0]
theorem chg_iff {l : List (K × V)} : chgB l = true ↔ l.length ≤ 8 ∧ (∀ x ∈ l, keyB x.1 = true ∧ valB x.2 = true) ∧ Rises ltB l := by
  constructor
  · intro h
    obtain ⟨h1, h2⟩ := of_decide_eq_true h
    unfold chgOne at h2
    simp only [Bool.and_eq_true] at h2
    refine ⟨h1, fun x hx => ?_, rises_of fun i hi => (h2 i hi).2⟩
    obtain ⟨i, hi, rfl⟩ := List.getElem_of_mem hx
    exact (h2 i hi).1
  · rintro ⟨h1, h2, h3⟩
    refine decide_eq_true ⟨h1, fun i hi => ?_⟩
    unfold chgOne
    simp only [Bool.and_eq_true]
    exact ⟨h2 _ (List.getElem_mem hi), adj_of h3 i hi⟩
theorem rgt_iff {l : List (K × V)} : rgtB l = true ↔ l.length ≤ 8 ∧ (∀ x ∈ l, keyB x.1 = true ∧ valNE x.2 = true) ∧ Rises ltB l := by
  constructor
  · intro h
    obtain ⟨h1, h2⟩ := of_decide_eq_true h
    unfold rgtOne at h2
    simp only [Bool.and_eq_true] at h2
    refine ⟨h1, fun x hx => ?_, rises_of fun i hi => (h2 i hi).2⟩
    obtain ⟨i, hi, rfl⟩ := List.getElem_of_mem hx
    exact (h2 i hi).1
  · rintro ⟨h1, h2, h3⟩
    refine decide_eq_true ⟨h1, fun i hi => ?_⟩
    unfold rgtOne
    simp only [Bool.and_eq_true]
    exact ⟨h2 _ (List.getElem_mem hi), adj_of h3 i hi⟩
theorem keyB_size {s : ByteArray} (h : keyB s = true) : s.size ≤ 64 := by
  have := (of_decide_eq_true h).2.2
  omega
theorem valB_size {s : ByteArray} (h : valB s = true) : s.size ≤ 64 := (of_decide_eq_true h).2
theorem valNE_iff {s : ByteArray} : valNE s = true ↔ s ≠ emp ∧ valB s = true := by
  unfold valNE
  rw [Bool.and_eq_true, decide_eq_true_iff]
  have : (1 ≤ s.size) ↔ s ≠ emp := by
    rw [Ne, beq_empty, size_nil]
    omega
  rw [this]
theorem valB_emp : valB emp = true := by decide +kernel

theorem mem_applyL {l c : List (K × V)} {x : K × V} (h : x ∈ applyL ltB emp l c) : x ∈ l ∨ (x ∈ c ∧ x.2 ≠ emp) := by
  unfold applyL at h
  rw [mem_puts, mem_puts] at h
  rcases h with h | h | h
  · have := List.mem_filter.1 h
    exact .inr ⟨this.1, by simpa using this.2⟩
  · exact .inl (List.mem_filter.1 h).1
  · cases h
theorem mem_composeL {a b : List (K × V)} {x : K × V} (h : x ∈ composeL ltB a b) : x ∈ a ∨ x ∈ b := by
  unfold composeL at h
  rw [mem_puts] at h
  rcases h with h | h
  · exact .inl (List.mem_filter.1 h).1
  · exact .inr h
theorem mem_followL {a b : List (K × V)} {first : Bool} {x : K × V} (h : x ∈ followL a b first) : x ∈ b := (List.mem_filter.1 h).1
theorem mem_invertL {l c : List (K × V)} {x : K × V} (h : x ∈ invertL emp l c) : (∃ v, (x.1, v) ∈ c) ∧ (x.2 = emp ∨ x ∈ l) := by
  obtain ⟨v, h1, h2, _⟩ := invert_mem h
  refine ⟨⟨v, h1⟩, ?_⟩
  cases hk : At.look l x.1 with
  | none => rw [hk] at h2; exact .inl h2
  | some u =>
    rw [hk] at h2
    have := look_mem hk
    right
    have e : x = (x.1, u) := Prod.ext rfl h2
    rw [e]; exact this

/-- What the four answer. -/
def applyR (l c : List (K × V)) : List (K × V) := if (rgtB l && chgB c) = true then (if (applyL ltB emp l c).length ≤ 8 then applyL ltB emp l c else []) else []
def applyE (l c : List (K × V)) : Int := if (rgtB l && chgB c) = true then (if (applyL ltB emp l c).length ≤ 8 then 0 else 3) else 20
def composeR (a b : List (K × V)) : List (K × V) := if (chgB a && chgB b) = true then (if (composeL ltB a b).length ≤ 8 then composeL ltB a b else []) else []
def composeE (a b : List (K × V)) : Int := if (chgB a && chgB b) = true then (if (composeL ltB a b).length ≤ 8 then 0 else 3) else 20
def followR (first : Bool) (a b : List (K × V)) : List (K × V) := if (chgB a && chgB b) = true then followL a b first else []
def followE (a b : List (K × V)) : Int := if (chgB a && chgB b) = true then 0 else 20
def invertR (l c : List (K × V)) : List (K × V) := if (rgtB l && chgB c) = true then invertL emp l c else []
def invertE (l c : List (K × V)) : Int := if (rgtB l && chgB c) = true then 0 else 20
def RowOut (W : World) (R : List (K × V)) (E : Int) (e : Ending) (w' : World) : Prop := ∃ v, e = .returned (.tuple #[v, .int .i64 E]) ∧ w'.ownsRow W.heap.size 33 2 v R.length (flat R) ∧ Below W.heap.size W w'
def Sized (l : List (K × V)) : Prop := ∀ x ∈ l, x.1.size ≤ maxLen ∧ x.2.size ≤ maxLen
theorem rowOut_nil {W w' : World} {E : Int} (hb : Below W.heap.size W w') : RowOut W [] E (.returned (.tuple #[.slice none 0 0, .int .i64 E])) w' := ⟨_, rfl, World.ownsRow_nil _ _ _ _, hb⟩
theorem own_base {w : World} {B C k n : Nat} {e : TypeId} {v : Value} {xs : List Value} (h : w.ownsRow B e k v n xs) (hc : C ≤ B) : w.ownsRow C e k v n xs :=
  ⟨h.1, h.2.imp id fun ⟨g, cap, cur, a, b, c⟩ => ⟨g, cap, cur, a, Nat.le_trans hc b, c⟩⟩
theorem own_slice {w : World} {B k n : Nat} {e : TypeId} {v : Value} {xs : List Value} (h : w.ownsRow B e k v n xs) : ∃ a cap, v = .slice a n cap := by
  rcases h.2 with ⟨rfl, h0⟩ | ⟨g, cap, _, rfl, _⟩
  · exact ⟨none, 0, by rw [h0]⟩
  · exact ⟨_, _, rfl⟩

theorem limited_ok (a : Option Addr) (n cap : Nat) (w : World) (hn : n ≤ 8) :
    Calls Try.prog 19 #[.slice a n cap] w fun e w' => e = .returned (.tuple #[.slice a n cap, .int .i64 0]) ∧ w' = w := by
  have h1 : decide ((8 : Int) < (n : Int)) = false := decide_eq_false (by omega)
  have h2 : decide (8 < n) = false := decide_eq_false (by omega)
  clear hn
  go_enter Try.func19, Try.ntmps19
  go_wp2_with fail
  go_ret2
  exact ⟨rfl, rfl⟩
theorem limited_no (a : Option Addr) (n cap : Nat) (w : World) (hn : ¬ n ≤ 8) :
    Calls Try.prog 19 #[.slice a n cap] w fun e w' => e = .returned (.tuple #[.slice none 0 0, .int .i64 3]) ∧ w' = w := by
  have h1 : (8 : Int) < (n : Int) := by omega
  clear hn
  go_enter Try.func19, Try.ntmps19
  go_wp2_with fail
  go_ret2
  exact ⟨rfl, rfl⟩

set_option maxHeartbeats 2000000 in
theorem applyD_any (v u : Value) (l c : List (K × V)) (w : World) (hv : AtRow w v l) (hu : AtRow w u c) (hl : Sized l) (hc : Sized c) :
    Calls Try.prog 6 #[v, u] w (RowOut w (applyR l c) (applyE l c)) := by
  have Hv := Lib.hid hv
  have Hu := Lib.hid hu
  have Hl := Lib.hid hl
  have Hc := Lib.hid hc
  clear hv hu hl hc
  cases hr : rgtB l with
  | false =>
    have hE : rgtE l = 20 := by unfold rgtE; rw [hr]; rfl
    have h1 : applyR l c = [] ∧ applyE l c = 20 := by unfold applyR applyE; rw [hr]; exact ⟨rfl, rfl⟩
    rw [h1.1, h1.2]
    clear h1 hr
    have HE := Lib.hid hE
    clear hE
    go_enter Try.func6, Try.ntmps6
    go_wp2_with fail
    refine (rightD_any v l _ Hv.out Hl.out).mono ?_
    rw [HE.out]
    rintro e w1 ⟨rfl, b1⟩
    go_wp2_with fail
    go_ret2
    exact rowOut_nil b1
  | true =>
    have hE : rgtE l = 0 := by unfold rgtE; rw [hr]; rfl
    have HE := Lib.hid hE
    clear hE
    cases hch : chgB c with
    | false =>
      have hE2 : chgE c = 20 := by unfold chgE; rw [hch]; rfl
      have h1 : applyR l c = [] ∧ applyE l c = 20 := by unfold applyR applyE; rw [hr, hch]; exact ⟨rfl, rfl⟩
      rw [h1.1, h1.2]
      clear h1 hr hch
      have HE2 := Lib.hid hE2
      clear hE2
      go_enter Try.func6, Try.ntmps6
      go_wp2_with fail
      refine (rightD_any v l _ Hv.out Hl.out).mono ?_
      rw [HE.out]
      rintro e w1 ⟨rfl, b1⟩
      have s1 := b1.size
      go_wp2_with fail
      refine (changeD_any u c _ (Hu.out.below b1) Hc.out).mono ?_
      rw [HE2.out]
      rintro e w2 ⟨rfl, b2⟩
      go_wp2_with fail
      go_ret2
      exact rowOut_nil (b1.trans (b2.mono s1))
    | true =>
      have hE2 : chgE c = 0 := by unfold chgE; rw [hch]; rfl
      have HE2 := Lib.hid hE2
      obtain ⟨ll, lo, lr⟩ := rgt_iff.1 hr
      obtain ⟨cl, co, cr⟩ := chg_iff.1 hch
      have hm : mergeL chApply l c = applyL ltB emp l c := merge_apply lr cr
      have Hm := Lib.hid hm
      have hsz : ∀ x ∈ mergeL chApply l c, x.1.size ≤ 64 ∧ x.2.size ≤ 64 := by
        rw [hm]
        intro x hx
        rcases mem_applyL hx with h | ⟨h, _⟩
        · exact ⟨keyB_size (lo x h).1, valB_size (valNE_iff.1 (lo x h).2).2⟩
        · exact ⟨keyB_size (co x h).1, valB_size (co x h).2⟩
      have Hsz := Lib.hid hsz
      clear hm hsz
      by_cases h8 : (applyL ltB emp l c).length ≤ 8
      · have h1 : applyR l c = applyL ltB emp l c ∧ applyE l c = 0 := by unfold applyR applyE; rw [hr, hch]; simp [h8]
        rw [h1.1, h1.2]
        clear h1
        clear hE2 hr hch lo co lr cr
        go_enter Try.func6, Try.ntmps6
        go_wp2_with fail
        refine (rightD_any v l _ Hv.out Hl.out).mono ?_
        rw [HE.out]
        rintro e w1 ⟨rfl, b1⟩
        have s1 := b1.size
        go_wp2_with fail
        refine (changeD_any u c _ (Hu.out.below b1) Hc.out).mono ?_
        rw [HE2.out]
        rintro e w2 ⟨rfl, b2⟩
        have s2 := b2.size
        go_wp2_with fail
        refine (cloned_any _ _ _ v u l c _ (choosesApply _) (Hv.out.below (b1.trans (b2.mono s1))) (Hu.out.below (b1.trans (b2.mono s1))) ll cl Hsz.out).mono ?_
        rw [Hm.out]
        rintro e w3 ⟨r, rfl, o3, b3⟩
        have s3 := b3.size
        obtain ⟨ar, capr, rfl⟩ := own_slice o3
        go_wp2_with fail
        refine (limited_ok _ _ _ _ h8).mono ?_
        rintro e w4 ⟨rfl, rfl⟩
        go_wp2_with fail
        go_ret2
        exact ⟨_, rfl, own_base o3 (Nat.le_trans s1 s2), ((b1.trans (b2.mono s1)).trans (b3.mono (Nat.le_trans s1 s2)))⟩
      · have h1 : applyR l c = [] ∧ applyE l c = 3 := by unfold applyR applyE; rw [hr, hch]; simp [h8]
        rw [h1.1, h1.2]
        clear h1
        clear hE2 hr hch lo co lr cr
        go_enter Try.func6, Try.ntmps6
        go_wp2_with fail
        refine (rightD_any v l _ Hv.out Hl.out).mono ?_
        rw [HE.out]
        rintro e w1 ⟨rfl, b1⟩
        have s1 := b1.size
        go_wp2_with fail
        refine (changeD_any u c _ (Hu.out.below b1) Hc.out).mono ?_
        rw [HE2.out]
        rintro e w2 ⟨rfl, b2⟩
        have s2 := b2.size
        go_wp2_with fail
        refine (cloned_any _ _ _ v u l c _ (choosesApply _) (Hv.out.below (b1.trans (b2.mono s1))) (Hu.out.below (b1.trans (b2.mono s1))) ll cl Hsz.out).mono ?_
        rw [Hm.out]
        rintro e w3 ⟨r, rfl, o3, b3⟩
        have s3 := b3.size
        obtain ⟨ar, capr, rfl⟩ := own_slice o3
        go_wp2_with fail
        refine (limited_no _ _ _ _ h8).mono ?_
        rintro e w4 ⟨rfl, rfl⟩
        go_wp2_with fail
        go_ret2
        exact rowOut_nil ((b1.trans (b2.mono s1)).trans (b3.mono (Nat.le_trans s1 s2)))

set_option maxHeartbeats 2000000 in
theorem composeD_any (v u : Value) (l c : List (K × V)) (w : World) (hv : AtRow w v l) (hu : AtRow w u c) (hl : Sized l) (hc : Sized c) :
    Calls Try.prog 7 #[v, u] w (RowOut w (composeR l c) (composeE l c)) := by
  have Hv := Lib.hid hv
  have Hu := Lib.hid hu
  have Hl := Lib.hid hl
  have Hc := Lib.hid hc
  clear hv hu hl hc
  cases hr : chgB l with
  | false =>
    have hE : chgE l = 20 := by unfold chgE; rw [hr]; rfl
    have h1 : composeR l c = [] ∧ composeE l c = 20 := by unfold composeR composeE; rw [hr]; exact ⟨rfl, rfl⟩
    rw [h1.1, h1.2]
    clear h1 hr
    have HE := Lib.hid hE
    clear hE
    go_enter Try.func7, Try.ntmps7
    go_wp2_with fail
    refine (changeD_any v l _ Hv.out Hl.out).mono ?_
    rw [HE.out]
    rintro e w1 ⟨rfl, b1⟩
    go_wp2_with fail
    go_ret2
    exact rowOut_nil b1
  | true =>
    have hE : chgE l = 0 := by unfold chgE; rw [hr]; rfl
    have HE := Lib.hid hE
    clear hE
    cases hch : chgB c with
    | false =>
      have hE2 : chgE c = 20 := by unfold chgE; rw [hch]; rfl
      have h1 : composeR l c = [] ∧ composeE l c = 20 := by unfold composeR composeE; rw [hr, hch]; exact ⟨rfl, rfl⟩
      rw [h1.1, h1.2]
      clear h1 hr hch
      have HE2 := Lib.hid hE2
      clear hE2
      go_enter Try.func7, Try.ntmps7
      go_wp2_with fail
      refine (changeD_any v l _ Hv.out Hl.out).mono ?_
      rw [HE.out]
      rintro e w1 ⟨rfl, b1⟩
      have s1 := b1.size
      go_wp2_with fail
      refine (changeD_any u c _ (Hu.out.below b1) Hc.out).mono ?_
      rw [HE2.out]
      rintro e w2 ⟨rfl, b2⟩
      go_wp2_with fail
      go_ret2
      exact rowOut_nil (b1.trans (b2.mono s1))
    | true =>
      have hE2 : chgE c = 0 := by unfold chgE; rw [hch]; rfl
      have HE2 := Lib.hid hE2
      obtain ⟨ll, lo, lr⟩ := chg_iff.1 hr
      obtain ⟨cl, co, cr⟩ := chg_iff.1 hch
      have hm : mergeL chCompose l c = composeL ltB l c := merge_compose lr cr
      have Hm := Lib.hid hm
      have hsz : ∀ x ∈ mergeL chCompose l c, x.1.size ≤ 64 ∧ x.2.size ≤ 64 := by
        rw [hm]
        intro x hx
        rcases mem_composeL hx with h | h
        · exact ⟨keyB_size (lo x h).1, valB_size (lo x h).2⟩
        · exact ⟨keyB_size (co x h).1, valB_size (co x h).2⟩
      have Hsz := Lib.hid hsz
      clear hm hsz
      by_cases h8 : (composeL ltB l c).length ≤ 8
      · have h1 : composeR l c = composeL ltB l c ∧ composeE l c = 0 := by unfold composeR composeE; rw [hr, hch]; simp [h8]
        rw [h1.1, h1.2]
        clear h1
        clear hE2 hr hch lo co lr cr
        go_enter Try.func7, Try.ntmps7
        go_wp2_with fail
        refine (changeD_any v l _ Hv.out Hl.out).mono ?_
        rw [HE.out]
        rintro e w1 ⟨rfl, b1⟩
        have s1 := b1.size
        go_wp2_with fail
        refine (changeD_any u c _ (Hu.out.below b1) Hc.out).mono ?_
        rw [HE2.out]
        rintro e w2 ⟨rfl, b2⟩
        have s2 := b2.size
        go_wp2_with fail
        refine (cloned_any _ _ _ v u l c _ (choosesCompose _) (Hv.out.below (b1.trans (b2.mono s1))) (Hu.out.below (b1.trans (b2.mono s1))) ll cl Hsz.out).mono ?_
        rw [Hm.out]
        rintro e w3 ⟨r, rfl, o3, b3⟩
        have s3 := b3.size
        obtain ⟨ar, capr, rfl⟩ := own_slice o3
        go_wp2_with fail
        refine (limited_ok _ _ _ _ h8).mono ?_
        rintro e w4 ⟨rfl, rfl⟩
        go_wp2_with fail
        go_ret2
        exact ⟨_, rfl, own_base o3 (Nat.le_trans s1 s2), ((b1.trans (b2.mono s1)).trans (b3.mono (Nat.le_trans s1 s2)))⟩
      · have h1 : composeR l c = [] ∧ composeE l c = 3 := by unfold composeR composeE; rw [hr, hch]; simp [h8]
        rw [h1.1, h1.2]
        clear h1
        clear hE2 hr hch lo co lr cr
        go_enter Try.func7, Try.ntmps7
        go_wp2_with fail
        refine (changeD_any v l _ Hv.out Hl.out).mono ?_
        rw [HE.out]
        rintro e w1 ⟨rfl, b1⟩
        have s1 := b1.size
        go_wp2_with fail
        refine (changeD_any u c _ (Hu.out.below b1) Hc.out).mono ?_
        rw [HE2.out]
        rintro e w2 ⟨rfl, b2⟩
        have s2 := b2.size
        go_wp2_with fail
        refine (cloned_any _ _ _ v u l c _ (choosesCompose _) (Hv.out.below (b1.trans (b2.mono s1))) (Hu.out.below (b1.trans (b2.mono s1))) ll cl Hsz.out).mono ?_
        rw [Hm.out]
        rintro e w3 ⟨r, rfl, o3, b3⟩
        have s3 := b3.size
        obtain ⟨ar, capr, rfl⟩ := own_slice o3
        go_wp2_with fail
        refine (limited_no _ _ _ _ h8).mono ?_
        rintro e w4 ⟨rfl, rfl⟩
        go_wp2_with fail
        go_ret2
        exact rowOut_nil ((b1.trans (b2.mono s1)).trans (b3.mono (Nat.le_trans s1 s2)))

set_option maxHeartbeats 2000000 in
theorem followD_any (first : Bool) (v u : Value) (l c : List (K × V)) (w : World) (hv : AtRow w v l) (hu : AtRow w u c) (hl : Sized l) (hc : Sized c) :
    Calls Try.prog 8 #[v, u, .bool first] w (RowOut w (followR first l c) (followE l c)) := by
  have Hv := Lib.hid hv
  have Hu := Lib.hid hu
  have Hl := Lib.hid hl
  have Hc := Lib.hid hc
  clear hv hu hl hc
  cases hr : chgB l with
  | false =>
    have hE : chgE l = 20 := by unfold chgE; rw [hr]; rfl
    have h1 : followR first l c = [] ∧ followE l c = 20 := by unfold followR followE; rw [hr]; exact ⟨rfl, rfl⟩
    rw [h1.1, h1.2]
    clear h1 hr
    have HE := Lib.hid hE
    clear hE
    go_enter Try.func8, Try.ntmps8
    go_wp2_with fail
    refine (changeD_any v l _ (Hv.out.below ((Below.refl w.heap.size w).alloc (Nat.le_refl _) _)) Hl.out).mono ?_
    rw [HE.out]
    rintro e w1 ⟨rfl, b1⟩
    go_wp2_with fail
    go_ret2
    exact rowOut_nil (((Below.refl w.heap.size w).alloc (Nat.le_refl _) _).trans (b1.mono (by simp)))
  | true =>
    have hE : chgE l = 0 := by unfold chgE; rw [hr]; rfl
    have HE := Lib.hid hE
    clear hE
    cases hch : chgB c with
    | false =>
      have hE2 : chgE c = 20 := by unfold chgE; rw [hch]; rfl
      have h1 : followR first l c = [] ∧ followE l c = 20 := by unfold followR followE; rw [hr, hch]; exact ⟨rfl, rfl⟩
      rw [h1.1, h1.2]
      clear h1 hr hch
      have HE2 := Lib.hid hE2
      clear hE2
      go_enter Try.func8, Try.ntmps8
      go_wp2_with fail
      refine (changeD_any v l _ (Hv.out.below ((Below.refl w.heap.size w).alloc (Nat.le_refl _) _)) Hl.out).mono ?_
      rw [HE.out]
      rintro e w1 ⟨rfl, b1⟩
      have s1 := b1.size
      go_wp2_with fail
      refine (changeD_any u c _ (Hu.out.below (((Below.refl w.heap.size w).alloc (Nat.le_refl _) _).trans (b1.mono (by simp)))) Hc.out).mono ?_
      rw [HE2.out]
      rintro e w2 ⟨rfl, b2⟩
      go_wp2_with fail
      go_ret2
      exact rowOut_nil ((((Below.refl w.heap.size w).alloc (Nat.le_refl _) _).trans (b1.mono (by simp))).trans (b2.mono (by simp at s1; omega)))
    | true =>
      have hE2 : chgE c = 0 := by unfold chgE; rw [hch]; rfl
      have HE2 := Lib.hid hE2
      obtain ⟨ll, lo, lr⟩ := chg_iff.1 hr
      obtain ⟨cl, co, cr⟩ := chg_iff.1 hch
      have hm : mergeL (chFollow first) l c = followL l c first := merge_follow first lr cr
      have Hm := Lib.hid hm
      have hsz : ∀ x ∈ mergeL (chFollow first) l c, x.1.size ≤ 64 ∧ x.2.size ≤ 64 := by
        rw [hm]
        intro x hx
        exact ⟨keyB_size (co x (mem_followL hx)).1, valB_size (co x (mem_followL hx)).2⟩
      have Hsz := Lib.hid hsz
      clear hm hsz
      have h1 : followR first l c = followL l c first ∧ followE l c = 0 := by unfold followR followE; rw [hr, hch]; simp
      rw [h1.1, h1.2]
      clear h1
      clear hE2 hr hch lo co lr cr
      go_enter Try.func8, Try.ntmps8
      go_wp2_with fail
      refine (changeD_any v l _ (Hv.out.below ((Below.refl w.heap.size w).alloc (Nat.le_refl _) _)) Hl.out).mono ?_
      rw [HE.out]
      rintro e w1 ⟨rfl, b1⟩
      have s1 := b1.size
      go_wp2_with fail
      refine (changeD_any u c _ (Hu.out.below (((Below.refl w.heap.size w).alloc (Nat.le_refl _) _).trans (b1.mono (by simp)))) Hc.out).mono ?_
      rw [HE2.out]
      rintro e w2 ⟨rfl, b2⟩
      have s2 := b2.size
      go_wp2_with fail
      refine (cloned_any _ _ _ v u l c _ (choosesFollow first w.heap.size w2 (by rw [b2.cell (by exact Nat.lt_of_lt_of_le (by simp) s1), b1.cell (by exact (by simp))]; go_simp)) (Hv.out.below ((((Below.refl w.heap.size w).alloc (Nat.le_refl _) _).trans (b1.mono (by simp))).trans (b2.mono (by simp at s1; omega)))) (Hu.out.below ((((Below.refl w.heap.size w).alloc (Nat.le_refl _) _).trans (b1.mono (by simp))).trans (b2.mono (by simp at s1; omega)))) ll cl Hsz.out).mono ?_
      rw [Hm.out]
      rintro e w3 ⟨r, rfl, o3, b3⟩
      have s3 := b3.size
      go_wp2_with fail
      go_ret2
      exact ⟨_, rfl, own_base o3 (by simp at s1; omega), (((((Below.refl w.heap.size w).alloc (Nat.le_refl _) _).trans (b1.mono (by simp))).trans (b2.mono (by simp at s1; omega))).trans (b3.mono (by simp at s1; omega)))⟩

set_option maxHeartbeats 2000000 in
theorem invertD_any (v u : Value) (l c : List (K × V)) (w : World) (hv : AtRow w v l) (hu : AtRow w u c) (hl : Sized l) (hc : Sized c) :
    Calls Try.prog 9 #[v, u] w (RowOut w (invertR l c) (invertE l c)) := by
  have Hv := Lib.hid hv
  have Hu := Lib.hid hu
  have Hl := Lib.hid hl
  have Hc := Lib.hid hc
  clear hv hu hl hc
  cases hr : rgtB l with
  | false =>
    have hE : rgtE l = 20 := by unfold rgtE; rw [hr]; rfl
    have h1 : invertR l c = [] ∧ invertE l c = 20 := by unfold invertR invertE; rw [hr]; exact ⟨rfl, rfl⟩
    rw [h1.1, h1.2]
    clear h1 hr
    have HE := Lib.hid hE
    clear hE
    go_enter Try.func9, Try.ntmps9
    go_wp2_with fail
    refine (rightD_any v l _ Hv.out Hl.out).mono ?_
    rw [HE.out]
    rintro e w1 ⟨rfl, b1⟩
    go_wp2_with fail
    go_ret2
    exact rowOut_nil b1
  | true =>
    have hE : rgtE l = 0 := by unfold rgtE; rw [hr]; rfl
    have HE := Lib.hid hE
    clear hE
    cases hch : chgB c with
    | false =>
      have hE2 : chgE c = 20 := by unfold chgE; rw [hch]; rfl
      have h1 : invertR l c = [] ∧ invertE l c = 20 := by unfold invertR invertE; rw [hr, hch]; exact ⟨rfl, rfl⟩
      rw [h1.1, h1.2]
      clear h1 hr hch
      have HE2 := Lib.hid hE2
      clear hE2
      go_enter Try.func9, Try.ntmps9
      go_wp2_with fail
      refine (rightD_any v l _ Hv.out Hl.out).mono ?_
      rw [HE.out]
      rintro e w1 ⟨rfl, b1⟩
      have s1 := b1.size
      go_wp2_with fail
      refine (changeD_any u c _ (Hu.out.below b1) Hc.out).mono ?_
      rw [HE2.out]
      rintro e w2 ⟨rfl, b2⟩
      go_wp2_with fail
      go_ret2
      exact rowOut_nil (b1.trans (b2.mono s1))
    | true =>
      have hE2 : chgE c = 0 := by unfold chgE; rw [hch]; rfl
      have HE2 := Lib.hid hE2
      obtain ⟨ll, lo, lr⟩ := rgt_iff.1 hr
      obtain ⟨cl, co, cr⟩ := chg_iff.1 hch
      have hm : mergeL chInvert l c = invertL emp l c := merge_invert lr cr
      have Hm := Lib.hid hm
      have hsz : ∀ x ∈ mergeL chInvert l c, x.1.size ≤ 64 ∧ x.2.size ≤ 64 := by
        rw [hm]
        intro x hx
        obtain ⟨⟨q, h1⟩, h2⟩ := mem_invertL hx
        refine ⟨keyB_size (co _ h1).1, ?_⟩
        rcases h2 with h2 | h2
        · rw [h2]; exact valB_size valB_emp
        · exact valB_size (valNE_iff.1 (lo x h2).2).2
      have Hsz := Lib.hid hsz
      clear hm hsz
      have h1 : invertR l c = invertL emp l c ∧ invertE l c = 0 := by unfold invertR invertE; rw [hr, hch]; simp
      rw [h1.1, h1.2]
      clear h1
      clear hE2 hr hch lo co lr cr
      go_enter Try.func9, Try.ntmps9
      go_wp2_with fail
      refine (rightD_any v l _ Hv.out Hl.out).mono ?_
      rw [HE.out]
      rintro e w1 ⟨rfl, b1⟩
      have s1 := b1.size
      go_wp2_with fail
      refine (changeD_any u c _ (Hu.out.below b1) Hc.out).mono ?_
      rw [HE2.out]
      rintro e w2 ⟨rfl, b2⟩
      have s2 := b2.size
      go_wp2_with fail
      refine (cloned_any _ _ _ v u l c _ (choosesInvert _) (Hv.out.below (b1.trans (b2.mono s1))) (Hu.out.below (b1.trans (b2.mono s1))) ll cl Hsz.out).mono ?_
      rw [Hm.out]
      rintro e w3 ⟨r, rfl, o3, b3⟩
      have s3 := b3.size
      go_wp2_with fail
      go_ret2
      exact ⟨_, rfl, own_base o3 (Nat.le_trans s1 s2), ((b1.trans (b2.mono s1)).trans (b3.mono (Nat.le_trans s1 s2)))⟩
end Go.Proofs.Ytpbdbiconcmcfaa
