/- Texts of this seat, put together: Dcs, Dcm. -/
import Derived.Test.YtgalhfnejhboaaaDoorGF3
import Derived.Test.YtgalhfnejhboaaaDoorGF5
import Derived.OwnWalkIn
import Derived.Deep.RegionHeld3
/- The program's cells, collected: a row of cells in memory. -/
namespace Go.Proofs.YtgalhfnejhboaaaDoor
open Go.RowKit Go.Shelf Rn Ch At
attribute [local go_sem] Oper.semAt_some

def flatC (xs : List CellV) : List Value := xs.flatMap fun x => [.string (E x.1), x.2.2]
theorem flatC_len (xs : List CellV) : (flatC xs).length = xs.length * 2 := by
  induction xs with
  | nil => rfl
  | cons x r ih => simp only [flatC, List.flatMap_cons, List.length_append, List.length_cons, List.length_nil] at ih ⊢; omega
theorem flatC_snoc (xs : List CellV) (x : CellV) : flatC (xs ++ [x]) = flatC xs ++ [.string (E x.1), x.2.2] := by simp [flatC]

theorem infoCell : (Tryd.prog.info? 71).map (fun i => (i.zero, i.size, i.bytes)) = some (some (.agg #[.string ⟨#[]⟩, .slice none 0 0]), 2, 40) := by kernel_rfl
structure StQ (B : Nat) (w0 : World) (xs : List CellV) (sb : Nat) (k : Nat) (W : World) : Prop where
  below : Below B w0 W
  row : ∃ v, Boxed W sb 102 v ∧ W.ownsRow B 71 2 v k (flatC (xs.take k))
set_option maxRecDepth 100000 in
set_option maxHeartbeats 2000000 in
theorem appendSeq_any (db : Nat) (a : Option Addr) (n cap : Nat) (ps : List RP) (w : World) (hd : Boxed w db 22 (.slice a n cap)) (hr : RunRow w (.slice a n cap) ps) (hO : ∀ p ∈ ps, OkR p.1) (hU : U8s w.heap.size w) :
    Calls Tryd.prog 86 #[.slice none 0 0, .func (.func 87) #[] #[.pointer (some ⟨db, 0, none⟩)]] w fun e w' => ∃ v, e = .returned v ∧ Below w.heap.size w w' ∧ w'.ownsRow w.heap.size 71 2 v ((rem (ps, 0)).take (20000 : Int).toNat).length (flatC ((rem (ps, 0)).take (20000 : Int).toNat)) := by
  obtain ⟨xs, hxs⟩ : ∃ xs, xs = (rem (ps, 0)).take (20000 : Int).toNat := ⟨_, rfl⟩
  rw [← hxs]
  have HXS := Lib.hid hxs
  have HD := Lib.hid hd
  have HR := Lib.hid hr
  have HU := Lib.hid hU
  clear hd hr hU hxs
  refine (callsIn_wide (n := 0)).1 (callsIn_of_wp_marks Tryd.func86 rfl trivial ?_ rfl)
  simp only [Tryd.ntmps86, List.size_toArray, List.length_cons, List.length_nil, Nat.reduceAdd, Nat.reduceSub, Array.replicate_succ, Array.replicate_zero, List.push_toArray, List.append_toArray, List.nil_append, List.cons_append]
  gi_wp2
  obtain ⟨Y, hY⟩ : ∃ Y, Y = w.alloc (.cells #[.slice none 0 0] 102) := ⟨_, rfl⟩
  rw [← hY]
  have BY : Below w.heap.size w Y := by rw [hY]; exact below_box _ _
  have sY : Y.heap.size = w.heap.size + 1 := by rw [hY]; simp
  have b0 : Boxed Y w.heap.size 102 (.slice none 0 0) := by rw [hY]; exact Boxed.new w _ _
  have HB := Lib.hid BY
  have HB0 := Lib.hid b0
  have hdl := HD.out.lt
  clear hY b0 BY
  have hit := cells_iter (Below w.heap.size) w.heap.size db a n cap ps [71, 102] (fun _ _ => True) (fun _ _ => True) (KBelow_ok _) ⟨fun _ _ => trivial, fun _ => trivial, fun _ _ _ _ _ _ => trivial⟩ (by decide) (by decide) (by decide) (by decide) (fun h _ => h.below)
  rw [← HXS.out] at hit
  have hxl : xs.length ≤ 20000 := by rw [HXS.out, List.length_take]; exact Nat.min_le_left _ _
  refine range_it hit rfl (enters_of Tryd.func87 (by kernel_rfl) rfl) (fun _ => rfl) (by omega) ?hS (fun _ _ => trivial) (fun _ _ _ _ _ _ => trivial)
    (fun k W' => Go.Proofs.YtgalhfnejhboaaaDoor.StQ w.heap.size w xs w.heap.size k W') (fun c k W' => False)
    (fun _ _ _ h hs => ?hI) (fun _ _ _ _ h hs => h) (fun _ _ _ _ _ => trivial) ?h0 ?rnd ?done ?stop (fun _ _ _ _ => trivial)
  case h0 => exact ⟨HB.out, _, HB0.out, World.ownsRow_nil _ _ _ _⟩
  case hI =>
    obtain ⟨v, h1, h2⟩ := h.row
    exact ⟨h.below.trans hs.below, v, hs.cells _ _ _ _ h1 (.inl (by decide)), own_cells h2 (fun i cs fr hi => hs.cells _ _ _ _ hi (.inl (by decide)))⟩
  case hS =>
    intro W hb
    have hbB := HB.out.trans (hb.mono (show w.heap.size ≤ Y.heap.size by omega))
    exact ⟨(hbB.block _ hdl).trans HD.out, fun w' hw => HR.out.below (hbB.trans hw), hO, HU.out.to hbB⟩
  case stop =>
    rintro D c k W hle hk hx hD
    exact hx.elim
  case rnd =>
    rintro l' k hk W2 hle hI
    have hmem : xs[k].2 ∈ ps := by
      have h1 : xs[k] ∈ (rem (ps, 0)).take (20000 : Int).toNat := by rw [← HXS.out]; exact List.getElem_mem hk
      exact mem_rem (s := (ps, 0)) (List.mem_of_mem_take h1)
    have htk : flatC (xs.take (k + 1)) = flatC (xs.take k) ++ [.string (E xs[k].1), xs[k].2.2] := by
      rw [List.take_succ_eq_append_getElem hk, flatC_snoc]
    generalize xs[k] = x at hmem htk ⊢
    obtain ⟨xc, xr, xv⟩ := x
    simp only at hmem htk
    obtain ⟨ua, uc, hua⟩ := (HR.out.2 _ hmem).shape
    simp only at hua
    subst hua
    have HTK := Lib.hid htk
    have HI := Lib.hid hI
    have hW2 : w.heap.size + 1 ≤ W2.heap.size := by obtain ⟨v, h1, _⟩ := hI.row; exact h1.lt
    clear htk hI hmem
    gi_wp2
    obtain ⟨W3, hW3⟩ : ∃ W3, W3 = W2.alloc (.cells #[.string (E xc), .slice ua xr.attrs.length uc] 71) := ⟨_, rfl⟩
    rw [← hW3]
    have B3 : Below W2.heap.size W2 W3 := by rw [hW3]; exact below_box _ _
    have x3 : W3.heap[W2.heap.size]? = some (.cells #[.string (E xc), .slice ua xr.attrs.length uc] 71 (0, 0)) := by rw [hW3]; exact heap_new _ _
    have hst : ∀ {A A' : World} {N : Nat} {own : List Nat}, Go.Proofs.YtgalhfnejhboaaaDoor.StQ w.heap.size w xs w.heap.size k A → Step w.heap.size N WT own A A' → Go.Proofs.YtgalhfnejhboaaaDoor.StQ w.heap.size w xs w.heap.size k A' := fun h hs => by
      obtain ⟨v, h1, h2⟩ := h.row
      exact ⟨h.below.trans hs.below, v, hs.cells _ _ _ _ h1 (.inl (by decide)), own_cells h2 (fun i cs fr hi => hs.cells _ _ _ _ hi (.inl (by decide)))⟩
    have HI3 := hst (N := Y.heap.size) (own := []) HI.out (step_below WT B3 (by omega))
    refine ⟨rnd_below _ B3 (by omega), trivial, HI3, fun W4 hs hsz4 ⟨r4, hr4⟩ => ?_⟩
    have HI4 := Lib.hid (hst HI3 (hs.more (own' := []) (fun _ h => by cases h) (fun _ _ h => by cases h) (Nat.le_refl _)))
    have x4 := hs.cells _ _ _ _ x3 (.inl (by simp))
    have c0 : W4.cell? ⟨W2.heap.size, 0, none⟩ = some (.string (E xc)) := by simp [World.cell?, x4]
    have c1 : W4.cell? ⟨W2.heap.size, 1, none⟩ = some (.slice ua xr.attrs.length uc) := by simp [World.cell?, x4]
    have sx4 := lt_of_heap x4
    obtain ⟨sv, hs1, hs2⟩ := HI4.out.row
    obtain ⟨sa, sc, rfl⟩ := own_slice hs2
    have s0 := hs1.cell
    have sf := hs1.frozen
    have HS := Lib.hid (And.intro hs1 hs2)
    clear hs hsz4 hr4 x4 x3 B3 HI3 hW3 hst hs1 hs2
    obtain ⟨i0, hi, hz0, hz1, hz2⟩ := info_parts infoCell
    have Hi := Lib.hid (And.intro hi (And.intro hz0 (And.intro hz1 hz2)))
    clear hi hz0 hz1 hz2
    have hkl : k + 1 ≤ 20000 := by omega
    have hB4 := HI4.out.below.size
    have HKL := Lib.hid hkl
    have hnew := fun j u (hj : ([Value.string (E xc), Value.slice ua xr.attrs.length uc] : List Value)[j]? = some u) => new_at2 W4 (Value.string (E xc)) (Value.slice ua xr.attrs.length uc) 71 j u hj
    gi_wp2_with (refine wpListIn_append_own _ rfl (.tmp 8) (.tmp 10) 102 rfl w.heap.size 71 i0 (.agg #[.string ⟨#[]⟩, .slice none 0 0]) 2 40 Tryd.underlying102 Hi.out.1 Hi.out.2.1 Hi.out.2.2.1 Hi.out.2.2.2 rfl (by decide) (.slice sa k sc) k (flatC (xs.take k)) rfl (HS.out.2.alloc _) ⟨W4.heap.size, 0, none⟩ 1 1 [.string (E xc), .slice ua xr.attrs.length uc] rfl rfl (new_at2 _ _ _ _) (fun u hu => by simp at hu; rcases hu with rfl | rfl <;> rfl) (by unfold maxLen; have := HKL.out; omega) (by have := HKL.out; omega) (by simp; omega) ?_; intro v' w5 own5 gr5 _; obtain ⟨va5, vc5, rfl⟩ := own_slice own5; have HO5 := Lib.hid own5; have HG5 := Lib.hid gr5; have hb5 := (Lib.hid (show Boxed w5 w.heap.size 102 (.slice sa k sc) from (gr5.block _ (by simp; omega) (fun e => own_ne HS.out.2 HS.out.1 (by decide) e.symm)).trans ((Below.heap_alloc _ _ _ (by omega)).trans HS.out.1))); have q0 := hb5.out.cell; have q1 := hb5.out.frozen; clear own5 gr5 s0 sf)
    have hBa : w.heap.size ≤ (W4.alloc (.cells #[.string (E xc), .slice ua xr.attrs.length uc] 71)).heap.size := by simp; omega
    have k0 : Keep w.heap.size [] W4 (W4.alloc (.cells #[.string (E xc), .slice ua xr.attrs.length uc] 71)) := keep_below (below_box _ _) hB4
    have k1 := keep_row (ts := [71]) (HS.out.2.alloc _) HG5.out (by simp) hBa
    have k2 : Keep w.heap.size [102] w5 (w5.setCell ⟨w.heap.size, 0, none⟩ (.slice va5 (k + 1) vc5)) := keep_set hb5.out (by simp) (Nat.le_refl _) ⟨w.heap.size, 0, none⟩ rfl _
    refine ⟨(rnd_of_keep k0).more (by simp) (Nat.le_refl _) |>.trans (((rnd_of_keep k1).more (by simp) (Nat.le_refl _)).trans ((rnd_of_keep k2).more (by simp) (Nat.le_refl _))), trivial, ?_⟩
    exact ⟨(HI4.out.below.trans (k0.below.trans (k1.below.trans k2.below))), _, hb5.out.set _, by rw [HTK.out]; exact k2.own HO5.out (by decide)⟩
  case done =>
    rintro D W hle hI _ hD
    obtain ⟨v, h1, h2⟩ := hI.row
    rw [List.take_length] at h2
    obtain ⟨va, vc, rfl⟩ := own_slice h2
    have s0 := h1.cell
    have H2 := Lib.hid h2
    have HBB := Lib.hid hI.below
    have HDD := Lib.hid hD
    clear hI h1 h2 hD
    gi_wp2
    refine leaves_marks (B := w.heap.size) (N := w.heap.size) (v := .slice va xs.length vc) (fun w => results_tmp (t := 4) rfl _ _ _) [D] W (by simp) (fun d hd => ?_) fun w' hs => ?_
    · rw [List.mem_singleton.1 hd]; exact ⟨by omega, by omega, HDD.out⟩
    · exact ⟨_, rfl, HBB.out.trans hs.below, own_cells H2.out (fun _ _ _ hi => hs.cells _ _ _ _ hi (.inl (by simp)))⟩
set_option maxRecDepth 100000 in
theorem collect_any (db : Nat) (a : Option Addr) (n cap : Nat) (ps : List RP) (w : World) (hd : Boxed w db 22 (.slice a n cap)) (hr : RunRow w (.slice a n cap) ps) (hO : ∀ p ∈ ps, OkR p.1) (hU : U8s w.heap.size w) :
    Calls Tryd.prog 52 #[.func (.func 87) #[] #[.pointer (some ⟨db, 0, none⟩)]] w fun e w' => ∃ v, e = .returned v ∧ Below w.heap.size w w' ∧ w'.ownsRow w.heap.size 71 2 v ((rem (ps, 0)).take (20000 : Int).toNat).length (flatC ((rem (ps, 0)).take (20000 : Int).toNat)) := by
  have ha := appendSeq_any db a n cap ps w hd hr hO hU
  generalize (rem (ps, 0)).take (20000 : Int).toNat = xs at ha ⊢
  have HA := Lib.hid ha
  clear hd hr hU ha
  go_enter Tryd.func52, Tryd.ntmps52
  go_wp2_with fail
  refine HA.out.mono ?_
  rintro e w1 ⟨v, rfl, hb, ho⟩
  obtain ⟨va, vc, rfl⟩ := own_slice ho
  have HO := Lib.hid ho
  clear ho
  go_wp2_with fail
  go_ret
  exact ⟨_, rfl, hb, HO.out⟩
end Go.Proofs.YtgalhfnejhboaaaDoor

/- Cells compared: the program's same, its counts of what is alike ahead and behind. -/
namespace Go.Proofs.YtgalhfnejhboaaaDoor
open Go.RowKit Rn Ch At

/-- A row of cells in memory, whosever it is. -/
def CellRow (w : World) (v : Value) (cs : List CD) : Prop :=
  ∃ a cap, v = .slice a cs.length cap ∧ cs.length ≤ cap ∧ cap ≤ maxLen ∧ ∀ i (h : i < cs.length), ∃ b off av, a = some ⟨b, off, none⟩ ∧ b < w.heap.size ∧ AtRow w av cs[i].2 ∧ w.cell? ⟨b, off + i * 2, none⟩ = some (.string (E cs[i].1)) ∧ w.cell? ⟨b, off + i * 2 + 1, none⟩ = some av
theorem CellRow.below {w w' : World} {v : Value} {cs : List CD} (h : CellRow w v cs) (hb : Below w.heap.size w w') : CellRow w' v cs := by
  obtain ⟨a, cap, rfl, h1, h2, h3⟩ := h
  refine ⟨a, cap, rfl, h1, h2, fun i hi => ?_⟩
  obtain ⟨b, off, av, rfl, hlt, h4, h5, h6⟩ := h3 i hi
  exact ⟨b, off, av, rfl, Nat.lt_of_lt_of_le hlt hb.size, h4.below hb, (hb.cell (by exact hlt)).trans h5, (hb.cell (by exact hlt)).trans h6⟩
theorem CellRow.shape {w : World} {v : Value} {cs : List CD} (h : CellRow w v cs) : ∃ a cap, v = .slice a cs.length cap := by
  obtain ⟨a, cap, rfl, _⟩ := h
  exact ⟨a, cap, rfl⟩
theorem flatC_at {xs : List CellV} {i : Nat} (h : i < xs.length) (j : Nat) (hj : j < 2) : (flatC xs)[i * 2 + j]? = ([.string (E xs[i].1), xs[i].2.2] : List Value)[j]? := by
  induction xs generalizing i with
  | nil => simp at h
  | cons x r ih =>
    have e : flatC (x :: r) = .string (E x.1) :: x.2.2 :: flatC r := rfl
    rw [e]
    cases i with
    | zero =>
      rcases (by omega : j = 0 ∨ j = 1) with rfl | rfl <;> rfl
    | succ i =>
      have h2 : (i + 1) * 2 + j = (i * 2 + j) + 1 + 1 := by omega
      rw [h2, List.getElem?_cons_succ, List.getElem?_cons_succ]
      exact ih (by simpa using h)
theorem cellRow_own {w : World} {B : Nat} {v : Value} {xs : List CellV} (h : w.ownsRow B 71 2 v xs.length (flatC xs)) (ha : ∀ x ∈ xs, AtRow w x.2.2 x.2.1.attrs) : CellRow w v (xs.map pcell) := by
  have hl : (xs.map pcell).length = xs.length := List.length_map ..
  rcases h.2 with ⟨rfl, h0⟩ | ⟨g, cap, cur, rfl, _, hg, hn, hm, _⟩
  · have : xs = [] := List.length_eq_zero_iff.1 h0
    subst this
    exact ⟨none, 0, rfl, Nat.le_refl _, Nat.zero_le _, fun _ hi => absurd hi (Nat.not_lt_zero _)⟩
  · refine ⟨some ⟨g, 0, none⟩, cap, by rw [hl], by omega, hm, fun i hi => ?_⟩
    rw [hl] at hi
    have e : ∀ j, j < 2 → w.cell? ⟨g, 0 + i * 2 + j, none⟩ = ([.string (E xs[i].1), xs[i].2.2] : List Value)[j]? := fun j hj => by
      rw [Nat.zero_add, h.cellAt _ (by omega), flatC_at hi j hj]
    rw [List.getElem_map]
    exact ⟨g, 0, xs[i].2.2, rfl, lt_of_heap hg, ha xs[i] (List.getElem_mem hi), e 0 (by omega), e 1 (by omega)⟩
theorem E_inj {c d : Nat} (hc : ok c) (hd : ok d) (h : E c = E d) : c = d := by
  have h1 : enc c = enc d := by
    have := congrArg (fun b : ByteArray => b.data.toList) h
    simpa [E] using this
  have h2 := dec_enc c hc []
  have h3 := dec_enc d hd []
  rw [h1] at h2
  have := h2.symm.trans h3
  exact (Prod.mk.inj this).1
def sameC (x y : CD) : Bool := decide (E x.1 = E y.1 ∧ x.2 = y.2)
theorem sameC_iff {x y : CD} (hx : ok x.1) (hy : ok y.1) : sameC x y = true ↔ x = y := by
  unfold sameC
  rw [decide_eq_true_iff]
  constructor
  · rintro ⟨h1, h2⟩
    exact Prod.ext (E_inj hx hy h1) h2
  · rintro rfl; exact ⟨rfl, rfl⟩

set_option maxRecDepth 100000 in
set_option maxHeartbeats 2000000 in
theorem sameCell_any (x y : CD) (xv yv : Value) (w : World) (hx : AtRow w xv x.2) (hy : AtRow w yv y.2) :
    Calls Tryd.prog 56 #[.agg #[.string (E x.1), xv], .agg #[.string (E y.1), yv]] w (OutB w (sameC x y)) := by
  have Hx := Lib.hid hx
  have Hy := Lib.hid hy
  obtain ⟨a, c, rfl⟩ := hx.shape
  obtain ⟨b, d, rfl⟩ := hy.shape
  obtain ⟨W, hW⟩ : ∃ W, W = (w.alloc (.cells #[.string (E x.1), .slice a x.2.length c] 71)).alloc (.cells #[.string (E y.1), .slice b y.2.length d] 71) := ⟨_, rfl⟩
  have BW := Lib.hid (show Below w.heap.size w W by rw [hW]; exact ((Below.refl _ _).alloc (Nat.le_refl _) _).alloc (by simp) _)
  have c2 : W.cell? ⟨w.heap.size, 0, none⟩ = some (.string (E x.1)) := by rw [hW]; go_simp
  have c3 : W.cell? ⟨w.heap.size, 1, none⟩ = some (.slice a x.2.length c) := by rw [hW]; go_simp
  have d2 : W.cell? ⟨w.heap.size + 1, 0, none⟩ = some (.string (E y.1)) := by rw [hW]; go_simp
  have d3 : W.cell? ⟨w.heap.size + 1, 1, none⟩ = some (.slice b y.2.length d) := by rw [hW]; go_simp
  have hs : w.heap.size + 1 < W.heap.size := by rw [hW]; simp
  have hs' : w.heap.size < W.heap.size := by omega
  have HW := Lib.hid hW
  have Hx := Lib.hid (hx.below BW.out)
  have Hy := Lib.hid (hy.below BW.out)
  clear hx hy hW
  by_cases ht : E x.1 = E y.1
  · have t2 : ((E x.1).toList == (E y.1).toList) = true := by rw [ht]; simp
    have hR := Lib.hid (show sameC x y = sameB x.2 y.2 by unfold sameC sameB; exact decide_eq_decide.2 ⟨fun e => e.2, fun e => ⟨ht, e⟩⟩)
    clear ht
    go_enter Tryd.func56, Tryd.ntmps56
    go_wp2_with fail
    rw [← HW.out]
    go_wp2_with fail
    refine (same_any _ _ x.2 y.2 _ Hx.out Hy.out).mono ?_
    rintro e w1 ⟨rfl, k, rfl⟩
    go_wp2_with fail
    go_ret
    exact outB_mk hR.out (below_drewN BW.out _)
  · have t2 : ((E x.1).toList == (E y.1).toList) = false := by rw [beq_text]; exact decide_eq_false ht
    have hR := Lib.hid (show sameC x y = false from decide_eq_false fun e => ht e.1)
    clear ht
    go_enter Tryd.func56, Tryd.ntmps56
    go_wp2_with fail
    rw [← HW.out]
    go_wp2_with fail
    go_ret
    exact outB_mk hR.out BW.out

set_option maxRecDepth 100000 in
set_option maxHeartbeats 2000000 in
/-- The i-th ones from the front. -/
theorem front_any (xb yb : Nat) (xv yv : Value) (xs ys : List CD) (i : Nat) (w : World) (hxb : Boxed w xb 102 xv) (hyb : Boxed w yb 102 yv) (hx : CellRow w xv xs) (hy : CellRow w yv ys) (h1 : i < xs.length) (h2 : i < ys.length) (_hn : xs.length ≤ 20000) (_hm : ys.length ≤ 20000) :
    Calls Tryd.prog 55 #[.int .i64 (i : Int), .pointer (some ⟨xb, 0, none⟩), .pointer (some ⟨yb, 0, none⟩)] w (OutB w (sameC xs[i] ys[i])) := by
  obtain ⟨xa, xc, rfl, _, _, h3⟩ := hx
  obtain ⟨ya, yc, rfl, _, _, h4⟩ := hy
  obtain ⟨b, off, av, rfl, hbl, r0, x0, x1⟩ := h3 i h1
  obtain ⟨b', off', av', rfl, hbl', q0, y0, y1⟩ := h4 i h2
  have HS := Lib.hid (fun (k : Nat) => sameCell_any xs[i] ys[i] av av' (w.drewN k) r0 q0)
  have e0 := hxb.cell
  have e1 := hyb.cell
  have i1 : (i : Int) < (xs.length : Int) := by omega
  have i2 : (i : Int) < (ys.length : Int) := by omega
  clear h3 h4 r0 q0
  obtain ⟨x, hx⟩ : ∃ x, x = xs[i] := ⟨_, rfl⟩
  obtain ⟨y, hy⟩ : ∃ y, y = ys[i] := ⟨_, rfl⟩
  rw [← hx] at x0 HS
  rw [← hy] at y0 HS
  rw [← hx, ← hy]
  clear hx hy
  go_enter Tryd.func55, Tryd.ntmps55
  have hxl := hxb.lt
  have hyl := hyb.lt
  go_wp2_with fail
  go_region_held3 (fun w' => w'.cell? ⟨xb, 0, none⟩ = some (.slice (some ⟨b, off, none⟩) xs.length xc) ∧ w'.cell? ⟨yb, 0, none⟩ = some (.slice (some ⟨b', off', none⟩) ys.length yc) ∧ w'.cell? ⟨b, off + i * 2, none⟩ = some (.string (E x.1)) ∧ w'.cell? ⟨b, off + i * 2 + 1, none⟩ = some av ∧ w'.cell? ⟨b', off' + i * 2, none⟩ = some (.string (E y.1)) ∧ w'.cell? ⟨b', off' + i * 2 + 1, none⟩ = some av')
    (first
      | exact ⟨e0, e1, x0, x1, y0, y1⟩
      | exact S1)
    (first
      | (go_at_call 56; refine (HS.out 1).mono ?_; rintro e w1 ⟨rfl, hb⟩; have S1 := And.intro ((hb.cell (by exact hxl)).trans e0) (And.intro ((hb.cell (by exact hyl)).trans e1) (And.intro ((hb.cell (by exact hbl)).trans x0) (And.intro ((hb.cell (by exact hbl)).trans x1) (And.intro ((hb.cell (by exact hbl')).trans y0) ((hb.cell (by exact hbl')).trans y1))))); have HB1 := Lib.hid ((below_drewN (Below.refl w.heap.size w) 1).trans hb)))
  go_wp2_with fail
  go_ret
  exact outB_mk rfl HB1.out
set_option maxRecDepth 100000 in
set_option maxHeartbeats 2000000 in
/-- The i-th ones from the end. -/
theorem hind_any (xb yb : Nat) (xv yv : Value) (xs ys : List CD) (i : Nat) (w : World) (hxb : Boxed w xb 102 xv) (hyb : Boxed w yb 102 yv) (hx : CellRow w xv xs) (hy : CellRow w yv ys) (h1 : i < xs.length) (h2 : i < ys.length) (hn : xs.length ≤ 20000) (hm : ys.length ≤ 20000) :
    Calls Tryd.prog 57 #[.int .i64 (i : Int), .pointer (some ⟨xb, 0, none⟩), .pointer (some ⟨yb, 0, none⟩)] w (OutB w (sameC xs[xs.length - 1 - i] ys[ys.length - 1 - i])) := by
  obtain ⟨xa, xc, rfl, _, _, h3⟩ := hx
  obtain ⟨ya, yc, rfl, _, _, h4⟩ := hy
  obtain ⟨b, off, av, rfl, hbl, r0, x0, x1⟩ := h3 (xs.length - 1 - i) (by omega)
  obtain ⟨b', off', av', rfl, hbl', q0, y0, y1⟩ := h4 (ys.length - 1 - i) (by omega)
  have HS := Lib.hid (fun (k : Nat) => sameCell_any xs[xs.length - 1 - i] ys[ys.length - 1 - i] av av' (w.drewN k) r0 q0)
  have e0 := hxb.cell
  have e1 := hyb.cell
  clear h3 h4 r0 q0
  obtain ⟨x, hx⟩ : ∃ x, x = xs[xs.length - 1 - i] := ⟨_, rfl⟩
  obtain ⟨y, hy⟩ : ∃ y, y = ys[ys.length - 1 - i] := ⟨_, rfl⟩
  rw [← hx] at x0 HS
  rw [← hy] at y0 HS
  rw [← hx, ← hy]
  clear hx hy
  have w1a : wrap64 ((xs.length : Int) - 1) = (xs.length : Int) - 1 := IntWalk.wrap64_in _ (by omega)
  have w1b : wrap64 ((ys.length : Int) - 1) = (ys.length : Int) - 1 := IntWalk.wrap64_in _ (by omega)
  have w2a : wrap64 ((xs.length : Int) - 1 - (i : Int)) = ((xs.length - 1 - i : Nat) : Int) := by rw [IntWalk.wrap64_in _ (by omega)]; omega
  have w2b : wrap64 ((ys.length : Int) - 1 - (i : Int)) = ((ys.length - 1 - i : Nat) : Int) := by rw [IntWalk.wrap64_in _ (by omega)]; omega
  have i1 : ((xs.length - 1 - i : Nat) : Int) < (xs.length : Int) := by omega
  have i2 : ((ys.length - 1 - i : Nat) : Int) < (ys.length : Int) := by omega
  have v1 : IntKind.i64.wrap ((xs.length : Int) - 1) = (xs.length : Int) - 1 := by rw [IntWalk.i64_in _ (by omega)]
  have v2 : IntKind.i64.wrap ((ys.length : Int) - 1) = (ys.length : Int) - 1 := by rw [IntWalk.i64_in _ (by omega)]
  have v3 : IntKind.i64.wrap ((xs.length : Int) - 1 - (i : Int)) = ((xs.length - 1 - i : Nat) : Int) := by rw [IntWalk.i64_in _ (by omega)]; omega
  have v4 : IntKind.i64.wrap ((ys.length : Int) - 1 - (i : Int)) = ((ys.length - 1 - i : Nat) : Int) := by rw [IntWalk.i64_in _ (by omega)]; omega
  generalize xs.length - 1 - i = p at x0 x1 w2a i1 v3
  generalize ys.length - 1 - i = q at y0 y1 w2b i2 v4
  have z1 : (0 : Int) ≤ (p : Int) := by omega
  have z2 : (0 : Int) ≤ (q : Int) := by omega
  have hxl := hxb.lt
  have hyl := hyb.lt
  go_enter Tryd.func57, Tryd.ntmps57
  go_wp2_with fail
  go_region_held3 (fun w' => w'.cell? ⟨xb, 0, none⟩ = some (.slice (some ⟨b, off, none⟩) xs.length xc) ∧ w'.cell? ⟨yb, 0, none⟩ = some (.slice (some ⟨b', off', none⟩) ys.length yc) ∧ w'.cell? ⟨b, off + p * 2, none⟩ = some (.string (E x.1)) ∧ w'.cell? ⟨b, off + p * 2 + 1, none⟩ = some av ∧ w'.cell? ⟨b', off' + q * 2, none⟩ = some (.string (E y.1)) ∧ w'.cell? ⟨b', off' + q * 2 + 1, none⟩ = some av')
    (first
      | exact ⟨e0, e1, x0, x1, y0, y1⟩
      | exact S1)
    (first
      | (go_at_call 56; refine (HS.out 1).mono ?_; rintro e w1 ⟨rfl, hb⟩; have S1 := And.intro ((hb.cell (by exact hxl)).trans e0) (And.intro ((hb.cell (by exact hyl)).trans e1) (And.intro ((hb.cell (by exact hbl)).trans x0) (And.intro ((hb.cell (by exact hbl)).trans x1) (And.intro ((hb.cell (by exact hbl')).trans y0) ((hb.cell (by exact hbl')).trans y1))))); have HB1 := Lib.hid ((below_drewN (Below.refl w.heap.size w) 1).trans hb)))
  go_wp2_with fail
  go_ret
  exact outB_mk rfl HB1.out
/-- How many are alike from the n-th on, of at most so many. -/
def alikeN (F : Nat → Bool) : Nat → Nat → Nat
  | 0, n => n
  | m + 1, n => if F n = true then alikeN F m (n + 1) else n
set_option maxRecDepth 100000 in
set_option maxHeartbeats 2000000 in
theorem alikeD_any (F : Nat → Bool) (most : Nat) (g : Nat) (C : Array Value) (w : World) (hm : most ≤ 1000000) (hc : ∀ args W, (callFunc g args).run Tryd.prog W = .ok (.enter g args) W)
    (hF : ∀ i, i < most → ∀ W, Below w.heap.size w W → Calls Tryd.prog g (#[.int .i64 (i : Int)] ++ C) W (OutB W (F i))) :
    Calls Tryd.prog 54 #[.int .i64 (most : Int), .func (.func g) #[] C] w fun e w' => e = .returned (.int .i64 (alikeN F most 0 : Nat)) ∧ Below w.heap.size w w' := by
  have HF := Lib.hid hF
  clear hF
  go_enter Tryd.func54, Tryd.ntmps54
  go_wp2_with fail
  go_loopw [5] (fun i wr => ∃ k : Nat, i = .int .i64 (k : Int) ∧ k ≤ most ∧ alikeN F (most - k) k = alikeN F most 0 ∧ Below w.heap.size w wr) (fun i _ => most - (intOf i).toNat)
  case atStart => exact ⟨0, rfl, Nat.zero_le _, rfl, Below.refl _ _⟩
  case round =>
    obtain ⟨k, rfl, hk, he, hb⟩ := hrel
    have HB := Lib.hid hb
    have HE := Lib.hid he
    by_cases hlt : k < most
    · have hlt' : (k : Int) < (most : Int) := by omega
      have hstep : alikeN F (most - k) k = if F k = true then alikeN F (most - (k + 1)) (k + 1) else k := by
        rw [show most - k = (most - (k + 1)) + 1 by omega, alikeN]
      have hwr : wrap64 ((k : Int) + 1) = (k : Int) + 1 := IntWalk.wrap64_in _ (by omega)
      have HC := Lib.hid (HF.out k hlt wr hb)
      have hs := hb.size
      clear he hb
      by_cases hFk : F k = true
      · have HST := Lib.hid ((hstep.trans (if_pos hFk)).symm.trans HE.out)
        rw [hFk] at HC
        clear hstep hFk
        go_wp2_with fail
        refine HC.out.mono ?_
        rintro e w1 ⟨rfl, b⟩
        have B1 := Lib.hid (HB.out.trans (b.mono hs))
        clear b
        go_wp2_with fail
        go_roundw
        case rel => exact ⟨k + 1, by go_num, by omega, HST.out, B1.out⟩
        case measure => simp [intOf]; omega
      · have HST := Lib.hid ((hstep.trans (if_neg hFk)).symm.trans HE.out)
        have hFf : F k = false := by simpa using hFk
        rw [hFf] at HC
        clear hstep hFk hFf
        go_wp2_with fail
        refine HC.out.mono ?_
        rintro e w1 ⟨rfl, b⟩
        have B1 := Lib.hid (HB.out.trans (b.mono hs))
        clear b
        go_wp2_with fail
        go_ret
        exact ⟨by rw [← HST.out]; rfl, B1.out⟩
    · have hkm : k = most := by omega
      have hlt' : ¬ (k : Int) < (most : Int) := by omega
      have HST := Lib.hid (show (k : Nat) = alikeN F most 0 by rw [← he, hkm, Nat.sub_self]; rfl)
      clear he hb hkm
      go_wp2_with fail
      go_ret
      exact ⟨by rw [← HST.out]; rfl, HB.out⟩
end Go.Proofs.YtgalhfnejhboaaaDoor
