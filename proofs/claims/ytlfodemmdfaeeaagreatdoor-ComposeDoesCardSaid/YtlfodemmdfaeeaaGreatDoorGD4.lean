/- Texts of this seat, put together: Dm. -/
import Derived.Test.YtlfodemmdfaeeaaGreatDoorGD3
import Derived.Test.YtlfodemmdfaeeaaGreatDoorGE2
/- What operations meet: the program's met. -/
namespace Go.Proofs.YtlfodemmdfaeeaaGreatDoor
open Go.RowKit Go.Shelf Rn Ch
attribute [local go_sem] Oper.semAt_some

abbrev QV := OpD × Value
/-- An insert's text as a document. -/
def insP (q : QV) : List RP := [(⟨q.1.text, q.1.attrs⟩, q.2)]
def one (q : QV) (s : List RP × Nat) : List CellV := if q.1.kind = 2 then (rem (insP q, 0)).take (20000 : Int).toNat else (rem s).take q.1.n.toNat
def then1 (q : QV) (s : List RP × Nat) : List RP × Nat := if q.1.kind = 2 then s else adv q.1.n.toNat s
def metL : List QV → List RP × Nat → List (QV × CellV)
 | [], _ => []
 | q :: r, s => (one q s).map (fun x => (q, x)) ++ metL r (then1 q s)
def metS : List QV → List RP × Nat → List RP × Nat
 | [], s => s
 | q :: r, s => metS r (then1 q s)
theorem metL_append (a b : List QV) (s : List RP × Nat) : metL (a ++ b) s = metL a s ++ metL b (metS a s) := by
 induction a generalizing s with
 | nil => rfl
 | cons q r ih => simp [metL, metS, ih]
theorem metS_append (a b : List QV) (s : List RP × Nat) : metS (a ++ b) s = metS b (metS a s) := by
 induction a generalizing s with
 | nil => rfl
 | cons q r ih => simp [metS, ih]
theorem metL_take {l : List QV} {i : Nat} (h : i < l.length) (s : List RP × Nat) : metL (l.take (i + 1)) s = metL (l.take i) s ++ (one l[i] (metS (l.take i) s)).map (fun x => (l[i], x)) ∧ metS (l.take (i + 1)) s = then1 l[i] (metS (l.take i) s) := by
 rw [List.take_succ_eq_append_getElem h]
 exact ⟨by rw [metL_append]; simp [metL], by rw [metS_append]; rfl⟩
theorem metL_at {l : List QV} {i k : Nat} (h : i < l.length) (s : List RP × Nat) (hk : k < (one l[i] (metS (l.take i) s)).length) :
 ∃ hh : (metL (l.take i) s).length + k < (metL l s).length, (metL l s)[(metL (l.take i) s).length + k] = (l[i], (one l[i] (metS (l.take i) s))[k]) := by
 have e : l = l.take (i + 1) ++ l.drop (i + 1) := (List.take_append_drop _ _).symm
 have e2 : metL l s = metL (l.take i) s ++ ((one l[i] (metS (l.take i) s)).map (fun x => (l[i], x)) ++ metL (l.drop (i + 1)) (metS (l.take (i + 1)) s)) := by
  conv => lhs; rw [e, metL_append, (metL_take h s).1, List.append_assoc]
 have hh : (metL (l.take i) s).length + k < (metL l s).length := by
  rw [e2, List.length_append, List.length_append, List.length_map]; omega
 refine ⟨hh, ?_⟩
 have h2 : (metL l s)[(metL (l.take i) s).length + k]? = some (l[i], (one l[i] (metS (l.take i) s))[k]) := by
  rw [e2, List.getElem?_append_right (by omega), Nat.add_sub_cancel_left, List.getElem?_append_left (by rw [List.length_map]; exact hk), List.getElem?_map, List.getElem?_eq_getElem hk]
  rfl
 exact (List.getElem?_eq_some_iff.1 h2).2
def restQ : QV := (⟨1, 20000, ⟨#[]⟩, []⟩, .slice none 0 0)
abbrev metArg (y : QV × CellV) : Array Value := #[opAgg y.1.1 y.1.2, cellAgg y.2]

set_option maxRecDepth 100000 in
theorem met_any (a : Option Addr) (n cap : Nat) (oa : Option Addr) (on oc : Nat) (w : World) :
 Calls Tryz.prog 15 #[.slice a n cap, .slice oa on oc] w fun e w' =>
  e = .returned (.func (.func 37) #[] #[.pointer (some ⟨w.heap.size, 0, none⟩), .pointer (some ⟨w.heap.size + 1, 0, none⟩), .pointer (some ⟨w.heap.size + 2, 0, none⟩)]) ∧
  w' = ((w.alloc (.cells #[.slice a n cap] 22)).alloc (.cells #[.slice oa on oc] 23)).alloc (.cells #[.int .i64 1, .int .i64 20000, .string ⟨#[]⟩, .slice none 0 0] 37) := by
 go_enter Tryz.func15, Tryz.ntmps15
 go_wp2_with fail
 go_ret
 exact ⟨rfl, rfl⟩

theorem meas_lt {i n : Nat} (h : i < n + 1) : n + 1 - (intOf (.int .i64 ((i : Int) + 1))).toNat < n + 1 - (intOf (.int .i64 (i : Int))).toNat := by
 simp only [intOf]
 omega
/-- The marks that loops leave. -/
def marks (ds : List Nat) : List Deferred := ds.map fun d => { target := .collected d, args := #[] }
theorem leaves_marks {F : Fence} {n : Nat} {P : Program} {fn : Func} {tmps : Array Value} {R : Ending → World → Prop} {B N : Nat} {v : Value} (hres : ∀ w, (results fn tmps).run P w = .ok v w) :
 ∀ (ds : List Nat) (w : World), ds.Nodup → (∀ d ∈ ds, N ≤ d ∧ B ≤ d ∧ w.heap[d]? = some (.deferred (some []))) → (∀ w', Step B N [] [] w w' → R (.returned v) w') → LeavesInM F n P fn tmps R (marks ds) .returning w
 | [], w, _, _, hR => ⟨v, hres w, hR w (Step.refl _ _ _ _ _)⟩
 | d :: ds, w, hn, hd, hR => by
   obtain ⟨h1, h2, h3⟩ := hd d (List.mem_cons_self ..)
   rw [List.nodup_cons] at hn
   refine ⟨by simp, .inl ⟨d, _, rfl, run_takeDeferred h3, ?_⟩⟩
   refine leaves_marks hres ds _ hn.2 (fun e he => ?_) fun w' hs => hR w' ((step_put [] _ h1 h2 h3 rfl).trans hs)
   obtain ⟨a, b, c⟩ := hd e (List.mem_cons_of_mem _ he)
   exact ⟨a, b, putObj_other h3 c (fun e' => hn.1 (e' ▸ he))⟩

theorem row_nilC (w : World) : AtRow w (.slice none 0 0) [] := ⟨none, 0, rfl, Nat.le_refl _, by simp [maxLen], fun i hi => by simp at hi⟩
theorem own_of_block {w w' : World} {C k n g cap : Nat} {e : TypeId} {xs : List Value} (h : w.ownsRow C e k (.slice (some ⟨g, 0, none⟩) n cap) n xs) (hb : ∀ cs fr, w.heap[g]? = some (.cells cs e fr) → w'.heap[g]? = some (.cells cs e fr)) : w'.ownsRow C e k (.slice (some ⟨g, 0, none⟩) n cap) n xs := by
 refine ⟨h.1, ?_⟩
 rcases h.2 with ⟨h', _⟩ | ⟨g', cap', cur, h', a, b, c⟩
 ·simp at h'
 ·simp only [Value.slice.injEq, Option.some.injEq, Addr.mk.injEq, and_true, true_and] at h'
  obtain ⟨rfl, rfl⟩ := h'
  exact .inr ⟨g, cap, cur, rfl, a, hb _ _ b, c⟩
/-- Between two operations of met: what lies where. -/
structure MetSt (B n0 g ccap N : Nat) (W : World) (all : List QV) (ps : List RP) (J : Nat → World → Prop) (Fr : World → Nat → Prop) (yt : TypeId) (yv : Value) (i : Nat) (ds : List Nat) (w' : World) : Prop where
 le : i ≤ N
 st : WSt (Below B) w' (n0 + 1) (metS (all.take i) (ps, 0)).1 (metS (all.take i) (ps, 0)).2
 j : J (metL (all.take i) (ps, 0)).length w'
 y : Boxed w' n0 yt yv
 row : w'.ownsRow B 37 4 (.slice (some ⟨g, 0, none⟩) N ccap) N (flatO all)
 fr : Fr w' g
 u8 : U8s B w'
 b : Below B W w'
 nd : ds.Nodup
 ds : ∀ d ∈ ds, W.heap.size ≤ d ∧ d < w'.heap.size ∧ w'.heap[d]? = some (.deferred (some []))
 sz : W.heap.size + 4 ≤ w'.heap.size

set_option maxRecDepth 100000 in
set_option maxHeartbeats 8000000 in
theorem met_iter (B db ob rb : Nat) (a : Option Addr) (n cap : Nat) (oa : Option Addr) (oc : Nat) (ps : List RP) (qs : List QV) (tB : List TypeId) (Kp : World → World → Prop) (Fr : World → Nat → Prop) (hKO : KpOk Kp)
 (ht : 92 ∉ tB) (htw : 134 ∉ tB) (hti : 3 ∉ tB) (htf : 135 ∉ tB) (htg : 90 ∉ tB)
 (hFrS : ∀ {N : Nat} {own : List Nat} {x y : World} {i : Nat}, Step B N WT own x y → Fr x i → Fr y i)
 (hKF : ∀ {x y : World} {i : Nat} {cs : Array Value} {e : TypeId} {fr : Nat × Nat}, Kp x y → x.heap[i]? = some (.cells cs e fr) → e = 77 ∨ e = 37 → Fr x i → y.heap[i]? = some (.cells cs e fr) ∧ Fr y i)
 (hqs : qs.length ≤ 2000) (hq : ∀ q ∈ qs, (q.1.kind = 2 → OkR ⟨q.1.text, q.1.attrs⟩) ∧ q.1.n ≤ 1073741824) :
 Iter Tryz.prog 37 #[.pointer (some ⟨db, 0, none⟩), .pointer (some ⟨ob, 0, none⟩), .pointer (some ⟨rb, 0, none⟩)] metArg (metL (qs ++ [restQ]) (ps, 0)) B WT [] tB Kp Fr
  (fun W => Boxed W db 22 (.slice a n cap) ∧ Boxed W ob 23 (.slice oa qs.length oc) ∧ W.heap[rb]? = some (.cells #[.int .i64 1, .int .i64 20000, .string ⟨#[]⟩, .slice none 0 0] 37 (0, 0)) ∧ (∀ w', Below B W w' → RunRow w' (.slice a n cap) ps) ∧
   (∀ w', Below B W w' → OpCells w' (.slice oa qs.length oc) qs) ∧ (∀ w', Below B W w' → ∀ q ∈ qs, AtRow w' q.2 q.1.attrs) ∧ (∀ p ∈ ps, OkR p.1) ∧ U8s B W)
  (fun _ => True) := by
 obtain ⟨all, hall⟩ : ∃ all, all = qs ++ [restQ] := ⟨_, rfl⟩
 rw [← hall]
 have hN : all.length = qs.length + 1 := by rw [hall]; simp
 obtain ⟨xs, hxs⟩ : ∃ xs, xs = metL all (ps, 0) := ⟨_, rfl⟩
 rw [← hxs]
 intro l J Jx W hBW ⟨hd, ho, hr, hrow, hops, hatt, hO, hU⟩ hJ hJx hFr hY h0
 have d0 := hd.cell
 have hdl := hd.lt
 have o0 := ho.cell
 have hol := ho.lt
 have hrl := lt_of_heap hr
 have r0 : W.cell? ⟨rb, 0, none⟩ = some (.int .i64 1) := by rw [Lib.cell_of_heap hr]; rfl
 have r1 : W.cell? ⟨rb, 1, none⟩ = some (.int .i64 20000) := by rw [Lib.cell_of_heap hr]; rfl
 have r2 : W.cell? ⟨rb, 2, none⟩ = some (.string ⟨#[]⟩) := by rw [Lib.cell_of_heap hr]; rfl
 have r3 : W.cell? ⟨rb, 3, none⟩ = some (.slice none 0 0) := by rw [Lib.cell_of_heap hr]; rfl
 have HXS := Lib.hid hxs
 have HALL := Lib.hid hall
 have HROW := Lib.hid hrow
 have HOPS := Lib.hid hops
 have HATT := Lib.hid hatt
 have HO := Lib.hid hO
 have HQ := Lib.hid hq
 have HN := Lib.hid hN
 have HJ := Lib.hid hJ
 have HJX := Lib.hid hJx
 have HFR := Lib.hid hFr
 have HY := Lib.hid hY
 clear hxs hall hrow hops hatt hO hq hd ho hr hN hJ hJx hFr hY
 refine callsIn_of_wp_marks Tryz.func37 rfl trivial ?_ rfl
 simp only [Tryz.ntmps37, List.size_toArray, List.length_cons, List.length_nil, Nat.reduceAdd, Nat.reduceSub, Array.replicate_succ, Array.replicate_zero, List.push_toArray, List.append_toArray, List.nil_append, List.cons_append]
 gi_wp2
 obtain ⟨W4, hW4⟩ : ∃ W4, W4 = (((W.alloc (.cells #[.func (.yield l) #[] #[]] 90)).alloc (.cells #[.slice a n cap, .int .i64 0] 92)).alloc (.cells #[.int .i64 1, .int .i64 20000, .string ⟨#[]⟩, .slice none 0 0] 37)).alloc (.cells #[.slice oa qs.length oc, .slice (some ⟨W.heap.size + 1 + 1, 0, none⟩) 1 1] 23) := ⟨_, rfl⟩
 rw [← hW4]
 have hsz : W4.heap.size = W.heap.size + 4 := by rw [hW4]; simp
 have BW4 : Below W.heap.size W W4 := by rw [hW4]; exact ((((Below.refl _ W).alloc (Nat.le_refl _) _).alloc (by simp) _).alloc (by simp; omega) _).alloc (by simp; omega) _
 have by4 : Boxed W4 W.heap.size 90 (.func (.yield l) #[] #[]) := by rw [hW4]; exact (((Boxed.new W _ _).alloc _).alloc _).alloc _
 have bk4 : WBlk W4 (W.heap.size + 1) (.slice a n cap) 0 := by
  unfold WBlk
  rw [hW4, Below.heap_alloc _ _ _ (by simp), Below.heap_alloc _ _ _ (by simp)]
  have := heap_new (W.alloc (.cells #[.func (.yield l) #[] #[]] 90)) (.cells #[.slice a n cap, .int .i64 0] 92)
  rwa [World.size_alloc] at this
 have br4 : W4.heap[W.heap.size + 1 + 1]? = some (.cells #[.int .i64 1, .int .i64 20000, .string ⟨#[]⟩, .slice none 0 0] 37 (0, 0)) := by
  rw [hW4, Below.heap_alloc _ _ _ (by simp)]
  have := heap_new ((W.alloc (.cells #[.func (.yield l) #[] #[]] 90)).alloc (.cells #[.slice a n cap, .int .i64 0] 92)) (.cells #[.int .i64 1, .int .i64 20000, .string ⟨#[]⟩, .slice none 0 0] 37)
  rwa [World.size_alloc, World.size_alloc] at this
 have bs4 : W4.heap[W.heap.size + 1 + 1 + 1]? = some (.cells #[.slice oa qs.length oc, .slice (some ⟨W.heap.size + 1 + 1, 0, none⟩) 1 1] 23 (0, 0)) := by
  rw [hW4]
  have := heap_new (((W.alloc (.cells #[.func (.yield l) #[] #[]] 90)).alloc (.cells #[.slice a n cap, .int .i64 0] 92)).alloc (.cells #[.int .i64 1, .int .i64 20000, .string ⟨#[]⟩, .slice none 0 0] 37)) (.cells #[.slice oa qs.length oc, .slice (some ⟨W.heap.size + 1 + 1, 0, none⟩) 1 1] 23)
  rwa [World.size_alloc, World.size_alloc, World.size_alloc] at this
 have hrest : OpCells W4 (.slice (some ⟨W.heap.size + 1 + 1, 0, none⟩) 1 1) [restQ] := by
  refine ⟨_, 1, rfl, (fun h => by cases h), fun j u hj => ⟨_, _, rfl, by omega, ?_⟩, fun u hu => ?_⟩
  ·rw [Nat.zero_add, Lib.cell_of_heap br4, show (#[.int .i64 1, .int .i64 20000, .string ⟨#[]⟩, .slice none 0 0] : Array Value) = (flatO [restQ]).toArray from rfl, List.getElem?_toArray]
   exact hj
  ·simp [flatO, opCells, restQ] at hu
   rcases hu with rfl | rfl | rfl | rfl <;> rfl
 have b4 : Below B W W4 := BW4.mono hBW
 have j4 : J 0 W4 := HJ.out _ _ _ h0 (step_below _ BW4 hBW)
 have HCC := Lib.hid (concat_any (W.heap.size + 1 + 1 + 1) (.slice oa qs.length oc) (.slice (some ⟨W.heap.size + 1 + 1, 0, none⟩) 1 1) qs [restQ] W4 (by omega) (by rw [Lib.cell_of_heap bs4]; rfl) (by rw [Lib.cell_of_heap bs4]; rfl) (HOPS.out W4 b4) hrest (by omega) (by simp) (by simp))
 have HU4 := Lib.hid (hU.to b4)
 have HY4 := Lib.hid by4
 have HK4 := Lib.hid bk4
 have HJ4 := Lib.hid j4
 have HB4 := Lib.hid BW4
 clear hW4 by4 bk4 br4 bs4 hrest b4 j4 BW4 hU h0 d0 o0 r0 r1 r2 r3
 refine ⟨trivial, rfl, (callsIn_wide.2 HCC.out).mono ?_⟩
 rintro e w1 ⟨cv, rfl, own1, hb1⟩
 obtain ⟨g, ccap, rfl⟩ := ownsRow_succ (k := qs.length) own1
 have hs1 := hb1.size
 have HO1 := Lib.hid (show w1.ownsRow B 37 4 (.slice (some ⟨g, 0, none⟩) (qs.length + 1) ccap) (qs.length + 1) (flatO all) from by rw [HALL.out]; exact own_base own1 (by omega))
 have HG1 := Lib.hid (show W4.heap.size ≤ g from (own1.lt g rfl).1)
 have HB1 := Lib.hid hb1
 have HJ1 := Lib.hid (HJ.out _ _ _ HJ4.out (step_below _ (hb1.mono (Nat.le_refl _)) (by omega)))
 clear own1 hb1
 have HMS := Lib.hid (show MetSt B W.heap.size g ccap (qs.length + 1) W all ps J Fr 90 (.func (.yield l) #[] #[]) 0 [] w1 from
  { le := Nat.zero_le _
    st := ⟨_, _, (HB1.out.block _ (by omega)).trans HK4.out, fun w' hw => HROW.out w' (((HB4.out.mono hBW).trans (HB1.out.mono (by omega))).trans hw), HO.out, by
     cases ps with
     | nil => exact .inl ⟨rfl, rfl, rfl⟩
     | cons p r => exact .inr ⟨p, r, rfl, List.length_pos_iff.2 (HO.out p (List.mem_cons_self ..)).rns.2.2.1, by simp [metS, txt]⟩⟩
    j := HJ1.out
    y := (HB1.out.block _ (by omega)).trans HY4.out
    row := HO1.out
    fr := hFrS (step_below (N := 0) (own := []) WT HB1.out (by omega)) (HFR.out _ _ _ HJ4.out HG1.out)
    u8 := HU4.out.to (HB1.out.mono (by omega))
    b := (HB4.out.mono hBW).trans (HB1.out.mono (by omega))
    nd := List.nodup_nil
    ds := fun d hd => by cases hd
    sz := by omega })
 gi_wp2
 refine wpIn_loop (fun a' w' => ∃ (i : Nat) (u7 u8 u19 u20 u21 u22 u23 u24 u25 u26 u27 u28 u29 u30 u31 u32 u33 u34 u35 u42 : Value) (ds : List Nat), a' = { tmps := #[.func (.yield l) #[] #[], .pointer (some ⟨db, 0, none⟩), .pointer (some ⟨ob, 0, none⟩), .pointer (some ⟨rb, 0, none⟩), .pointer (some ⟨W.heap.size, 0, none⟩), .pointer (some ⟨W.heap.size + 1, 0, none⟩), undef, u7, u8, undef, .slice a n cap, .agg #[.slice a n cap, .int .i64 0], .slice oa qs.length oc, .agg #[.int .i64 1, .int .i64 20000, .string ⟨#[]⟩, .slice none 0 0], .slice (some ⟨W.heap.size + 1 + 1, 0, none⟩) 1 1, .slice (some ⟨W.heap.size + 1 + 1 + 1, 0, none⟩) 2 2, .slice (some ⟨g, 0, none⟩) (qs.length + 1) ccap, .int .i64 ((qs.length : Int) + 1), .int .i64 ((i : Int)), u19, u20, u21, u22, u23, u24, u25, u26, u27, u28, u29, u30, u31, u32, u33, u34, u35, undef, undef, undef, undef, undef, undef, u42], defers := marks ds } ∧ MetSt B W.heap.size g ccap (qs.length + 1) W all ps J Fr 90 (.func (.yield l) #[] #[]) i ds w') (fun a' _ => qs.length + 1 - (intOf (a'.tmps.getD 18 undef)).toNat) ⟨0, _, _, _, _, _, _, _, _, _, _, _, _, _, _, _, _, _, _, _, _, [], rfl, HMS.out⟩ ?round
 case round =>
  rintro a' w' ⟨i, u7, u8, u19, u20, u21, u22, u23, u24, u25, u26, u27, u28, u29, u30, u31, u32, u33, u34, u35, u42, ds, rfl, hS⟩
  have HSt := Lib.hid hS
  have hi := hS.le
  clear HMS HJ1 HG1 HO1 HB1 HB4 HJ4 HK4 HY4 HU4 HCC hs1 hsz hdl hol hrl hS
  by_cases hlt : i < qs.length + 1
  ·have hia : i < all.length := by rw [HN.out]; exact hlt
   have hmt := metL_take hia (ps, 0)
   have hat := fun k hk => metL_at (k := k) hia (ps, 0) hk
   have hmem : ∀ q, q ∈ all → q ∈ qs ++ [restQ] := fun q h => by rw [HALL.out] at h; exact h
   have hm := hmem _ (List.getElem_mem hia)
   have hatt : ∀ w'', Below B W w'' → AtRow w'' all[i].2 all[i].1.attrs := fun w'' hw => by
    rcases List.mem_append.1 hm with h | h
    ·exact HATT.out w'' hw _ h
    ·rw [List.mem_singleton.1 h]; exact row_nilC w''
   have hqq : (all[i].1.kind = 2 → OkR ⟨all[i].1.text, all[i].1.attrs⟩) ∧ all[i].1.n ≤ 1073741824 := by
    rcases List.mem_append.1 hm with h | h
    ·exact HQ.out _ h
    ·rw [List.mem_singleton.1 h]; exact ⟨fun h => (by cases h), (by decide)⟩
   have hcell : ∀ j, j < 4 → w'.cell? ⟨g, i * 4 + j, none⟩ = (opCells all[i])[j]? := fun j hj => by
    have h1 := HSt.out.row.cellAt (i * 4 + j) (by omega)
    rw [h1, flatO_at hia j hj]
   have x0 := hcell 0 (by omega)
   have x1 := hcell 1 (by omega)
   have x2 := hcell 2 (by omega)
   have x3 := hcell 3 (by omega)
   generalize all[i] = q at hmt hat hatt hqq x0 x1 x2 x3
   obtain ⟨o, ov⟩ := q
   obtain ⟨va, vc, hov⟩ := (hatt w' HSt.out.b).shape
   simp only at hov hqq hatt
   subst hov
   have x0' : w'.cell? ⟨g, i * 4, none⟩ = some (.int .i64 o.kind) := x0
   have x1' : w'.cell? ⟨g, i * 4 + 1, none⟩ = some (.int .i64 o.n) := x1
   have x2' : w'.cell? ⟨g, i * 4 + 2, none⟩ = some (.string o.text) := x2
   have x3' : w'.cell? ⟨g, i * 4 + 3, none⟩ = some (.slice va o.attrs.length vc) := x3
   have hgl : g < w'.heap.size := (HSt.out.row.lt g rfl).2
   have i1 : (i : Int) < (qs.length : Int) + 1 := by omega
   have HMT := Lib.hid hmt
   have HAT := Lib.hid hat
   have HATQ := Lib.hid hatt
   have HQQ := Lib.hid hqq
   clear hmt hat hatt hqq hm hcell x0 x1 x2 x3
   gi_wp2
   refine ⟨trivial, rfl, (callsIn_wide.2 (next_any _ _ _)).mono ?_⟩
   rintro e w2 ⟨rfl, rfl⟩
   by_cases hk : o.kind = 2
   ·have t2 : (o.kind == 2) = true := by rw [hk]; rfl
    have HK2 := Lib.hid hk
    clear hk
    gi_wp2
    refine ⟨trivial, rfl, (callsIn_wide.2 (cells_any _ _ _ _)).mono ?_⟩
    rintro e w3 ⟨rfl, rfl⟩
    gi_wp2
    obtain ⟨X, hX⟩ : ∃ X, X = (((((w'.alloc (.cells #[.int .i64 o.kind, .int .i64 o.n, .string o.text, .slice va o.attrs.length vc] 37)).alloc (.cells #[.pointer (some ⟨W.heap.size + 1, 0, none⟩)] 134)).alloc (.cells #[.int .i64 o.n] 3)).alloc (.cells #[.string o.text, .slice va o.attrs.length vc] 77)).alloc (.cells #[(.slice (some ⟨w'.heap.size + 1 + 1 + 1, 0, none⟩) 1 1)] 22)) := ⟨_, rfl⟩
    rw [← hX]
    have hszX : X.heap.size = w'.heap.size + 5 := by rw [hX]; simp
    have BX : Below w'.heap.size w' X := by rw [hX]; exact ((((((Below.refl _ w').alloc (Nat.le_refl _) _).alloc (by simp) _).alloc (by simp; omega) _).alloc (by simp; omega) _).alloc (by simp; omega) _)
    have ob0 : X.heap[w'.heap.size]? = some (.cells #[.int .i64 o.kind, .int .i64 o.n, .string o.text, .slice va o.attrs.length vc] 37 (0, 0)) := by
     rw [hX, Below.heap_alloc _ _ _ (by simp <;> omega), Below.heap_alloc _ _ _ (by simp <;> omega), Below.heap_alloc _ _ _ (by simp <;> omega), Below.heap_alloc _ _ _ (by simp <;> omega)]; exact heap_new _ _
    have ob1 : X.heap[w'.heap.size + 1 + 1 + 1]? = some (.cells #[.string o.text, .slice va o.attrs.length vc] 77 (0, 0)) := by
     rw [hX, Below.heap_alloc _ _ _ (by simp)]
     have := heap_new (((w'.alloc (.cells #[.int .i64 o.kind, .int .i64 o.n, .string o.text, .slice va o.attrs.length vc] 37)).alloc (.cells #[.pointer (some ⟨W.heap.size + 1, 0, none⟩)] 134)).alloc (.cells #[.int .i64 o.n] 3)) (.cells #[.string o.text, .slice va o.attrs.length vc] 77)
     simpa only [World.size_alloc] using this
    have ob2 : Boxed X (w'.heap.size + 1 + 1 + 1 + 1) 22 (.slice (some ⟨w'.heap.size + 1 + 1 + 1, 0, none⟩) 1 1) := by
     rw [hX]
     have := Boxed.new ((((w'.alloc (.cells #[.int .i64 o.kind, .int .i64 o.n, .string o.text, .slice va o.attrs.length vc] 37)).alloc (.cells #[.pointer (some ⟨W.heap.size + 1, 0, none⟩)] 134)).alloc (.cells #[.int .i64 o.n] 3)).alloc (.cells #[.string o.text, .slice va o.attrs.length vc] 77)) 22 (.slice (some ⟨w'.heap.size + 1 + 1 + 1, 0, none⟩) 1 1)
     simpa only [World.size_alloc] using this
    have hbk : ∀ {j : Nat} {ob : Obj}, w'.heap[j]? = some ob → X.heap[j]? = some ob := fun hj => (BX.block _ (lt_of_heap hj)).trans hj
    have hsz4 := HSt.out.sz
    have hsB : B ≤ w'.heap.size := by omega
    have hstX : Step B W.heap.size WT [] w' X := step_below _ BX hsB
    have jX := HJ.out _ _ _ HSt.out.j hstX
    have fX : Fr X w'.heap.size := hFrS hstX (HFR.out _ _ _ HSt.out.j (Nat.le_refl _))
    have fX3 : Fr X (w'.heap.size + 1 + 1 + 1) := hFrS hstX (HFR.out _ _ _ HSt.out.j (by omega))
    have gX : Fr X g := hFrS hstX HSt.out.fr
    have rX := own_of_block HSt.out.row (w' := X) (fun cs fr h => hbk h)
    have yX : Boxed X W.heap.size 90 (.func (.yield l) #[] #[]) := hbk HSt.out.y
    have uX := HSt.out.u8.to (BX.mono hsB)
    have bX := HSt.out.b.trans (BX.mono hsB)
    have sX := HSt.out.st.keep (fun h h' => h.trans h') (BX.mono hsB) (fun lv oo h => hbk h)
    have dX : ∀ d ∈ ds, X.heap[d]? = some (.deferred (some [])) := fun d hd => hbk (HSt.out.ds d hd).2.2
    have dl : ∀ d ∈ ds, W.heap.size ≤ d ∧ d < X.heap.size := fun d hd => ⟨(HSt.out.ds d hd).1, by have := (HSt.out.ds d hd).2.1; omega⟩
    have hnd := HSt.out.nd
    have hone : one (o, .slice va o.attrs.length vc) (metS (all.take i) (ps, 0)) = (rem (insP (o, .slice va o.attrs.length vc), 0)).take (20000 : Int).toNat := by unfold one; rw [if_pos HK2.out]
    have hth : then1 (o, .slice va o.attrs.length vc) (metS (all.take i) (ps, 0)) = metS (all.take i) (ps, 0) := by unfold then1; rw [if_pos HK2.out]
    have hkn : (metL (all.take (i + 1)) (ps, 0)).length = (metL (all.take i) (ps, 0)).length + (one (o, .slice va o.attrs.length vc) (metS (all.take i) (ps, 0))).length := by rw [HMT.out.1, List.length_append, List.length_map]
    have hsn : metS (all.take (i + 1)) (ps, 0) = metS (all.take i) (ps, 0) := by rw [HMT.out.2, hth]
    have hat := HAT.out
    rw [hone] at hkn
    simp only [hone] at hat
    generalize (metL (all.take i) (ps, 0)).length = k0 at hkn hat jX
    obtain ⟨s, hs0⟩ : ∃ s, s = metS (all.take i) (ps, 0) := ⟨_, rfl⟩
    rw [← hs0] at hsn sX
    clear hth
    obtain ⟨ys, hys⟩ : ∃ ys, ys = (rem (insP (o, .slice va o.attrs.length vc), 0)).take (20000 : Int).toNat := ⟨_, rfl⟩
    rw [← hys] at hkn
    simp only [← hys] at hat
    have hhY : ∀ (k : Nat) (hk : k < ys.length) (W1 : World), J (k0 + k) W1 → YieldAt Fence.wide 0 Tryz.prog l #[opAgg o (.slice va o.attrs.length vc), cellAgg ys[k]] W1 fun e W' =>
     (e = .returned (.bool true) ∧ J (k0 + k + 1) W' ∧ Rnd B W.heap.size tB W1 W' ∧ Kp W1 W') ∨ (e = .returned (.bool false) ∧ (k0 + k < xs.length ∧ Jx (k0 + k) W') ∧ Rnd B W.heap.size tB W1 W') := fun k hk W1 hj => by
     obtain ⟨hh, he⟩ := hat k hk
     have hxx := HXS.out
     subst hxx
     have := HY.out (k0 + k) hh W1 hj
     rw [he] at this
     exact this.mono fun e W' h => h.imp id fun h => ⟨h.1, ⟨hh, h.2.1⟩, h.2.2⟩
    have hsh : ∀ (k : Nat) (hk : k < ys.length), ∃ a c, ys[k].2.2 = .slice a ys[k].2.1.attrs.length c := fun k hk => by
     have hm : ys[k] ∈ rem (insP (o, .slice va o.attrs.length vc), 0) := List.mem_of_mem_take (by rw [← hys]; exact List.getElem_mem hk)
     have hm2 := mem_rem hm
     rw [List.mem_singleton.1 hm2]
     exact ⟨va, vc, rfl⟩
    have hK2 : KOk B (fun x y => Below B x y ∧ ∀ cs fr, x.heap[w'.heap.size + 1 + 1 + 1]? = some (.cells cs 77 fr) → Fr x (w'.heap.size + 1 + 1 + 1) → y.heap[w'.heap.size + 1 + 1 + 1]? = some (.cells cs 77 fr) ∧ Fr y (w'.heap.size + 1 + 1 + 1)) :=
     { trans := fun h k => ⟨h.1.trans k.1, fun cs fr h1 h2 => k.2 cs fr (h.2 cs fr h1 h2).1 (h.2 cs fr h1 h2).2⟩
       of_step := fun h => ⟨h.below, fun cs fr h1 h2 => ⟨h.cells _ _ _ _ h1 (.inl (by decide)), hFrS h h2⟩⟩ }
    have hit := cells_iter _ B (w'.heap.size + 1 + 1 + 1 + 1) (some ⟨w'.heap.size + 1 + 1 + 1, 0, none⟩) 1 1 (insP (o, .slice va o.attrs.length vc)) tB Kp (fun _ _ => True) hK2 hKO ht htw hti htf (fun hr hk => ⟨hr.below, fun cs fr h1 h2 => hKF hk h1 (.inl rfl) h2⟩)
    rw [← hys] at hit
    obtain ⟨I, hI0⟩ : (∃ I : Nat → World → Prop, I = fun k W' => J (k0 + k) W' ∧ Boxed W' W.heap.size 90 (.func (.yield l) #[] #[]) ∧ (W'.heap[w'.heap.size]? = some (.cells #[.int .i64 o.kind, .int .i64 o.n, .string o.text, .slice va o.attrs.length vc] 37 (0, 0)) ∧ Fr W' w'.heap.size) ∧ (W'.ownsRow B 37 4 (.slice (some ⟨g, 0, none⟩) (qs.length + 1) ccap) (qs.length + 1) (flatO all) ∧ Fr W' g) ∧ U8s B W' ∧ (∀ d ∈ ds, W'.heap[d]? = some (.deferred (some []))) ∧ Below B W W' ∧ X.heap.size ≤ W'.heap.size ∧ WSt (Below B) W' (W.heap.size + 1) s.1 s.2) := ⟨_, rfl⟩
    have hId : ∀ k W', I k W' ↔ (J (k0 + k) W' ∧ Boxed W' W.heap.size 90 (.func (.yield l) #[] #[]) ∧ (W'.heap[w'.heap.size]? = some (.cells #[.int .i64 o.kind, .int .i64 o.n, .string o.text, .slice va o.attrs.length vc] 37 (0, 0)) ∧ Fr W' w'.heap.size) ∧ (W'.ownsRow B 37 4 (.slice (some ⟨g, 0, none⟩) (qs.length + 1) ccap) (qs.length + 1) (flatO all) ∧ Fr W' g) ∧ U8s B W' ∧ (∀ d ∈ ds, W'.heap[d]? = some (.deferred (some []))) ∧ Below B W W' ∧ X.heap.size ≤ W'.heap.size ∧ WSt (Below B) W' (W.heap.size + 1) s.1 s.2) := fun k W' => by rw [hI0]
    have hI1 : I 0 X := (hId _ _).2 ⟨jX, yX, ⟨ob0, fX⟩, ⟨rX, gX⟩, uX, dX, bX, Nat.le_refl _, sX⟩
    have hcl : ∀ k A A', I k A → Step B X.heap.size WT [] A A' → I k A' := fun k A A' h hs => by
     have h := (hId _ _).1 h
     exact (hId _ _).2 ⟨HJ.out _ _ _ h.1 (hs.more (fun _ h => h) (fun i hi h => by cases h) (by omega)), hs.cells _ _ _ _ h.2.1 (.inl (by decide)), ⟨hs.cells _ _ _ _ h.2.2.1.1 (.inl (by decide)), hFrS hs h.2.2.1.2⟩, ⟨own_of_block h.2.2.2.1.1 (fun cs fr hh => hs.cells _ _ _ _ hh (.inl (by decide))), hFrS hs h.2.2.2.1.2⟩, h.2.2.2.2.1.to hs.below, fun d hd => hs.other d _ (dl d hd).2 (h.2.2.2.2.2.1 d hd) rfl, h.2.2.2.2.2.2.1.trans hs.below, Nat.le_trans h.2.2.2.2.2.2.2.1 hs.below.size, (h.2.2.2.2.2.2.2.2).keep (fun h h' => h.trans h') hs.below (fun lv oo hh => hs.cells _ _ _ _ hh (.inr ⟨by omega, fun h => by cases h⟩))⟩
    have HHY := Lib.hid hhY
    have HSH := Lib.hid hsh
    have HID := Lib.hid hId
    have HCL := Lib.hid hcl
    have HSN := Lib.hid hsn
    have HKN := Lib.hid hkn
    have HYS := Lib.hid hys
    have HDL := Lib.hid dl
    have HX2 := Lib.hid (show ∀ (k : Nat) (A A' : World), Jx k A → Step B X.heap.size WT [] A A' → Jx k A' from fun k A A' h hs => HJX.out _ _ _ h (hs.more (fun _ h => h) (fun i hi h => by cases h) (by omega)))
    have HOB := Lib.hid (And.intro ob1 (And.intro ob2 fX3))
    have HSX := Lib.hid sX
    have HUX := Lib.hid uX
    have HBX := Lib.hid bX
    clear hhY hsh hId hcl hsn hkn hys hX BX hbk hstX jX fX gX rX yX uX bX sX dX dl ob0 ob1 ob2 hI0 hat fX3
    refine range_it hit rfl (enters_of Tryz.func71 (by kernel_rfl) rfl) (fun _ => rfl) (by omega) ?hS hKO.trans hKO.put I
     (fun c k W' => c = .ret ∧ (k0 + k < xs.length ∧ Jx (k0 + k) W') ∧ (∀ d ∈ ds, W'.heap[d]? = some (.deferred (some []))) ∧ X.heap.size ≤ W'.heap.size) HCL.out (fun c k A A' h hs => ⟨h.1, ⟨h.2.1.1, HX2.out _ _ _ h.2.1.2 hs⟩, fun d hd => hs.other d _ (HDL.out d hd).2 (h.2.2.1 d hd) rfl, Nat.le_trans h.2.2.2 hs.below.size⟩) (fun _ _ _ _ _ => trivial) hI1 ?rnd ?done ?stop ?hS1
    case hS =>
     intro W' hb
     have hbk2 : ∀ {j : Nat} {ob : Obj}, X.heap[j]? = some ob → W'.heap[j]? = some ob := fun hj => (hb.block _ (lt_of_heap hj)).trans hj
     have hBX : Below B X W' := hb.mono (by omega)
     refine ⟨hbk2 HOB.out.2.1, fun w'' hw => ?_, fun p hp => ?_, HUX.out.to hBX⟩
     ·have hf : Fr W' (w'.heap.size + 1 + 1 + 1) := hFrS (step_below (N := 0) (own := []) WT hb (by omega)) HOB.out.2.2
      have hh := (hw.2 _ _ (hbk2 HOB.out.1) hf).1
      refine ⟨⟨_, 1, rfl, Nat.le_refl _, by simp [maxLen], fun j hj => ?_⟩, fun p hp => ?_⟩
      ·have hj0 : j = 0 := by simpa [insP] using hj
       subst hj0
       exact ⟨_, _, rfl, lt_of_heap hh, (Lib.cell_of_heap hh 0).trans rfl, (Lib.cell_of_heap hh 1).trans rfl⟩
      ·rw [List.mem_singleton.1 hp]; exact HATQ.out w'' (HBX.out.trans (hBX.trans hw.1))
     ·rw [List.mem_singleton.1 hp]; exact HQQ.out.1 HK2.out
    case hS1 => exact fun _ _ _ _ => trivial
    case rnd =>
     rintro l' k hk W2 hle hI
     have HYk := Lib.hid (HHY.out k hk)
     obtain ⟨xa, xl, hxv⟩ := HSH.out k hk
     generalize ys[k] = x at HYk hxv ⊢
     obtain ⟨xc, xr, xv⟩ := x
     simp only at hxv
     subst hxv
     have hz2 : X.heap.size ≤ W2.heap.size := ((HID.out _ _).1 hI).2.2.2.2.2.2.2.1
     have HI := Lib.hid hI
     clear hI
     gi_wp2
     have bA := below_box W2 (.cells #[.string (E xc), .slice xa xr.attrs.length xl] 54)
     have hIA := HCL.out k _ _ HI.out (step_below WT bA (by omega))
     refine ⟨rnd_below tB bA (by omega), hKO.below bA, hIA, fun W4 hs hsz4 ⟨r4, hr4⟩ => ?_⟩
     have hI4 := HCL.out k _ _ hIA (hs.more (fun _ h => by cases h) (fun _ _ h => by cases h) (Nat.le_refl _))
     have x4 : W4.heap[W2.heap.size]? = some (.cells #[.string (E xc), .slice xa xr.attrs.length xl] 54 (0, 0)) := hs.cells _ _ _ _ (heap_new _ _) (.inl (by simp))
     have h4 := (HID.out _ _).1 hI4
     have y0 := h4.2.1.cell
     have y1 : W4.cell? ⟨W2.heap.size, 0, none⟩ = some (.string (E xc)) := by simp [World.cell?, x4]
     have y2 : W4.cell? ⟨W2.heap.size, 1, none⟩ = some (.slice xa xr.attrs.length xl) := by simp [World.cell?, x4]
     have o4 := h4.2.2.1.1
     have p0 : W4.cell? ⟨w'.heap.size, 0, none⟩ = some (.int .i64 o.kind) := by simp [World.cell?, o4]
     have p1 : W4.cell? ⟨w'.heap.size, 1, none⟩ = some (.int .i64 o.n) := by simp [World.cell?, o4]
     have p2 : W4.cell? ⟨w'.heap.size, 2, none⟩ = some (.string o.text) := by simp [World.cell?, o4]
     have p3 : W4.cell? ⟨w'.heap.size, 3, none⟩ = some (.slice va o.attrs.length vc) := by simp [World.cell?, o4]
     obtain ⟨fn, tmps, assign, body, hy, hR⟩ := HYk.out W4 h4.1
     have HR := Lib.hid hR
     have H4 := Lib.hid h4
     clear hR hs h4 hI4 hIA bA x4 hsz4 hr4 o4
     gi_wp2
     refine ⟨rfl, RoundIn.mono (F := Fence.wide.inRound l') HR.out ?_⟩
     rintro e W5 (⟨rfl, hj5, hr5, hk5⟩ | ⟨rfl, hx5, hr5⟩)
     ·obtain ⟨_, gcs, hgc⟩ := own_heap H4.out.2.2.2.1.1
      have hgk := hKF hk5 hgc (.inr rfl) H4.out.2.2.2.1.2
      have hI5 : I (k + 1) W5 := (HID.out _ _).2 ⟨by rw [← Nat.add_assoc]; exact hj5, boxed_rnd H4.out.2.1 hr5 htg, hKF hk5 H4.out.2.2.1.1 (.inr rfl) H4.out.2.2.1.2, ⟨own_of_block H4.out.2.2.2.1.1 (fun cs fr h => (hKF hk5 h (.inr rfl) H4.out.2.2.2.1.2).1), hgk.2⟩, H4.out.2.2.2.2.1.to hr5.below, fun d hd => hr5.other d _ (HDL.out d hd).1 (H4.out.2.2.2.2.2.1 d hd) rfl, H4.out.2.2.2.2.2.2.1.trans hr5.below, Nat.le_trans H4.out.2.2.2.2.2.2.2.1 hr5.below.size, (H4.out.2.2.2.2.2.2.2.2).keep (fun h h' => h.trans h') hr5.below (fun lv oo hh => hr5.cells _ _ _ _ hh ht)⟩
      have HF := Lib.hid (And.intro (hr5.more (M := X.heap.size) (fun _ h => h) (by omega)) (And.intro hk5 hI5))
      clear hj5 hr5 hk5 hI5 hgc hgk
      gi_wp2
      exact HF.out
     ·have HF := Lib.hid (And.intro (hr5.more (M := X.heap.size) (fun _ h => h) (by omega)) (And.intro hx5 (And.intro (fun d hd => hr5.other d _ (HDL.out d hd).1 (H4.out.2.2.2.2.2.1 d hd) rfl : ∀ d ∈ ds, W5.heap[d]? = some (.deferred (some []))) (Nat.le_trans H4.out.2.2.2.2.2.2.2.1 hr5.below.size))))
      clear hr5 hx5
      gi_wp2
      exact ⟨HF.out.1, rfl, HF.out.2.1, HF.out.2.2.1, HF.out.2.2.2⟩
    case done =>
     rintro D W2 hle hI hS1 hD
     have h2 := (HID.out _ _).1 hI
     have hz2 : X.heap.size ≤ W2.heap.size := h2.2.2.2.2.2.2.2.1
     have HNEW := Lib.hid (show MetSt B W.heap.size g ccap (qs.length + 1) W all ps J Fr 90 (.func (.yield l) #[] #[]) (i + 1) (D :: ds) W2 from
      { le := by omega
        st := by rw [HSN.out]; exact h2.2.2.2.2.2.2.2.2
        j := by rw [HKN.out]; exact h2.1
        y := h2.2.1
        row := h2.2.2.2.1.1
        fr := h2.2.2.2.1.2
        u8 := h2.2.2.2.2.1
        b := h2.2.2.2.2.2.2.1
        nd := List.nodup_cons.2 ⟨fun h => by have := (HDL.out D h).2; omega, hnd⟩
        ds := fun d hd => by
         rcases List.mem_cons.1 hd with rfl | h
         ·exact ⟨by omega, lt_of_heap hD, hD⟩
         ·exact ⟨(HDL.out d h).1, by have := (HDL.out d h).2; omega, h2.2.2.2.2.2.1 d h⟩
        sz := by omega })
     have e18 : wrap64 ((i : Int) + 1) = (i : Int) + 1 := IntWalk.wrap64_in _ (by omega)
     clear hI h2 hS1 hD
     gi_wp2
     rw [e18]
     refine ⟨⟨i + 1, _, _, _, _, _, _, _, _, _, _, _, _, _, _, _, _, _, _, _, _, D :: ds, rfl, HNEW.out⟩, ?_⟩
     exact meas_lt hlt
    case stop =>
     rintro D c k W2 hle hk ⟨rfl, hx, hdd, hzz⟩ hD
     gi_wp2
     exact leaves_marks (B := B) (N := W.heap.size) (v := .tuple #[]) (fun w => results_none rfl _ _ _) (D :: ds) W2 (List.nodup_cons.2 ⟨fun h => by have := (HDL.out D h).2; omega, hnd⟩)
      (fun d hd => by
       rcases List.mem_cons.1 hd with rfl | h
       ·exact ⟨by omega, by omega, hD⟩
       ·exact ⟨(HDL.out d h).1, Nat.le_trans hBW (HDL.out d h).1, hdd d h⟩)
      fun w'' hs => ⟨⟨_, rfl⟩, .inr ⟨k0 + k, hx.1, HJX.out _ _ _ hx.2 (hs.more (fun _ h => by cases h) (fun _ _ h => h) (Nat.le_refl _))⟩⟩
   ·have t2 : (o.kind == 2) = false := by rw [beq_eq_false_iff_ne]; exact hk
    have HK2 := Lib.hid hk
    clear hk
    gi_wp2
    obtain ⟨X, hX⟩ : ∃ X, X = (((w'.alloc (.cells #[.int .i64 o.kind, .int .i64 o.n, .string o.text, .slice va o.attrs.length vc] 37)).alloc (.cells #[.pointer (some ⟨W.heap.size + 1, 0, none⟩)] 134)).alloc (.cells #[.int .i64 o.n] 3)) := ⟨_, rfl⟩
    rw [← hX]
    have hszX : X.heap.size = w'.heap.size + 3 := by rw [hX]; simp
    have BX : Below w'.heap.size w' X := by rw [hX]; exact ((((Below.refl _ w').alloc (Nat.le_refl _) _).alloc (by simp) _).alloc (by simp; omega) _)
    have ob0 : X.heap[w'.heap.size]? = some (.cells #[.int .i64 o.kind, .int .i64 o.n, .string o.text, .slice va o.attrs.length vc] 37 (0, 0)) := by
     rw [hX, Below.heap_alloc _ _ _ (by simp <;> omega), Below.heap_alloc _ _ _ (by simp <;> omega)]; exact heap_new _ _
    have ob1 : Boxed X (w'.heap.size + 1) 134 (.pointer (some ⟨W.heap.size + 1, 0, none⟩)) := by
     rw [hX]
     have := (Boxed.new (w'.alloc (.cells #[.int .i64 o.kind, .int .i64 o.n, .string o.text, .slice va o.attrs.length vc] 37)) 134 (.pointer (some ⟨W.heap.size + 1, 0, none⟩))).alloc (.cells #[.int .i64 o.n] 3)
     simpa only [World.size_alloc] using this
    have ob2 : Boxed X (w'.heap.size + 1 + 1) 3 (.int .i64 o.n) := by
     rw [hX]
     have := Boxed.new ((w'.alloc (.cells #[.int .i64 o.kind, .int .i64 o.n, .string o.text, .slice va o.attrs.length vc] 37)).alloc (.cells #[.pointer (some ⟨W.heap.size + 1, 0, none⟩)] 134)) 3 (.int .i64 o.n)
     simpa only [World.size_alloc] using this
    have hbk : ∀ {j : Nat} {ob : Obj}, w'.heap[j]? = some ob → X.heap[j]? = some ob := fun hj => (BX.block _ (lt_of_heap hj)).trans hj
    have hsz4 := HSt.out.sz
    have hsB : B ≤ w'.heap.size := by omega
    have hstX : Step B W.heap.size WT [] w' X := step_below _ BX hsB
    have jX := HJ.out _ _ _ HSt.out.j hstX
    have fX : Fr X w'.heap.size := hFrS hstX (HFR.out _ _ _ HSt.out.j (Nat.le_refl _))
    have gX : Fr X g := hFrS hstX HSt.out.fr
    have rX := own_of_block HSt.out.row (w' := X) (fun cs fr h => hbk h)
    have yX : Boxed X W.heap.size 90 (.func (.yield l) #[] #[]) := hbk HSt.out.y
    have uX := HSt.out.u8.to (BX.mono hsB)
    have bX := HSt.out.b.trans (BX.mono hsB)
    have sX := HSt.out.st.keep (fun h h' => h.trans h') (BX.mono hsB) (fun lv oo h => hbk h)
    have dX : ∀ d ∈ ds, X.heap[d]? = some (.deferred (some [])) := fun d hd => hbk (HSt.out.ds d hd).2.2
    have dl : ∀ d ∈ ds, W.heap.size ≤ d ∧ d < X.heap.size := fun d hd => ⟨(HSt.out.ds d hd).1, by have := (HSt.out.ds d hd).2.1; omega⟩
    have hnd := HSt.out.nd
    have hone : one (o, .slice va o.attrs.length vc) (metS (all.take i) (ps, 0)) = (rem (metS (all.take i) (ps, 0))).take o.n.toNat := by unfold one; rw [if_neg HK2.out]
    have hth : then1 (o, .slice va o.attrs.length vc) (metS (all.take i) (ps, 0)) = adv o.n.toNat (metS (all.take i) (ps, 0)) := by unfold then1; rw [if_neg HK2.out]
    have hkn : (metL (all.take (i + 1)) (ps, 0)).length = (metL (all.take i) (ps, 0)).length + (one (o, .slice va o.attrs.length vc) (metS (all.take i) (ps, 0))).length := by rw [HMT.out.1, List.length_append, List.length_map]
    have hsn : metS (all.take (i + 1)) (ps, 0) = adv o.n.toNat (metS (all.take i) (ps, 0)) := by rw [HMT.out.2, hth]
    have hat := HAT.out
    rw [hone] at hkn
    simp only [hone] at hat
    generalize (metL (all.take i) (ps, 0)).length = k0 at hkn hat jX
    obtain ⟨s, hs0⟩ : ∃ s, s = metS (all.take i) (ps, 0) := ⟨_, rfl⟩
    rw [← hs0] at hsn sX
    rw [← hs0] at hkn
    simp only [← hs0] at hat
    clear hth
    obtain ⟨ys, hys⟩ : ∃ ys, ys = (rem s).take o.n.toNat := ⟨_, rfl⟩
    rw [← hys] at hkn
    simp only [← hys] at hat
    have hhY : ∀ (k : Nat) (hk : k < ys.length) (W1 : World), J (k0 + k) W1 → YieldAt Fence.wide 0 Tryz.prog l #[opAgg o (.slice va o.attrs.length vc), cellAgg ys[k]] W1 fun e W' =>
     (e = .returned (.bool true) ∧ J (k0 + k + 1) W' ∧ Rnd B W.heap.size tB W1 W' ∧ Kp W1 W') ∨ (e = .returned (.bool false) ∧ (k0 + k < xs.length ∧ Jx (k0 + k) W') ∧ Rnd B W.heap.size tB W1 W') := fun k hk W1 hj => by
     obtain ⟨hh, he⟩ := hat k hk
     have hxx := HXS.out
     subst hxx
     have := HY.out (k0 + k) hh W1 hj
     rw [he] at this
     exact this.mono fun e W' h => h.imp id fun h => ⟨h.1, ⟨hh, h.2.1⟩, h.2.2⟩
    have hsh : ∀ (k : Nat) (hk : k < ys.length), ∃ a c, ys[k].2.2 = .slice a ys[k].2.1.attrs.length c := fun k hk => by
     have hm : ys[k] ∈ rem s := List.mem_of_mem_take (by rw [← hys]; exact List.getElem_mem hk)
     have hm2 := mem_rem hm
     obtain ⟨lv, oo, _, hrr, _, _⟩ := sX
     exact ((hrr X (Below.refl _ _)).2 _ hm2).shape
    have hKB : KOk B (Below B) := { trans := fun h k => h.trans k, of_step := fun h => h.below }
    have hit := next_iter (Below B) B (W.heap.size + 1) (w'.heap.size + 1 + 1) (w'.heap.size + 1) s.1 s.2 o.n tB Kp (fun _ _ => True) hKB (by omega) HQQ.out.2 ht htw (fun hr _ => hr.below)
    rw [show ((s.1, s.2) : List RP × Nat) = s from rfl] at hit
    rw [← hys] at hit
    obtain ⟨I, hI0⟩ : (∃ I : Nat → World → Prop, I = fun k W' => J (k0 + k) W' ∧ Boxed W' W.heap.size 90 (.func (.yield l) #[] #[]) ∧ (W'.heap[w'.heap.size]? = some (.cells #[.int .i64 o.kind, .int .i64 o.n, .string o.text, .slice va o.attrs.length vc] 37 (0, 0)) ∧ Fr W' w'.heap.size) ∧ (W'.ownsRow B 37 4 (.slice (some ⟨g, 0, none⟩) (qs.length + 1) ccap) (qs.length + 1) (flatO all) ∧ Fr W' g) ∧ U8s B W' ∧ (∀ d ∈ ds, W'.heap[d]? = some (.deferred (some []))) ∧ Below B W W' ∧ X.heap.size ≤ W'.heap.size) := ⟨_, rfl⟩
    have hId : ∀ k W', I k W' ↔ (J (k0 + k) W' ∧ Boxed W' W.heap.size 90 (.func (.yield l) #[] #[]) ∧ (W'.heap[w'.heap.size]? = some (.cells #[.int .i64 o.kind, .int .i64 o.n, .string o.text, .slice va o.attrs.length vc] 37 (0, 0)) ∧ Fr W' w'.heap.size) ∧ (W'.ownsRow B 37 4 (.slice (some ⟨g, 0, none⟩) (qs.length + 1) ccap) (qs.length + 1) (flatO all) ∧ Fr W' g) ∧ U8s B W' ∧ (∀ d ∈ ds, W'.heap[d]? = some (.deferred (some []))) ∧ Below B W W' ∧ X.heap.size ≤ W'.heap.size) := fun k W' => by rw [hI0]
    have hI1 : I 0 X := (hId _ _).2 ⟨jX, yX, ⟨ob0, fX⟩, ⟨rX, gX⟩, uX, dX, bX, Nat.le_refl _⟩
    have hcl : ∀ k A A', I k A → Step B X.heap.size WT [W.heap.size + 1] A A' → I k A' := fun k A A' h hs => by
     have h := (hId _ _).1 h
     exact (hId _ _).2 ⟨HJ.out _ _ _ h.1 (hs.more (fun _ h => h) (fun i hi h => by rw [List.mem_singleton] at h; omega) (by omega)), hs.cells _ _ _ _ h.2.1 (.inl (by decide)), ⟨hs.cells _ _ _ _ h.2.2.1.1 (.inl (by decide)), hFrS hs h.2.2.1.2⟩, ⟨own_of_block h.2.2.2.1.1 (fun cs fr hh => hs.cells _ _ _ _ hh (.inl (by decide))), hFrS hs h.2.2.2.1.2⟩, h.2.2.2.2.1.to hs.below, fun d hd => hs.other d _ (dl d hd).2 (h.2.2.2.2.2.1 d hd) rfl, h.2.2.2.2.2.2.1.trans hs.below, Nat.le_trans h.2.2.2.2.2.2.2 hs.below.size⟩
    have HHY := Lib.hid hhY
    have HSH := Lib.hid hsh
    have HID := Lib.hid hId
    have HCL := Lib.hid hcl
    have HSN := Lib.hid hsn
    have HKN := Lib.hid hkn
    have HYS := Lib.hid hys
    have HDL := Lib.hid dl
    have HX2 := Lib.hid (show ∀ (k : Nat) (A A' : World), Jx k A → Step B X.heap.size WT [W.heap.size + 1] A A' → Jx k A' from fun k A A' h hs => HJX.out _ _ _ h (hs.more (fun _ h => h) (fun i hi h => by rw [List.mem_singleton] at h; omega) (by omega)))
    have HOB := Lib.hid (And.intro ob1 ob2)
    have HSX := Lib.hid sX
    have HUX := Lib.hid uX
    have HBX := Lib.hid bX
    clear hhY hsh hId hcl hsn hkn hys hX BX hbk hstX jX fX gX rX yX uX bX sX dX dl ob0 ob1 ob2 hI0 hat
    refine range_it hit rfl (enters_of Tryz.func69 (by kernel_rfl) rfl) (fun _ => rfl) (by omega) ?hS hKO.trans hKO.put I
     (fun c k W' => c = .ret ∧ (k0 + k < xs.length ∧ Jx (k0 + k) W') ∧ (∀ d ∈ ds, W'.heap[d]? = some (.deferred (some []))) ∧ X.heap.size ≤ W'.heap.size) HCL.out (fun c k A A' h hs => ⟨h.1, ⟨h.2.1.1, HX2.out _ _ _ h.2.1.2 hs⟩, fun d hd => hs.other d _ (HDL.out d hd).2 (h.2.2.1 d hd) rfl, Nat.le_trans h.2.2.2 hs.below.size⟩) (fun _ _ _ _ _ => trivial) hI1 ?rnd ?done ?stop ?hS1
    case hS =>
     intro W' hb
     have hbk2 : ∀ {j : Nat} {ob : Obj}, X.heap[j]? = some ob → W'.heap[j]? = some ob := fun hj => (hb.block _ (lt_of_heap hj)).trans hj
     have hBX : Below B X W' := hb.mono (by omega)
     exact ⟨hbk2 HOB.out.2, hbk2 HOB.out.1, HSX.out.keep (fun h h' => h.trans h') hBX (fun lv oo h => hbk2 h), HUX.out.to hBX⟩
    case hS1 =>
     intro A A' hA hs
     exact hA.keep (fun h h' => h.trans h') hs.below (fun lv oo h => hs.cells _ _ _ _ h (.inl (by simp)))
    case rnd =>
     rintro l' k hk W2 hle hI
     have HYk := Lib.hid (HHY.out k hk)
     obtain ⟨xa, xl, hxv⟩ := HSH.out k hk
     generalize ys[k] = x at HYk hxv ⊢
     obtain ⟨xc, xr, xv⟩ := x
     simp only at hxv
     subst hxv
     have hz2 : X.heap.size ≤ W2.heap.size := ((HID.out _ _).1 hI).2.2.2.2.2.2.2
     have HI := Lib.hid hI
     clear hI
     gi_wp2
     have bA := below_box W2 (.cells #[.string (E xc), .slice xa xr.attrs.length xl] 54)
     have hIA := HCL.out k _ _ HI.out (step_below WT bA (by omega))
     refine ⟨rnd_below tB bA (by omega), hKO.below bA, hIA, fun W4 hs hsz4 ⟨r4, hr4⟩ => ?_⟩
     have hI4 := HCL.out k _ _ hIA (hs.more (fun _ h => by cases h) (fun _ _ h => by cases h) (Nat.le_refl _))
     have x4 : W4.heap[W2.heap.size]? = some (.cells #[.string (E xc), .slice xa xr.attrs.length xl] 54 (0, 0)) := hs.cells _ _ _ _ (heap_new _ _) (.inl (by simp))
     have h4 := (HID.out _ _).1 hI4
     have y0 := h4.2.1.cell
     have y1 : W4.cell? ⟨W2.heap.size, 0, none⟩ = some (.string (E xc)) := by simp [World.cell?, x4]
     have y2 : W4.cell? ⟨W2.heap.size, 1, none⟩ = some (.slice xa xr.attrs.length xl) := by simp [World.cell?, x4]
     have o4 := h4.2.2.1.1
     have p0 : W4.cell? ⟨w'.heap.size, 0, none⟩ = some (.int .i64 o.kind) := by simp [World.cell?, o4]
     have p1 : W4.cell? ⟨w'.heap.size, 1, none⟩ = some (.int .i64 o.n) := by simp [World.cell?, o4]
     have p2 : W4.cell? ⟨w'.heap.size, 2, none⟩ = some (.string o.text) := by simp [World.cell?, o4]
     have p3 : W4.cell? ⟨w'.heap.size, 3, none⟩ = some (.slice va o.attrs.length vc) := by simp [World.cell?, o4]
     obtain ⟨fn, tmps, assign, body, hy, hR⟩ := HYk.out W4 h4.1
     have HR := Lib.hid hR
     have H4 := Lib.hid h4
     clear hR hs h4 hI4 hIA bA x4 hsz4 hr4 o4
     gi_wp2
     refine ⟨rfl, RoundIn.mono (F := Fence.wide.inRound l') HR.out ?_⟩
     rintro e W5 (⟨rfl, hj5, hr5, hk5⟩ | ⟨rfl, hx5, hr5⟩)
     ·obtain ⟨_, gcs, hgc⟩ := own_heap H4.out.2.2.2.1.1
      have hgk := hKF hk5 hgc (.inr rfl) H4.out.2.2.2.1.2
      have hI5 : I (k + 1) W5 := (HID.out _ _).2 ⟨by rw [← Nat.add_assoc]; exact hj5, boxed_rnd H4.out.2.1 hr5 htg, hKF hk5 H4.out.2.2.1.1 (.inr rfl) H4.out.2.2.1.2, ⟨own_of_block H4.out.2.2.2.1.1 (fun cs fr h => (hKF hk5 h (.inr rfl) H4.out.2.2.2.1.2).1), hgk.2⟩, H4.out.2.2.2.2.1.to hr5.below, fun d hd => hr5.other d _ (HDL.out d hd).1 (H4.out.2.2.2.2.2.1 d hd) rfl, H4.out.2.2.2.2.2.2.1.trans hr5.below, Nat.le_trans H4.out.2.2.2.2.2.2.2 hr5.below.size⟩
      have HF := Lib.hid (And.intro (hr5.more (M := X.heap.size) (fun _ h => h) (by omega)) (And.intro hk5 hI5))
      clear hj5 hr5 hk5 hI5 hgc hgk
      gi_wp2
      exact HF.out
     ·have HF := Lib.hid (And.intro (hr5.more (M := X.heap.size) (fun _ h => h) (by omega)) (And.intro hx5 (And.intro (fun d hd => hr5.other d _ (HDL.out d hd).1 (H4.out.2.2.2.2.2.1 d hd) rfl : ∀ d ∈ ds, W5.heap[d]? = some (.deferred (some []))) (Nat.le_trans H4.out.2.2.2.2.2.2.2 hr5.below.size))))
      clear hr5 hx5
      gi_wp2
      exact ⟨HF.out.1, rfl, HF.out.2.1, HF.out.2.2.1, HF.out.2.2.2⟩
    case done =>
     rintro D W2 hle hI hS1 hD
     have h2 := (HID.out _ _).1 hI
     have hz2 : X.heap.size ≤ W2.heap.size := h2.2.2.2.2.2.2.2
     have HNEW := Lib.hid (show MetSt B W.heap.size g ccap (qs.length + 1) W all ps J Fr 90 (.func (.yield l) #[] #[]) (i + 1) (D :: ds) W2 from
      { le := by omega
        st := by rw [HSN.out]; exact hS1
        j := by rw [HKN.out]; exact h2.1
        y := h2.2.1
        row := h2.2.2.2.1.1
        fr := h2.2.2.2.1.2
        u8 := h2.2.2.2.2.1
        b := h2.2.2.2.2.2.2.1
        nd := List.nodup_cons.2 ⟨fun h => by have := (HDL.out D h).2; omega, hnd⟩
        ds := fun d hd => by
         rcases List.mem_cons.1 hd with rfl | h
         ·exact ⟨by omega, lt_of_heap hD, hD⟩
         ·exact ⟨(HDL.out d h).1, by have := (HDL.out d h).2; omega, h2.2.2.2.2.2.1 d h⟩
        sz := by omega })
     have e18 : wrap64 ((i : Int) + 1) = (i : Int) + 1 := IntWalk.wrap64_in _ (by omega)
     clear hI h2 hS1 hD
     gi_wp2
     rw [e18]
     refine ⟨⟨i + 1, _, _, _, _, _, _, _, _, _, _, _, _, _, _, _, _, _, _, _, _, D :: ds, rfl, HNEW.out⟩, ?_⟩
     exact meas_lt hlt
    case stop =>
     rintro D c k W2 hle hk ⟨rfl, hx, hdd, hzz⟩ hD
     gi_wp2
     exact leaves_marks (B := B) (N := W.heap.size) (v := .tuple #[]) (fun w => results_none rfl _ _ _) (D :: ds) W2 (List.nodup_cons.2 ⟨fun h => by have := (HDL.out D h).2; omega, hnd⟩)
      (fun d hd => by
       rcases List.mem_cons.1 hd with rfl | h
       ·exact ⟨by omega, by omega, hD⟩
       ·exact ⟨(HDL.out d h).1, Nat.le_trans hBW (HDL.out d h).1, hdd d h⟩)
      fun w'' hs => ⟨⟨_, rfl⟩, .inr ⟨k0 + k, hx.1, HJX.out _ _ _ hx.2 (hs.more (fun _ h => by cases h) (fun _ _ h => h) (Nat.le_refl _))⟩⟩
  ·have hin : i = qs.length + 1 := by omega
   subst hin
   have HXL := Lib.hid (show xs.length = (metL (all.take (qs.length + 1)) (ps, 0)).length from by rw [HXS.out, ← HN.out, List.take_length])
   gi_wp2
   exact leaves_marks (B := B) (N := W.heap.size) (v := .tuple #[]) (fun w => results_none rfl _ _ _) ds w' HSt.out.nd (fun d hd => ⟨(HSt.out.ds d hd).1, Nat.le_trans hBW (HSt.out.ds d hd).1, (HSt.out.ds d hd).2.2⟩)
    fun w'' hs => ⟨⟨_, rfl⟩, .inl ⟨by rw [HXL.out]; exact HJ.out _ _ _ HSt.out.j (hs.more (fun _ h => by cases h) (fun _ _ h => h) (Nat.le_refl _)), trivial⟩⟩
end Go.Proofs.YtlfodemmdfaeeaaGreatDoor
