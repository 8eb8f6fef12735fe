import Derived.Test.YtchceolbbkhnnaaGC1
import Derived.Test.YtchceolbbkhnnaaProg
import Derived.Deep.RegionHeld3
import Derived.BigRegion
namespace Go.Proofs.Ytchceolbbkhnnaa
section
open Go
section
variable {P : Program} {ops : Array Oper} {Q : Exit → Act → World → Prop} {md : Region.Mode} {S : World → Prop} {brk : List Nat}
def brokenB (brk : List Nat) (listed : Array Bool) : Bool := brk.any fun k => listed.getD k false
def wpAnyB (P : Program) (md : Region.Mode) (ops : Array Oper) (Q : Exit → Act → World → Prop) (S : World → Prop) (brk : List Nat) : Nat → Array Bool → Act → World → Prop
 | 0, listed, a, w => Region.ready md ops listed = [] ∧ Q .normal a w
 | fuel + 1, listed, a, w =>
   (Region.ready md ops listed = [] → Q .normal a w) ∧
   ∀ i ∈ Region.ready md ops listed, wpOp P ops Q i (fun a' w' => (brokenB brk (listed.setIfInBounds i true) = true ∨ S w') ∧ wpAnyB P md ops Q S brk fuel (listed.setIfInBounds i true) a' w') a w
theorem wpAny_of_B : ∀ (fuel : Nat) (listed : Array Bool) (a : Act) (w : World), wpAnyB P md ops Q S brk fuel listed a w → wpAny P md ops Q fuel listed a w
 | 0, _, _, _, h => h
 | fuel + 1, _, _, _, h => ⟨h.1, fun i hi => wpOp_mono (fun a' w' h' => wpAny_of_B fuel _ a' w' h'.2) (h.2 i hi)⟩
theorem broken_set {listed : Array Bool} {i : Nat} (h : i ∉ brk) : brokenB brk (listed.setIfInBounds i true) = brokenB brk listed := by
 unfold brokenB; rw [Bool.eq_iff_iff, List.any_eq_true, List.any_eq_true]; constructor
 ·rintro ⟨k, hk, h1⟩
  refine ⟨k, hk, ?_⟩; rw [getD_set_ne false (fun e => h (by rw [e]; exact hk))] at h1; exact h1
 ·rintro ⟨k, hk, h1⟩
  refine ⟨k, hk, ?_⟩; rw [getD_set_ne false (fun e => h (by rw [e]; exact hk))]; exact h1
def waitsB (md : Region.Mode) (ops : Array Oper) (j i : Nat) : Bool :=
 match ops[j]? with
 | some oj => oj.after.any fun e => Region.binds md e && e.on == i
 | none => false
theorem not_ready {listed : Array Bool} {c p : Nat} (hw : waitsB md ops c p = true) (hp : listed.getD p true = false) : c ∉ Region.ready md ops listed := fun hc => by
 obtain ⟨_, oc, hoc, hall⟩ := mem_ready.1 hc; unfold waitsB at hw; rw [hoc] at hw; obtain ⟨e, he, hb⟩ := Array.any_eq_true'.1 hw; rw [Bool.and_eq_true, beq_iff_eq] at hb; have h1 := hall e he hb.1; rw [hb.2] at h1; rcases Nat.lt_or_ge p listed.size with h' | h'
 ·simp [h'] at hp h1; rw [hp] at h1; cases h1
 ·simp [Array.getElem?_eq_none h'] at h1
theorem wpAnyB_first {i : Nat} {oi : Oper} {v : Value} {T : World → Prop} (chain : List Nat) (hib : i ∉ brk) (hT : (∀ w, T w) ∨ ((∀ w, S w → T w) ∧ (∀ c ∈ chain, c ≠ i → ∃ p ∈ chain, waitsB md ops c p = true) ∧ ∀ j ∈ brk, j ∈ chain))
 (hi : ops[i]? = some oi) (hsel : ∀ (j : Nat) (o : Oper) cs b, ops[j]? = some o → o.op ≠ .select cs b) (hQ : ∀ c a w, Q (.panic c) (a.put oi.dst v) w → Q (.panic c) a w) :
 ∀ (fuel : Nat) (listed : Array Bool) (a : Act) (w : World),
  (∀ j oj, ops[j]? = some oj → j ≠ i → listed.getD j true = false → (∀ e ∈ oj.after, Region.binds md e = true → e.on ≠ i) → oi.apart ops oj = true) →
  ((∀ w, T w) ∨ ∀ c ∈ chain, listed.getD c true = false) →
  i ∈ Region.ready md ops listed → YieldsIf P ops T oi v a →
  wpAnyB P md ops Q S brk fuel (listed.setIfInBounds i true) (a.put oi.dst v) w → (brokenB brk listed = true ∨ S w) → wpAnyB P md ops Q S brk (fuel + 1) listed a w := by
 have key : ∀ (listed : Array Bool) (w : World), ((∀ w, T w) ∨ ∀ c ∈ chain, listed.getD c true = false) → (brokenB brk listed = true ∨ S w) → T w := fun listed w hun hb => by
  rcases hT with h | ⟨h, _, hbk⟩
  ·exact h w
  ·rcases hun with h' | hun
   ·exact h' w
   ·rcases hb with hb | hb
    ·unfold brokenB at hb
     obtain ⟨k, hk, h1⟩ := List.any_eq_true.1 hb; have h2 := hun k (hbk k hk); rcases Nat.lt_or_ge k listed.size with h' | h'
     ·simp [h'] at h1 h2; rw [h2] at h1; cases h1
     ·simp [Array.getElem?_eq_none h'] at h1
    ·exact h w hb
 intro fuel; induction fuel with
 | zero =>
   intro listed a w _ hun hr hy H hb; refine ⟨fun h => (by rw [h] at hr; cases hr), fun j hj => ?_⟩
   by_cases hji : j = i
   ·subst hji
    exact hy.wpOp hi (key listed w hun hb) ⟨by rw [broken_set hib]; exact hb, H⟩
   ·have := ready_mono hj hji
    rw [H.1] at this; cases this
 | succ fuel ih =>
   intro listed a w hfree hun0 hr hy H hb; refine ⟨fun h => (by rw [h] at hr; cases hr), fun j hj => ?_⟩
   by_cases hji : j = i
   ·subst hji; exact hy.wpOp hi (key listed w hun0 hb) ⟨by rw [broken_set hib]; exact hb, H⟩
   ·have h1 := H.2 j (ready_mono hj hji)
    obtain ⟨hjun, oj, hoj, hall⟩ := mem_ready.1 hj; have hnot : ∀ e ∈ oj.after, Region.binds md e = true → e.on ≠ i := fun e he hb heq => by
     have h1 := hall e he hb; have h0 := (mem_ready.1 hr).1; rw [heq] at h1; rcases Nat.lt_or_ge i listed.size with h' | h'
     ·simp [h'] at h0 h1; rw [h0] at h1; cases h1
     ·simp [Array.getElem?_eq_none h'] at h1
    have h2 := wpOp_putIf hoj (hfree j oj hoj hji hjun hnot) (fun cs b => hsel i oi cs b hi) (fun cs b => hsel j oj cs b hoj) hQ hy h1
    have hfree' : ∀ k ok, ops[k]? = some ok → k ≠ i → (listed.setIfInBounds j true).getD k true = false →
     (∀ e ∈ ok.after, Region.binds md e = true → e.on ≠ i) → oi.apart ops ok = true := fun k ok hk hki hun hno => by
     refine hfree k ok hk hki ?_ hno
     by_cases hjk : j = k
     ·subst hjk; exact hjun
     ·rw [getD_set_ne true hjk] at hun; exact hun
    have hjc : (∀ w, T w) ∨ j ∉ chain := by
     rcases hT with h | ⟨_, hcw, _⟩
     ·exact .inl h
     ·rcases hun0 with h | hun
      ·exact .inl h
      ·refine .inr fun hc => ?_
       obtain ⟨p, hp, hw⟩ := hcw j hc hji; exact not_ready hw (hun p hp) hj
    have hcomm : (listed.setIfInBounds i true).setIfInBounds j true = (listed.setIfInBounds j true).setIfInBounds i true := Array.setIfInBounds_comm _ _ (fun e => hji e.symm); rw [hcomm] at h2; refine wpOp_mono (fun a' w' h3 => ?_) h2; have hb3 : brokenB brk (listed.setIfInBounds j true) = true ∨ S w' := by
     have := h3.2.1
     rwa [broken_set hib] at this
    refine ⟨hb3, ih (listed.setIfInBounds j true) a' w' hfree' ?_ (ready_mono hr (Ne.symm hji)) h3.1 h3.2.2 hb3⟩; rcases hjc with h | h
    ·exact .inl h
    ·rcases hun0 with h' | hun
     ·exact .inl h'
     ·refine .inr fun c hc => ?_
      rw [getD_set_ne true (fun e => h (by rw [e]; exact hc))]; exact hun c hc
theorem wpAnyB_free {i : Nat} {oi : Oper} {v : Value} {fuel : Nat} {listed : Array Bool} {a : Act} {w : World} (hi : ops[i]? = some oi)
 (hib : brk.contains i = false) (hs : Region.noSelect ops = true) (hf : Region.free md ops listed i = true) (hr : (Region.ready md ops listed).contains i = true)
 (hQ : ∀ c a w, Q (.panic c) (a.put oi.dst v) w → Q (.panic c) a w) (hb : brokenB brk listed = true ∨ S w) (hy : ∀ w, (execOp a.eval oi).run P w = .ok (.value v) w) (hw : Region.wanted oi (yielded ops a.tmps) = true)
 (h : wpAnyB P md ops Q S brk fuel (listed.setIfInBounds i true) (a.put oi.dst v) w) : wpAnyB P md ops Q S brk (fuel + 1) listed a w :=
 wpAnyB_first (T := fun _ => True) [] (fun hh => by rw [List.contains_iff_mem.2 hh] at hib; cases hib) (.inl fun _ => trivial) hi (Region.noSelect_spec hs) hQ fuel listed a w (Region.free_spec hi hf) (.inl fun _ => trivial) (by simpa using hr) (.inl ⟨hw, fun w _ => hy w⟩) h hb
def chainOk (md : Region.Mode) (ops : Array Oper) (listed : Array Bool) (brk : List Nat) (i : Nat) (chain : List Nat) : Bool :=
 (chain.all fun c => c == i || chain.any fun p => waitsB md ops c p) && (brk.all fun j => chain.contains j) && chain.all fun c => !(listed.getD c true)
theorem wpAnyB_load (chain : List Nat) {i : Nat} {oi : Oper} {v : Value} {fuel : Nat} {listed : Array Bool} {a : Act} {w : World} (hi : ops[i]? = some oi)
 (hib : brk.contains i = false) (hs : Region.noSelect ops = true) (hf : Region.free md ops listed i = true) (hr : (Region.ready md ops listed).contains i = true) (hc : chainOk md ops listed brk i chain = true)
 (hQ : ∀ c a w, Q (.panic c) (a.put oi.dst v) w → Q (.panic c) a w) (hb : brokenB brk listed = true ∨ S w) (hy : ∀ w, S w → (execOp a.eval oi).run P w = .ok (.value v) w) (hw : Region.wanted oi (yielded ops a.tmps) = true)
 (h : wpAnyB P md ops Q S brk fuel (listed.setIfInBounds i true) (a.put oi.dst v) w) : wpAnyB P md ops Q S brk (fuel + 1) listed a w := by
 unfold chainOk at hc; rw [Bool.and_eq_true, Bool.and_eq_true, List.all_eq_true, List.all_eq_true, List.all_eq_true] at hc; obtain ⟨⟨h1, h2⟩, h3⟩ := hc; refine wpAnyB_first (T := S) chain (fun hh => by rw [List.contains_iff_mem.2 hh] at hib; cases hib) (.inr ⟨fun _ h => h, fun c hc hne => ?_, fun j hj => List.contains_iff_mem.1 (h2 j hj)⟩) hi (Region.noSelect_spec hs) hQ fuel listed a w (Region.free_spec hi hf) (.inr fun c hc => by simpa using h3 c hc) (by simpa using hr) (.inl ⟨hw, hy⟩) h hb; have := h1 c hc; rw [Bool.or_eq_true, beq_iff_eq, List.any_eq_true] at this; exact this.resolve_left hne
theorem wbS {α : Type} : (type_of% (@List.getElem_toArray α)) ∧ (type_of% (@List.getElem_cons_zero α)) ∧ (type_of% (@List.getElem_cons_succ α)) ∧ (type_of% (@List.setIfInBounds_toArray α)) ∧ (type_of% (@List.set_cons_zero α)) ∧ (type_of% (@List.set_cons_succ α)) := ⟨@List.getElem_toArray α, @List.getElem_cons_zero α, @List.getElem_cons_succ α, @List.setIfInBounds_toArray α, @List.set_cons_zero α, @List.set_cons_succ α⟩
theorem wbF (fuel i : Nat) (v : Value) {oi : Oper} {listed : Array Bool} {a : Act} {w : World} (hi : ops[i]? = some oi)
 (h4 : (!brk.contains i && Region.noSelect ops && Region.free md ops listed i && (Region.ready md ops listed).contains i) = true)
 (hQ : ∀ c a w, Q (.panic c) (a.put oi.dst v) w → Q (.panic c) a w) (hb : brokenB brk listed = true ∨ S w) (hy : ∀ w, (execOp a.eval oi).run P w = .ok (.value v) w) (hw : Region.wanted oi (yielded ops a.tmps) = true)
 (h : wpAnyB P md ops Q S brk fuel (listed.setIfInBounds i true) (a.put oi.dst v) w) : wpAnyB P md ops Q S brk (fuel + 1) listed a w := by
 simp only [Bool.and_eq_true, Bool.not_eq_true'] at h4; exact wpAnyB_free hi h4.1.1.1 h4.1.1.2 h4.1.2 h4.2 hQ hb hy hw h
theorem wbL (chain : List Nat) (fuel i : Nat) (v : Value) {oi : Oper} {listed : Array Bool} {a : Act} {w : World} (hi : ops[i]? = some oi)
 (h4 : (!brk.contains i && Region.noSelect ops && Region.free md ops listed i && (Region.ready md ops listed).contains i && chainOk md ops listed brk i chain) = true)
 (hQ : ∀ c a w, Q (.panic c) (a.put oi.dst v) w → Q (.panic c) a w) (hb : brokenB brk listed = true ∨ S w) (hy : ∀ w, S w → (execOp a.eval oi).run P w = .ok (.value v) w) (hw : Region.wanted oi (yielded ops a.tmps) = true)
 (h : wpAnyB P md ops Q S brk fuel (listed.setIfInBounds i true) (a.put oi.dst v) w) : wpAnyB P md ops Q S brk (fuel + 1) listed a w := by
 simp only [Bool.and_eq_true, Bool.not_eq_true'] at h4; exact wpAnyB_load chain hi h4.1.1.1.1 h4.1.1.1.2 h4.1.1.2 h4.1.2 h4.2 hQ hb hy hw h
theorem wpAnyB_one {i : Nat} {o : Oper} {fuel : Nat} {listed : Array Bool} {a : Act} {w : World} (ho : ops[i]? = some o) (hr : Region.ready md ops listed = [i])
 (h : ∀ K' : Act → World → Prop, (∀ a w, (brokenB brk (listed.setIfInBounds i true) = true ∨ S w) → wpAnyB P md ops Q S brk fuel (listed.setIfInBounds i true) a w → K' a w) → if Region.wanted o (yielded ops a.tmps) = true then Oper.wp P o a w K' Q else K' (a.put o.dst undef) w) :
 wpAnyB P md ops Q S brk (fuel + 1) listed a w :=
 ⟨fun h0 => (by rw [hr] at h0; cases h0), fun j hj => by
  rw [hr] at hj; obtain rfl : j = i := by simpa using hj
  exact wpOp_step ho (fun K' hK => h K' (fun a w hS hW => hK a w ⟨hS, hW⟩))⟩
theorem wpAnyB_done {listed : Array Bool} {a : Act} {w : World} (hr : Region.ready md ops listed = []) (h : Q .normal a w) : wpAnyB P md ops Q S brk 0 listed a w := ⟨hr, h⟩
theorem wp_region_B (S : World → Prop) (brk : List Nat) {id : Nat} {a : Act} {w : World} (hm : P.follows .mixedOrders = true)
 (h : wpAnyB P .any ops Q S brk ops.size (Array.replicate ops.size false) a w.drew) : (Code.region id ops true).wp P Q a w :=
 wp_region_any hm (wpAny_of_B _ _ _ _ h)
end
end
section
open Go.RowKit Ch
open Lib (hid)
theorem NSt.below {w w' : World} {B b : Nat} {ov : Value} {l : List OpD} {g : Int} (h : NSt w B b ov l g) (hb : Below w.heap.size w w') : NSt w' B b ov l g := by
 obtain ⟨ps, ad, bv, bt, h1, h2, h3, h4, h5⟩ := h; have hk : Keep w.heap.size [] w w' := keep_below hb (Nat.le_refl _); exact ⟨ps, ad, bv, bt, h1.keep hk (by simp), h2, h3.keep hk (by simp) (by simp), ⟨hk.own h4.1 (by simp), h4.2⟩, h5⟩
theorem NSt.ov_lt {w : World} {B b : Nat} {ov : Value} {l : List OpD} {g : Int} (h : NSt w B b ov l g) : ∀ j, ov.ownBlock = some j → j < w.heap.size := by
 obtain ⟨ps, _, _, _, _, _, h3, _⟩ := h; exact fun j hj => (h3.1.lt j hj).2
theorem NSt.slice {w : World} {B b : Nat} {ov : Value} {l : List OpD} {g : Int} (h : NSt w B b ov l g) : ∃ a c, ov = .slice a l.length c := by
 obtain ⟨ps, _, _, _, _, _, h3, _, h5⟩ := h; obtain ⟨a, c, rfl⟩ := own_slice h3.1; have : ps.length = l.length := by
  rcases h5 with ⟨rfl, rfl, _⟩ | ⟨x, r, fr, xv, rfl, rfl, hf, _⟩
  ·rfl
  ·have := congrArg List.length hf
   simp at this ⊢; exact this
 exact ⟨a, c, by rw [this]⟩
theorem new_at4 (w : World) (u0 u1 u2 u3 : Value) (e : TypeId) : ∀ j x, [u0, u1, u2, u3][j]? = some x → (w.alloc (.cells #[u0, u1, u2, u3] e)).cell? ((⟨w.heap.size, 0, none⟩ : Addr).add j) = some x := by
 intro j x hj
 match j, hj with
 | 0, hj => simp at hj; subst hj; go_simp
 | 1, hj => simp at hj; subst hj; go_simp
 | 2, hj => simp at hj; subst hj; go_simp
 | 3, hj => simp at hj; subst hj; go_simp
 | j + 4, hj => simp at hj
theorem heap_new (w : World) (o : Obj) : (w.alloc o).heap[w.heap.size]? = some o := heap_alloc_new w o
def PutOut (w : World) (B b : Nat) (ov : Value) (l : List OpD) (o : OpD) (g : Int) (e : Ending) (w' : World) : Prop := e = .returned (.tuple #[]) ∧ ∃ ov', NSt w' B b ov' (put l o) g ∧ KeepO B w w' ov ov'
structure Fits (l : List OpD) (o : OpD) : Prop where
 len : l.length ≤ 1000000
 last : ∀ x r, l = x :: r → 0 ≤ x.n ∧ x.n ≤ 1073741824 ∧ x.text.size ≤ 1073741824
 n0 : 0 ≤ o.n
 n1 : o.n ≤ 1073741824
 text : o.text.size ≤ 1073741824
 attrs : SmallA o.attrs
set_option maxHeartbeats 4000000 in
set_option maxRecDepth 100000 in
theorem put_empty (B b : Nat) (ov : Value) (l : List OpD) (g : Int) (o : OpD) (av : Value) (w : World) (h : NSt w B b ov l g) (hB : B ≤ b) (hf : Fits l o) (hv : ∀ w', Keep B TS w w' → AtRow w' av o.attrs) (hnil : l = []) :
 Calls Try.prog 53 #[.pointer (some ⟨b, 0, none⟩), opAgg o av] w (PutOut w B b ov l o g) := by
 have hBw : B ≤ w.heap.size := Nat.le_trans hB (Nat.le_of_lt h.lt); obtain ⟨ar, cr, rfl⟩ := (hv w (Keep.refl _ _ _)).shape; obtain ⟨W, hW⟩ : ∃ W, W = w.alloc (.cells #[.int .i64 o.kind, .int .i64 o.n, .string o.text, .slice ar o.attrs.length cr] 40) := ⟨_, rfl⟩; have BW : Below w.heap.size w W := by rw [hW]; exact below_box _ _
 have HBW := hid BW; have hbox : W.heap[w.heap.size]? = some (.cells #[.int .i64 o.kind, .int .i64 o.n, .string o.text, .slice ar o.attrs.length cr] 40 (0, 0)) := by rw [hW]; exact heap_new _ _
 have HBX := hid hbox; have HNE := hid (show ov.ownBlock ≠ some w.heap.size from fun e => by have := h.ov_lt _ e; omega); have HS := hid (h.below BW); have HV := hid hv; have HF := hid hf; have HW := hid hW; have HBw := hid hBw; obtain ⟨oa, oc, rfl⟩ := h.slice; subst hnil; have hblw := h.lt; have p0 : w.cell? ⟨b, 0, none⟩ = some (.slice oa 0 oc) := by
  obtain ⟨_, _, _, _, hN0, _⟩ := h; exact hN0.cells.1
 clear hf hv hW BW hbox hBw; go_enter Try.func53, Try.ntmps53
 go_wp2_with fail
 rw [← HW.out]; go_wp2_with fail
 go_quiet (fail)
 go_wp2_with fail
 refine (finish_any B b _ _ g _ (HS.out.below (below_drewN (Below.refl _ _) nq)) hB (by have := HF.out.len; omega)).mono ?_; rintro e w1 ⟨rfl, F1, KF⟩; have hb1 : w1.heap[w.heap.size]? = some (.cells #[.int .i64 o.kind, .int .i64 o.n, .string o.text, .slice ar o.attrs.length cr] 40 (0, 0)) := (KF.ops _ _ _ (by exact HBX.out) HNE.out).1; have K1 : KeepO B w w1 (.slice oa 0 oc) (.slice oa 0 oc) := (keepO_below (below_drewN HBW.out nq) HBw.out _).trans KF; have HK1 := hid K1; have HB1 := hid hb1; have hs1 : w.heap.size < w1.heap.size := lt_of_heap hb1; obtain ⟨ps, ad, bv, hN, hA, hP, hH, hps⟩ := F1; have hpl : ps.length ≤ 1000000 := by have h1 := congrArg List.length hps; rw [List.length_map, List.length_reverse] at h1; have := HF.out.len; omega
 have hPL : ps.length = 0 := by
  obtain ⟨a', c', e⟩ := own_slice hP.1; simp only [Value.slice.injEq] at e; exact e.2.1.symm
 have HPLN := hid hPL; obtain ⟨k0, k1, k2, k3, k4⟩ := hN.cells; have hbl : b < w1.heap.size := lt_of_heap hN; have c0 : w1.cell? ⟨w.heap.size, 0, none⟩ = some (.int .i64 o.kind) := by rw [Lib.cell_of_heap hb1]; rfl
 have c1 : w1.cell? ⟨w.heap.size, 1, none⟩ = some (.int .i64 o.n) := by rw [Lib.cell_of_heap hb1]; rfl
 have c3 : w1.cell? ⟨w.heap.size, 3, none⟩ = some (.slice ar o.attrs.length cr) := by rw [Lib.cell_of_heap hb1]; rfl
 obtain ⟨i0, hi, hz0, hz1, hz2⟩ := info_parts infoOp; have Hi := hid (And.intro hi (And.intro hz0 (And.intro hz1 hz2))); have HN := hid hN; have HP := hid hP; have HH := hid hH; have HA := hid hA; have HPS := hid hps; have HCL := hid (fun W' (hb : Below w1.heap.size w1 W') => cloneAttrs_any (.slice ar o.attrs.length cr) o.attrs W' (HV.out W' (K1.keep.trans (keep_below hb (Nat.le_trans HBw.out K1.keep.below.size)))) HF.out.attrs); have HPL := hid hpl; have hnb : w.heap.size ≠ b := by
  have := HS.out.lt; have := HBW.out.size; exact block_ne hb1 hN (by decide)
 have HNB := hid hnb; clear hN hP hH hA hps hPL KF K1 hi hz0 hz1 hz2 k1 k2 k3 k4 hb1 hpl hnb; go_wp2_with fail
 have S1 : w1.drew.cell? ⟨b, 0, none⟩ = some (.slice oa 0 oc) ∧ w1.drew.cell? ⟨w.heap.size, 0, none⟩ = some (.int .i64 o.kind) ∧ w1.drew.cell? ⟨w.heap.size, 1, none⟩ = some (.int .i64 o.n) ∧ w1.drew.cell? ⟨w.heap.size, 3, none⟩ = some (.slice ar o.attrs.length cr) := ⟨k0, c0, c1, c3⟩; refine wp_region_B (fun w' => w'.cell? ⟨b, 0, none⟩ = some (.slice oa 0 oc) ∧ w'.cell? ⟨w.heap.size, 0, none⟩ = some (.int .i64 o.kind) ∧ w'.cell? ⟨w.heap.size, 1, none⟩ = some (.int .i64 o.n) ∧ w'.cell? ⟨w.heap.size, 3, none⟩ = some (.slice ar o.attrs.length cr)) [17] (by kernel_rfl) (?_ : wpAnyB _ _ _ _ _ _ 18 (Array.replicate 18 false) _ _); refine wbF 17 0 ?_ rfl (by kernel_rfl) (fun _ _ _ h => h) (.inr S1) ?_ (by rfl) ?_
 rotate_left
 ·intro w'; go_simp; (try with_reducible rfl)
 simp only [Act.put, List.setIfInBounds_toArray]; refine wbF 16 1 ?_ rfl (by kernel_rfl) (fun _ _ _ h => h) (.inr S1) ?_ (by rfl) ?_
 rotate_left
 ·intro w'; go_simp; (try with_reducible rfl)
 simp only [Act.put]; refine wbF 15 2 ?_ rfl (by kernel_rfl) (fun _ _ _ h => h) (.inr S1) ?_ (by rfl) ?_
 rotate_left
 ·intro w'; go_simp; (try with_reducible rfl)
 simp only [Act.put]; refine wbF 14 3 ?_ rfl (by kernel_rfl) (fun _ _ _ h => h) (.inr S1) ?_ (by rfl) ?_
 rotate_left
 ·intro w'; go_simp; (try with_reducible rfl)
 simp only [Act.put]; refine wbL [4,14,17] 13 4 ?_ rfl (by kernel_rfl) (fun _ _ _ h => h) (.inr S1) ?_ (by rfl) ?_
 rotate_left
 ·intro w' hw'; go_simp; (try with_reducible rfl)
 simp only [Act.put]; refine wbF 12 5 ?_ rfl (by kernel_rfl) (fun _ _ _ h => h) (.inr S1) ?_ (by rfl) ?_
 rotate_left
 ·intro w'; go_simp; (try with_reducible rfl)
 simp only [Act.put]; refine wbL [6,12,13,14,17] 11 6 ?_ rfl (by kernel_rfl) (fun _ _ _ h => h) (.inr S1) ?_ (by rfl) ?_
 rotate_left
 ·intro w' hw'; go_simp; (try with_reducible rfl)
 simp only [Act.put]; refine wbF 10 7 ?_ rfl (by kernel_rfl) (fun _ _ _ h => h) (.inr S1) ?_ (by rfl) ?_
 rotate_left
 ·intro w'; go_simp; (try with_reducible rfl)
 simp only [Act.put]; refine wbL [8,12,13,14,17] 9 8 ?_ rfl (by kernel_rfl) (fun _ _ _ h => h) (.inr S1) ?_ (by rfl) ?_
 rotate_left
 ·intro w' hw'; go_simp; (try with_reducible rfl)
 simp only [Act.put]; refine wbF 8 9 ?_ rfl (by kernel_rfl) (fun _ _ _ h => h) (.inr S1) ?_ (by rfl) ?_
 rotate_left
 ·intro w'; go_simp; (try with_reducible rfl)
 simp only [Act.put]; refine wbL [10,11,12,13,14,17] 7 10 ?_ rfl (by kernel_rfl) (fun _ _ _ h => h) (.inr S1) ?_ (by rfl) ?_
 rotate_left
 ·intro w' hw'; go_simp; (try with_reducible rfl)
 simp only [Act.put]; refine wpAnyB_one (fuel := 6) (i := 11) rfl (by kernel_rfl) ?_; intro KB hKB; go_simp
 refine (HCL.out _ (Below.refl _ _).drew).mono ?_; rintro e wA ⟨vA, rfl, oA, bA⟩; obtain ⟨aa, ca, rfl⟩ := own_slice oA; have BA : Below w1.heap.size w1 wA := of_drew bA; have OA := hid (own_base oA (show B ≤ w1.drew.heap.size from by have := hbl; show B ≤ w1.heap.size; omega)); have PA := hid (HP.out.keep (keep_below (ts := []) BA (Nat.le_refl _)) (by simp) (by simp)); have NA := hid (HN.out.keep (keep_below (ts := []) BA (Nat.le_refl _)) (by simp)); have HA1 := hid (show Holds8 wA B bv [] from ⟨(keep_below (B := B) (ts := []) BA (by omega)).own HH.out.1 (by simp), HH.out.2⟩); have PO := hid (show wA.ownsRow B 40 4 (.slice oa 0 oc) 0 (flatO ps) from by have := PA.out.1; rwa [HPLN.out] at this); have bxA := hid ((BA.block _ hs1).trans HB1.out); have hBA := hid (show B ≤ wA.heap.size from by have := BA.size; omega); have KA := hid (HK1.out.trans (keepO_below BA (by omega) _)); have SA : wA.cell? ⟨b, 0, none⟩ = some (.slice oa 0 oc) ∧ wA.cell? ⟨w.heap.size, 0, none⟩ = some (.int .i64 o.kind) ∧ wA.cell? ⟨w.heap.size, 1, none⟩ = some (.int .i64 o.n) ∧ wA.cell? ⟨w.heap.size, 3, none⟩ = some (.slice ar o.attrs.length cr) := ⟨(BA.cell (by exact hbl)).trans k0, (BA.cell (by exact hs1)).trans c0, (BA.cell (by exact hs1)).trans c1, (BA.cell (by exact hs1)).trans c3⟩
 have AC := Below.alloc (Below.refl wA.heap.size wA) (Nat.le_refl _) (Obj.cells #[.int .i64 o.kind, .int .i64 o.n, .string ⟨#[]⟩, .slice aa o.attrs.length ca] 40); have HAC := hid AC; have lA := Nat.lt_of_lt_of_le hbl BA.size; have lA2 := Nat.lt_of_lt_of_le hs1 BA.size; have SB : (wA.alloc (Obj.cells #[.int .i64 o.kind, .int .i64 o.n, .string ⟨#[]⟩, .slice aa o.attrs.length ca] 40)).cell? ⟨b, 0, none⟩ = some (.slice oa 0 oc) ∧ (wA.alloc (Obj.cells #[.int .i64 o.kind, .int .i64 o.n, .string ⟨#[]⟩, .slice aa o.attrs.length ca] 40)).cell? ⟨w.heap.size, 0, none⟩ = some (.int .i64 o.kind) ∧ (wA.alloc (Obj.cells #[.int .i64 o.kind, .int .i64 o.n, .string ⟨#[]⟩, .slice aa o.attrs.length ca] 40)).cell? ⟨w.heap.size, 1, none⟩ = some (.int .i64 o.n) ∧ (wA.alloc (Obj.cells #[.int .i64 o.kind, .int .i64 o.n, .string ⟨#[]⟩, .slice aa o.attrs.length ca] 40)).cell? ⟨w.heap.size, 3, none⟩ = some (.slice ar o.attrs.length cr) := ⟨(AC.cell (by exact lA)).trans SA.1, (AC.cell (by exact lA2)).trans SA.2.1, (AC.cell (by exact lA2)).trans SA.2.2.1, (AC.cell (by exact lA2)).trans SA.2.2.2⟩
 have HSA := hid SA; have HSB := hid SB; clear oA bA BA SA SB AC; refine hKB _ _ (.inr HSA.out) ?_
 try simp only [Act.put, List.setIfInBounds_toArray, List.set_cons_zero, List.set_cons_succ]
 refine wbF 5 12 ?_ rfl (by kernel_rfl) (fun _ _ _ h => h) (.inr HSA.out) ?_ (by rfl) ?_
 rotate_left
 ·intro w'; go_simp; (try with_reducible rfl)
 simp only [Act.put, List.setIfInBounds_toArray]; refine wpAnyB_one (fuel := 4) (i := 13) rfl (by kernel_rfl) ?_; intro KB hKB; go_simp
 refine hKB _ _ (.inr HSB.out) ?_
 try simp only [Act.put, List.setIfInBounds_toArray, List.set_cons_zero, List.set_cons_succ]
 refine wpAnyB_one (fuel := 3) (i := 14) rfl (by kernel_rfl) ?_; intro KB hKB; refine step_append_new rfl (.tmp 43) (.tmp 52) 22 rfl 40 i0 (.agg #[.int .i64 0, .int .i64 0, .string ⟨#[]⟩, .slice none 0 0]) 4 56 Try.underlying22 Hi.out.1 Hi.out.2.1 Hi.out.2.2.1 Hi.out.2.2.2 rfl (by decide) B (.slice oa 0 oc) 0 (flatO ps) rfl (PO.out.alloc _) ⟨wA.heap.size, 0, none⟩ 1 1 [.int .i64 o.kind, .int .i64 o.n, .string ⟨#[]⟩, .slice aa o.attrs.length ca] rfl rfl (new_at4 _ _ _ _ _ _) (fun u hu => by simp at hu; rcases hu with rfl | rfl | rfl | rfl <;> rfl) (by unfold maxLen; have := HPL.out; have := HPLN.out; omega) (by have := HPL.out; have := HPLN.out; omega) (by have := hBA.out; simp; omega) ?_; intro v' wC oC gC nC; obtain ⟨oa', oc', rfl⟩ := own_slice oC; have KC1 := keepO_below (B := B) HAC.out hBA.out (.slice oa 0 oc); have KC2 := keepO_grown (PO.out.alloc _) gC (by have := hBA.out; simp; omega) nC
 have NC : NBlk wC b _ _ _ g := (NA.out.keep (keep_below (ts := []) HAC.out (Nat.le_refl _)) (by simp)).keep (ts := [40]) (keep_row (PO.out.alloc _) gC (by simp) (by have := hBA.out; simp; omega)) (by decide); have bC := (KC2.ops w.heap.size _ _ ((HAC.out.block _ (lt_of_heap bxA.out)).trans bxA.out) HNE.out).1; obtain ⟨kC, _, _, _, fC⟩ := NC.cells; have fC0 := fC 0; have SC : wC.cell? ⟨b, 0, none⟩ = some (.slice oa 0 oc) ∧ wC.cell? ⟨w.heap.size, 0, none⟩ = some (.int .i64 o.kind) ∧ wC.cell? ⟨w.heap.size, 1, none⟩ = some (.int .i64 o.n) ∧ wC.cell? ⟨w.heap.size, 3, none⟩ = some (.slice ar o.attrs.length cr) := ⟨kC, by rw [Lib.cell_of_heap bC]; rfl, by rw [Lib.cell_of_heap bC]; rfl, by rw [Lib.cell_of_heap bC]; rfl⟩; have HSC := hid SC; have HNC := hid NC; have HOC := hid oC; have HBC := hid bC; have HKC := hid (KA.out.trans (KC1.trans KC2)); have HKC2 := hid (KC1.trans KC2); clear oC gC nC KC1 KC2 NC fC SC bC
 refine hKB _ _ (.inr HSC.out) ?_
 try simp only [Act.put, List.setIfInBounds_toArray]
 refine wbF 2 15 ?_ rfl (by kernel_rfl) (fun _ _ _ h => h) (.inr HSC.out) ?_ (by rfl) ?_
 rotate_left
 ·intro w'; go_simp; (try with_reducible rfl)
 simp only [Act.put]; refine wbF 1 16 ?_ rfl (by kernel_rfl) (fun _ _ _ h => h) (.inr HSC.out) ?_ (by rfl) ?_
 rotate_left
 ·intro w'; go_simp; (try with_reducible rfl)
 simp only [Act.put]; refine wpAnyB_one (fuel := 0) (i := 17) rfl (by kernel_rfl) ?_; intro KB hKB; go_simp
 refine hKB _ _ (.inl (by kernel_rfl)) ?_
 try simp only [Act.put, List.setIfInBounds_toArray, List.set_cons_zero, List.set_cons_succ]
 refine wpAnyB_done (by kernel_rfl) ?_; have KD1 : Keep B [56] wC (wC.setCell ⟨b, 0, none⟩ (.slice oa' (0 + 1) oc')) := keep_set HNC.out (by simp) hB _ rfl _; have KAD : Keep B TS wA (wC.setCell ⟨b, 0, none⟩ (.slice oa' (0 + 1) oc')) := HKC2.out.keep.trans (KD1.more (by simp)); have OD : OwnP (wC.setCell ⟨b, 0, none⟩ (.slice oa' (0 + 1) oc')) B (.slice oa' (0 + 1) oc') (ps ++ [(noText o, .slice aa o.attrs.length ca)]) := ownP_mk (by have h1 := KD1.own HOC.out (by decide); rw [HPLN.out, flatO_snoc]; exact h1) (fun q hq => KAD.own (PA.out.2 q hq) (by decide)) (KAD.own OA.out (by decide)); have ND : NBlk (wC.setCell ⟨b, 0, none⟩ (.slice oa' (0 + 1) oc')) b (.slice oa' (0 + 1) oc') ad bv g := HNC.out.set0; have KD : KeepO B w (wC.setCell ⟨b, 0, none⟩ (.slice oa' (0 + 1) oc')) (.slice oa 0 oc) (.slice oa' (0 + 1) oc') := HKC.out.trans (keepO_of KD1 (by simp) (by decide) _); have bD : (wC.setCell ⟨b, 0, none⟩ (.slice oa' (0 + 1) oc')).heap[w.heap.size]? = _ := KD1.kept _ _ _ _ HBC.out (by decide)
 have HD : Holds8 (wC.setCell ⟨b, 0, none⟩ (.slice oa' (0 + 1) oc')) B bv [] := by rw [HH.out.2 rfl]; exact holds8_nil _ _
 obtain ⟨wD, hwD⟩ : ∃ wD, wD = wC.setCell ⟨b, 0, none⟩ (.slice oa' (0 + 1) oc') := ⟨_, rfl⟩; change (Exit.then _ _) _ _ (wC.setCell ⟨b, 0, none⟩ (.slice oa' (0 + 1) oc')); rw [← hwD] at OD ND KD bD HD ⊢; have HOD := hid OD; have HND := hid ND; have HKD := hid KD; have HHD := hid HD; have HbD := hid bD; have c2 : wD.cell? ⟨w.heap.size, 2, none⟩ = some (.string o.text) := by rw [Lib.cell_of_heap bD]; rfl
 clear OD ND KD bD HD KD1 KAD hwD S1; go_wp2_with fail
 go_region_held3 (fun w' => w'.cell? ⟨w.heap.size, 2, none⟩ = some (.string o.text))
  (first
   | exact c2
   | exact cE)
  (first
   | (go_at_call 82; refine (writeString_any B b _ ad bv g [] o.text _ (by exact HND.out) HA.out hB (by exact HHD.out) (by have := HF.out.text; simp; omega)).mono ?_; rintro e wE ⟨⟨nE, rfl⟩, ⟨bE, NE, HE⟩, KE⟩; have kbE := KE.kept (w := wD.drew) _ _ _ _ HbD.out (by decide); have cE : wE.cell? ⟨w.heap.size, 2, none⟩ = some (.string o.text) := by rw [Lib.cell_of_heap kbE]; rfl))
 have KE2 : Keep B [56, 5] wD wE := of_drewK KE; have OE := HOD.out.keep KE2 (by decide) (by decide); have FIN : ∃ ov', NSt wE B b ov' (put [] o) g ∧ KeepO B w wE (.slice oa 0 oc) ov' := by
  rw [show put [] o = o :: [] from rfl]; exact ⟨_, ⟨_, _, _, _, NE, .inr rfl, OE, HE, .inr ⟨o, [], ps, _, rfl, rfl, HPS.out, rfl⟩⟩, HKD.out.trans (keepO_of KE2 (by simp) (by decide) _)⟩
 have HFIN := hid FIN; clear FIN OE KE2 KE kbE cE NE HE; go_wp2_with fail
 go_end0
 exact ⟨rfl, HFIN.out⟩
end
section
open Go.RowKit Ch
open Lib (hid)
set_option maxHeartbeats 4000000 in
set_option maxRecDepth 100000 in
theorem put_other (B b : Nat) (ov : Value) (l : List OpD) (g : Int) (o : OpD) (av : Value) (w : World) (h : NSt w B b ov l g) (hB : B ≤ b) (hf : Fits l o) (hv : ∀ w', Keep B TS w w' → AtRow w' av o.attrs) (x : OpD) (r : List OpD) (hl : l = x :: r) (hal : ¬ (x.kind = o.kind ∧ x.attrs = o.attrs)) :
 Calls Try.prog 53 #[.pointer (some ⟨b, 0, none⟩), opAgg o av] w (PutOut w B b ov l o g) := by
 have hBw : B ≤ w.heap.size := Nat.le_trans hB (Nat.le_of_lt h.lt); obtain ⟨ar, cr, rfl⟩ := (hv w (Keep.refl _ _ _)).shape; obtain ⟨W, hW⟩ : ∃ W, W = w.alloc (.cells #[.int .i64 o.kind, .int .i64 o.n, .string o.text, .slice ar o.attrs.length cr] 40) := ⟨_, rfl⟩; have BW : Below w.heap.size w W := by rw [hW]; exact below_box _ _
 have HBW := hid BW; have hbox : W.heap[w.heap.size]? = some (.cells #[.int .i64 o.kind, .int .i64 o.n, .string o.text, .slice ar o.attrs.length cr] 40 (0, 0)) := by rw [hW]; exact heap_new _ _
 have HBX := hid hbox; have HNE := hid (show ov.ownBlock ≠ some w.heap.size from fun e => by have := h.ov_lt _ e; omega); have HS := hid (h.below BW); have HV := hid hv; have HF := hid hf; have HW := hid hW; have HBw := hid hBw; obtain ⟨ps0, ad0, bv0, bt0, hN0, hA0, hP0, hH0, hcase⟩ := h; have hblw := lt_of_heap hN0; obtain ⟨fr, xv, rfl, hfr, rfl⟩ : ∃ fr xv, ps0 = fr ++ [(noText x, xv)] ∧ fr.map (·.1) = r.reverse ∧ bt0 = x.text.data.toList := by
  rcases hcase with ⟨h, _⟩ | ⟨x', r', fr, xv, h, h2, h3, h4⟩
  ·rw [hl] at h; cases h
  ·rw [hl] at h
   simp only [List.cons.injEq] at h; obtain ⟨rfl, rfl⟩ := h; exact ⟨fr, xv, h2, h3, h4⟩
 subst hl; obtain ⟨gg, cap, hov⟩ := ownsRow_open hP0.len (Nat.succ_pos _); subst hov; obtain ⟨xa, xc, hxv⟩ : ∃ a c, xv = .slice a (noText x).attrs.length c := own_slice (hP0.2 (noText x, xv) (by simp)); subst hxv; have p0 : w.cell? ⟨b, 0, none⟩ = some (.slice (some ⟨gg, 0, none⟩) (fr.length + 1) cap) := hN0.cells.1; have hm : fr.length ≤ 1000000 := by
  have h1 := congrArg List.length hfr; rw [List.length_map, List.length_reverse] at h1; have := hf.len; rw [List.length_cons] at this; omega
 have NW : NBlk W b _ ad0 bv0 g := hN0.keep (keep_below (ts := []) BW (Nat.le_refl _)) (by simp); have PW := hP0.keep (keep_below (ts := []) BW (Nat.le_refl _)) (by simp) (by simp); have k0 : W.cell? ⟨b, 0, none⟩ = some (.slice (some ⟨gg, 0, none⟩) (fr.length + 1) cap) := NW.cells.1; obtain ⟨q0, q1, q2, q3⟩ := last_cells PW.len; have c0 : W.cell? ⟨w.heap.size, 0, none⟩ = some (.int .i64 o.kind) := by rw [Lib.cell_of_heap hbox]; rfl
 have c1 : W.cell? ⟨w.heap.size, 1, none⟩ = some (.int .i64 o.n) := by rw [Lib.cell_of_heap hbox]; rfl
 have c2 : W.cell? ⟨w.heap.size, 2, none⟩ = some (.string o.text) := by rw [Lib.cell_of_heap hbox]; rfl
 have c3 : W.cell? ⟨w.heap.size, 3, none⟩ = some (.slice ar o.attrs.length cr) := by rw [Lib.cell_of_heap hbox]; rfl
 have hbW : b < W.heap.size := lt_of_heap NW; have hgW : gg < W.heap.size := by obtain ⟨_, cs, hcs⟩ := own_heap PW.len; exact lt_of_heap hcs
 have hxW : w.heap.size < W.heap.size := lt_of_heap hbox; have i1 : (0 : Int) ≤ (fr.length : Int) := by omega
 have i2 : (fr.length : Int) < (fr.length : Int) + 1 := by omega
 have i3 : decide ((0 : Int) ≤ (fr.length : Int)) = true := decide_eq_true (by omega); have HPW := hid PW; have HNW := hid NW; have HFR := hid hfr; have HM := hid hm; have HA0 := hid hA0; have HH0 := hid (show Holds8 W B bv0 x.text.data.toList from ⟨(keep_below (B := B) (ts := []) BW hBw).own hH0.1 (by simp), hH0.2⟩); have HAL := hid (fun W' (hb : Below W.heap.size W W') => alike_any (noText x) o (.slice xa (noText x).attrs.length xc) (.slice ar o.attrs.length cr) W' (row_of_own ((keep_below (B := B) (ts := []) hb (Nat.le_trans hBw BW.size)).own (PW.2 (noText x, .slice xa (noText x).attrs.length xc) (by simp)) (by simp))) (hv W' ((keep_below BW hBw).trans (keep_below hb (Nat.le_trans hBw BW.size))))); rw [show alikeB (noText x) o = false from decide_eq_false hal] at HAL; have HNA := hid hal; clear hf hv hW BW hbox hBw hN0 hA0 hP0 hH0 hcase NW PW hfr hal; go_enter Try.func53, Try.ntmps53
 go_wp2_with fail
 rw [← HW.out]; go_wp2_with fail
 go_region_held3 (fun w' => w'.cell? ⟨b, 0, none⟩ = some (.slice (some ⟨gg, 0, none⟩) (fr.length + 1) cap) ∧ w'.cell? ⟨gg, fr.length * 4, none⟩ = some (.int .i64 (noText x).kind) ∧ w'.cell? ⟨gg, fr.length * 4 + 1, none⟩ = some (.int .i64 (noText x).n) ∧ w'.cell? ⟨gg, fr.length * 4 + 2, none⟩ = some (.string (noText x).text) ∧ w'.cell? ⟨gg, fr.length * 4 + 3, none⟩ = some (.slice xa (noText x).attrs.length xc) ∧ w'.cell? ⟨w.heap.size, 0, none⟩ = some (.int .i64 o.kind) ∧ w'.cell? ⟨w.heap.size, 1, none⟩ = some (.int .i64 o.n) ∧ w'.cell? ⟨w.heap.size, 2, none⟩ = some (.string o.text) ∧ w'.cell? ⟨w.heap.size, 3, none⟩ = some (.slice ar o.attrs.length cr))
  (first
   | exact ⟨k0, q0, q1, q2, q3, c0, c1, c2, c3⟩
   | exact ⟨(BB.cell (by exact hbW)).trans k0, (BB.cell (by exact hgW)).trans q0, (BB.cell (by exact hgW)).trans q1, (BB.cell (by exact hgW)).trans q2, (BB.cell (by exact hgW)).trans q3, (BB.cell (by exact hxW)).trans c0, (BB.cell (by exact hxW)).trans c1, (BB.cell (by exact hxW)).trans c2, (BB.cell (by exact hxW)).trans c3⟩)
  (first
   | (go_at_call 79; refine (HAL.out _ (Below.refl _ _).drew).mono ?_; rintro e wB ⟨rfl, hbB⟩; have BB : Below W.heap.size W wB := of_drew hbB))
 have HBB := hid BB; have HBX2 := hid ((BB.block _ hxW).trans HBX.out); clear BB hbB k0 q0 q1 q2 q3 c0 c1 c2 c3 p0; go_wp2_with fail
 refine (finish_any B b _ _ g _ (HS.out.below HBB.out) hB (by have := HF.out.len; omega)).mono ?_; rintro e w1 ⟨rfl, F1, KF⟩; have hb1 : w1.heap[w.heap.size]? = some (.cells #[.int .i64 o.kind, .int .i64 o.n, .string o.text, .slice ar o.attrs.length cr] 40 (0, 0)) := (KF.ops _ _ _ HBX2.out HNE.out).1; have K1 : KeepO B w w1 (.slice (some ⟨gg, 0, none⟩) (fr.length + 1) cap) (.slice (some ⟨gg, 0, none⟩) (fr.length + 1) cap) := (keepO_below (HBW.out.trans (HBB.out.mono HBW.out.size)) HBw.out _).trans KF; have HK1 := hid K1; have HB1 := hid hb1; have hs1 : w.heap.size < w1.heap.size := lt_of_heap hb1; obtain ⟨ps, ad, bv, hN, hA, hP, hH, hps⟩ := F1; have hpl : ps.length ≤ 1000000 := by have h1 := congrArg List.length hps; rw [List.length_map, List.length_reverse] at h1; have := HF.out.len; omega
 have hPL : ps.length = (fr.length + 1) := by
  obtain ⟨a', c', e⟩ := own_slice hP.1; simp only [Value.slice.injEq] at e; exact e.2.1.symm
 have HPLN := hid hPL; obtain ⟨k0, k1, k2, k3, k4⟩ := hN.cells; have hbl : b < w1.heap.size := lt_of_heap hN; have c0 : w1.cell? ⟨w.heap.size, 0, none⟩ = some (.int .i64 o.kind) := by rw [Lib.cell_of_heap hb1]; rfl
 have c1 : w1.cell? ⟨w.heap.size, 1, none⟩ = some (.int .i64 o.n) := by rw [Lib.cell_of_heap hb1]; rfl
 have c3 : w1.cell? ⟨w.heap.size, 3, none⟩ = some (.slice ar o.attrs.length cr) := by rw [Lib.cell_of_heap hb1]; rfl
 obtain ⟨i0, hi, hz0, hz1, hz2⟩ := info_parts infoOp; have Hi := hid (And.intro hi (And.intro hz0 (And.intro hz1 hz2))); have HN := hid hN; have HP := hid hP; have HH := hid hH; have HA := hid hA; have HPS := hid hps; have HCL := hid (fun W' (hb : Below w1.heap.size w1 W') => cloneAttrs_any (.slice ar o.attrs.length cr) o.attrs W' (HV.out W' (K1.keep.trans (keep_below hb (Nat.le_trans HBw.out K1.keep.below.size)))) HF.out.attrs); have HPL := hid hpl; have hnb : w.heap.size ≠ b := by
  have := HS.out.lt; have := HBW.out.size; exact block_ne hb1 hN (by decide)
 have HNB := hid hnb; clear hN hP hH hA hps hPL KF K1 hi hz0 hz1 hz2 k1 k2 k3 k4 hb1 hpl hnb; go_wp2_with fail
 have S1 : w1.drew.cell? ⟨b, 0, none⟩ = some (.slice (some ⟨gg, 0, none⟩) (fr.length + 1) cap) ∧ w1.drew.cell? ⟨w.heap.size, 0, none⟩ = some (.int .i64 o.kind) ∧ w1.drew.cell? ⟨w.heap.size, 1, none⟩ = some (.int .i64 o.n) ∧ w1.drew.cell? ⟨w.heap.size, 3, none⟩ = some (.slice ar o.attrs.length cr) := ⟨k0, c0, c1, c3⟩; refine wp_region_B (fun w' => w'.cell? ⟨b, 0, none⟩ = some (.slice (some ⟨gg, 0, none⟩) (fr.length + 1) cap) ∧ w'.cell? ⟨w.heap.size, 0, none⟩ = some (.int .i64 o.kind) ∧ w'.cell? ⟨w.heap.size, 1, none⟩ = some (.int .i64 o.n) ∧ w'.cell? ⟨w.heap.size, 3, none⟩ = some (.slice ar o.attrs.length cr)) [17] (by kernel_rfl) (?_ : wpAnyB _ _ _ _ _ _ 18 (Array.replicate 18 false) _ _); refine wbF 17 0 ?_ rfl (by kernel_rfl) (fun _ _ _ h => h) (.inr S1) ?_ (by rfl) ?_
 rotate_left
 ·intro w'; go_simp; (try with_reducible rfl)
 simp only [Act.put, List.setIfInBounds_toArray]; refine wbF 16 1 ?_ rfl (by kernel_rfl) (fun _ _ _ h => h) (.inr S1) ?_ (by rfl) ?_
 rotate_left
 ·intro w'; go_simp; (try with_reducible rfl)
 simp only [Act.put]; refine wbF 15 2 ?_ rfl (by kernel_rfl) (fun _ _ _ h => h) (.inr S1) ?_ (by rfl) ?_
 rotate_left
 ·intro w'; go_simp; (try with_reducible rfl)
 simp only [Act.put]; refine wbF 14 3 ?_ rfl (by kernel_rfl) (fun _ _ _ h => h) (.inr S1) ?_ (by rfl) ?_
 rotate_left
 ·intro w'; go_simp; (try with_reducible rfl)
 simp only [Act.put]; refine wbL [4,14,17] 13 4 ?_ rfl (by kernel_rfl) (fun _ _ _ h => h) (.inr S1) ?_ (by rfl) ?_
 rotate_left
 ·intro w' hw'; go_simp; (try with_reducible rfl)
 simp only [Act.put]; refine wbF 12 5 ?_ rfl (by kernel_rfl) (fun _ _ _ h => h) (.inr S1) ?_ (by rfl) ?_
 rotate_left
 ·intro w'; go_simp; (try with_reducible rfl)
 simp only [Act.put]; refine wbL [6,12,13,14,17] 11 6 ?_ rfl (by kernel_rfl) (fun _ _ _ h => h) (.inr S1) ?_ (by rfl) ?_
 rotate_left
 ·intro w' hw'; go_simp; (try with_reducible rfl)
 simp only [Act.put]; refine wbF 10 7 ?_ rfl (by kernel_rfl) (fun _ _ _ h => h) (.inr S1) ?_ (by rfl) ?_
 rotate_left
 ·intro w'; go_simp; (try with_reducible rfl)
 simp only [Act.put]; refine wbL [8,12,13,14,17] 9 8 ?_ rfl (by kernel_rfl) (fun _ _ _ h => h) (.inr S1) ?_ (by rfl) ?_
 rotate_left
 ·intro w' hw'; go_simp; (try with_reducible rfl)
 simp only [Act.put]; refine wbF 8 9 ?_ rfl (by kernel_rfl) (fun _ _ _ h => h) (.inr S1) ?_ (by rfl) ?_
 rotate_left
 ·intro w'; go_simp; (try with_reducible rfl)
 simp only [Act.put]; refine wbL [10,11,12,13,14,17] 7 10 ?_ rfl (by kernel_rfl) (fun _ _ _ h => h) (.inr S1) ?_ (by rfl) ?_
 rotate_left
 ·intro w' hw'; go_simp; (try with_reducible rfl)
 simp only [Act.put]; refine wpAnyB_one (fuel := 6) (i := 11) rfl (by kernel_rfl) ?_; intro KB hKB; go_simp
 refine (HCL.out _ (Below.refl _ _).drew).mono ?_; rintro e wA ⟨vA, rfl, oA, bA⟩; obtain ⟨aa, ca, rfl⟩ := own_slice oA; have BA : Below w1.heap.size w1 wA := of_drew bA; have OA := hid (own_base oA (show B ≤ w1.drew.heap.size from by have := hbl; show B ≤ w1.heap.size; omega)); have PA := hid (HP.out.keep (keep_below (ts := []) BA (Nat.le_refl _)) (by simp) (by simp)); have NA := hid (HN.out.keep (keep_below (ts := []) BA (Nat.le_refl _)) (by simp)); have HA1 := hid (show Holds8 wA B bv [] from ⟨(keep_below (B := B) (ts := []) BA (by omega)).own HH.out.1 (by simp), HH.out.2⟩); have PO := hid (show wA.ownsRow B 40 4 (.slice (some ⟨gg, 0, none⟩) (fr.length + 1) cap) (fr.length + 1) (flatO ps) from by have := PA.out.1; rwa [HPLN.out] at this); have bxA := hid ((BA.block _ hs1).trans HB1.out); have hBA := hid (show B ≤ wA.heap.size from by have := BA.size; omega); have KA := hid (HK1.out.trans (keepO_below BA (by omega) _))
 have SA : wA.cell? ⟨b, 0, none⟩ = some (.slice (some ⟨gg, 0, none⟩) (fr.length + 1) cap) ∧ wA.cell? ⟨w.heap.size, 0, none⟩ = some (.int .i64 o.kind) ∧ wA.cell? ⟨w.heap.size, 1, none⟩ = some (.int .i64 o.n) ∧ wA.cell? ⟨w.heap.size, 3, none⟩ = some (.slice ar o.attrs.length cr) := ⟨(BA.cell (by exact hbl)).trans k0, (BA.cell (by exact hs1)).trans c0, (BA.cell (by exact hs1)).trans c1, (BA.cell (by exact hs1)).trans c3⟩; have AC := Below.alloc (Below.refl wA.heap.size wA) (Nat.le_refl _) (Obj.cells #[.int .i64 o.kind, .int .i64 o.n, .string ⟨#[]⟩, .slice aa o.attrs.length ca] 40); have HAC := hid AC; have lA := Nat.lt_of_lt_of_le hbl BA.size; have lA2 := Nat.lt_of_lt_of_le hs1 BA.size; have SB : (wA.alloc (Obj.cells #[.int .i64 o.kind, .int .i64 o.n, .string ⟨#[]⟩, .slice aa o.attrs.length ca] 40)).cell? ⟨b, 0, none⟩ = some (.slice (some ⟨gg, 0, none⟩) (fr.length + 1) cap) ∧ (wA.alloc (Obj.cells #[.int .i64 o.kind, .int .i64 o.n, .string ⟨#[]⟩, .slice aa o.attrs.length ca] 40)).cell? ⟨w.heap.size, 0, none⟩ = some (.int .i64 o.kind) ∧ (wA.alloc (Obj.cells #[.int .i64 o.kind, .int .i64 o.n, .string ⟨#[]⟩, .slice aa o.attrs.length ca] 40)).cell? ⟨w.heap.size, 1, none⟩ = some (.int .i64 o.n) ∧ (wA.alloc (Obj.cells #[.int .i64 o.kind, .int .i64 o.n, .string ⟨#[]⟩, .slice aa o.attrs.length ca] 40)).cell? ⟨w.heap.size, 3, none⟩ = some (.slice ar o.attrs.length cr) := ⟨(AC.cell (by exact lA)).trans SA.1, (AC.cell (by exact lA2)).trans SA.2.1, (AC.cell (by exact lA2)).trans SA.2.2.1, (AC.cell (by exact lA2)).trans SA.2.2.2⟩
 have HSA := hid SA; have HSB := hid SB; clear oA bA BA SA SB AC; refine hKB _ _ (.inr HSA.out) ?_
 try simp only [Act.put, List.setIfInBounds_toArray, List.set_cons_zero, List.set_cons_succ]
 refine wbF 5 12 ?_ rfl (by kernel_rfl) (fun _ _ _ h => h) (.inr HSA.out) ?_ (by rfl) ?_
 rotate_left
 ·intro w'; go_simp; (try with_reducible rfl)
 simp only [Act.put, List.setIfInBounds_toArray]; refine wpAnyB_one (fuel := 4) (i := 13) rfl (by kernel_rfl) ?_; intro KB hKB; go_simp
 refine hKB _ _ (.inr HSB.out) ?_
 try simp only [Act.put, List.setIfInBounds_toArray, List.set_cons_zero, List.set_cons_succ]
 refine wpAnyB_one (fuel := 3) (i := 14) rfl (by kernel_rfl) ?_; intro KB hKB; refine step_append_new rfl (.tmp 43) (.tmp 52) 22 rfl 40 i0 (.agg #[.int .i64 0, .int .i64 0, .string ⟨#[]⟩, .slice none 0 0]) 4 56 Try.underlying22 Hi.out.1 Hi.out.2.1 Hi.out.2.2.1 Hi.out.2.2.2 rfl (by decide) B (.slice (some ⟨gg, 0, none⟩) (fr.length + 1) cap) (fr.length + 1) (flatO ps) rfl (PO.out.alloc _) ⟨wA.heap.size, 0, none⟩ 1 1 [.int .i64 o.kind, .int .i64 o.n, .string ⟨#[]⟩, .slice aa o.attrs.length ca] rfl rfl (new_at4 _ _ _ _ _ _) (fun u hu => by simp at hu; rcases hu with rfl | rfl | rfl | rfl <;> rfl) (by unfold maxLen; have := HPL.out; have := HPLN.out; omega) (by have := HPL.out; have := HPLN.out; omega) (by have := hBA.out; simp; omega) ?_; intro v' wC oC gC nC; obtain ⟨oa', oc', rfl⟩ := own_slice oC; have KC1 := keepO_below (B := B) HAC.out hBA.out (.slice (some ⟨gg, 0, none⟩) (fr.length + 1) cap)
 have KC2 := keepO_grown (PO.out.alloc _) gC (by have := hBA.out; simp; omega) nC; have NC : NBlk wC b _ _ _ g := (NA.out.keep (keep_below (ts := []) HAC.out (Nat.le_refl _)) (by simp)).keep (ts := [40]) (keep_row (PO.out.alloc _) gC (by simp) (by have := hBA.out; simp; omega)) (by decide); have bC := (KC2.ops w.heap.size _ _ ((HAC.out.block _ (lt_of_heap bxA.out)).trans bxA.out) HNE.out).1; obtain ⟨kC, _, _, _, fC⟩ := NC.cells; have fC0 := fC 0; have SC : wC.cell? ⟨b, 0, none⟩ = some (.slice (some ⟨gg, 0, none⟩) (fr.length + 1) cap) ∧ wC.cell? ⟨w.heap.size, 0, none⟩ = some (.int .i64 o.kind) ∧ wC.cell? ⟨w.heap.size, 1, none⟩ = some (.int .i64 o.n) ∧ wC.cell? ⟨w.heap.size, 3, none⟩ = some (.slice ar o.attrs.length cr) := ⟨kC, by rw [Lib.cell_of_heap bC]; rfl, by rw [Lib.cell_of_heap bC]; rfl, by rw [Lib.cell_of_heap bC]; rfl⟩; have HSC := hid SC; have HNC := hid NC; have HOC := hid oC; have HBC := hid bC
 have HKC := hid (KA.out.trans (KC1.trans KC2)); have HKC2 := hid (KC1.trans KC2); clear oC gC nC KC1 KC2 NC fC SC bC; refine hKB _ _ (.inr HSC.out) ?_
 try simp only [Act.put, List.setIfInBounds_toArray]
 refine wbF 2 15 ?_ rfl (by kernel_rfl) (fun _ _ _ h => h) (.inr HSC.out) ?_ (by rfl) ?_
 rotate_left
 ·intro w'; go_simp; (try with_reducible rfl)
 simp only [Act.put]; refine wbF 1 16 ?_ rfl (by kernel_rfl) (fun _ _ _ h => h) (.inr HSC.out) ?_ (by rfl) ?_
 rotate_left
 ·intro w'; go_simp; (try with_reducible rfl)
 simp only [Act.put]; refine wpAnyB_one (fuel := 0) (i := 17) rfl (by kernel_rfl) ?_; intro KB hKB; go_simp
 refine hKB _ _ (.inl (by kernel_rfl)) ?_
 try simp only [Act.put, List.setIfInBounds_toArray, List.set_cons_zero, List.set_cons_succ]
 refine wpAnyB_done (by kernel_rfl) ?_; have KD1 : Keep B [56] wC (wC.setCell ⟨b, 0, none⟩ (.slice oa' ((fr.length + 1) + 1) oc')) := keep_set HNC.out (by simp) hB _ rfl _; have KAD : Keep B TS wA (wC.setCell ⟨b, 0, none⟩ (.slice oa' ((fr.length + 1) + 1) oc')) := HKC2.out.keep.trans (KD1.more (by simp)); have OD : OwnP (wC.setCell ⟨b, 0, none⟩ (.slice oa' ((fr.length + 1) + 1) oc')) B (.slice oa' ((fr.length + 1) + 1) oc') (ps ++ [(noText o, .slice aa o.attrs.length ca)]) := ownP_mk (by have h1 := KD1.own HOC.out (by decide); rw [HPLN.out, flatO_snoc]; exact h1) (fun q hq => KAD.own (PA.out.2 q hq) (by decide)) (KAD.own OA.out (by decide)); have ND : NBlk (wC.setCell ⟨b, 0, none⟩ (.slice oa' ((fr.length + 1) + 1) oc')) b (.slice oa' ((fr.length + 1) + 1) oc') ad bv g := HNC.out.set0; have KD : KeepO B w (wC.setCell ⟨b, 0, none⟩ (.slice oa' ((fr.length + 1) + 1) oc')) (.slice (some ⟨gg, 0, none⟩) (fr.length + 1) cap) (.slice oa' ((fr.length + 1) + 1) oc') := HKC.out.trans (keepO_of KD1 (by simp) (by decide) _)
 have bD : (wC.setCell ⟨b, 0, none⟩ (.slice oa' ((fr.length + 1) + 1) oc')).heap[w.heap.size]? = _ := KD1.kept _ _ _ _ HBC.out (by decide); have HD : Holds8 (wC.setCell ⟨b, 0, none⟩ (.slice oa' ((fr.length + 1) + 1) oc')) B bv [] := by rw [HH.out.2 rfl]; exact holds8_nil _ _
 obtain ⟨wD, hwD⟩ : ∃ wD, wD = wC.setCell ⟨b, 0, none⟩ (.slice oa' ((fr.length + 1) + 1) oc') := ⟨_, rfl⟩; change (Exit.then _ _) _ _ (wC.setCell ⟨b, 0, none⟩ (.slice oa' ((fr.length + 1) + 1) oc')); rw [← hwD] at OD ND KD bD HD ⊢; have HOD := hid OD; have HND := hid ND; have HKD := hid KD; have HHD := hid HD; have HbD := hid bD; have c2 : wD.cell? ⟨w.heap.size, 2, none⟩ = some (.string o.text) := by rw [Lib.cell_of_heap bD]; rfl
 clear OD ND KD bD HD KD1 KAD hwD S1; go_wp2_with fail
 go_region_held3 (fun w' => w'.cell? ⟨w.heap.size, 2, none⟩ = some (.string o.text))
  (first
   | exact c2
   | exact cE)
  (first
   | (go_at_call 82; refine (writeString_any B b _ ad bv g [] o.text _ (by exact HND.out) HA.out hB (by exact HHD.out) (by have := HF.out.text; simp; omega)).mono ?_; rintro e wE ⟨⟨nE, rfl⟩, ⟨bE, NE, HE⟩, KE⟩; have kbE := KE.kept (w := wD.drew) _ _ _ _ HbD.out (by decide); have cE : wE.cell? ⟨w.heap.size, 2, none⟩ = some (.string o.text) := by rw [Lib.cell_of_heap kbE]; rfl))
 have KE2 : Keep B [56, 5] wD wE := of_drewK KE; have OE := HOD.out.keep KE2 (by decide) (by decide); have FIN : ∃ ov', NSt wE B b ov' (put (x :: r) o) g ∧ KeepO B w wE (.slice (some ⟨gg, 0, none⟩) (fr.length + 1) cap) ov' := by
  rw [show put (x :: r) o = o :: (x :: r) from put_fresh fun y s e => by simp only [List.cons.injEq] at e; obtain ⟨rfl, rfl⟩ := e; exact HNA.out]; exact ⟨_, ⟨_, _, _, _, NE, .inr rfl, OE, HE, .inr ⟨o, (x :: r), ps, _, rfl, rfl, HPS.out, rfl⟩⟩, HKD.out.trans (keepO_of KE2 (by simp) (by decide) _)⟩
 have HFIN := hid FIN; clear FIN OE KE2 KE kbE cE NE HE; go_wp2_with fail
 go_end0
 exact ⟨rfl, HFIN.out⟩
end
section
open Go.RowKit Ch
open Lib (hid)
set_option maxHeartbeats 4000000 in
set_option maxRecDepth 100000 in
theorem put_alike (B b : Nat) (ov : Value) (l : List OpD) (g : Int) (o : OpD) (av : Value) (w : World) (h : NSt w B b ov l g) (hB : B ≤ b) (hf : Fits l o) (hv : ∀ w', Keep B TS w w' → AtRow w' av o.attrs) (x : OpD) (r : List OpD) (hl : l = x :: r) (hal : x.kind = o.kind ∧ x.attrs = o.attrs) :
 Calls Try.prog 53 #[.pointer (some ⟨b, 0, none⟩), opAgg o av] w (PutOut w B b ov l o g) := by
 have hBw : B ≤ w.heap.size := Nat.le_trans hB (Nat.le_of_lt h.lt); obtain ⟨ar, cr, rfl⟩ := (hv w (Keep.refl _ _ _)).shape; obtain ⟨W, hW⟩ : ∃ W, W = w.alloc (.cells #[.int .i64 o.kind, .int .i64 o.n, .string o.text, .slice ar o.attrs.length cr] 40) := ⟨_, rfl⟩; have BW : Below w.heap.size w W := by rw [hW]; exact below_box _ _
 have HBW := hid BW; have hbox : W.heap[w.heap.size]? = some (.cells #[.int .i64 o.kind, .int .i64 o.n, .string o.text, .slice ar o.attrs.length cr] 40 (0, 0)) := by rw [hW]; exact heap_new _ _
 have HBX := hid hbox; have HNE := hid (show ov.ownBlock ≠ some w.heap.size from fun e => by have := h.ov_lt _ e; omega); have HS := hid (h.below BW); have HV := hid hv; have HF := hid hf; have HW := hid hW; have HBw := hid hBw; obtain ⟨ps0, ad0, bv0, bt0, hN0, hA0, hP0, hH0, hcase⟩ := h; have hblw := lt_of_heap hN0; obtain ⟨fr, xv, rfl, hfr, rfl⟩ : ∃ fr xv, ps0 = fr ++ [(noText x, xv)] ∧ fr.map (·.1) = r.reverse ∧ bt0 = x.text.data.toList := by
  rcases hcase with ⟨h, _⟩ | ⟨x', r', fr, xv, h, h2, h3, h4⟩
  ·rw [hl] at h; cases h
  ·rw [hl] at h
   simp only [List.cons.injEq] at h; obtain ⟨rfl, rfl⟩ := h; exact ⟨fr, xv, h2, h3, h4⟩
 subst hl; obtain ⟨gg, cap, hov⟩ := ownsRow_open hP0.len (Nat.succ_pos _); subst hov; obtain ⟨xa, xc, hxv⟩ : ∃ a c, xv = .slice a (noText x).attrs.length c := own_slice (hP0.2 (noText x, xv) (by simp)); subst hxv; have p0 : w.cell? ⟨b, 0, none⟩ = some (.slice (some ⟨gg, 0, none⟩) (fr.length + 1) cap) := hN0.cells.1; have hm : fr.length ≤ 1000000 := by
  have h1 := congrArg List.length hfr; rw [List.length_map, List.length_reverse] at h1; have := hf.len; rw [List.length_cons] at this; omega
 have NW : NBlk W b _ ad0 bv0 g := hN0.keep (keep_below (ts := []) BW (Nat.le_refl _)) (by simp); have PW := hP0.keep (keep_below (ts := []) BW (Nat.le_refl _)) (by simp) (by simp); have k0 : W.cell? ⟨b, 0, none⟩ = some (.slice (some ⟨gg, 0, none⟩) (fr.length + 1) cap) := NW.cells.1; obtain ⟨q0, q1, q2, q3⟩ := last_cells PW.len; have c0 : W.cell? ⟨w.heap.size, 0, none⟩ = some (.int .i64 o.kind) := by rw [Lib.cell_of_heap hbox]; rfl
 have c1 : W.cell? ⟨w.heap.size, 1, none⟩ = some (.int .i64 o.n) := by rw [Lib.cell_of_heap hbox]; rfl
 have c2 : W.cell? ⟨w.heap.size, 2, none⟩ = some (.string o.text) := by rw [Lib.cell_of_heap hbox]; rfl
 have c3 : W.cell? ⟨w.heap.size, 3, none⟩ = some (.slice ar o.attrs.length cr) := by rw [Lib.cell_of_heap hbox]; rfl
 have hbW : b < W.heap.size := lt_of_heap NW; have hgW : gg < W.heap.size := by obtain ⟨_, cs, hcs⟩ := own_heap PW.len; exact lt_of_heap hcs
 have hxW : w.heap.size < W.heap.size := lt_of_heap hbox; have i1 : (0 : Int) ≤ (fr.length : Int) := by omega
 have i2 : (fr.length : Int) < (fr.length : Int) + 1 := by omega
 have i3 : decide ((0 : Int) ≤ (fr.length : Int)) = true := decide_eq_true (by omega); have HPW := hid PW; have HNW := hid NW; have HFR := hid hfr; have HM := hid hm; have HA0 := hid hA0; have HH0 := hid (show Holds8 W B bv0 x.text.data.toList from ⟨(keep_below (B := B) (ts := []) BW hBw).own hH0.1 (by simp), hH0.2⟩); have HAL := hid (fun W' (hb : Below W.heap.size W W') => alike_any (noText x) o (.slice xa (noText x).attrs.length xc) (.slice ar o.attrs.length cr) W' (row_of_own ((keep_below (B := B) (ts := []) hb (Nat.le_trans hBw BW.size)).own (PW.2 (noText x, .slice xa (noText x).attrs.length xc) (by simp)) (by simp))) (hv W' ((keep_below BW hBw).trans (keep_below hb (Nat.le_trans hBw BW.size))))); rw [show alikeB (noText x) o = true from decide_eq_true hal] at HAL; have HNA := hid hal; clear hf hv hW BW hbox hBw hN0 hA0 hP0 hH0 hcase NW PW hfr hal; go_enter Try.func53, Try.ntmps53
 go_wp2_with fail
 rw [← HW.out]; go_wp2_with fail
 go_region_held3 (fun w' => w'.cell? ⟨b, 0, none⟩ = some (.slice (some ⟨gg, 0, none⟩) (fr.length + 1) cap) ∧ w'.cell? ⟨gg, fr.length * 4, none⟩ = some (.int .i64 (noText x).kind) ∧ w'.cell? ⟨gg, fr.length * 4 + 1, none⟩ = some (.int .i64 (noText x).n) ∧ w'.cell? ⟨gg, fr.length * 4 + 2, none⟩ = some (.string (noText x).text) ∧ w'.cell? ⟨gg, fr.length * 4 + 3, none⟩ = some (.slice xa (noText x).attrs.length xc) ∧ w'.cell? ⟨w.heap.size, 0, none⟩ = some (.int .i64 o.kind) ∧ w'.cell? ⟨w.heap.size, 1, none⟩ = some (.int .i64 o.n) ∧ w'.cell? ⟨w.heap.size, 2, none⟩ = some (.string o.text) ∧ w'.cell? ⟨w.heap.size, 3, none⟩ = some (.slice ar o.attrs.length cr))
  (first
   | exact ⟨k0, q0, q1, q2, q3, c0, c1, c2, c3⟩
   | exact ⟨(BB.cell (by exact hbW)).trans k0, (BB.cell (by exact hgW)).trans q0, (BB.cell (by exact hgW)).trans q1, (BB.cell (by exact hgW)).trans q2, (BB.cell (by exact hgW)).trans q3, (BB.cell (by exact hxW)).trans c0, (BB.cell (by exact hxW)).trans c1, (BB.cell (by exact hxW)).trans c2, (BB.cell (by exact hxW)).trans c3⟩)
  (first
   | (go_at_call 79; refine (HAL.out _ (Below.refl _ _).drew).mono ?_; rintro e wB ⟨rfl, hbB⟩; have BB : Below W.heap.size W wB := of_drew hbB))
 have HBB := hid BB; have HBX2 := hid ((BB.block _ hxW).trans HBX.out); have kB : wB.cell? ⟨b, 0, none⟩ = some (.slice (some ⟨gg, 0, none⟩) (fr.length + 1) cap) := (BB.cell (by exact hbW)).trans k0; have qB : wB.cell? ⟨gg, fr.length * 4 + 1, none⟩ = some (.int .i64 (noText x).n) := (BB.cell (by exact hgW)).trans q1; have cB : wB.cell? ⟨w.heap.size, 1, none⟩ = some (.int .i64 o.n) := (BB.cell (by exact hxW)).trans c1; have PB := HPW.out.keep (keep_below (ts := []) BB (Nat.le_refl _)) (by simp) (by simp); have NB := HNW.out.keep (keep_below (ts := []) BB (Nat.le_refl _)) (by simp); have HB8 := hid (show Holds8 wB B bv0 x.text.data.toList from ⟨(keep_below (B := B) (ts := []) BB (Nat.le_trans HBw.out HBW.out.size)).own HH0.out.1 (by simp), HH0.out.2⟩); have fB : wB.frozen? ⟨gg, fr.length * 4 + 1, none⟩ = false := PB.len.frozenAt _; have hwr : IntKind.i64.wrap ((noText x).n + o.n) = (noText x).n + o.n := by
  have h1 := HF.out.last x r rfl; have h2 := HF.out.n0; have h3 := HF.out.n1; have h4 : (noText x).n = x.n := rfl; exact IntWalk.i64_in _ (by omega)
 have HPB := hid PB; have HNB := hid NB; clear BB hbB k0 q0 q1 q2 q3 c0 c1 c2 c3 p0 PB NB; go_wp2_with fail
 go_region
 obtain ⟨P1, K1⟩ := OwnP.setLast (y := noText { x with n := x.n + o.n, text := cat x.text o.text }) HPB.out 1 (.int .i64 ((noText x).n + o.n)) rfl rfl; have KS : Keep B [40] wB (wB.setCell ⟨gg, fr.length * 4 + 1, none⟩ (.int .i64 ((noText x).n + o.n))) := keep_set (own_heap HPB.out.len).2.choose_spec (by simp) (own_heap HPB.out.len).1 ⟨gg, fr.length * 4 + 1, none⟩ rfl _; have N1 := HNB.out.keep KS (by decide); have hgx : gg ≠ w.heap.size := fun e => HNE.out (by rw [e]; rfl); have b1 : (wB.setCell ⟨gg, fr.length * 4 + 1, none⟩ (.int .i64 ((noText x).n + o.n))).heap[w.heap.size]? = _ := (Below.heap_setCell _ _ _ _ (fun e => hgx e.symm)).trans HBX2.out; have H1 : Holds8 (wB.setCell ⟨gg, fr.length * 4 + 1, none⟩ (.int .i64 ((noText x).n + o.n))) B bv0 x.text.data.toList := ⟨KS.own HB8.out.1 (by decide), HB8.out.2⟩; have K2 : KeepO B w (wB.setCell ⟨gg, fr.length * 4 + 1, none⟩ (.int .i64 ((noText x).n + o.n))) (.slice (some ⟨gg, 0, none⟩) (fr.length + 1) cap) (.slice (some ⟨gg, 0, none⟩) (fr.length + 1) cap) := (keepO_below (HBW.out.trans (HBB.out.mono HBW.out.size)) HBw.out _).trans K1
 obtain ⟨wS, hwS⟩ : ∃ wS, wS = wB.setCell ⟨gg, fr.length * 4 + 1, none⟩ (.int .i64 ((noText x).n + o.n)) := ⟨_, rfl⟩; rw [← hwS] at P1 N1 b1 H1 K2 ⊢; have HP1 := hid P1; have HN1 := hid N1; have HH1 := hid H1; have HK2 := hid K2; have HB1 := hid b1; have c2 : wS.cell? ⟨w.heap.size, 2, none⟩ = some (.string o.text) := by rw [Lib.cell_of_heap b1]; rfl
 clear P1 N1 H1 K2 KS K1 b1 hwS hgx kB qB cB fB hwr; go_wp2_with fail
 go_region_held3 (fun w' => w'.cell? ⟨w.heap.size, 2, none⟩ = some (.string o.text))
  (first
   | exact c2
   | exact cE)
  (first
   | (go_at_call 82; refine (writeString_any B b _ ad0 bv0 g x.text.data.toList o.text _ (by exact HN1.out) HA0.out hB (by exact HH1.out) (by have h1 := HF.out.text; have h2 := (HF.out.last x r rfl).2.2; have h3 : x.text.data.toList.length = x.text.size := rfl; omega)).mono ?_; rintro e wE ⟨⟨nE, rfl⟩, ⟨bE, NE, HE⟩, KE⟩; have kbE := KE.kept (w := wS.drew.drew) _ _ _ _ HB1.out (by decide); have cE : wE.cell? ⟨w.heap.size, 2, none⟩ = some (.string o.text) := by rw [Lib.cell_of_heap kbE]; rfl))
 have KE2 : Keep B [56, 5] wS wE := of_drewK (of_drewK KE); have OE := HP1.out.keep KE2 (by decide) (by decide); have FIN : ∃ ov', NSt wE B b ov' (put (x :: r) o) g ∧ KeepO B w wE (.slice (some ⟨gg, 0, none⟩) (fr.length + 1) cap) ov' := by
  rw [show put (x :: r) o = { x with n := x.n + o.n, text := cat x.text o.text } :: r by rw [put, if_pos HNA.out]]; exact ⟨_, ⟨_, _, _, _, NE, .inr rfl, OE, HE, .inr ⟨{ x with n := x.n + o.n, text := cat x.text o.text }, r, fr, _, rfl, rfl, HFR.out, rfl⟩⟩, HK2.out.trans (keepO_of KE2 (by simp) (by decide) _)⟩
 have HFIN := hid FIN; clear FIN OE KE2 KE kbE cE NE HE c2; go_wp2_with fail
 go_end0
 exact ⟨rfl, HFIN.out⟩
end
section
open Go.RowKit Ch
open Lib (hid)
theorem put_any (B b : Nat) (ov : Value) (l : List OpD) (g : Int) (o : OpD) (av : Value) (w : World) (h : NSt w B b ov l g) (hB : B ≤ b) (hf : Fits l o) (hv : ∀ w', Keep B TS w w' → AtRow w' av o.attrs) :
 Calls Try.prog 53 #[.pointer (some ⟨b, 0, none⟩), opAgg o av] w (PutOut w B b ov l o g) := by
 cases l with
 | nil => exact put_empty B b ov [] g o av w h hB hf hv rfl
 | cons x r =>
   by_cases hal : x.kind = o.kind ∧ x.attrs = o.attrs
   ·exact put_alike B b ov (x :: r) g o av w h hB hf hv x r rfl hal
   ·exact put_other B b ov (x :: r) g o av w h hB hf hv x r rfl hal
theorem NSt.cell3 {w : World} {B b : Nat} {ov : Value} {l : List OpD} {g : Int} (h : NSt w B b ov l g) : w.cell? ⟨b, 3, none⟩ = some (.int .i64 g) ∧ w.frozen? ⟨b, 3, none⟩ = false := by
 obtain ⟨_, _, _, _, hN, _⟩ := h; exact ⟨hN.cells.2.2.2.1, hN.cells.2.2.2.2 3⟩
theorem NSt.setG {w : World} {B b : Nat} {ov : Value} {l : List OpD} {g : Int} (h : NSt w B b ov l g) (hB : B ≤ b) (k : Int) : NSt (w.setCell ⟨b, 3, none⟩ (.int .i64 k)) B b ov l k ∧ KeepO B w (w.setCell ⟨b, 3, none⟩ (.int .i64 k)) ov ov := by
 obtain ⟨ps, ad, bv, bt, h1, h2, h3, h4, h5⟩ := h; have hk : Keep B [56] w (w.setCell ⟨b, 3, none⟩ (.int .i64 k)) := keep_set h1 (by simp) hB _ rfl _; exact ⟨⟨ps, ad, bv, bt, h1.set3, h2, h3.keep hk (by decide) (by decide), ⟨hk.own h4.1 (by decide), h4.2⟩, h5⟩, keepO_of hk (by simp) (by decide) _⟩
theorem NSt.drew {w : World} {B b : Nat} {ov : Value} {l : List OpD} {g : Int} (h : NSt w B b ov l g) : NSt w.drew B b ov l g := h
theorem KeepO.of_drew {B : Nat} {a w : World} {u v : Value} (h : KeepO B a.drew w u v) : KeepO B a w u v := ⟨of_drewK h.keep, h.ops⟩
def DelOut (w : World) (B b : Nat) (ov : Value) (l : List OpD) (g : Int) (e : Ending) (w' : World) : Prop := e = .returned (.tuple #[]) ∧ ∃ ov', NSt w' B b ov' (flush (l, g)) 0 ∧ KeepO B w w' ov ov'
set_option maxHeartbeats 2000000 in
set_option maxRecDepth 100000 in
theorem deleted_any (B b : Nat) (ov : Value) (l : List OpD) (g : Int) (w : World) (h : NSt w B b ov l g) (hB : B ≤ b) (hg : 0 ≤ g) (hf : Fits l (delO g)) :
 Calls Try.prog 52 #[.pointer (some ⟨b, 0, none⟩)] w (DelOut w B b ov l g) := by
 have c3 := h.cell3.1; have HS := hid h; have HF := hid hf; have hBw := hid (show B ≤ w.heap.size from Nat.le_trans hB (Nat.le_of_lt h.lt))
 by_cases hp : 0 < g
 ·have hfl : flush (l, g) = put l (delO g) := by unfold flush; rw [if_pos (by exact hp)]
  have HP := hid (fun W (hW : NSt W B b ov l g) => put_any B b ov l g (delO g) (.slice none 0 0) W hW hB hf (fun w' _ => ⟨none, 0, rfl, Nat.le_refl _, Nat.zero_le _, fun i hi => absurd hi (Nat.not_lt_zero _)⟩)); have HFL := hid hfl; clear h hf hfl; go_enter Try.func52, Try.ntmps52
  go_wp2_with fail
  go_region_held3 (fun w' => w'.cell? ⟨b, 3, none⟩ = some (.int .i64 g))
   (first
    | exact c3
    | exact c3A)
   (first
    | (go_at_call 53; refine (HP.out _ (by exact HS.out)).mono ?_; rintro e wA ⟨rfl, ovA, NA, KA⟩; have c3A := NA.cell3.1))
  obtain ⟨N2, K2⟩ := NA.setG hB 0; have f3 := NA.cell3.2; have FIN : ∃ ov', NSt (wA.setCell ⟨b, 3, none⟩ (.int .i64 0)) B b ov' (flush (l, g)) 0 ∧ KeepO B w (wA.setCell ⟨b, 3, none⟩ (.int .i64 0)) ov ov' := ⟨ovA, by rw [HFL.out]; exact N2, (KeepO.of_drew KA).trans K2⟩; have HFIN := hid FIN; clear N2 K2 FIN KA NA; go_wp2_with fail
  go_end0
  exact ⟨rfl, HFIN.out⟩
 ·have hg0 : g = 0 := by omega
  subst hg0; have hfl : flush (l, 0) = l := by unfold flush; rw [if_neg (by show ¬ (0 : Int) < 0; omega)]
  have FIN : ∃ ov', NSt w B b ov' (flush (l, 0)) 0 ∧ KeepO B w w ov ov' := ⟨ov, by rw [hfl]; exact h, keepO_below (Below.refl _ _) hBw.out _⟩; have HFIN := hid FIN; clear h hf hfl FIN hp hg; go_enter Try.func52, Try.ntmps52
  go_wp2_with fail
  go_end0
  exact ⟨rfl, HFIN.out⟩
structure FitsS (s : List OpD × Int) (o : OpD) : Prop where
 g0 : 0 ≤ s.2
 g1 : s.2 ≤ 536870912
 del : Fits s.1 (delO s.2)
 ins : Fits s.1 o
 keep : Fits (flush s) o
 o1 : o.n ≤ 536870912
def AddOut (w : World) (B b : Nat) (ov : Value) (s : List OpD × Int) (o : OpD) (e : Ending) (w' : World) : Prop := e = .returned (.tuple #[]) ∧ ∃ ov', NSt w' B b ov' (Ch.add s o).1 (Ch.add s o).2 ∧ KeepO B w w' ov ov'
set_option maxHeartbeats 4000000 in
set_option maxRecDepth 100000 in
theorem add_n (B b : Nat) (ov : Value) (s : List OpD × Int) (o : OpD) (av : Value) (w : World) (h : NSt w B b ov s.1 s.2) (hB : B ≤ b) (hf : FitsS s o) (hv : ∀ w', Keep B TS w w' → AtRow w' av o.attrs) (tn : (o.n == 0) = false) :
 Calls Try.prog 27 #[.pointer (some ⟨b, 0, none⟩), opAgg o av] w (AddOut w B b ov s o) := by
 obtain ⟨l, g⟩ := s; have hBw : B ≤ w.heap.size := Nat.le_trans hB (Nat.le_of_lt h.lt); obtain ⟨ar, cr, rfl⟩ := (hv w (Keep.refl _ _ _)).shape; obtain ⟨W, hW⟩ : ∃ W, W = w.alloc (.cells #[.int .i64 o.kind, .int .i64 o.n, .string o.text, .slice ar o.attrs.length cr] 40) := ⟨_, rfl⟩; have BW : Below w.heap.size w W := by rw [hW]; exact below_box _ _
 have hbox : W.heap[w.heap.size]? = some (.cells #[.int .i64 o.kind, .int .i64 o.n, .string o.text, .slice ar o.attrs.length cr] 40 (0, 0)) := by rw [hW]; exact heap_new _ _
 have HNE := hid (show ov.ownBlock ≠ some w.heap.size from fun e => by have := h.ov_lt _ e; omega); have HBX := hid hbox; have HBW := hid BW; have HS := hid (h.below BW); have HV := hid hv; have HF := hid hf; have HW := hid hW; have HBw := hid hBw; have hblw := h.lt; have p3 := h.cell3.1; have k3 := HS.out.cell3.1; have f3 := HS.out.cell3.2; have c0 : W.cell? ⟨w.heap.size, 0, none⟩ = some (.int .i64 o.kind) := by rw [Lib.cell_of_heap hbox]; rfl
 have c1 : W.cell? ⟨w.heap.size, 1, none⟩ = some (.int .i64 o.n) := by rw [Lib.cell_of_heap hbox]; rfl
 have c2 : W.cell? ⟨w.heap.size, 2, none⟩ = some (.string o.text) := by rw [Lib.cell_of_heap hbox]; rfl
 have c3 : W.cell? ⟨w.heap.size, 3, none⟩ = some (.slice ar o.attrs.length cr) := by rw [Lib.cell_of_heap hbox]; rfl
 by_cases hk3 : o.kind = 3
 ·have t3 : (o.kind == 3) = true := by rw [hk3]; rfl
  have hR : add (l, g) o = (l, g + o.n) := by unfold add; rw [if_pos hk3]
  have hwr : IntKind.i64.wrap (g + o.n) = g + o.n := by
   have h1 := hf.g0; have h2 := hf.g1; have h3 := hf.o1; have h4 := hf.ins.n0; exact IntWalk.i64_in _ (by simp only at h1 h2; omega)
  obtain ⟨N2, K2⟩ := HS.out.setG hB (g + o.n); have FIN : ∃ ov', NSt (W.setCell ⟨b, 3, none⟩ (.int .i64 (g + o.n))) B b ov' (add (l, g) o).1 (add (l, g) o).2 ∧ KeepO B w (W.setCell ⟨b, 3, none⟩ (.int .i64 (g + o.n))) ov ov' := ⟨ov, by rw [hR]; exact N2, (keepO_below BW hBw _).trans K2⟩; have HFIN := hid FIN; clear h hf hv hW BW hbox hBw hk3 hR N2 K2 FIN; go_enter Try.func27, Try.ntmps27
  go_wp2_with fail
  rw [← HW.out]; go_wp2_with fail
  go_region
  go_wp2_with fail
  go_end0
  obtain ⟨ov', a1, a2⟩ := HFIN.out; exact ⟨rfl, ov', a1, ⟨a2.keep.drew, a2.ops⟩⟩
 ·have t3 : (o.kind == 3) = false := by rw [beq_eq_false_iff_ne]; exact hk3
  by_cases hk1 : o.kind = 1
  ·have t1 : (o.kind == 1) = true := by rw [hk1]; rfl
   have HR := hid (show add (l, g) o = (put (flush (l, g)) o, 0) by unfold add; rw [if_neg hk3, if_pos hk1]); clear h hf hv hW BW hbox hBw hk3 hk1 p3 k3 f3; go_enter Try.func27, Try.ntmps27
   go_wp2_with fail
   rw [← HW.out]; go_wp2_with fail
   refine (deleted_any B b ov l g _ HS.out hB HF.out.g0 HF.out.del).mono ?_; rintro e wA ⟨rfl, ovA, NA, KA⟩; have bA := (KA.ops w.heap.size _ _ HBX.out HNE.out); have a0 : wA.cell? ⟨w.heap.size, 0, none⟩ = some (.int .i64 o.kind) := by rw [Lib.cell_of_heap bA.1]; rfl
   have a1 : wA.cell? ⟨w.heap.size, 1, none⟩ = some (.int .i64 o.n) := by rw [Lib.cell_of_heap bA.1]; rfl
   have a2 : wA.cell? ⟨w.heap.size, 2, none⟩ = some (.string o.text) := by rw [Lib.cell_of_heap bA.1]; rfl
   have a3 : wA.cell? ⟨w.heap.size, 3, none⟩ = some (.slice ar o.attrs.length cr) := by rw [Lib.cell_of_heap bA.1]; rfl
   have KWA := hid ((keepO_below HBW.out HBw.out ov).trans KA); have HNA := hid NA; have HbA := hid bA; clear NA KA bA c0 c1 c2 c3; go_wp2_with fail
   go_region_held3 (fun w' => w'.cell? ⟨w.heap.size, 0, none⟩ = some (.int .i64 o.kind) ∧ w'.cell? ⟨w.heap.size, 1, none⟩ = some (.int .i64 o.n) ∧ w'.cell? ⟨w.heap.size, 2, none⟩ = some (.string o.text) ∧ w'.cell? ⟨w.heap.size, 3, none⟩ = some (.slice ar o.attrs.length cr))
    (first
     | exact ⟨a0, a1, a2, a3⟩
     | exact cC)
    (first
     | (go_at_call 53; refine (put_any B b _ _ 0 o _ wA.drew (by exact HNA.out) hB HF.out.keep (fun w' hb => HV.out w' (KWA.out.keep.trans (of_drewK hb)))).mono ?_; rintro e wC ⟨rfl, ovC, NC, KC⟩; have bC := (KC.ops w.heap.size _ _ HbA.out.1 HbA.out.2).1; have cC : wC.cell? ⟨w.heap.size, 0, none⟩ = some (.int .i64 o.kind) ∧ wC.cell? ⟨w.heap.size, 1, none⟩ = some (.int .i64 o.n) ∧ wC.cell? ⟨w.heap.size, 2, none⟩ = some (.string o.text) ∧ wC.cell? ⟨w.heap.size, 3, none⟩ = some (.slice ar o.attrs.length cr) := ⟨by rw [Lib.cell_of_heap bC]; rfl, by rw [Lib.cell_of_heap bC]; rfl, by rw [Lib.cell_of_heap bC]; rfl, by rw [Lib.cell_of_heap bC]; rfl⟩))
   have FIN : ∃ ov', NSt wC B b ov' (add (l, g) o).1 (add (l, g) o).2 ∧ KeepO B w wC ov ov' := ⟨ovC, by rw [HR.out]; exact NC, KWA.out.trans (KeepO.of_drew KC)⟩; have HFIN := hid FIN; clear FIN NC KC bC cC; go_wp2_with fail
   go_end0
   exact ⟨rfl, HFIN.out⟩
  ·have t1 : (o.kind == 1) = false := by rw [beq_eq_false_iff_ne]; exact hk1
   have HR := hid (show add (l, g) o = (put l o, g) by unfold add; rw [if_neg hk3, if_neg hk1]); clear h hf hv hW BW hbox hBw hk3 hk1 p3 k3 f3; go_enter Try.func27, Try.ntmps27
   go_wp2_with fail
   rw [← HW.out]; go_wp2_with fail
   go_region_held3 (fun w' => w'.cell? ⟨w.heap.size, 0, none⟩ = some (.int .i64 o.kind) ∧ w'.cell? ⟨w.heap.size, 1, none⟩ = some (.int .i64 o.n) ∧ w'.cell? ⟨w.heap.size, 2, none⟩ = some (.string o.text) ∧ w'.cell? ⟨w.heap.size, 3, none⟩ = some (.slice ar o.attrs.length cr))
    (first
     | exact ⟨c0, c1, c2, c3⟩
     | exact cC)
    (first
     | (go_at_call 53; refine (put_any B b _ l g o _ W.drew (by exact HS.out) hB HF.out.ins (fun w' hb => HV.out w' ((keep_below HBW.out HBw.out).trans (of_drewK hb)))).mono ?_; rintro e wC ⟨rfl, ovC, NC, KC⟩; have bC := (KC.ops w.heap.size _ _ (by exact HBX.out) HNE.out).1; have cC : wC.cell? ⟨w.heap.size, 0, none⟩ = some (.int .i64 o.kind) ∧ wC.cell? ⟨w.heap.size, 1, none⟩ = some (.int .i64 o.n) ∧ wC.cell? ⟨w.heap.size, 2, none⟩ = some (.string o.text) ∧ wC.cell? ⟨w.heap.size, 3, none⟩ = some (.slice ar o.attrs.length cr) := ⟨by rw [Lib.cell_of_heap bC]; rfl, by rw [Lib.cell_of_heap bC]; rfl, by rw [Lib.cell_of_heap bC]; rfl, by rw [Lib.cell_of_heap bC]; rfl⟩))
   have FIN : ∃ ov', NSt wC B b ov' (add (l, g) o).1 (add (l, g) o).2 ∧ KeepO B w wC ov ov' := ⟨ovC, by rw [HR.out]; exact NC, (keepO_below HBW.out HBw.out ov).trans (KeepO.of_drew KC)⟩; have HFIN := hid FIN; clear FIN NC KC bC cC; go_wp2_with fail
   go_end0
   exact ⟨rfl, HFIN.out⟩
set_option maxHeartbeats 4000000 in
set_option maxRecDepth 100000 in
theorem add_t (B b : Nat) (ov : Value) (s : List OpD × Int) (o : OpD) (av : Value) (w : World) (h : NSt w B b ov s.1 s.2) (hB : B ≤ b) (hf : FitsS s o) (hv : ∀ w', Keep B TS w w' → AtRow w' av o.attrs) (tn : (o.n == 0) = true) (_tt : o.text.toList.isEmpty = false) (tt2 : (o.text.toList == []) = false) :
 Calls Try.prog 27 #[.pointer (some ⟨b, 0, none⟩), opAgg o av] w (AddOut w B b ov s o) := by
 obtain ⟨l, g⟩ := s; have hBw : B ≤ w.heap.size := Nat.le_trans hB (Nat.le_of_lt h.lt); obtain ⟨ar, cr, rfl⟩ := (hv w (Keep.refl _ _ _)).shape; obtain ⟨W, hW⟩ : ∃ W, W = w.alloc (.cells #[.int .i64 o.kind, .int .i64 o.n, .string o.text, .slice ar o.attrs.length cr] 40) := ⟨_, rfl⟩; have BW : Below w.heap.size w W := by rw [hW]; exact below_box _ _
 have hbox : W.heap[w.heap.size]? = some (.cells #[.int .i64 o.kind, .int .i64 o.n, .string o.text, .slice ar o.attrs.length cr] 40 (0, 0)) := by rw [hW]; exact heap_new _ _
 have HNE := hid (show ov.ownBlock ≠ some w.heap.size from fun e => by have := h.ov_lt _ e; omega); have HBX := hid hbox; have HBW := hid BW; have HS := hid (h.below BW); have HV := hid hv; have HF := hid hf; have HW := hid hW; have HBw := hid hBw; have hblw := h.lt; have p3 := h.cell3.1; have k3 := HS.out.cell3.1; have f3 := HS.out.cell3.2; have c0 : W.cell? ⟨w.heap.size, 0, none⟩ = some (.int .i64 o.kind) := by rw [Lib.cell_of_heap hbox]; rfl
 have c1 : W.cell? ⟨w.heap.size, 1, none⟩ = some (.int .i64 o.n) := by rw [Lib.cell_of_heap hbox]; rfl
 have c2 : W.cell? ⟨w.heap.size, 2, none⟩ = some (.string o.text) := by rw [Lib.cell_of_heap hbox]; rfl
 have c3 : W.cell? ⟨w.heap.size, 3, none⟩ = some (.slice ar o.attrs.length cr) := by rw [Lib.cell_of_heap hbox]; rfl
 by_cases hk3 : o.kind = 3
 ·have t3 : (o.kind == 3) = true := by rw [hk3]; rfl
  have hR : add (l, g) o = (l, g + o.n) := by unfold add; rw [if_pos hk3]
  have hwr : IntKind.i64.wrap (g + o.n) = g + o.n := by
   have h1 := hf.g0; have h2 := hf.g1; have h3 := hf.o1; have h4 := hf.ins.n0; exact IntWalk.i64_in _ (by simp only at h1 h2; omega)
  obtain ⟨N2, K2⟩ := HS.out.setG hB (g + o.n); have FIN : ∃ ov', NSt (W.setCell ⟨b, 3, none⟩ (.int .i64 (g + o.n))) B b ov' (add (l, g) o).1 (add (l, g) o).2 ∧ KeepO B w (W.setCell ⟨b, 3, none⟩ (.int .i64 (g + o.n))) ov ov' := ⟨ov, by rw [hR]; exact N2, (keepO_below BW hBw _).trans K2⟩; have HFIN := hid FIN; clear h hf hv hW BW hbox hBw hk3 hR N2 K2 FIN; go_enter Try.func27, Try.ntmps27
  go_wp2_with fail
  rw [← HW.out]; go_wp2_with fail
  go_region
  go_wp2_with fail
  go_end0
  obtain ⟨ov', a1, a2⟩ := HFIN.out; exact ⟨rfl, ov', a1, ⟨a2.keep.drew, a2.ops⟩⟩
 ·have t3 : (o.kind == 3) = false := by rw [beq_eq_false_iff_ne]; exact hk3
  by_cases hk1 : o.kind = 1
  ·have t1 : (o.kind == 1) = true := by rw [hk1]; rfl
   have HR := hid (show add (l, g) o = (put (flush (l, g)) o, 0) by unfold add; rw [if_neg hk3, if_pos hk1]); clear h hf hv hW BW hbox hBw hk3 hk1 p3 k3 f3; go_enter Try.func27, Try.ntmps27
   go_wp2_with fail
   rw [← HW.out]; go_wp2_with fail
   refine (deleted_any B b ov l g _ HS.out hB HF.out.g0 HF.out.del).mono ?_; rintro e wA ⟨rfl, ovA, NA, KA⟩; have bA := (KA.ops w.heap.size _ _ HBX.out HNE.out); have a0 : wA.cell? ⟨w.heap.size, 0, none⟩ = some (.int .i64 o.kind) := by rw [Lib.cell_of_heap bA.1]; rfl
   have a1 : wA.cell? ⟨w.heap.size, 1, none⟩ = some (.int .i64 o.n) := by rw [Lib.cell_of_heap bA.1]; rfl
   have a2 : wA.cell? ⟨w.heap.size, 2, none⟩ = some (.string o.text) := by rw [Lib.cell_of_heap bA.1]; rfl
   have a3 : wA.cell? ⟨w.heap.size, 3, none⟩ = some (.slice ar o.attrs.length cr) := by rw [Lib.cell_of_heap bA.1]; rfl
   have KWA := hid ((keepO_below HBW.out HBw.out ov).trans KA); have HNA := hid NA; have HbA := hid bA; clear NA KA bA c0 c1 c2 c3; go_wp2_with fail
   go_region_held3 (fun w' => w'.cell? ⟨w.heap.size, 0, none⟩ = some (.int .i64 o.kind) ∧ w'.cell? ⟨w.heap.size, 1, none⟩ = some (.int .i64 o.n) ∧ w'.cell? ⟨w.heap.size, 2, none⟩ = some (.string o.text) ∧ w'.cell? ⟨w.heap.size, 3, none⟩ = some (.slice ar o.attrs.length cr))
    (first
     | exact ⟨a0, a1, a2, a3⟩
     | exact cC)
    (first
     | (go_at_call 53; refine (put_any B b _ _ 0 o _ wA.drew (by exact HNA.out) hB HF.out.keep (fun w' hb => HV.out w' (KWA.out.keep.trans (of_drewK hb)))).mono ?_; rintro e wC ⟨rfl, ovC, NC, KC⟩; have bC := (KC.ops w.heap.size _ _ HbA.out.1 HbA.out.2).1; have cC : wC.cell? ⟨w.heap.size, 0, none⟩ = some (.int .i64 o.kind) ∧ wC.cell? ⟨w.heap.size, 1, none⟩ = some (.int .i64 o.n) ∧ wC.cell? ⟨w.heap.size, 2, none⟩ = some (.string o.text) ∧ wC.cell? ⟨w.heap.size, 3, none⟩ = some (.slice ar o.attrs.length cr) := ⟨by rw [Lib.cell_of_heap bC]; rfl, by rw [Lib.cell_of_heap bC]; rfl, by rw [Lib.cell_of_heap bC]; rfl, by rw [Lib.cell_of_heap bC]; rfl⟩))
   have FIN : ∃ ov', NSt wC B b ov' (add (l, g) o).1 (add (l, g) o).2 ∧ KeepO B w wC ov ov' := ⟨ovC, by rw [HR.out]; exact NC, KWA.out.trans (KeepO.of_drew KC)⟩; have HFIN := hid FIN; clear FIN NC KC bC cC; go_wp2_with fail
   go_end0
   exact ⟨rfl, HFIN.out⟩
  ·have t1 : (o.kind == 1) = false := by rw [beq_eq_false_iff_ne]; exact hk1
   have HR := hid (show add (l, g) o = (put l o, g) by unfold add; rw [if_neg hk3, if_neg hk1]); clear h hf hv hW BW hbox hBw hk3 hk1 p3 k3 f3; go_enter Try.func27, Try.ntmps27
   go_wp2_with fail
   rw [← HW.out]; go_wp2_with fail
   go_region_held3 (fun w' => w'.cell? ⟨w.heap.size, 0, none⟩ = some (.int .i64 o.kind) ∧ w'.cell? ⟨w.heap.size, 1, none⟩ = some (.int .i64 o.n) ∧ w'.cell? ⟨w.heap.size, 2, none⟩ = some (.string o.text) ∧ w'.cell? ⟨w.heap.size, 3, none⟩ = some (.slice ar o.attrs.length cr))
    (first
     | exact ⟨c0, c1, c2, c3⟩
     | exact cC)
    (first
     | (go_at_call 53; refine (put_any B b _ l g o _ W.drew (by exact HS.out) hB HF.out.ins (fun w' hb => HV.out w' ((keep_below HBW.out HBw.out).trans (of_drewK hb)))).mono ?_; rintro e wC ⟨rfl, ovC, NC, KC⟩; have bC := (KC.ops w.heap.size _ _ (by exact HBX.out) HNE.out).1; have cC : wC.cell? ⟨w.heap.size, 0, none⟩ = some (.int .i64 o.kind) ∧ wC.cell? ⟨w.heap.size, 1, none⟩ = some (.int .i64 o.n) ∧ wC.cell? ⟨w.heap.size, 2, none⟩ = some (.string o.text) ∧ wC.cell? ⟨w.heap.size, 3, none⟩ = some (.slice ar o.attrs.length cr) := ⟨by rw [Lib.cell_of_heap bC]; rfl, by rw [Lib.cell_of_heap bC]; rfl, by rw [Lib.cell_of_heap bC]; rfl, by rw [Lib.cell_of_heap bC]; rfl⟩))
   have FIN : ∃ ov', NSt wC B b ov' (add (l, g) o).1 (add (l, g) o).2 ∧ KeepO B w wC ov ov' := ⟨ovC, by rw [HR.out]; exact NC, (keepO_below HBW.out HBw.out ov).trans (KeepO.of_drew KC)⟩; have HFIN := hid FIN; clear FIN NC KC bC cC; go_wp2_with fail
   go_end0
   exact ⟨rfl, HFIN.out⟩
set_option maxHeartbeats 4000000 in
set_option maxRecDepth 100000 in
theorem add_none (B b : Nat) (ov : Value) (s : List OpD × Int) (o : OpD) (av : Value) (w : World) (h : NSt w B b ov s.1 s.2) (hB : B ≤ b) (hv : ∃ a c, av = .slice a o.attrs.length c) (tn : (o.n == 0) = true) (_tt : o.text.toList.isEmpty = true) (tt2 : (o.text.toList == []) = true) :
 Calls Try.prog 27 #[.pointer (some ⟨b, 0, none⟩), opAgg o av] w fun e w' => e = .returned (.tuple #[]) ∧ NSt w' B b ov s.1 s.2 ∧ KeepO B w w' ov ov := by
 have hBw : B ≤ w.heap.size := Nat.le_trans hB (Nat.le_of_lt h.lt); obtain ⟨ar, cr, rfl⟩ := hv; have HB := hid (below_box w (.cells #[.int .i64 o.kind, .int .i64 o.n, .string o.text, .slice ar o.attrs.length cr] 40)); have HS := hid h; clear h; go_enter Try.func27, Try.ntmps27
 go_wp2_with fail
 refine bodyPost_ret (results_none rfl _ _ _) rfl ?_; exact ⟨rfl, HS.out.below HB.out, keepO_below HB.out hBw _⟩
def addG (s : List OpD × Int) (o : OpD) : List OpD × Int := if o.n = 0 ∧ o.text.size = 0 then s else add s o
def AddGOut (w : World) (B b : Nat) (ov : Value) (s : List OpD × Int) (o : OpD) (e : Ending) (w' : World) : Prop := e = .returned (.tuple #[]) ∧ ∃ ov', NSt w' B b ov' (addG s o).1 (addG s o).2 ∧ KeepO B w w' ov ov'
theorem addG_any (B b : Nat) (ov : Value) (s : List OpD × Int) (o : OpD) (av : Value) (w : World) (h : NSt w B b ov s.1 s.2) (hB : B ≤ b) (hf : FitsS s o) (hv : ∀ w', Keep B TS w w' → AtRow w' av o.attrs) :
 Calls Try.prog 27 #[.pointer (some ⟨b, 0, none⟩), opAgg o av] w (AddGOut w B b ov s o) := by
 unfold AddGOut addG
 by_cases hn : o.n = 0
 ·have tn : (o.n == 0) = true := by rw [hn]; rfl
  by_cases ht : o.text.size = 0
  ·rw [if_pos ⟨hn, ht⟩]
   have := text_empty ht; exact (add_none B b ov s o av w h hB (hv w (Keep.refl _ _ _)).shape tn this.1 (by rw [this.2]; rfl)).mono fun e w' ⟨h1, h2, h3⟩ => ⟨h1, ov, h2, h3⟩
  ·rw [if_neg fun h => ht h.2]
   have := text_full ht; exact add_t B b ov s o av w h hB hf hv tn this (by cases hx : o.text.toList with | nil => rw [hx] at this; cases this | cons _ _ => rfl)
 ·rw [if_neg fun h => hn h.1]
  exact add_n B b ov s o av w h hB hf hv (by rw [beq_eq_false_iff_ne]; exact hn)
end
section
open Go.RowKit Ch Rn
structure VOp (o : OpD) : Prop where
 n0 : 0 ≤ o.n
 n1 : o.n ≤ 20000
 text : o.text.size ≤ 80000
 kind : o.kind = 1 ∨ o.kind = 2 ∨ o.kind = 3
 attrs : SmallA o.attrs
theorem small_chg {l : List (ByteArray × ByteArray)} (h : chgE l = 0) : SmallA l := by
 unfold chgE at h; split at h
 ·rename_i hb
  obtain ⟨h1, h2⟩ := of_decide_eq_true hb; refine ⟨by omega, fun x hx => ?_⟩; obtain ⟨i, hi, rfl⟩ := List.getElem_of_mem hx; have h3 := h2 i hi; unfold chgOne at h3; rw [Bool.and_eq_true, Bool.and_eq_true] at h3; have hk := h3.1.1; have hv := h3.1.2; unfold keyB at hk; unfold valB at hv; simp only [decide_eq_true_eq] at hk hv; omega
 ·omega
theorem small_rgt {l : List (ByteArray × ByteArray)} (h : rgtE l = 0) : SmallA l := by
 unfold rgtE at h; split at h
 ·rename_i hb
  obtain ⟨h1, h2⟩ := of_decide_eq_true hb; refine ⟨by omega, fun x hx => ?_⟩; obtain ⟨i, hi, rfl⟩ := List.getElem_of_mem hx; have h3 := h2 i hi; unfold rgtOne at h3; rw [Bool.and_eq_true, Bool.and_eq_true] at h3; have hk := h3.1.1; have hv := h3.1.2; unfold keyB at hk; unfold valNE valB at hv; simp only [Bool.and_eq_true, decide_eq_true_eq] at hk hv; omega
 ·omega
theorem text_lim {s : ByteArray} (h : er s.data.toList = 0) : s.size ≤ 80000 := by
 cases hr : rd s.data.toList with
 | none => rw [er_none hr] at h; omega
 | some cs =>
   rw [rd_T hr, T_size]; have h1 := (rd_some hr).2.2; have h2 := (txt_len cs).2; omega
theorem n_le_kd {ops : List OpD} (h : allE ops) : ∀ o ∈ ops, o.kind ≠ 2 → o.n ≤ kd ops := by
 induction ops with
 | nil => intro o ho; cases ho
 | cons x r ih =>
   intro o ho hk; have hr : allE r := fun y hy => h y (List.mem_cons_of_mem _ hy); have h0 := kd_nonneg hr; rw [kd]; rcases List.mem_cons.1 ho with rfl | ho
   ·rw [if_neg hk]; omega
   ·have := ih hr o ho hk
    split
    ·omega
    ·have := opE_n (h x (List.mem_cons_self ..)) (by assumption); omega
theorem vop_of {f : Int} {ops : List OpD} (h : OkC f ops) {o : OpD} (ho : o ∈ ops) : VOp o := by
 obtain ⟨h1, h2, _, h4, h5, _⟩ := h; have he := h4 o ho; rcases opE_kind he with k | k | k
 ·obtain ⟨a, b, c⟩ := (opE_keep k).1 he
  have := n_le_kd h4 o ho (by omega); exact ⟨by omega, by omega, by omega, .inl k, small_chg c⟩
 ·obtain ⟨a, b, c, d⟩ := (opE_put k).1 he
  exact ⟨by omega, by omega, text_lim c, .inr (.inl k), small_rgt d⟩
 ·obtain ⟨a, b, c⟩ := (opE_cut k).1 he
  have := n_le_kd h4 o ho (by omega); refine ⟨by omega, by omega, by omega, .inr (.inr k), ?_⟩; rw [List.length_eq_zero_iff.1 c]; exact ⟨by simp, fun x hx => by cases hx⟩
def InB (a : Int) (c : Nat) (l : List OpD) : Prop := ∀ x ∈ l, 0 ≤ x.n ∧ x.n ≤ a ∧ x.text.size ≤ c
theorem put_in {a a' : Int} {c c' : Nat} {l : List OpD} {o : OpD} (hl : InB a c l) (h0 : 0 ≤ o.n) (h1 : o.n ≤ a') (h2 : o.text.size ≤ c') (ha : 0 ≤ a) : InB (a + a') (c + c') (put l o) := by
 cases l with
 | nil =>
   intro y hy; simp only [put, List.mem_singleton] at hy; subst hy; omega
 | cons x r =>
   have hx := hl x (List.mem_cons_self ..); rw [put]; split
   ·intro y hy
    rcases List.mem_cons.1 hy with rfl | hy
    ·refine ⟨by show 0 ≤ x.n + o.n; omega, by show x.n + o.n ≤ _; omega, ?_⟩
     show (cat x.text o.text).size ≤ _
     rw [cat_size]; omega
    ·have := hl y (List.mem_cons_of_mem _ hy); omega
   ·intro y hy
    rcases List.mem_cons.1 hy with rfl | hy
    ·omega
    ·have := hl y hy; omega
structure Lim (k : Nat) (s : List OpD × Int) : Prop where
 ops : InB (20000 * k) (80000 * k) s.1
 g0 : 0 ≤ s.2
 g1 : s.2 ≤ 20000 * k
 siz : siz s ≤ k
theorem flush_in {k : Nat} {s : List OpD × Int} (h : Lim k s) (hs : St s) : InB (20000 * k) (80000 * k) (flush s) := by
 unfold flush; split
 ·rw [put_fresh fun x r e h3 => hs.2 x r e h3.1]
  intro y hy; rcases List.mem_cons.1 hy with rfl | hy
  ·refine ⟨h.g0, h.g1, ?_⟩
   show (0 : Nat) ≤ _
   omega
  ·exact h.ops y hy
 ·exact h.ops
theorem lim_add {k : Nat} {s : List OpD × Int} {o : OpD} (h : Lim k s) (hs : St s) (ho : VOp o) : Lim (k + 1) (Ch.add s o) := by
 have hz := Nat.le_trans (siz_add s o) (Nat.add_le_add_right h.siz 1); have hg0 := h.g0; have hg1 := h.g1; have e1 : (20000 : Int) * ((k + 1 : Nat) : Int) = 20000 * k + 20000 := by omega
 have e2 : 80000 * (k + 1) = 80000 * k + 80000 := by omega
 have hk : (0 : Int) ≤ 20000 * (k : Int) := by omega
 have n0 := ho.n0; have n1 := ho.n1
 by_cases h3 : o.kind = 3
 ·have e : Ch.add s o = (s.1, s.2 + o.n) := by unfold Ch.add; rw [if_pos h3]
  rw [e] at hz ⊢; refine ⟨fun x hx => ?_, by show 0 ≤ s.2 + o.n; omega, by show s.2 + o.n ≤ _; omega, hz⟩; have := h.ops x hx; rw [e1, e2]; omega
 ·by_cases h1 : o.kind = 1
  ·have e : Ch.add s o = (put (flush s) o, 0) := by unfold Ch.add; rw [if_neg h3, if_pos h1]
   rw [e] at hz ⊢; refine ⟨?_, Int.le_refl _, by show (0 : Int) ≤ _; omega, hz⟩; rw [e1, e2]; exact put_in (flush_in h hs) n0 n1 ho.text hk
  ·have e : Ch.add s o = (put s.1 o, s.2) := by unfold Ch.add; rw [if_neg h3, if_neg h1]
   rw [e] at hz ⊢; refine ⟨?_, hg0, by show s.2 ≤ _; omega, hz⟩; rw [e1, e2]; exact put_in h.ops n0 n1 ho.text hk
theorem small_nil : SmallA [] := ⟨by simp, fun x hx => by cases hx⟩
theorem lim_fold {f : Int} {ops : List OpD} (h : OkC f ops) (k : Nat) (hk : k ≤ ops.length) : Lim k (fold (ops.take k)) ∧ St (fold (ops.take k)) := by
 induction k with
 | zero => exact ⟨⟨(fun x hx => by cases hx), Int.le_refl _, Int.le_refl _, Nat.le_refl _⟩, trivial, (fun x r e => by cases e)⟩
 | succ k ih =>
   obtain ⟨h1, h2⟩ := ih (by omega); have hlt : k < ops.length := by omega
   rw [List.take_succ_eq_append_getElem hlt, fold_snoc]; have hv := vop_of h (List.getElem_mem hlt); exact ⟨lim_add h1 h2 hv, h2.add hv.kind⟩
end
end Go.Proofs.Ytchceolbbkhnnaa
