import Derived.Test.YtchceolbbkhnnaaGB2
import Derived.Test.YtchceolbbkhnnaaGA2
import Derived.Deep.RegionHeld3
namespace Go.Proofs.Ytchceolbbkhnnaa
section
open Go.RowKit At
open Lib (hid)
theorem regS {W w' : World} {box g j : Nat} {k v : Value} (h : Below W.heap.size W w') (hbx : box < W.heap.size) (hg : g < W.heap.size) (f1 : W.cell? ⟨box, 0, none⟩ = some k) (f2 : W.cell? ⟨box, 1, none⟩ = some v)
 (f3 : W.cell? ⟨g, j, none⟩ = some k) (f4 : W.cell? ⟨g, j + 1, none⟩ = some v) (f5 : W.frozen? ⟨g, j, none⟩ = false) (f6 : W.frozen? ⟨g, j + 1, none⟩ = false) :
 w'.cell? ⟨box, 0, none⟩ = some k ∧ w'.cell? ⟨box, 1, none⟩ = some v ∧ w'.cell? ⟨g, j, none⟩ = some k ∧ w'.cell? ⟨g, j + 1, none⟩ = some v ∧ w'.frozen? ⟨g, j, none⟩ = false ∧ w'.frozen? ⟨g, j + 1, none⟩ = false :=
 ⟨by rw [h.cell (by exact hbx)]; exact f1, by rw [h.cell (by exact hbx)]; exact f2, by rw [h.cell (by exact hg)]; exact f3, by rw [h.cell (by exact hg)]; exact f4, by rw [h.frozen (by exact hg)]; exact f5, by rw [h.frozen (by exact hg)]; exact f6⟩
theorem regS_stored {w : World} {box g j : Nat} {k v : Value} (hne : box ≠ g)
 (h : w.cell? ⟨box, 0, none⟩ = some k ∧ w.cell? ⟨box, 1, none⟩ = some v ∧ w.cell? ⟨g, j, none⟩ = some k ∧ w.cell? ⟨g, j + 1, none⟩ = some v ∧ w.frozen? ⟨g, j, none⟩ = false ∧ w.frozen? ⟨g, j + 1, none⟩ = false) :
 ((w.setCell ⟨g, j, none⟩ k).setCell ⟨g, j + 1, none⟩ v).cell? ⟨box, 0, none⟩ = some k ∧ ((w.setCell ⟨g, j, none⟩ k).setCell ⟨g, j + 1, none⟩ v).cell? ⟨box, 1, none⟩ = some v ∧ ((w.setCell ⟨g, j, none⟩ k).setCell ⟨g, j + 1, none⟩ v).cell? ⟨g, j, none⟩ = some k ∧ ((w.setCell ⟨g, j, none⟩ k).setCell ⟨g, j + 1, none⟩ v).cell? ⟨g, j + 1, none⟩ = some v ∧ ((w.setCell ⟨g, j, none⟩ k).setCell ⟨g, j + 1, none⟩ v).frozen? ⟨g, j, none⟩ = false ∧ ((w.setCell ⟨g, j, none⟩ k).setCell ⟨g, j + 1, none⟩ v).frozen? ⟨g, j + 1, none⟩ = false := by
 obtain ⟨h1, h2, h3, h4, h5, h6⟩ := h; have hne' : ¬ g = box := fun e => hne e.symm; refine ⟨?_, ?_, ?_, ?_, ?_, ?_⟩ <;> go_simp
set_option maxRecDepth 100000 in
set_option maxHeartbeats 2000000 in
theorem cloned_any (F : FuncId) (C : Array Value) (ch : O → O → O) (v u : Value) (a b : List (ByteArray × ByteArray)) (w : World) (hF : Chooses F C ch w) (hv : AtRow w v a) (hu : AtRow w u b) (la : a.length ≤ 8) (lb : b.length ≤ 8)
 (hsz : ∀ x ∈ mergeL ch a b, x.1.size ≤ 64 ∧ x.2.size ≤ 64) :
 Calls Try.prog 75 #[v, u, .func (.func F) #[] C] w (MergeOut w (mergeL ch a b)) := by
 have hlen := mergeL_len ch a b; have Hm := hid (merge_any F C ch v u a b w hF hv hu la lb); obtain ⟨R, hR⟩ : ∃ R, R = mergeL ch a b := ⟨_, rfl⟩; rw [← hR] at Hm hsz hlen ⊢; have Hsz := hid hsz; have hl16 : R.length ≤ 16 := by omega
 have hn64 : R.length ≤ 9223372036854775807 := by omega
 clear hR hsz hlen hv hu la lb hF; go_enter Try.func75, Try.ntmps75
 go_wp2_with fail
 refine Hm.out.mono ?_; rintro e w1 ⟨v1, rfl, hown, hb⟩; have Hown := hid hown; have Hb := hid hb; have hs1 := hb.size; obtain ⟨a1, cap1, rfl⟩ : ∃ a1 cap1, v1 = .slice a1 R.length cap1 := by
  rcases hown.2 with ⟨rfl, h⟩ | ⟨g, cap, _, rfl, _⟩
  ·exact ⟨none, 0, by rw [h]⟩
  ·exact ⟨_, _, rfl⟩
 clear hown hb; go_wp2_with fail
 go_loopw [16] (fun i wr => ∃ n : Nat, i = .int .i64 (n : Int) ∧ n ≤ R.length ∧ wr.ownsRow w.heap.size 81 2 (.slice a1 R.length cap1) R.length (flat R) ∧ Below w.heap.size w wr) (fun i _ => R.length - (intOf i).toNat)
 case atStart => exact ⟨0, rfl, by omega, Hown.out, Hb.out⟩
 case round =>
  obtain ⟨n, rfl, hk, hown, hb⟩ := hrel
  by_cases hlt : n < R.length
  ·have hlt' : (n : Int) < (R.length : Int) := by omega
   obtain ⟨g, cap, he⟩ := ownsRow_open hown (by omega); simp only [Value.slice.injEq, true_and] at he; obtain ⟨rfl, rfl⟩ := he; have hg := hown.lt g rfl; have c1 : wr.cell? ⟨g, n * 2, none⟩ = some (.string R[n].1) := by rw [hown.cellAt _ (by omega), flat_at0 hlt]
   have c2 : wr.cell? ⟨g, n * 2 + 1, none⟩ = some (.string R[n].2) := by rw [hown.cellAt _ (by omega), flat_at1 hlt]
   have c3 : wr.frozen? ⟨g, n * 2, none⟩ = false := hown.frozenAt _; have c4 : wr.frozen? ⟨g, n * 2 + 1, none⟩ = false := hown.frozenAt _; have y1 := (Hsz.out _ (List.getElem_mem hlt)).1; have y2 := (Hsz.out _ (List.getElem_mem hlt)).2; obtain ⟨x, hx⟩ : ∃ x, x = R[n] := ⟨_, rfl⟩; rw [← hx] at c1 c2 y1 y2; have hown' := hid hown; have hb' := hid hb; have Hx := hid hx; clear hown hb hx; go_wp2_with fail
   obtain ⟨W, hW⟩ : ∃ W, W = wr.alloc (Obj.cells #[.string x.1, .string x.2] 81) := ⟨_, rfl⟩; rw [← hW]; have g1 : W.cell? ⟨wr.heap.size, 0, none⟩ = some (.string x.1) := by rw [hW]; go_simp
   have g2 : W.cell? ⟨wr.heap.size, 1, none⟩ = some (.string x.2) := by rw [hW]; go_simp
   have BW : Below wr.heap.size wr W := by rw [hW]; exact (Below.refl _ _).alloc (Nat.le_refl _) _
   have g3 : W.cell? ⟨g, n * 2, none⟩ = some (.string x.1) := by rw [BW.cell (by exact hg.2)]; exact c1
   have g4 : W.cell? ⟨g, n * 2 + 1, none⟩ = some (.string x.2) := by rw [BW.cell (by exact hg.2)]; exact c2
   have g5 : W.frozen? ⟨g, n * 2, none⟩ = false := by rw [BW.frozen (by exact hg.2)]; exact c3
   have g6 : W.frozen? ⟨g, n * 2 + 1, none⟩ = false := by rw [BW.frozen (by exact hg.2)]; exact c4
   have z1 : wr.heap.size < W.heap.size := by rw [hW]; simp
   have z2 : g < W.heap.size := by omega
   have z3 : wr.heap.size ≠ g := by omega
   have HBW := hid BW; clear hW c1 c2 c3 c4 BW
   go_region_held3 (fun w' => w'.cell? ⟨wr.heap.size, 0, none⟩ = some (.string x.1) ∧ w'.cell? ⟨wr.heap.size, 1, none⟩ = some (.string x.2) ∧ w'.cell? ⟨g, n * 2, none⟩ = some (.string x.1) ∧ w'.cell? ⟨g, n * 2 + 1, none⟩ = some (.string x.2) ∧ w'.frozen? ⟨g, n * 2, none⟩ = false ∧ w'.frozen? ⟨g, n * 2 + 1, none⟩ = false)
    (first
     | exact regS (Below.refl _ _).drew z1 z2 g1 g2 g3 g4 g5 g6
     | exact regS BA z1 z2 g1 g2 g3 g4 g5 g6
     | exact regS BB z1 z2 g1 g2 g3 g4 g5 g6
     | exact regS_stored z3 (regS BB z1 z2 g1 g2 g3 g4 g5 g6)
     | (trace_state; fail))
    (first
     | (go_at_call_of 98 (Value.string x.1); refine (clone_any _ _ (by omega)).mono ?_; rintro e wA ⟨rfl, hbA⟩; have BA : Below W.heap.size W wA := ((Below.refl _ _).drew).trans (hbA.mono (Nat.le_refl _)))
     | (go_at_call_of 98 (Value.string x.2); refine (clone_any _ _ (by omega)).mono ?_; rintro e wB ⟨rfl, hbB⟩; have BB : Below W.heap.size W wB := BA.trans (hbB.mono BA.size)))
   have BWB : Below wr.heap.size wr wB := HBW.out.trans (BB.mono HBW.out.size); have o1 := (row_below hown'.out BWB).stored (n * 2) (.string x.1); rw [set_same _ _ _ (by rw [Hx.out]; exact flat_at0 hlt)] at o1; have o2 := o1.1.stored (n * 2 + 1) (.string x.2); rw [set_same _ _ _ (by rw [Hx.out]; exact flat_at1 hlt)] at o2; have O2 := hid o2.1; have BF : Below w.heap.size w ((wB.setCell ⟨g, n * 2, none⟩ (.string x.1)).setCell ⟨g, n * 2 + 1, none⟩ (.string x.2)) := ((hb'.out.trans (BWB.mono hb'.out.size)).setCell hg.1 _).setCell hg.1 _; have HBF := hid BF; clear o1 o2 BF BWB BA BB hbA hbB g1 g2 g3 g4 g5 g6; go_wp2_with fail
   go_roundw
   case rel => exact ⟨n + 1, by go_num, by omega, O2.out, HBF.out⟩
   case measure => simp [intOf]; omega
  ·have hkn : n = R.length := by omega
   subst hkn; have hown' := hid hown; have hb' := hid hb; clear hown hb; go_wp2_with fail
   go_ret
   exact ⟨_, rfl, hown'.out, hb'.out⟩
end
section
open Go.RowKit At
open Lib (hid)
theorem choosesFollow (first : Bool) (c : Nat) (w : World) (hc : w.cell? ⟨c, 0, none⟩ = some (.bool first)) : Chooses 106 #[.pointer (some ⟨c, 0, none⟩)] (chFollow first) w where
 enters args W := by kernel_rfl
 does x y ox oy W hb hx hy := chFollow_any first c x y ox oy W (by rw [hb.cell (by exact World.block_lt_of_cell? _ _ hc)]; exact hc) hx hy
theorem rises_of {l : List (K × V)} (h : ∀ i (hi : i < l.length), (if h0 : 0 < i then Op.bytesLess (l[i - 1]'(by omega)).1.toList l[i].1.toList else true) = true) : Rises ltB l := by
 have step : ∀ d i (hj : i + d + 1 < l.length), ltB (l[i]'(by omega)).1 (l[i + d + 1]'hj).1 = true := by
  intro d; induction d with
  | zero =>
    intro i hj; have := h (i + 1) hj; rw [dif_pos (by omega)] at this; exact this
  | succ d ih =>
    intro i hj; have h1 := ih i (by omega); have h2 := h (i + (d + 1) + 1) hj; rw [dif_pos (by omega)] at h2; exact strictB.tr _ _ _ h1 h2
 refine List.pairwise_iff_getElem.2 fun i j hi hj hij => ?_; have := step (j - i - 1) i (by omega); have e : i + (j - i - 1) + 1 = j := by omega
 simpa [e] using this
theorem adj_of {l : List (K × V)} (h : Rises ltB l) (i : Nat) (hi : i < l.length) : (if h0 : 0 < i then Op.bytesLess (l[i - 1]'(by omega)).1.toList l[i].1.toList else true) = true := by
 by_cases h0 : 0 < i
 ·rw [dif_pos h0]
  exact List.pairwise_iff_getElem.1 h (i - 1) i (by omega) hi (by omega)
 ·rw [dif_neg h0]
theorem chg_iff {l : List (K × V)} : chgB l = true ↔ l.length ≤ 8 ∧ (∀ x ∈ l, keyB x.1 = true ∧ valB x.2 = true) ∧ Rises ltB l := by
 constructor
 ·intro h
  obtain ⟨h1, h2⟩ := of_decide_eq_true h; unfold chgOne at h2; simp only [Bool.and_eq_true] at h2; refine ⟨h1, fun x hx => ?_, rises_of fun i hi => (h2 i hi).2⟩; obtain ⟨i, hi, rfl⟩ := List.getElem_of_mem hx; exact (h2 i hi).1
 ·rintro ⟨h1, h2, h3⟩
  refine decide_eq_true ⟨h1, fun i hi => ?_⟩; unfold chgOne; simp only [Bool.and_eq_true]; exact ⟨h2 _ (List.getElem_mem hi), adj_of h3 i hi⟩
theorem rgt_iff {l : List (K × V)} : rgtB l = true ↔ l.length ≤ 8 ∧ (∀ x ∈ l, keyB x.1 = true ∧ valNE x.2 = true) ∧ Rises ltB l := by
 constructor
 ·intro h
  obtain ⟨h1, h2⟩ := of_decide_eq_true h; unfold rgtOne at h2; simp only [Bool.and_eq_true] at h2; refine ⟨h1, fun x hx => ?_, rises_of fun i hi => (h2 i hi).2⟩; obtain ⟨i, hi, rfl⟩ := List.getElem_of_mem hx; exact (h2 i hi).1
 ·rintro ⟨h1, h2, h3⟩
  refine decide_eq_true ⟨h1, fun i hi => ?_⟩; unfold rgtOne; simp only [Bool.and_eq_true]; exact ⟨h2 _ (List.getElem_mem hi), adj_of h3 i hi⟩
theorem keyB_size {s : ByteArray} (h : keyB s = true) : s.size ≤ 64 := by
 have := (of_decide_eq_true h).2.2; omega
theorem valB_size {s : ByteArray} (h : valB s = true) : s.size ≤ 64 := (of_decide_eq_true h).2
theorem valNE_iff {s : ByteArray} : valNE s = true ↔ s ≠ emp ∧ valB s = true := by
 unfold valNE; rw [Bool.and_eq_true, decide_eq_true_iff]; have : (1 ≤ s.size) ↔ s ≠ emp := by
  rw [Ne, beq_empty, size_nil]; omega
 rw [this]
theorem mem_applyL {l c : List (K × V)} {x : K × V} (h : x ∈ applyL ltB emp l c) : x ∈ l ∨ (x ∈ c ∧ x.2 ≠ emp) := by
 unfold applyL at h; rw [mem_puts, mem_puts] at h; rcases h with h | h | h
 ·have := List.mem_filter.1 h
  exact .inr ⟨this.1, by simpa using this.2⟩
 ·exact .inl (List.mem_filter.1 h).1
 ·cases h
theorem mem_composeL {a b : List (K × V)} {x : K × V} (h : x ∈ composeL ltB a b) : x ∈ a ∨ x ∈ b := by
 unfold composeL at h; rw [mem_puts] at h; rcases h with h | h
 ·exact .inl (List.mem_filter.1 h).1
 ·exact .inr h
theorem mem_followL {a b : List (K × V)} {first : Bool} {x : K × V} (h : x ∈ followL a b first) : x ∈ b := (List.mem_filter.1 h).1
def applyR (l c : List (K × V)) : List (K × V) := if (rgtB l && chgB c) = true then (if (applyL ltB emp l c).length ≤ 8 then applyL ltB emp l c else []) else []
def applyE (l c : List (K × V)) : Int := if (rgtB l && chgB c) = true then (if (applyL ltB emp l c).length ≤ 8 then 0 else 3) else 20
def composeR (a b : List (K × V)) : List (K × V) := if (chgB a && chgB b) = true then (if (composeL ltB a b).length ≤ 8 then composeL ltB a b else []) else []
def composeE (a b : List (K × V)) : Int := if (chgB a && chgB b) = true then (if (composeL ltB a b).length ≤ 8 then 0 else 3) else 20
def followR (first : Bool) (a b : List (K × V)) : List (K × V) := if (chgB a && chgB b) = true then followL a b first else []
def followE (a b : List (K × V)) : Int := if (chgB a && chgB b) = true then 0 else 20
set_option maxHeartbeats 2000000 in
theorem followD_any (first : Bool) (v u : Value) (l c : List (K × V)) (w : World) (hv : AtRow w v l) (hu : AtRow w u c) (hl : Sized l) (hc : Sized c) :
 Calls Try.prog 88 #[v, u, .bool first] w (RowOut w (followR first l c) (followE l c)) := by
 have Hv := hid hv; have Hu := hid hu; have Hl := hid hl; have Hc := hid hc; clear hv hu hl hc; cases hr : chgB l with
 | false =>
   have hE : chgE l = 20 := by unfold chgE; rw [hr]; rfl
   have h1 : followR first l c = [] ∧ followE l c = 20 := by unfold followR followE; rw [hr]; exact ⟨rfl, rfl⟩
   rw [h1.1, h1.2]; clear h1 hr; have HE := hid hE; clear hE; go_enter Try.func88, Try.ntmps88
   go_wp2_with fail
   refine (changeD_any v l _ (Hv.out.below ((Below.refl w.heap.size w).alloc (Nat.le_refl _) _)) Hl.out).mono ?_; rw [HE.out]; rintro e w1 ⟨rfl, b1⟩; go_wp2_with fail
   go_ret2
   exact rowOut_nil (((Below.refl w.heap.size w).alloc (Nat.le_refl _) _).trans (b1.mono (by simp)))
 | true =>
   have hE : chgE l = 0 := by unfold chgE; rw [hr]; rfl
   have HE := hid hE; clear hE; cases hch : chgB c with
   | false =>
     have hE2 : chgE c = 20 := by unfold chgE; rw [hch]; rfl
     have h1 : followR first l c = [] ∧ followE l c = 20 := by unfold followR followE; rw [hr, hch]; exact ⟨rfl, rfl⟩
     rw [h1.1, h1.2]; clear h1 hr hch; have HE2 := hid hE2; clear hE2; go_enter Try.func88, Try.ntmps88
     go_wp2_with fail
     refine (changeD_any v l _ (Hv.out.below ((Below.refl w.heap.size w).alloc (Nat.le_refl _) _)) Hl.out).mono ?_; rw [HE.out]; rintro e w1 ⟨rfl, b1⟩; have s1 := b1.size; go_wp2_with fail
     refine (changeD_any u c _ (Hu.out.below (((Below.refl w.heap.size w).alloc (Nat.le_refl _) _).trans (b1.mono (by simp)))) Hc.out).mono ?_; rw [HE2.out]; rintro e w2 ⟨rfl, b2⟩; go_wp2_with fail
     go_ret2
     exact rowOut_nil ((((Below.refl w.heap.size w).alloc (Nat.le_refl _) _).trans (b1.mono (by simp))).trans (b2.mono (by simp at s1; omega)))
   | true =>
     have hE2 : chgE c = 0 := by unfold chgE; rw [hch]; rfl
     have HE2 := hid hE2; obtain ⟨ll, lo, lr⟩ := chg_iff.1 hr; obtain ⟨cl, co, cr⟩ := chg_iff.1 hch; have hm : mergeL (chFollow first) l c = followL l c first := merge_follow first lr cr
     have Hm := hid hm; have hsz : ∀ x ∈ mergeL (chFollow first) l c, x.1.size ≤ 64 ∧ x.2.size ≤ 64 := by
      rw [hm]; intro x hx; exact ⟨keyB_size (co x (mem_followL hx)).1, valB_size (co x (mem_followL hx)).2⟩
     have Hsz := hid hsz; clear hm hsz; have h1 : followR first l c = followL l c first ∧ followE l c = 0 := by unfold followR followE; rw [hr, hch]; simp
     rw [h1.1, h1.2]; clear h1; clear hE2 hr hch lo co lr cr; go_enter Try.func88, Try.ntmps88
     go_wp2_with fail
     refine (changeD_any v l _ (Hv.out.below ((Below.refl w.heap.size w).alloc (Nat.le_refl _) _)) Hl.out).mono ?_; rw [HE.out]; rintro e w1 ⟨rfl, b1⟩; have s1 := b1.size; go_wp2_with fail
     refine (changeD_any u c _ (Hu.out.below (((Below.refl w.heap.size w).alloc (Nat.le_refl _) _).trans (b1.mono (by simp)))) Hc.out).mono ?_; rw [HE2.out]; rintro e w2 ⟨rfl, b2⟩; have s2 := b2.size; go_wp2_with fail
     refine (cloned_any _ _ _ v u l c _ (choosesFollow first w.heap.size w2 (by rw [b2.cell (by exact Nat.lt_of_lt_of_le (by simp) s1), b1.cell (by exact (by simp))]; go_simp)) (Hv.out.below ((((Below.refl w.heap.size w).alloc (Nat.le_refl _) _).trans (b1.mono (by simp))).trans (b2.mono (by simp at s1; omega)))) (Hu.out.below ((((Below.refl w.heap.size w).alloc (Nat.le_refl _) _).trans (b1.mono (by simp))).trans (b2.mono (by simp at s1; omega)))) ll cl Hsz.out).mono ?_; rw [Hm.out]; rintro e w3 ⟨r, rfl, o3, b3⟩; have s3 := b3.size; go_wp2_with fail
     go_ret2
     exact ⟨_, rfl, own_base o3 (by simp at s1; omega), (((((Below.refl w.heap.size w).alloc (Nat.le_refl _) _).trans (b1.mono (by simp))).trans (b2.mono (by simp at s1; omega))).trans (b3.mono (by simp at s1; omega)))⟩
end
section
open Go.RowKit At
theorem composeE_mk {a b : List (K × V)} (h1 : chgB a = true) (h2 : chgB b = true) (h3 : (composeL ltB a b).length ≤ 8) : composeE a b = 0 ∧ composeR a b = composeL ltB a b := by
 unfold composeE composeR; rw [h1, h2]; simp [h3]
theorem followE_mk {a b : List (K × V)} (first : Bool) (h1 : chgB a = true) (h2 : chgB b = true) : followE a b = 0 ∧ followR first a b = followL a b first := by
 unfold followE followR; rw [h1, h2]; simp
theorem rgt_apply {l c : List (K × V)} (hl : rgtB l = true) (hc : chgB c = true) (h8 : (applyL ltB emp l c).length ≤ 8) : rgtB (applyL ltB emp l c) = true := by
 obtain ⟨_, l2, l3⟩ := rgt_iff.1 hl; obtain ⟨_, c2, c3⟩ := chg_iff.1 hc; refine rgt_iff.2 ⟨h8, fun x hx => ?_, (apply_all strictB emp l3 c3).1⟩; rcases mem_applyL hx with h | ⟨h, hn⟩
 ·exact l2 x h
 ·exact ⟨(c2 x h).1, valNE_iff.2 ⟨hn, (c2 x h).2⟩⟩
theorem chg_compose {a b : List (K × V)} (ha : chgB a = true) (hb : chgB b = true) (h8 : (composeL ltB a b).length ≤ 8) : chgB (composeL ltB a b) = true := by
 obtain ⟨_, l2, l3⟩ := chg_iff.1 ha; obtain ⟨_, c2, c3⟩ := chg_iff.1 hb; refine chg_iff.2 ⟨h8, fun x hx => ?_, (compose_all strictB l3 c3).1⟩; rcases mem_composeL hx with h | h
 ·exact l2 x h
 ·exact c2 x h
theorem chg_follow {a b : List (K × V)} (first : Bool) (hb : chgB b = true) : chgB (followL a b first) = true := by
 obtain ⟨c1, c2, c3⟩ := chg_iff.1 hb; exact chg_iff.2 ⟨Nat.le_trans (List.length_filter_le _ _) c1, fun x hx => c2 x (mem_followL hx), (follow_all first c3).1⟩
theorem chg_nil : chgB [] = true := by decide +kernel
theorem nothing_c {c : List (K × V)} (first : Bool) (h : chgB c = true) : (composeE [] c = 0 ∧ composeR [] c = c) ∧ (composeE c [] = 0 ∧ composeR c [] = c) ∧ (followE [] c = 0 ∧ followR first [] c = c) ∧ (followE c [] = 0 ∧ followR first c [] = []) := by
 obtain ⟨c1, _, c3⟩ := chg_iff.1 h; obtain ⟨e1, e2⟩ := compose_nil strictB c3; obtain ⟨j1, j2⟩ := composeE_mk chg_nil h (by rw [e1]; exact c1); obtain ⟨k1, k2⟩ := composeE_mk h chg_nil (by rw [e2]; exact c1); obtain ⟨f1, f2⟩ := followE_mk first chg_nil h
 obtain ⟨g1, g2⟩ := followE_mk first h chg_nil
 obtain ⟨n1, n2⟩ := follow_nil c first
 exact ⟨⟨j1, by rw [j2, e1]⟩, ⟨k1, by rw [k2, e2]⟩, ⟨f1, by rw [f2, n1]⟩, ⟨g1, by rw [g2, n2]⟩⟩
theorem sized_nil : Sized [] := fun x hx => by cases hx
end
end Go.Proofs.Ytchceolbbkhnnaa
