import Derived.Test.YtadookafnfnaoaaGreatDoorGS22
import Derived.Test.YtadookafnfnaoaaGreatDoorGS15
import Derived.Test.YtadookafnfnaoaaGreatDoorGS21
import Derived.Test.YtadookafnfnaoaaGreatDoorGS18
import Derived.Test.YtadookafnfnaoaaGreatDoorGS9
import Derived.Test.YtadookafnfnaoaaGreatDoorGS17
import Derived.Test.YtadookafnfnaoaaGreatDoorGS3
import Derived.LoopTactic
import Derived.Deep.LoopGhost
/- The law's Kept and Spoil, of changesets. -/
namespace Go.Proofs.YtadookafnfnaoaaGreatDoor
open Go.RowKit Ch At

theorem span_new {lo hi : Nat} {w w' : World} (h : Span lo hi w w') {p : Addr} (hp : w.heap.size ≤ p.block) (hl : lo ≤ p.block) (u : Value) : Span lo hi w (w'.setCell p u) :=
  ⟨h.below.setCell hl u, fun i hi' hh => (Below.heap_setCell w' p u i (by omega)).trans (h.block i hi' hh)⟩
theorem span_alloc {lo hi : Nat} {w w' : World} (h : Span lo hi w w') (hl : lo ≤ w.heap.size) (o : Obj) : Span lo hi w (w'.alloc o) := h.trans (span_below (below_box _ _) (Nat.le_trans hl h.below.size))
theorem op_cell {w : World} {B g n cap j : Nat} {xs : List Value} (h : w.ownsRow B 48 4 (.slice (some ⟨g, 0, none⟩) n cap) n xs) (hj : j < n * 4) : ∃ u, w.cell? ⟨g, j, none⟩ = some u := by
  have hl : j < xs.length := by rw [h.1]; exact hj
  exact ⟨xs[j], by rw [h.cellAt j hj]; exact List.getElem?_eq_getElem hl⟩
/-- One operation written over in one's own row: what it is then, elsewhere. -/
theorem op_stored {w : World} {B g n cap k : Nat} {xs : List Value} (h : w.ownsRow B 48 4 (.slice (some ⟨g, 0, none⟩) n cap) n xs) (u0 u1 u2 u3 : Value) :
    ∃ ys, ((((w.setCell ⟨g, k * 4, none⟩ u0).setCell ⟨g, k * 4 + 1, none⟩ u1).setCell ⟨g, k * 4 + 2, none⟩ u2).setCell ⟨g, k * 4 + 3, none⟩ u3).ownsRow B 48 4 (.slice (some ⟨g, 0, none⟩) n cap) n ys ∧ ∀ j, (k + 1) * 4 ≤ j → ys[j]? = xs[j]? := by
  refine ⟨_, ((((h.stored (k * 4) u0).1.stored (k * 4 + 1) u1).1.stored (k * 4 + 2) u2).1.stored (k * 4 + 3) u3).1, fun j hj => ?_⟩
  rw [List.getElem?_set_ne (by omega), List.getElem?_set_ne (by omega), List.getElem?_set_ne (by omega), List.getElem?_set_ne (by omega)]
theorem keep_ops4 {w : World} {B g n cap k : Nat} {xs : List Value} (h : w.ownsRow B 48 4 (.slice (some ⟨g, 0, none⟩) n cap) n xs) (u0 u1 u2 u3 : Value) :
    Keep B [48] w ((((w.setCell ⟨g, k * 4, none⟩ u0).setCell ⟨g, k * 4 + 1, none⟩ u1).setCell ⟨g, k * 4 + 2, none⟩ u2).setCell ⟨g, k * 4 + 3, none⟩ u3) := by
  obtain ⟨hB, cs, hcs⟩ := own_heap h
  have b1 := nblk_set (j := k * 4) (u := u0) hcs
  have b2 := nblk_set (j := k * 4 + 1) (u := u1) b1
  have b3 := nblk_set (j := k * 4 + 2) (u := u2) b2
  exact (((keep_set hcs (by simp) hB ⟨g, k * 4, none⟩ rfl u0).trans (keep_set b1 (by simp) hB ⟨g, k * 4 + 1, none⟩ rfl u1)).trans (keep_set b2 (by simp) hB ⟨g, k * 4 + 2, none⟩ rfl u2)).trans (keep_set b3 (by simp) hB ⟨g, k * 4 + 3, none⟩ rfl u3)
theorem span_ops4 {lo hi g k : Nat} {w : World} (h1 : lo ≤ g) (h2 : g < hi) (u0 u1 u2 u3 : Value) : Span lo hi w ((((w.setCell ⟨g, k * 4, none⟩ u0).setCell ⟨g, k * 4 + 1, none⟩ u1).setCell ⟨g, k * 4 + 2, none⟩ u2).setCell ⟨g, k * 4 + 3, none⟩ u3) :=
  (((span_set (p := ⟨g, k * 4, none⟩) h1 h2 u0).trans (span_set (p := ⟨g, k * 4 + 1, none⟩) h1 h2 u1)).trans (span_set (p := ⟨g, k * 4 + 2, none⟩) h1 h2 u2)).trans (span_set (p := ⟨g, k * 4 + 3, none⟩) h1 h2 u3)

theorem latt_kept {w w' : World} {B g : Nat} {q : PA} (h : LAtt w B q) (hg : w.grownBy w' (some g)) (hne : q.2.ownBlock ≠ some g) : LAtt w' B q := by
  obtain ⟨g', e, h⟩ := h
  exact ⟨g', e, h.kept hg (.inr (by rw [e] at hne; exact hne))⟩
def KeptOutC (w : World) (B E : Nat) (e : Ending) (w' : World) : Prop := e = .returned (.bool true) ∧ Span B E w w'
set_option maxRecDepth 100000 in
set_option maxHeartbeats 8000000 in
theorem keptC_any (f : Int) (v : Value) (ops : List OpD) (B E gg gc : Nat) (ps : List PA) (w0 w : World) (hL : LRow w B gg gc ps) (hps : ps.map (·.1) = ops) (hv : OpRow w0 v ops) (hw0 : Below w0.heap.size w0 w) (hB : w0.heap.size ≤ B) (hz : SmallO ops)
    (hgE : gg < E) (haE : ∀ q ∈ ps, ∀ j, q.2.ownBlock = some j → j < E) (hEw : E ≤ w.heap.size) :
    Calls Tryz.prog 13 #[chAgg f (.slice (some ⟨gg, 0, none⟩) ops.length gc), chAgg f v] w (KeptOutC w B E) := by
  have hln : ps.length = ops.length := by rw [← hps]; simp
  have hn : ops.length ≤ 1048576 := hz.1
  have hcap := hL.cap
  have hBw : B ≤ w.heap.size := by have := (hL.row.lt gg rfl).1; omega
  have HSM := Lib.hid (refSameCh_any f f (.slice (some ⟨gg, 0, none⟩) ops.length gc) v ops ops)
  obtain ⟨aa, acap, rfl, v1, v2, v3⟩ := hv
  obtain ⟨W, hW⟩ : ∃ W, W = (w.alloc (.cells #[.int .i64 f, .slice (some ⟨gg, 0, none⟩) ops.length gc] 24)).alloc (.cells #[.int .i64 f, .slice aa ops.length acap] 24) := ⟨_, rfl⟩
  have BW : Below w.heap.size w W := by rw [hW]; exact ((Below.refl _ _).alloc (Nat.le_refl _) _).alloc (by simp) _
  have b0 : W.heap[w.heap.size]? = some (.cells #[.int .i64 f, .slice (some ⟨gg, 0, none⟩) ops.length gc] 24 (0, 0)) := by
    rw [hW, Below.heap_alloc _ _ _ (by simp)]
    exact heap_new _ _
  have b1 : W.heap[w.heap.size + 1]? = some (.cells #[.int .i64 f, .slice aa ops.length acap] 24 (0, 0)) := by
    rw [hW]
    have := heap_new (w.alloc (.cells #[.int .i64 f, .slice (some ⟨gg, 0, none⟩) ops.length gc] 24)) (.cells #[.int .i64 f, .slice aa ops.length acap] 24)
    simpa using this
  have hc0 : OpRow w (.slice aa ops.length acap) ops := OpRow.below ⟨aa, acap, rfl, v1, v2, v3⟩ hw0
  have hin : OpRow W (.slice (some ⟨gg, 0, none⟩) ops.length gc) ops := by
    have := (hL.below BW).ops
    rw [hln, hps] at this
    exact this
  have HS := Lib.hid (HSM.out W hin (hc0.below BW))
  rw [show sameCh f f ops ops = true from decide_eq_true ⟨rfl, rfl⟩] at HS
  have c0 : W.cell? ⟨w.heap.size, 0, none⟩ = some (.int .i64 f) := (Lib.cell_of_heap b0 0).trans rfl
  have c1 : W.cell? ⟨w.heap.size, 1, none⟩ = some (.slice (some ⟨gg, 0, none⟩) ops.length gc) := (Lib.cell_of_heap b0 1).trans rfl
  have d0 : W.cell? ⟨w.heap.size + 1, 0, none⟩ = some (.int .i64 f) := (Lib.cell_of_heap b1 0).trans rfl
  have d1 : W.cell? ⟨w.heap.size + 1, 1, none⟩ = some (.slice aa ops.length acap) := (Lib.cell_of_heap b1 1).trans rfl
  have HB0 := Lib.hid b0
  have HB1 := Lib.hid b1
  have HW := Lib.hid hW
  have HBW := Lib.hid BW
  have HLW := Lib.hid (hL.below BW)
  have V3 := Lib.hid v3
  have HW0 := Lib.hid (hw0.trans (BW.mono hw0.size))
  have HLN := Lib.hid hln
  have HPS := Lib.hid hps
  have HAE := Lib.hid haE
  have hsl := slice_ops gg ops.length gc (ops.length + 1) (by omega)
  have ecast : ((ops.length + 1 : Nat) : Int) = (ops.length : Int) + 1 := by omega
  rw [ecast] at hsl
  have hz' := Lib.hid hz
  have hWs : w.heap.size + 2 = W.heap.size := by rw [hW]; simp
  have hggB : B ≤ gg := (hL.row.lt gg rfl).1
  clear hL hps hz haE v1 v2 v3 hin hc0 hW BW b0 b1 hw0 ecast hln
  go_enter Tryz.func13, Tryz.ntmps13
  go_wp2_with fail
  rw [← HW.out]
  go_wp2_with fail
  refine HS.out.mono ?_
  rintro e w1 ⟨rfl, bb⟩
  have HS1 := Lib.hid (show Span B E W w1 from span_below bb (by have := HBW.out.size; omega))
  have HL1 := Lib.hid (HLW.out.below bb)
  have hW1 := bb.size
  have x0 := (bb.block _ (show w.heap.size < W.heap.size by omega)).trans HB0.out
  have x1 := (bb.block _ (show w.heap.size + 1 < W.heap.size by omega)).trans HB1.out
  have e1 : w1.cell? ⟨w.heap.size, 1, none⟩ = some (.slice (some ⟨gg, 0, none⟩) ops.length gc) := (Lib.cell_of_heap x0 1).trans rfl
  have em : w1.cell? ⟨gg, ops.length * 4, none⟩ = some (.int .i64 99) := by
    have := (last_cells HL1.out.row).1
    rw [HLN.out] at this
    exact this
  have i1 : (0 : Int) ≤ (ops.length : Int) := by omega
  have i2 : (ops.length : Int) < (ops.length : Int) + 1 := by omega
  clear bb c0 c1 d0 d1 x0 x1
  go_wp2_with fail
  go_loopw [7, 8] (fun s i wr => ∃ k : Nat, s = .bool true ∧ i = .int .i64 (k : Int) ∧ k ≤ ops.length ∧ Span B E W wr ∧ wr.ownsRow B 48 4 (.slice (some ⟨gg, 0, none⟩) (ops.length + 1) gc) (ops.length + 1) (flatO (ps ++ [(markO, .slice none 0 0)])) ∧ (∀ j (hj : j < ps.length), k ≤ j → LAtt wr B ps[j])) (fun _ i _ => ops.length - (intOf i).toNat)
  case atStart => exact ⟨0, rfl, rfl, Nat.zero_le _, HS1.out, by have := HL1.out.row; rwa [HLN.out] at this, fun j hj _ => HL1.out.att _ (List.getElem_mem hj)⟩
  case round =>
    obtain ⟨k, rfl, rfl, hk, hS, hr, hA⟩ := hrel
    have xb0 := (hS.block _ (show w.heap.size < W.heap.size by omega) hEw).trans HB0.out
    have xb1 := (hS.block _ (show w.heap.size + 1 < W.heap.size by omega) (by omega)).trans HB1.out
    have s0 : wr.cell? ⟨w.heap.size, 1, none⟩ = some (.slice (some ⟨gg, 0, none⟩) ops.length gc) := (Lib.cell_of_heap xb0 1).trans rfl
    have s1 : wr.cell? ⟨w.heap.size + 1, 1, none⟩ = some (.slice aa ops.length acap) := (Lib.cell_of_heap xb1 1).trans rfl
    clear xb0 xb1 e1 em
    by_cases hlt : k < ops.length
    · have hlt' : (k : Int) < (ops.length : Int) := by omega
      have hlt2 : (k : Int) < (ops.length : Int) + 1 := by omega
      have k0 : (0 : Int) ≤ (k : Int) := by omega
      have hkp : k < ps.length := by have := HLN.out; omega
      obtain ⟨b, off, rfl, hbl, av, q0, qp, _, _, _, x3⟩ := V3.out k hlt
      have hpo : ps[k].1 = ops[k] := by
        have h1 : (ps.map (·.1))[k]'(by simp; exact hkp) = ps[k].1 := List.getElem_map _
        rw [← h1]
        simp only [HPS.out]
      have BC : Below w0.heap.size w0 wr := HW0.out.trans (hS.below.mono hB)
      obtain ⟨o, ho⟩ : ∃ o, o = ops[k] := ⟨_, rfl⟩
      rw [← ho] at q0 hpo
      obtain ⟨ar, cr, rfl⟩ := q0.shape
      obtain ⟨g, e2, orow⟩ := hA k hkp (Nat.le_refl _)
      rw [hpo] at e2 orow
      have y3 : wr.cell? ⟨b, off + k * 4 + 3, none⟩ = some (.slice ar o.attrs.length cr) := (BC.cell (by exact hbl)).trans x3
      have y4 : wr.cell? ⟨gg, k * 4 + 3, none⟩ = some (.slice (some ⟨g, 0, none⟩) o.attrs.length (o.attrs.length + 1)) := by
        rw [hr.cellAt (k * 4 + 3) (by omega), flatO_at (ps := ps ++ [(markO, Value.slice none 0 0)]) (i := k) (by simp; omega) 3 (by omega), List.getElem_append_left hkp]
        show some ps[k].2 = _
        rw [e2]
      have hsa := (hz'.out.2 _ (List.getElem_mem hlt)).2.1
      rw [← ho] at hsa
      have HKE := Lib.hid (kept_any (.slice ar o.attrs.length cr) B g o.attrs wr.drew (show wr.drew.ownsRow B _ _ _ _ _ from orow) (q0.below (BC.drew)) (by omega))
      have hgE2 : g < E := HAE.out _ (List.getElem_mem hkp) g (by rw [e2]; rfl)
      have hgB : B ≤ g := (orow.lt g rfl).1
      have hag := own_heap orow
      have HAG := Lib.hid hag
      have HR := Lib.hid hr
      have HA := Lib.hid hA
      have HSP := Lib.hid hS
      have HE2 := Lib.hid e2
      have hBr : B ≤ wr.heap.size := Nat.le_of_lt (Nat.lt_of_le_of_lt hgB (orow.lt g rfl).2)
      have SY : wr.drew.cell? ⟨gg, k * 4 + 3, none⟩ = some (.slice (some ⟨g, 0, none⟩) o.attrs.length (o.attrs.length + 1)) ∧ wr.drew.cell? ⟨w.heap.size + 1, 1, none⟩ = some (.slice (some ⟨b, off, none⟩) ops.length acap) ∧ wr.drew.cell? ⟨b, off + k * 4 + 3, none⟩ = some (.slice ar o.attrs.length cr) := ⟨y4, s1, y3⟩
      clear hS hr hA q0 qp x3 orow e2 BC ho hpo hag y3 y4
      go_wp2_with fail
      refine wp_region_B (fun w' => w'.cell? ⟨gg, k * 4 + 3, none⟩ = some (.slice (some ⟨g, 0, none⟩) o.attrs.length (o.attrs.length + 1)) ∧ w'.cell? ⟨w.heap.size + 1, 1, none⟩ = some (.slice (some ⟨b, off, none⟩) ops.length acap) ∧ w'.cell? ⟨b, off + k * 4 + 3, none⟩ = some (.slice ar o.attrs.length cr)) [11] (by kernel_rfl) (?_ : wpAnyB _ _ _ _ _ _ 13 (Array.replicate 13 false) _ _)
      refine wpAnyB_free (fuel := 12) (i := 0) (v := ?_) rfl (by kernel_rfl) (by kernel_rfl) (by kernel_rfl) (by kernel_rfl) (fun _ _ _ h => h) (.inr SY) ?_ (by rfl) ?_
      rotate_left
      · intro w'; go_simp; (try with_reducible rfl)
      simp only [Act.put, List.getElem_toArray, List.getElem_cons_zero, List.setIfInBounds_toArray, List.set_cons_zero, List.set_cons_succ]
      refine wpAnyB_free (fuel := 11) (i := 1) (v := ?_) rfl (by kernel_rfl) (by kernel_rfl) (by kernel_rfl) (by kernel_rfl) (fun _ _ _ h => h) (.inr SY) ?_ (by rfl) ?_
      rotate_left
      · intro w'; go_simp; (try with_reducible rfl)
      simp only [Act.put, List.getElem_toArray, List.getElem_cons_zero, List.getElem_cons_succ, List.setIfInBounds_toArray, List.set_cons_zero, List.set_cons_succ]
      refine wpAnyB_free (fuel := 10) (i := 2) (v := .pointer (some ⟨gg, k * 4, none⟩)) rfl (by kernel_rfl) (by kernel_rfl) (by kernel_rfl) (by kernel_rfl) (fun _ _ _ h => h) (.inr SY) ?_ (by rfl) ?_
      · intro w'; go_simp; (try (intro hh; omega))
      simp only [Act.put, List.getElem_toArray, List.getElem_cons_zero, List.getElem_cons_succ, List.setIfInBounds_toArray, List.set_cons_zero, List.set_cons_succ]
      refine wpAnyB_free (fuel := 9) (i := 3) (v := ?_) rfl (by kernel_rfl) (by kernel_rfl) (by kernel_rfl) (by kernel_rfl) (fun _ _ _ h => h) (.inr SY) ?_ (by rfl) ?_
      rotate_left
      · intro w'; go_simp; (try with_reducible rfl)
      simp only [Act.put, List.getElem_toArray, List.getElem_cons_zero, List.getElem_cons_succ, List.setIfInBounds_toArray, List.set_cons_zero, List.set_cons_succ]
      refine wpAnyB_load [4,11] (fuel := 8) (i := 4) (v := ?_) rfl (by kernel_rfl) (by kernel_rfl) (by kernel_rfl) (by kernel_rfl) (by kernel_rfl) (fun _ _ _ h => h) (.inr SY) ?_ (by rfl) ?_
      rotate_left
      · intro w' hw'; obtain ⟨m0, m1, m2⟩ := hw'; go_simp; (try with_reducible rfl)
      simp only [Act.put, List.getElem_toArray, List.getElem_cons_zero, List.getElem_cons_succ, List.setIfInBounds_toArray, List.set_cons_zero, List.set_cons_succ]
      refine wpAnyB_free (fuel := 7) (i := 5) (v := ?_) rfl (by kernel_rfl) (by kernel_rfl) (by kernel_rfl) (by kernel_rfl) (fun _ _ _ h => h) (.inr SY) ?_ (by rfl) ?_
      rotate_left
      · intro w'; go_simp; (try with_reducible rfl)
      simp only [Act.put, List.getElem_toArray, List.getElem_cons_zero, List.getElem_cons_succ, List.setIfInBounds_toArray, List.set_cons_zero, List.set_cons_succ]
      refine wpAnyB_load [6,8,9,10,11] (fuel := 6) (i := 6) (v := ?_) rfl (by kernel_rfl) (by kernel_rfl) (by kernel_rfl) (by kernel_rfl) (by kernel_rfl) (fun _ _ _ h => h) (.inr SY) ?_ (by rfl) ?_
      rotate_left
      · intro w' hw'; obtain ⟨m0, m1, m2⟩ := hw'; go_simp; (try with_reducible rfl)
      simp only [Act.put, List.getElem_toArray, List.getElem_cons_zero, List.getElem_cons_succ, List.setIfInBounds_toArray, List.set_cons_zero, List.set_cons_succ]
      refine wpAnyB_free (fuel := 5) (i := 7) (v := ?_) rfl (by kernel_rfl) (by kernel_rfl) (by kernel_rfl) (by kernel_rfl) (fun _ _ _ h => h) (.inr SY) ?_ (by rfl) ?_
      rotate_left
      · intro w'; go_simp; (try with_reducible rfl)
      simp only [Act.put, List.getElem_toArray, List.getElem_cons_zero, List.getElem_cons_succ, List.setIfInBounds_toArray, List.set_cons_zero, List.set_cons_succ]
      refine wpAnyB_free (fuel := 4) (i := 8) (v := .pointer (some ⟨b, off + k * 4, none⟩)) rfl (by kernel_rfl) (by kernel_rfl) (by kernel_rfl) (by kernel_rfl) (fun _ _ _ h => h) (.inr SY) ?_ (by rfl) ?_
      · intro w'; go_simp; (try (intro hh; omega))
      simp only [Act.put, List.getElem_toArray, List.getElem_cons_zero, List.getElem_cons_succ, List.setIfInBounds_toArray, List.set_cons_zero, List.set_cons_succ]
      refine wpAnyB_free (fuel := 3) (i := 9) (v := ?_) rfl (by kernel_rfl) (by kernel_rfl) (by kernel_rfl) (by kernel_rfl) (fun _ _ _ h => h) (.inr SY) ?_ (by rfl) ?_
      rotate_left
      · intro w'; go_simp; (try with_reducible rfl)
      simp only [Act.put, List.getElem_toArray, List.getElem_cons_zero, List.getElem_cons_succ, List.setIfInBounds_toArray, List.set_cons_zero, List.set_cons_succ]
      refine wpAnyB_load [10,11] (fuel := 2) (i := 10) (v := ?_) rfl (by kernel_rfl) (by kernel_rfl) (by kernel_rfl) (by kernel_rfl) (by kernel_rfl) (fun _ _ _ h => h) (.inr SY) ?_ (by rfl) ?_
      rotate_left
      · intro w' hw'; obtain ⟨m0, m1, m2⟩ := hw'; go_simp; (try with_reducible rfl)
      simp only [Act.put, List.getElem_toArray, List.getElem_cons_zero, List.getElem_cons_succ, List.setIfInBounds_toArray, List.set_cons_zero, List.set_cons_succ]
      refine wpAnyB_one (fuel := 1) (i := 11) rfl (by kernel_rfl) ?_
      intro KB hKB
      go_simp
      refine HKE.out.mono ?_
      rintro e wA ⟨rfl, gA⟩
      have spA := Lib.hid (HSP.out.trans ((Span.refl B E wr).drew.trans (span_grown gA (show B ≤ wr.drew.heap.size from hBr) (fun j hj => by cases hj; exact ⟨hgB, hgE2⟩))))
      have kA : Keep B [53] wr.drew wA := keep_grown gA (show B ≤ wr.drew.heap.size from hBr) (fun j hj => by cases hj; obtain ⟨_, cs, hcs⟩ := HAG.out; exact ⟨hgB, cs, _, _, hcs, by simp⟩)
      have rA := Lib.hid (kA.own (show wr.drew.ownsRow B 48 4 _ _ _ from HR.out) (by decide))
      have aA := Lib.hid (fun j (hj : j < ps.length) (h1 : k + 1 ≤ j) => latt_kept (show LAtt wr.drew B ps[j] from HA.out j hj (by omega)) gA (by have := List.pairwise_iff_getElem.1 HL1.out.pw k j hkp hj (by omega); rw [HE2.out] at this; intro hh; exact this hh.symm))
      clear gA kA
      refine hKB _ _ (.inl (by kernel_rfl)) ?_
      (try simp only [Act.put, List.getElem_toArray, List.getElem_cons_zero, List.getElem_cons_succ, List.setIfInBounds_toArray, List.set_cons_zero, List.set_cons_succ])
      refine wpAnyB_free (fuel := 0) (i := 12) (v := ?_) rfl (by kernel_rfl) (by kernel_rfl) (by kernel_rfl) (by kernel_rfl) (fun _ _ _ h => h) (.inl (by kernel_rfl)) ?_ (by rfl) ?_
      rotate_left
      · intro w'; go_simp; (try with_reducible rfl)
      simp only [Act.put, List.getElem_toArray, List.getElem_cons_zero, List.getElem_cons_succ, List.setIfInBounds_toArray, List.set_cons_zero, List.set_cons_succ]
      refine wpAnyB_done (by kernel_rfl) ?_
      go_wp2_with fail
      go_roundw
      case rel => exact ⟨k + 1, rfl, by go_num, by omega, spA.out, rA.out, aA.out⟩
      case measure => simp [intOf]; omega
    · have hkn : k = ops.length := by omega
      subst hkn
      have HR := Lib.hid hr
      have HSP := Lib.hid hS
      clear hS hr hA hlt hk
      go_wp2_with fail
      obtain ⟨wo, rfl⟩ : ∃ wo : World, wo = wr := ⟨_, rfl⟩
      go_loopw [10] (fun i wr => ∃ (k : Nat) (xs : List Value), i = .int .i64 (k : Int) ∧ k ≤ ops.length + 1 ∧ Span B E W wr ∧ wr.ownsRow B 48 4 (.slice (some ⟨gg, 0, none⟩) (ops.length + 1) gc) (ops.length + 1) xs) (fun i _ => ops.length + 1 - (intOf i).toNat)
      case atStart => exact ⟨0, _, rfl, Nat.zero_le _, HSP.out, HR.out⟩
      case round =>
        obtain ⟨k, xs, rfl, hk, hS, hr⟩ := hrel
        by_cases hlt : k < ops.length + 1
        · have hlt' : (k : Int) < (ops.length : Int) + 1 := by omega
          have k0 : (0 : Int) ≤ (k : Int) := by omega
          obtain ⟨u0, z0⟩ := op_cell hr (j := k * 4) (by omega)
          obtain ⟨u1, z1⟩ := op_cell hr (j := k * 4 + 1) (by omega)
          obtain ⟨u2, z2⟩ := op_cell hr (j := k * 4 + 2) (by omega)
          obtain ⟨u3, z3⟩ := op_cell hr (j := k * 4 + 3) (by omega)
          have f0 : wr.frozen? ⟨gg, k * 4, none⟩ = false := hr.frozenAt _
          have f1 : wr.frozen? ⟨gg, k * 4 + 1, none⟩ = false := hr.frozenAt _
          have f2 : wr.frozen? ⟨gg, k * 4 + 2, none⟩ = false := hr.frozenAt _
          have f3 : wr.frozen? ⟨gg, k * 4 + 3, none⟩ = false := hr.frozenAt _
          obtain ⟨ys, hy, _⟩ := op_stored (k := k) hr (.int .i64 98) (.int .i64 0) (.string ⟨#[]⟩) (.slice none 0 0)
          have HY := Lib.hid hy
          have HS2 := Lib.hid (hS.trans (span_ops4 (k := k) hggB hgE (.int .i64 98) (.int .i64 0) (.string ⟨#[]⟩) (.slice none 0 0)))
          clear hS hr hy s0 s1
          go_wp2_with fail
          go_roundw
          case rel => exact ⟨k + 1, ys, by go_num, by omega, HS2.out, HY.out⟩
          case measure => simp [intOf]; omega
        · have hkn : k = ops.length + 1 := by omega
          subst hkn
          have HS2 := Lib.hid hS
          have t1 : decide ((ops.length : Int) + 1 < (ops.length : Int) + 1) = false := decide_eq_false (by omega)
          clear hS hr hlt hk s0 s1
          go_wp2_with fail
          go_ret
          exact ⟨rfl, (span_below HBW.out hBw).trans HS2.out⟩

def SpoilOutC (w : World) (B E : Nat) (e : Ending) (w' : World) : Prop := ∃ N : Int, e = .returned (.int .i64 N) ∧ 1 ≤ N ∧ N ≤ 4398046511104 ∧ Span B E w w'
set_option maxRecDepth 100000 in
set_option maxHeartbeats 8000000 in
theorem spoilC_any (f : Int) (v : Value) (B E : Nat) (ps : List PA) (w : World) (h : OwnP w B v ps) (hz : SmallO (ps.map (·.1))) (hvE : ∀ j, v.ownBlock = some j → j < E) (haE : ∀ q ∈ ps, ∀ j, q.2.ownBlock = some j → j < E) (hEw : E ≤ w.heap.size) (hBw : B ≤ w.heap.size) :
    Calls Tryz.prog 22 #[chAgg f v] w (SpoilOutC w B E) := by
  have hn : ps.length ≤ 1048576 := by have := hz.1; rwa [List.length_map] at this
  obtain ⟨va, vc, rfl⟩ := own_slice h.1
  obtain ⟨W, hW⟩ : ∃ W, W = w.alloc (.cells #[.int .i64 f, .slice va ps.length vc] 24) := ⟨_, rfl⟩
  have BW : Below w.heap.size w W := by rw [hW]; exact below_box _ _
  have b0 : W.heap[w.heap.size]? = some (.cells #[.int .i64 f, .slice va ps.length vc] 24 (0, 0)) := by rw [hW]; exact heap_new _ _
  have hP := h.keep (keep_below (ts := []) BW (Nat.le_refl _)) (by simp) (by simp)
  have HP := Lib.hid hP
  have HB0 := Lib.hid b0
  have HW := Lib.hid hW
  have HBW := Lib.hid BW
  have HAE := Lib.hid haE
  have HVE := Lib.hid hvE
  have HZ := Lib.hid (fun q (hq : q ∈ ps) => (hz.2 q.1 (List.mem_map.2 ⟨q, hq, rfl⟩)).2.1)
  have hWs : w.heap.size + 1 = W.heap.size := by rw [hW]; simp
  obtain ⟨i0, hi, hz0, hz1, hz2⟩ := info_parts infoOp
  have Hi := Lib.hid (And.intro hi (And.intro hz0 (And.intro hz1 hz2)))
  clear h hz hvE haE hW BW b0 hP hi hz0 hz1 hz2
  go_enter Tryz.func22, Tryz.ntmps22
  go_wp2_with fail
  rw [← HW.out]
  go_wp2_with fail
  go_loopw [3, 4] (fun s i wr => ∃ (k : Nat) (m : Int) (xs : List Value), s = .int .i64 m ∧ i = .int .i64 (k : Int) ∧ k ≤ ps.length ∧ 0 ≤ m ∧ m ≤ 2097152 * (k : Int) ∧ Span B E W wr ∧ wr.ownsRow B 48 4 (.slice va ps.length vc) ps.length xs ∧ (∀ j, k * 4 ≤ j → xs[j]? = (flatO ps)[j]?) ∧ (∀ q ∈ ps, ∃ ys, wr.ownsRow B 53 2 q.2 q.1.attrs.length ys)) (fun _ i _ => ps.length - (intOf i).toNat)
  case atStart => exact ⟨0, 0, _, rfl, rfl, Nat.zero_le _, Int.le_refl _, by omega, Span.refl _ _ _, HP.out.1, fun _ _ => rfl, fun q hq => ⟨_, HP.out.2 q hq⟩⟩
  case round =>
    obtain ⟨k, m, xs, rfl, rfl, hk, hm0, hm1, hS, hr, hx, hA⟩ := hrel
    have xb0 := (hS.block _ (show w.heap.size < W.heap.size by omega) hEw).trans HB0.out
    have s0 : wr.cell? ⟨w.heap.size, 1, none⟩ = some (.slice va ps.length vc) := (Lib.cell_of_heap xb0 1).trans rfl
    have hBr : B ≤ wr.heap.size := by have := hS.below.size; omega
    by_cases hlt : k < ps.length
    · have hlt' : (k : Int) < (ps.length : Int) := by omega
      have k0 : (0 : Int) ≤ (k : Int) := by omega
      obtain ⟨gg, cap, he⟩ := ownsRow_open hr (by omega)
      simp only [Value.slice.injEq, true_and] at he
      obtain ⟨rfl, rfl⟩ := he
      obtain ⟨q, hq⟩ : ∃ q, q = ps[k] := ⟨_, rfl⟩
      have hqm : q ∈ ps := by rw [hq]; exact List.getElem_mem hlt
      obtain ⟨ys, hy⟩ := hA q hqm
      obtain ⟨qa, qc, hqv⟩ := own_slice hy
      have y3 : wr.cell? ⟨gg, k * 4 + 3, none⟩ = some (.slice qa q.1.attrs.length qc) := by
        rw [hr.cellAt (k * 4 + 3) (by omega), hx _ (by omega), flatO_at hlt 3 (by omega), ← hq]
        show some q.2 = _
        rw [hqv]
      have hql := HZ.out q hqm
      rw [hqv] at hy
      have HSP2 := Lib.hid (spoil2_any (.slice qa q.1.attrs.length qc) B q.1.attrs.length ys wr hy hql hBr)
      have hqE := Lib.hid (fun j (hj : (Value.slice qa q.1.attrs.length qc).ownBlock = some j) => And.intro (hy.lt j hj).1 (HAE.out q hqm j (by rw [hqv]; exact hj)))
      have HYH := Lib.hid (fun j (hj : (Value.slice qa q.1.attrs.length qc).ownBlock = some j) => own_row hy j hj)
      have hgE : gg < E := HVE.out gg rfl
      have hgB : B ≤ gg := (hr.lt gg rfl).1
      have HR := Lib.hid hr
      have HA := Lib.hid hA
      have HX := Lib.hid hx
      have HSP := Lib.hid hS
      clear hr hA hx hS hy hqv hq
      go_wp2_with fail
      refine HSP2.out.mono ?_
      rintro e w2 ⟨rfl, g2, sh2⟩
      have k2 : Keep B [53] wr w2 := keep_grown g2 hBr (fun j hj => by obtain ⟨h1, cs, fr, h2⟩ := HYH.out j hj; exact ⟨h1, cs, _, fr, h2, by simp⟩)
      have r2 := k2.own HR.out (by decide)
      have sp2 := HSP.out.trans (span_grown g2 hBr (fun j hj => hqE.out j hj))
      obtain ⟨u0, z0⟩ := op_cell r2 (j := k * 4) (by omega)
      obtain ⟨u1, z1⟩ := op_cell r2 (j := k * 4 + 1) (by omega)
      obtain ⟨u2, z2⟩ := op_cell r2 (j := k * 4 + 2) (by omega)
      obtain ⟨u3, z3⟩ := op_cell r2 (j := k * 4 + 3) (by omega)
      have f0 : w2.frozen? ⟨gg, k * 4, none⟩ = false := r2.frozenAt _
      have f1 : w2.frozen? ⟨gg, k * 4 + 1, none⟩ = false := r2.frozenAt _
      have f2 : w2.frozen? ⟨gg, k * 4 + 2, none⟩ = false := r2.frozenAt _
      have f3 : w2.frozen? ⟨gg, k * 4 + 3, none⟩ = false := r2.frozenAt _
      obtain ⟨zs, hzs, hz3⟩ := op_stored (k := k) r2 (.int .i64 97) (.int .i64 0) (.string ⟨#[]⟩) (.slice none 0 0)
      have kk := keep_ops4 (k := k) r2 (.int .i64 97) (.int .i64 0) (.string ⟨#[]⟩) (.slice none 0 0)
      have HS3 := Lib.hid (sp2.trans (span_ops4 (k := k) hgB hgE (.int .i64 97) (.int .i64 0) (.string ⟨#[]⟩) (.slice none 0 0)))
      have xb2 := (sp2.block _ (show w.heap.size < W.heap.size by omega) hEw).trans HB0.out
      have s2 : w2.cell? ⟨w.heap.size, 1, none⟩ = some (.slice (some ⟨gg, 0, none⟩) ps.length vc) := (Lib.cell_of_heap xb2 1).trans rfl
      have HZS := Lib.hid hzs
      have HZ3 := Lib.hid (fun j (hj : (k + 1) * 4 ≤ j) => (hz3 j hj).trans (HX.out j (by omega)))
      have HA3 := Lib.hid (fun x (hx : x ∈ ps) => by obtain ⟨ys, hy⟩ := HA.out x hx; obtain ⟨ys', hy'⟩ := sh2.own hy; exact (⟨ys', kk.own hy' (by decide)⟩ : ∃ ys, _))
      clear g2 sh2 k2 r2 sp2 hzs hz3 kk xb2 s0 y3
      go_wp2_with fail
      go_roundw
      case rel => exact ⟨k + 1, m + ((q.1.attrs.length : Int) + 1), zs, by go_num, by go_num, by omega, by omega, by omega, HS3.out, HZS.out, HZ3.out, HA3.out⟩
      case measure => simp [intOf]; omega
    · have hkn : k = ps.length := by omega
      subst hkn
      have HR := Lib.hid hr
      have HSP := Lib.hid hS
      have HXB := Lib.hid xb0
      have hcb : w.heap.size < wr.heap.size := by have := hS.below.size; omega
      clear hr hA hx hS hlt hk xb0
      have hA : (wr.alloc (.cells #[.int .i64 96, .int .i64 0, .string ⟨#[]⟩, .slice none 0 0] 48)).heap.size = wr.heap.size + 1 := by simp
      have HA := Lib.hid hA
      clear hA
      go_wp2_with (at_builtin; refine wpList_append_new rfl (.tmp 27) (.tmp 29) 22 rfl 48 i0 (.agg #[.int .i64 0, .int .i64 0, .string ⟨#[]⟩, .slice none 0 0]) 4 56 Tryz.underlying22 Hi.out.1 Hi.out.2.1 Hi.out.2.2.1 Hi.out.2.2.2 rfl (by decide) B (.slice va ps.length vc) ps.length xs rfl (HR.out.alloc _) ⟨wr.heap.size, 0, none⟩ 1 1 [.int .i64 96, .int .i64 0, .string ⟨#[]⟩, .slice none 0 0] rfl rfl (new_at4 _ _ _ _ _ _) (fun u hu => by simp at hu; rcases hu with rfl | rfl | rfl | rfl <;> rfl) (by unfold maxLen; omega) (by omega) (by have := HA.out; omega) ?_; intro v' w5 oC gC _; obtain ⟨oa', oc', rfl⟩ := own_slice oC; have x5 := (gC.block w.heap.size (by have := HA.out; omega) (fun e => by have := HVE.out _ e.symm; omega)).trans ((Below.heap_alloc _ _ _ hcb).trans HXB.out); have e1 : w5.cell? ⟨w.heap.size, 1, none⟩ = some (.slice va ps.length vc) := (Lib.cell_of_heap x5 1).trans rfl; have e2 : w5.frozen? ⟨w.heap.size, 1, none⟩ = false := Lib.frozen_of_heap x5 1; have SP5 := Lib.hid ((span_alloc HSP.out (by omega) _).trans (span_grown gC (by have := HA.out; omega) (fun j hj => ⟨(HR.out.lt j hj).1, HVE.out j hj⟩))); clear oC gC x5)
      go_ret
      exact ⟨_, rfl, by omega, by omega, span_new ((span_below HBW.out hBw).trans SP5.out) (Nat.le_refl _) hBw _⟩
end Go.Proofs.YtadookafnfnaoaaGreatDoor
/- What the laws of changesets keep: boxes. -/
namespace Go.Proofs.YtadookafnfnaoaaGreatDoor
open Go.RowKit Ch

theorem small_t {ops : List OpD} (h : SmallO ops) : TSmall ops := fun o ho => (h.2 o ho).1
/-- Boxes of changesets. -/
def Boxes (w : World) (L : List (Nat × Array Value)) : Prop := ∀ x ∈ L, w.heap[x.1]? = some (.cells x.2 24 (0, 0))
theorem Boxes.below {w w' : World} {L : List (Nat × Array Value)} (h : Boxes w L) (hb : Below w.heap.size w w') : Boxes w' L := fun x hx => (hb.block _ (lt_of_heap (h x hx))).trans (h x hx)
theorem Boxes.span {w w' : World} {lo hi : Nat} {L : List (Nat × Array Value)} (h : Boxes w L) (hb : Span lo hi w w') (ho : ∀ x ∈ L, x.1 < lo ∨ hi ≤ x.1) : Boxes w' L := fun x hx => by
  have hl := lt_of_heap (h x hx)
  rcases ho x hx with h1 | h1
  · exact (hb.below.block _ h1).trans (h x hx)
  · exact (hb.block _ hl h1).trans (h x hx)
theorem Boxes.more {w : World} {L : List (Nat × Array Value)} (h : Boxes w L) (cs : Array Value) : Boxes (w.alloc (.cells cs 24)) (L ++ [(w.heap.size, cs)]) := fun x hx => by
  rcases List.mem_append.1 hx with hx | hx
  · exact (h.below (below_box w _)) x hx
  · rw [List.mem_singleton.1 hx]; exact heap_new _ _
theorem Boxes.at {w : World} {L : List (Nat × Array Value)} (h : Boxes w L) {b : Nat} {u v : Value} (hx : (b, #[u, v]) ∈ L) : w.cell? ⟨b, 0, none⟩ = some u ∧ w.cell? ⟨b, 1, none⟩ = some v ∧ b < w.heap.size :=
  ⟨(Lib.cell_of_heap (h _ hx) 0).trans rfl, (Lib.cell_of_heap (h _ hx) 1).trans rfl, lt_of_heap (h _ hx)⟩
end Go.Proofs.YtadookafnfnaoaaGreatDoor
/- The document's quote: a text in quotes. -/
namespace Go.Proofs.YtadookafnfnaoaaGreatDoor
open Go.RowKit Ch

theorem newU8 (w : World) (l : List Value) (t : TypeId) (j : Nat) (u : Value) (h : l[j]? = some u) : (w.alloc (.cells l.toArray t)).cell? ((⟨w.heap.size, 0, none⟩ : Addr).add j) = some u := by
  have e : ((⟨w.heap.size, 0, none⟩ : Addr).add j) = ⟨w.heap.size, j, none⟩ := by
    cases j <;> simp [Addr.add]
  rw [e, World.cell?_alloc_at _ _ _ _ rfl]
  simpa using h
/-- A row of bytes of one's own. -/
def OwnB (w : World) (B : Nat) (v : Value) (l : List UInt8) : Prop := w.ownsRow B 5 1 v l.length (Lib.byteCells l)
theorem OwnB.step {w wr w1 : World} {B : Nat} {v v' : Value} {l m : List UInt8} {o : Obj} {vals : List Value} (hown : OwnB wr B v l) (hbw : Below B w wr) (hB : B ≤ w.heap.size) (he : Lib.byteCells m = vals)
    (ho : w1.ownsRow B 5 1 v' (l.length + vals.length) (Lib.byteCells l ++ vals)) (hg : (wr.alloc o).grownBy w1 v.ownBlock) : OwnB w1 B v' (l ++ m) ∧ Below B w w1 := by
  refine ⟨?_, (hbw.alloc (Nat.le_trans hB hbw.size) _).grown hg (by have := hbw.size; simp; omega) (fun j hj => (hown.lt j hj).1)⟩
  unfold OwnB
  have e : m.length = vals.length := by rw [← he]; simp [Lib.byteCells]
  rw [Lib.byteCells_append, he, List.length_append, e]
  exact ho
theorem dg_at2 : ∀ n (h : n < 16), (⟨#[48, 49, 50, 51, 52, 53, 54, 55, 56, 57, 97, 98, 99, 100, 101, 102]⟩ : ByteArray)[n]'h = Sp.hexd n := by decide
theorem qb_take2 (s : ByteArray) (k : Nat) (h : k < s.size) : (s.data.toList.take (k + 1)).flatMap Sp.qb = (s.data.toList.take k).flatMap Sp.qb ++ Sp.qb s[k] := by
  have hl : k < s.data.toList.length := h
  rw [List.take_succ_eq_append_getElem hl, List.flatMap_append]
  simp
  rfl
theorem qb_le2 (l : List UInt8) : (l.flatMap Sp.qb).length ≤ 4 * l.length := by
  have := Sp.qt_len l
  simp only [Sp.qt, List.length_cons, List.length_append, List.length_nil] at this
  omega

theorem wrap_u8 {x : Int} (h0 : 0 ≤ x) (h1 : x < 256) : IntKind.u8.wrap x = x := by
  simp [IntKind.wrap, IntKind.bits, IntKind.signed]; omega
theorem b_is' {x c : UInt8} {n : Int} (hc : (c.toNat : Int) = n) (h : x = c) : ((x.toNat : Int) == n) = true := by subst h; rw [hc]; exact beq_self_eq_true n
theorem b_not' {x c : UInt8} {n : Int} (hc : (c.toNat : Int) = n) (h : x ≠ c) : ((x.toNat : Int) == n) = false := by
  rw [beq_eq_false_iff_ne]
  exact fun e => h (Sp.b_eq.2 (by omega))
set_option maxRecDepth 100000 in
set_option maxHeartbeats 8000000 in
theorem refQuote_any (s : ByteArray) (w : World) (hs : s.size ≤ 1048576) :
    Calls Tryz.prog 40 #[.string s] w fun e w' => e = .returned (.string (Sp.ba (Sp.qt s.data.toList))) ∧ Below w.heap.size w w' := by
  obtain ⟨i0, hi, hz0, hz1, hz2⟩ := info_parts infoU8
  have Hi := Lib.hid (show _ ∧ _ ∧ _ ∧ _ from ⟨hi, hz0, hz1, hz2⟩)
  clear hi hz0 hz1 hz2
  go_enter Tryz.func40, Tryz.ntmps40
  go_wp2_with fail
  go_loopg [3, 4] s.size (fun gk v i wr => ∃ k : Nat, s.size ≤ gk + k ∧ i = .int .i64 (k : Int) ∧ k ≤ s.size ∧ OwnB wr w.heap.size v ([34] ++ (s.data.toList.take k).flatMap Sp.qb) ∧ Below w.heap.size w wr)
  case atStart => exact ⟨0, by omega, rfl, Nat.zero_le _, by rw [List.take_zero]; exact World.ownsRow_lit w #[.int .u8 34] 1 (Nat.le_refl _) (by decide) rfl, below_box _ _⟩
  case round =>
    obtain ⟨k, hgk, rfl, hk, hown, hbw⟩ := hrel
    obtain ⟨oa, oc, rfl⟩ := owns_shape hown
    have Hbw := Lib.hid hbw
    have hlen := qb_le2 (s.data.toList.take k)
    rw [List.length_take, show s.data.toList.length = s.size from rfl, Nat.min_eq_left hk] at hlen
    have hl2 : ([34] ++ (s.data.toList.take k).flatMap Sp.qb : List UInt8).length ≤ 4194305 := by simp only [List.length_append, List.length_cons, List.length_nil]; omega
    generalize hL : ([34] ++ (s.data.toList.take k).flatMap Sp.qb : List UInt8) = L at *
    have Hown := Lib.hid hown
    have HL := Lib.hid hL
    clear hown hbw hL
    by_cases hlt : k < s.size
    · have hlt' : (k : Int) < (s.size : Int) := by omega
      by_cases h9 : s[k] = 34 ∨ s[k] = 92
      · have HQ := Lib.hid (show Sp.qb s[k] = [92, s[k]] by rcases h9 with h | h <;> rw [h] <;> rfl)
        by_cases h34 : s[k] = 34
        · have k2 := b_is' (n := 34) rfl h34
          clear h9 h34
          have HV := Lib.hid (show Lib.byteCells [92, s[k]] = [.int .u8 92, .int .u8 (s[k].toNat : Int)] by rfl)
          have hown := Hown.out
          have hi := Hi.out.1
          have hz0 := Hi.out.2.1
          have hz1 := Hi.out.2.2.1
          have hz2 := Hi.out.2.2.2
          go_wp2_with (first | (at_builtin; refine wpList_append_own _ rfl _ _ 57 rfl w.heap.size 5 i0 (.int .u8 0) 1 1 Tryz.underlying57 hi hz0 hz1 hz2 rfl (by decide) _ _ _ rfl (World.ownsRow.alloc hown _) ⟨wr.heap.size, 0, none⟩ 2 2 [.int .u8 92, .int .u8 (s[k].toNat : Int)] rfl rfl ?_ ?_ ?_ ?_ ?_ ?_))
          all_goals
            first
              | rfl
              | (intro u hu; simp at hu; rcases hu with rfl | rfl | rfl | rfl <;> rfl)
              | (intro u hu; simp at hu; rcases hu with rfl | rfl <;> rfl)
              | (intro u hu; simp at hu; subst hu; rfl)
              | (unfold maxLen; omega)
              | omega
              | (have := Hbw.out.size; simp; omega)
              | exact fun j u hj => newU8 _ _ _ j u hj
              | (intro v' w1 hown' hgrow _
                 clear hown hi hz0 hz1 hz2
                 have hst := Lib.hid (OwnB.step Hown.out Hbw.out (Nat.le_refl _) HV.out hown' hgrow)
                 clear hown' hgrow
                 go_wp2_with fail
                 go_roundg (gk - 1)
                 case measure => omega
                 case rel => exact ⟨k + 1, by omega, by go_num, by omega, by rw [qb_take2 s k hlt, ← List.append_assoc, HQ.out, HL.out]; exact hst.out.1, hst.out.2⟩)
        · have k2 := b_not' (n := 34) rfl h34
          have k3 := b_is' (n := 92) rfl (h9.resolve_left h34)
          clear h9 h34
          have HV := Lib.hid (show Lib.byteCells [92, s[k]] = [.int .u8 92, .int .u8 (s[k].toNat : Int)] by rfl)
          have hown := Hown.out
          have hi := Hi.out.1
          have hz0 := Hi.out.2.1
          have hz1 := Hi.out.2.2.1
          have hz2 := Hi.out.2.2.2
          go_wp2_with (first | (at_builtin; refine wpList_append_own _ rfl _ _ 57 rfl w.heap.size 5 i0 (.int .u8 0) 1 1 Tryz.underlying57 hi hz0 hz1 hz2 rfl (by decide) _ _ _ rfl (World.ownsRow.alloc hown _) ⟨wr.heap.size, 0, none⟩ 2 2 [.int .u8 92, .int .u8 (s[k].toNat : Int)] rfl rfl ?_ ?_ ?_ ?_ ?_ ?_))
          all_goals
            first
              | rfl
              | (intro u hu; simp at hu; rcases hu with rfl | rfl | rfl | rfl <;> rfl)
              | (intro u hu; simp at hu; rcases hu with rfl | rfl <;> rfl)
              | (intro u hu; simp at hu; subst hu; rfl)
              | (unfold maxLen; omega)
              | omega
              | (have := Hbw.out.size; simp; omega)
              | exact fun j u hj => newU8 _ _ _ j u hj
              | (intro v' w1 hown' hgrow _
                 clear hown hi hz0 hz1 hz2
                 have hst := Lib.hid (OwnB.step Hown.out Hbw.out (Nat.le_refl _) HV.out hown' hgrow)
                 clear hown' hgrow
                 go_wp2_with fail
                 go_roundg (gk - 1)
                 case measure => omega
                 case rel => exact ⟨k + 1, by omega, by go_num, by omega, by rw [qb_take2 s k hlt, ← List.append_assoc, HQ.out, HL.out]; exact hst.out.1, hst.out.2⟩)
      · have k2 := b_not' (n := 34) rfl (fun h => h9 (.inl h))
        have k3 := b_not' (n := 92) rfl (fun h => h9 (.inr h))
        by_cases h10 : s[k] = 10
        · have k1 := b_is' (n := 10) rfl h10
          have HQ := Lib.hid (show Sp.qb s[k] = [92, 110] by rw [h10]; rfl)
          clear h9 h10
          have HV := Lib.hid (show Lib.byteCells [92, 110] = [.int .u8 92, .int .u8 110] by rfl)
          have hown := Hown.out
          have hi := Hi.out.1
          have hz0 := Hi.out.2.1
          have hz1 := Hi.out.2.2.1
          have hz2 := Hi.out.2.2.2
          go_wp2_with (first | (at_builtin; refine wpList_append_own _ rfl _ _ 57 rfl w.heap.size 5 i0 (.int .u8 0) 1 1 Tryz.underlying57 hi hz0 hz1 hz2 rfl (by decide) _ _ _ rfl (World.ownsRow.alloc hown _) ⟨wr.heap.size, 0, none⟩ 2 2 [.int .u8 92, .int .u8 110] rfl rfl ?_ ?_ ?_ ?_ ?_ ?_))
          all_goals
            first
              | rfl
              | (intro u hu; simp at hu; rcases hu with rfl | rfl | rfl | rfl <;> rfl)
              | (intro u hu; simp at hu; rcases hu with rfl | rfl <;> rfl)
              | (intro u hu; simp at hu; subst hu; rfl)
              | (unfold maxLen; omega)
              | omega
              | (have := Hbw.out.size; simp; omega)
              | exact fun j u hj => newU8 _ _ _ j u hj
              | (intro v' w1 hown' hgrow _
                 clear hown hi hz0 hz1 hz2
                 have hst := Lib.hid (OwnB.step Hown.out Hbw.out (Nat.le_refl _) HV.out hown' hgrow)
                 clear hown' hgrow
                 go_wp2_with fail
                 go_roundg (gk - 1)
                 case measure => omega
                 case rel => exact ⟨k + 1, by omega, by go_num, by omega, by rw [qb_take2 s k hlt, ← List.append_assoc, HQ.out, HL.out]; exact hst.out.1, hst.out.2⟩)
        · have k1 := b_not' (n := 10) rfl h10
          have hb := Sp.b_lt s[k]
          have j1 : 0 ≤ (s[k].toNat : Int) / 16 ∧ (s[k].toNat : Int) / 16 < 16 := by omega
          have j2 : 0 ≤ (s[k].toNat : Int) % 16 ∧ (s[k].toNat : Int) % 16 < 16 := by omega
          have i1 : s[k].toNat / 16 < 16 := by omega
          have wr1 := wrap_u8 (x := (s[k].toNat : Int) / 16) j1.1 (by omega)
          have wr2 := wrap_u8 (x := (s[k].toNat : Int) % 16) j2.1 (by omega)
          have i2 : s[k].toNat % 16 < 16 := by omega
          by_cases hc : Sp.ctl s[k] = true
          · have HQ := Lib.hid (show Sp.qb s[k] = [92, 120, Sp.hexd (s[k].toNat / 16), Sp.hexd (s[k].toNat % 16)] by unfold Sp.qb; rw [if_neg h10, if_pos hc])
            have hcc := of_decide_eq_true (show decide (s[k].toNat < 32 ∨ s[k].toNat = 127) = true from hc)
            by_cases h32 : s[k].toNat < 32
            · have h32' : (s[k].toNat : Int) < 32 := by omega
              clear h9 h10 hc hcc h32
              have HV := Lib.hid (show Lib.byteCells [92, 120, Sp.hexd (s[k].toNat / 16), Sp.hexd (s[k].toNat % 16)] = [.int .u8 92, .int .u8 120, .int .u8 ((⟨#[48, 49, 50, 51, 52, 53, 54, 55, 56, 57, 97, 98, 99, 100, 101, 102]⟩ : ByteArray)[s[k].toNat / 16].toNat : Int), .int .u8 ((⟨#[48, 49, 50, 51, 52, 53, 54, 55, 56, 57, 97, 98, 99, 100, 101, 102]⟩ : ByteArray)[s[k].toNat % 16].toNat : Int)] by rw [dg_at2 _ (by omega), dg_at2 _ (by omega)]; rfl)
              go_wp2_with fail
              go_region_held3 (fun _ => True) (trivial)
                (first | (refine step_append_own rfl (.tmp 44) (.tmp 51) 57 rfl 5 i0 (.int .u8 0) 1 1 Tryz.underlying57 Hi.out.1 Hi.out.2.1 Hi.out.2.2.1 Hi.out.2.2.2 rfl (by decide) w.heap.size _ L.length (Lib.byteCells L) rfl (World.ownsRow.alloc Hown.out _) ⟨wr.heap.size, 0, none⟩ 4 4 [.int .u8 92, .int .u8 120, .int .u8 ((⟨#[48, 49, 50, 51, 52, 53, 54, 55, 56, 57, 97, 98, 99, 100, 101, 102]⟩ : ByteArray)[s[k].toNat / 16].toNat : Int), .int .u8 ((⟨#[48, 49, 50, 51, 52, 53, 54, 55, 56, 57, 97, 98, 99, 100, 101, 102]⟩ : ByteArray)[s[k].toNat % 16].toNat : Int)] rfl rfl (newU8 _ _ _) (fun u hu => by simp at hu; rcases hu with rfl | rfl | rfl | rfl <;> rfl) (by unfold maxLen; omega) (by omega) (by have := Hbw.out.size; simp; omega) ?_; intro v' w1 hown' hgrow))
              all_goals
                have hst := Lib.hid (OwnB.step (wr := wr.drew) Hown.out Hbw.out.drew (Nat.le_refl _) HV.out hown' hgrow)
                clear hown' hgrow
                go_wp2_with fail
                go_roundg (gk - 1)
                case measure => omega
                case rel => exact ⟨k + 1, by omega, by go_num, by omega, by rw [qb_take2 s k hlt, ← List.append_assoc, HQ.out, HL.out]; exact hst.out.1, hst.out.2⟩
            · have h32' : ¬ (s[k].toNat : Int) < 32 := by omega
              have h127 : ((s[k].toNat : Int) == 127) = true := by rw [beq_iff_eq]; omega
              clear h9 h10 hc hcc h32
              have HV := Lib.hid (show Lib.byteCells [92, 120, Sp.hexd (s[k].toNat / 16), Sp.hexd (s[k].toNat % 16)] = [.int .u8 92, .int .u8 120, .int .u8 ((⟨#[48, 49, 50, 51, 52, 53, 54, 55, 56, 57, 97, 98, 99, 100, 101, 102]⟩ : ByteArray)[s[k].toNat / 16].toNat : Int), .int .u8 ((⟨#[48, 49, 50, 51, 52, 53, 54, 55, 56, 57, 97, 98, 99, 100, 101, 102]⟩ : ByteArray)[s[k].toNat % 16].toNat : Int)] by rw [dg_at2 _ (by omega), dg_at2 _ (by omega)]; rfl)
              go_wp2_with fail
              go_region_held3 (fun _ => True) (trivial)
                (first | (refine step_append_own rfl (.tmp 44) (.tmp 51) 57 rfl 5 i0 (.int .u8 0) 1 1 Tryz.underlying57 Hi.out.1 Hi.out.2.1 Hi.out.2.2.1 Hi.out.2.2.2 rfl (by decide) w.heap.size _ L.length (Lib.byteCells L) rfl (World.ownsRow.alloc Hown.out _) ⟨wr.heap.size, 0, none⟩ 4 4 [.int .u8 92, .int .u8 120, .int .u8 ((⟨#[48, 49, 50, 51, 52, 53, 54, 55, 56, 57, 97, 98, 99, 100, 101, 102]⟩ : ByteArray)[s[k].toNat / 16].toNat : Int), .int .u8 ((⟨#[48, 49, 50, 51, 52, 53, 54, 55, 56, 57, 97, 98, 99, 100, 101, 102]⟩ : ByteArray)[s[k].toNat % 16].toNat : Int)] rfl rfl (newU8 _ _ _) (fun u hu => by simp at hu; rcases hu with rfl | rfl | rfl | rfl <;> rfl) (by unfold maxLen; omega) (by omega) (by have := Hbw.out.size; simp; omega) ?_; intro v' w1 hown' hgrow))
              all_goals
                have hst := Lib.hid (OwnB.step (wr := wr.drew) Hown.out Hbw.out.drew (Nat.le_refl _) HV.out hown' hgrow)
                clear hown' hgrow
                go_wp2_with fail
                go_roundg (gk - 1)
                case measure => omega
                case rel => exact ⟨k + 1, by omega, by go_num, by omega, by rw [qb_take2 s k hlt, ← List.append_assoc, HQ.out, HL.out]; exact hst.out.1, hst.out.2⟩
          · have HQ := Lib.hid (show Sp.qb s[k] = [s[k]] by unfold Sp.qb; rw [if_neg h10, if_neg hc, if_neg h9])
            have hcc := of_decide_eq_false (show decide (s[k].toNat < 32 ∨ s[k].toNat = 127) = false from Bool.eq_false_iff.2 hc)
            have h32' : ¬ (s[k].toNat : Int) < 32 := by omega
            have h127 : ((s[k].toNat : Int) == 127) = false := by rw [beq_eq_false_iff_ne]; omega
            clear h9 h10 hc hcc
            have HV := Lib.hid (show Lib.byteCells [s[k]] = [.int .u8 (s[k].toNat : Int)] by rfl)
            have hown := Hown.out
            have hi := Hi.out.1
            have hz0 := Hi.out.2.1
            have hz1 := Hi.out.2.2.1
            have hz2 := Hi.out.2.2.2
            go_wp2_with (first | (at_builtin; refine wpList_append_own _ rfl _ _ 57 rfl w.heap.size 5 i0 (.int .u8 0) 1 1 Tryz.underlying57 hi hz0 hz1 hz2 rfl (by decide) _ _ _ rfl (World.ownsRow.alloc hown _) ⟨wr.heap.size, 0, none⟩ 1 1 [.int .u8 (s[k].toNat : Int)] rfl rfl ?_ ?_ ?_ ?_ ?_ ?_))
            all_goals
              first
                | rfl
                | (intro u hu; simp at hu; rcases hu with rfl | rfl | rfl | rfl <;> rfl)
                | (intro u hu; simp at hu; rcases hu with rfl | rfl <;> rfl)
                | (intro u hu; simp at hu; subst hu; rfl)
                | (unfold maxLen; omega)
                | omega
                | (have := Hbw.out.size; simp; omega)
                | exact fun j u hj => newU8 _ _ _ j u hj
                | (intro v' w1 hown' hgrow _
                   clear hown hi hz0 hz1 hz2
                   have hst := Lib.hid (OwnB.step Hown.out Hbw.out (Nat.le_refl _) HV.out hown' hgrow)
                   clear hown' hgrow
                   go_wp2_with fail
                   go_roundg (gk - 1)
                   case measure => omega
                   case rel => exact ⟨k + 1, by omega, by go_num, by omega, by rw [qb_take2 s k hlt, ← List.append_assoc, HQ.out, HL.out]; exact hst.out.1, hst.out.2⟩)
    · have hlt' : decide ((k : Int) < (s.size : Int)) = false := decide_eq_false (by omega)
      have hks : k = s.size := by omega
      have HV := Lib.hid (show Lib.byteCells [34] = [.int .u8 34] by rfl)
      have hown := Hown.out
      have hi := Hi.out.1
      have hz0 := Hi.out.2.1
      have hz1 := Hi.out.2.2.1
      have hz2 := Hi.out.2.2.2
      go_wp2_with (first | (at_builtin; refine wpList_append_own _ rfl _ _ 57 rfl w.heap.size 5 i0 (.int .u8 0) 1 1 Tryz.underlying57 hi hz0 hz1 hz2 rfl (by decide) _ _ _ rfl (World.ownsRow.alloc hown _) ⟨wr.heap.size, 0, none⟩ 1 1 [.int .u8 34] rfl rfl ?_ ?_ ?_ ?_ ?_ ?_))
      all_goals
        first
          | rfl
          | (intro u hu; simp at hu; rcases hu with rfl | rfl | rfl | rfl <;> rfl)
          | (intro u hu; simp at hu; rcases hu with rfl | rfl <;> rfl)
          | (intro u hu; simp at hu; subst hu; rfl)
          | (unfold maxLen; omega)
          | omega
          | (have := Hbw.out.size; simp; omega)
          | exact fun j u hj => newU8 _ _ _ j u hj
          | (intro v' w1 hown' hgrow _
             clear hown hi hz0 hz1 hz2
             have hst := Lib.hid (OwnB.step Hown.out Hbw.out (Nat.le_refl _) HV.out hown' hgrow)
             clear hown' hgrow
             obtain ⟨g, cap', hv'⟩ := ownsRow_open hst.out.1 (by simp)
             have hcv := fun wx => run_convert_bytes_back (P := Tryz.prog) wx 57 9 5 ⟨g, 0, none⟩ cap' (L ++ [34]) Tryz.underlying57 Tryz.underlying5 Tryz.underlying9
             have hcv2 := hcv w1 (fun j hj => World.ownsRow.cells hst.out.1 (by rw [hv']; rfl) j _ (by rw [Lib.byteCells, List.getElem?_map, List.getElem?_eq_getElem hj]; rfl))
             subst hv'
             clear hcv
             rw [show (L ++ [(34 : UInt8)]).length = L.length + 1 from List.length_append] at hcv2
             go_wp2_with fail
             go_ret
             refine ⟨?_, hst.out.2⟩
             have e : Sp.qt s.data.toList = L ++ [34] := by rw [← HL.out, hks, show s.data.toList.take s.size = s.data.toList from List.take_of_length_le (Nat.le_refl _)]; rfl
             rw [e]; rfl)
end Go.Proofs.YtadookafnfnaoaaGreatDoor
