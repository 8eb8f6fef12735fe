/- Texts of this seat, put together: ChParts, ChPartsWalk. -/
import Derived.Test.YtggjeiemofkfbaaGK2
import Derived.Test.YtggjeiemofkfbaaGK3
import Derived.Test.YtggjeiemofkfbaaGC2
/- A changeset's operations cut in two, or exchanged: what stays; rows of one's own whose attributes are another's. -/
namespace Go.Proofs.Ytggjeiemofkfbaa
open Go.RowKit Ch

structure Parts (D pre : List OpD) : Prop where
  fold : fold D = fold pre
  allE : allE D
  kd : kd D = kd pre
  dl : dl D = dl pre
  ins : Ch.ins D = Ch.ins pre
  len : D.length ≤ 2 * pre.length
theorem Parts.nil : Parts [] [] := ⟨rfl, (fun o h => by cases h), rfl, rfl, rfl, Nat.zero_le _⟩
theorem Parts.one {D pre : List OpD} {o : OpD} (h : Parts D pre) (ho : opE o = 0) : Parts (D ++ [o]) (pre ++ [o]) :=
  ⟨by rw [fold_snoc, fold_snoc, h.fold], fun x hx => by
    rcases List.mem_append.1 hx with hx | hx
    · exact h.allE x hx
    · obtain rfl : x = o := by simpa using hx
      exact ho, by rw [kd_append, kd_append, h.kd], by rw [dl_append, dl_append, h.dl], by rw [ins_append, ins_append, h.ins], by have := h.len; simp; omega⟩
theorem opE_with {o : OpD} {n : Int} (ho : opE o = 0) (hk : o.kind ≠ 2) (hn : 1 ≤ n) : opE { o with n := n } = 0 := by
  rcases opE_kind ho with k | k | k
  · have h := (opE_keep k).1 ho
    exact (opE_keep (o := { o with n := n }) k).2 ⟨hn, h.2.1, h.2.2⟩
  · exact absurd k hk
  · have h := (opE_cut k).1 ho
    exact (opE_cut (o := { o with n := n }) k).2 ⟨hn, h.2.1, h.2.2⟩
theorem Parts.two {D pre : List OpD} {o : OpD} (h : Parts D pre) (hs : 0 ≤ (Ch.fold pre).2) (ho : opE o = 0) (hk : o.kind ≠ 2) (h1 : 1 < o.n) : Parts (D ++ [{ o with n := 1 }, { o with n := o.n - 1 }]) (pre ++ [o]) := by
  have e : D ++ [{ o with n := 1 }, { o with n := o.n - 1 }] = (D ++ [{ o with n := 1 }]) ++ [{ o with n := o.n - 1 }] := by simp
  refine ⟨?_, fun x hx => ?_, ?_, ?_, ?_, by have := h.len; simp; omega⟩
  · rw [e, fold_snoc, fold_snoc, fold_snoc, h.fold]
    exact add_two ho hk hs h1
  · rcases List.mem_append.1 hx with hx | hx
    · exact h.allE x hx
    · simp only [List.mem_cons, List.not_mem_nil, or_false] at hx
      rcases hx with rfl | rfl
      · exact opE_with ho hk (by omega)
      · exact opE_with ho hk (by omega)
  · rw [kd_append, kd_append, h.kd]; simp only [Ch.kd, if_neg hk]; omega
  · rw [dl_append, dl_append, h.dl]; simp only [Ch.dl]; split <;> omega
  · rw [ins_append, ins_append, h.ins]; simp only [Ch.ins, if_neg hk]; omega
theorem Parts.swap {D pre : List OpD} {o d : OpD} (h : Parts (D ++ [d]) pre) (ho : opE o = 0) (hk : o.kind = 2) (hd : d.kind = 3) : Parts (D ++ [o] ++ [d]) (pre ++ [o]) := by
  refine ⟨?_, fun x hx => ?_, ?_, ?_, ?_, by have := h.len; simp at this ⊢; omega⟩
  · rw [fold_snoc, fold_snoc, fold_snoc, ← h.fold, fold_snoc]
    exact add_swap hk hd
  · have := h.allE x
    simp only [List.mem_append, List.mem_singleton] at hx this
    rcases hx with (hx | rfl) | hx
    · exact this (.inl hx)
    · exact ho
    · exact this (.inr hx)
  · have := h.kd; rw [kd_append] at this; rw [kd_append, kd_append, kd_append]; omega
  · have := h.dl; rw [dl_append] at this; rw [dl_append, dl_append, dl_append]; omega
  · have := h.ins; rw [ins_append] at this; rw [ins_append, ins_append, ins_append]; omega
theorem Parts.done {f : Int} {D ops : List OpD} (h : Parts D ops) (hc : OkC f ops) : (2000 < D.length ∧ toE f D = 2) ∨ (toE f D = 0 ∧ norm D = norm ops) := by
  obtain ⟨h1, h2, h3, h4, h5, h6⟩ := hc
  by_cases hl : 2000 < D.length
  · exact .inl ⟨hl, by unfold toE; rw [if_neg (by omega), if_pos hl]⟩
  · exact .inr ⟨(toE_iff f D).2 ⟨h1, h2, by omega, h.allE, by rw [h.kd]; exact h5, by rw [h.dl, h.ins]; exact h6⟩, by unfold norm; rw [h.fold]⟩
theorem fold_pos {ops : List OpD} (i : Nat) {f : Int} (hc : OkC f ops) : 0 ≤ (Ch.fold (ops.take i)).2 := by
  have ha : allE (ops.take i) := fun o ho => hc.2.2.2.1 o (List.mem_of_mem_take ho)
  have hi : Ch.ins (ops.take i) ≤ 20000 := by
    have e : Ch.ins ops = Ch.ins (ops.take i) + Ch.ins (ops.drop i) := by rw [← ins_append, List.take_append_drop]
    have := ins_nonneg (ops.drop i)
    have := hc.ins
    omega
  exact (fold_all ha hi).2.1

/-- A row of operations of one's own, whose attributes are others' rows below a base. -/
def LentP (w0 w : World) (v : Value) (ps : List (OpD × Value)) : Prop :=
  w.ownsRow w0.heap.size 40 4 v ps.length (flatO ps) ∧ ∀ p ∈ ps, AtRow w0 p.2 p.1.attrs ∧ Proper p.2 ∧ p.1.text.size ≤ maxLen ∧ Sized p.1.attrs
theorem LentP.row {w0 w : World} {v : Value} {ps : List (OpD × Value)} (h : LentP w0 w v ps) (hb : Below w0.heap.size w0 w) : OpRow w v (ps.map (·.1)) := by
  have hl : (ps.map (·.1)).length = ps.length := by simp
  rcases h.1.2 with ⟨rfl, h0⟩ | ⟨g, cap, cur, rfl, _, hg, hn, hm, _⟩
  · have : ps = [] := List.length_eq_zero_iff.1 h0
    subst this
    exact OpRow.nil w
  · refine ⟨_, cap, by rw [hl], by omega, hm, fun i hi => ?_⟩
    have hi' : i < ps.length := by omega
    refine ⟨g, 0, rfl, lt_of_heap hg, ps[i].2, ?_, ?_, ?_⟩
    · rw [List.getElem_map]
      exact (h.2 _ (List.getElem_mem hi')).1.below hb
    · exact (h.2 _ (List.getElem_mem hi')).2.1
    · have e : ∀ j, j < 4 → w.cell? ⟨g, 0 + i * 4 + j, none⟩ = (opCells ps[i])[j]? := fun j hj => by
        rw [Nat.zero_add, h.1.cellAt _ (by omega), flatO_at hi' j hj]
      rw [List.getElem_map]
      exact ⟨e 0 (by omega), e 1 (by omega), e 2 (by omega), e 3 (by omega)⟩
theorem LentP.more {w0 w w' : World} {v v' : Value} {ps qs : List (OpD × Value)} (h : LentP w0 w v ps) (ho : w'.ownsRow w0.heap.size 40 4 v' (ps.length + qs.length) (flatO ps ++ flatO qs)) (hq : ∀ p ∈ qs, AtRow w0 p.2 p.1.attrs ∧ Proper p.2 ∧ p.1.text.size ≤ maxLen ∧ Sized p.1.attrs) : LentP w0 w' v' (ps ++ qs) :=
  ⟨by rw [List.length_append]; unfold flatO at ho ⊢; rw [List.flatMap_append]; exact ho, fun p hp => by
    rcases List.mem_append.1 hp with hp | hp
    · exact h.2 p hp
    · exact hq p hp⟩
theorem LentP.sized {w0 w : World} {v : Value} {ps : List (OpD × Value)} (h : LentP w0 w v ps) : OSized (ps.map (·.1)) := fun o ho => by
  obtain ⟨p, hp, rfl⟩ := List.mem_map.1 ho
  exact (h.2 p hp).2.2
end Go.Proofs.Ytggjeiemofkfbaa

/- The law ChangeParts, walked (written by tools/gen_parts.py). -/
namespace Go.Proofs.Ytggjeiemofkfbaa
open Go.RowKit Ch

def DInv (Y wr : World) (db : Nat) (f : Int) (v : Value) (ps : List (OpD × Value)) : Prop :=
  wr.heap[db]? = some (.cells #[.int .i64 f, v] 24 (0, 0)) ∧ LentP Y wr v ps ∧ Below Y.heap.size Y wr
theorem dinv_put {Y wr w' : World} {db : Nat} {f : Int} {v v0 v' : Value} {ps qs : List (OpD × Value)} (h : w'.heap[db]? = some (.cells #[.int .i64 f, v0] 24 (0, 0))) (ho : w'.ownsRow Y.heap.size 40 4 v' (ps.length + qs.length) (flatO ps ++ flatO qs)) (hq : ∀ p ∈ qs, AtRow Y p.2 p.1.attrs ∧ Proper p.2 ∧ p.1.text.size ≤ maxLen ∧ Sized p.1.attrs) (hL : LentP Y wr v ps) (hb : Below Y.heap.size Y w') (hd : Y.heap.size ≤ db) :
    DInv Y (w'.setCell ⟨db, 1, none⟩ v') db f v' (ps ++ qs) := by
  have KT : Keep Y.heap.size [24] w' (w'.setCell ⟨db, 1, none⟩ v') := keep_set h (by simp) hd _ rfl _
  exact ⟨nblk_set h, hL.more (KT.own ho (by decide)) hq, hb.trans KT.below⟩

theorem new_at8 (w : World) (u0 u1 u2 u3 u4 u5 u6 u7 : Value) (e : TypeId) : ∀ j x, [u0, u1, u2, u3, u4, u5, u6, u7][j]? = some x → (w.alloc (.cells #[u0, u1, u2, u3, u4, u5, u6, u7] e)).cell? ((⟨w.heap.size, 0, none⟩ : Addr).add j) = some x := by
  intro j x hj
  match j, hj with
  | 0, hj => simp at hj; subst hj; go_simp
  | 1, hj => simp at hj; subst hj; go_simp
  | 2, hj => simp at hj; subst hj; go_simp
  | 3, hj => simp at hj; subst hj; go_simp
  | 4, hj => simp at hj; subst hj; go_simp
  | 5, hj => simp at hj; subst hj; go_simp
  | 6, hj => simp at hj; subst hj; go_simp
  | 7, hj => simp at hj; subst hj; go_simp
  | j + 8, hj => simp at hj
theorem lent_last {Y wr : World} {oa : Option Addr} {oc : Nat} {ps : List (OpD × Value)} (h : LentP Y wr (.slice oa ps.length oc) ps) (hl : 0 < ps.length) :
    ∃ (gg : Nat) (qa : Option Addr) (qc : Nat) (p : OpD), oa = some ⟨gg, 0, none⟩ ∧ ps[ps.length - 1]? = some (p, .slice qa p.attrs.length qc) ∧ wr.cell? ⟨gg, (ps.length - 1) * 4, none⟩ = some (.int .i64 p.kind) ∧ wr.cell? ⟨gg, (ps.length - 1) * 4 + 1, none⟩ = some (.int .i64 p.n) ∧ wr.cell? ⟨gg, (ps.length - 1) * 4 + 2, none⟩ = some (.string p.text) ∧ wr.cell? ⟨gg, (ps.length - 1) * 4 + 3, none⟩ = some (.slice qa p.attrs.length qc) := by
  rcases h.1.2 with ⟨h0, h1⟩ | ⟨g, cap, cur, h0, _⟩
  · omega
  · simp only [Value.slice.injEq] at h0
    obtain ⟨rfl, _, rfl⟩ := h0
    have hlt : ps.length - 1 < ps.length := by omega
    obtain ⟨qa, qc, hq⟩ := (h.2 _ (List.getElem_mem hlt)).1.shape
    have e : ∀ j, j < 4 → wr.cell? ⟨g, (ps.length - 1) * 4 + j, none⟩ = (opCells ps[ps.length - 1])[j]? := fun j hj => by
      rw [h.1.cellAt _ (by omega), flatO_at hlt j hj]
    refine ⟨g, qa, qc, ps[ps.length - 1].1, rfl, by rw [List.getElem?_eq_getElem hlt, ← hq], e 0 (by omega), e 1 (by omega), e 2 (by omega), ?_⟩
    rw [e 3 (by omega), ← hq]
    rfl

theorem flatO_set {ps : List (OpD × Value)} {i : Nat} (q : OpD × Value) (h : i < ps.length) : ((((flatO ps).set (i * 4) (.int .i64 q.1.kind)).set (i * 4 + 1) (.int .i64 q.1.n)).set (i * 4 + 2) (.string q.1.text)).set (i * 4 + 3) q.2 = flatO (ps.set i q) := by
  induction ps generalizing i with
  | nil => simp at h
  | cons x r ih =>
    have e : flatO (x :: r) = opCells x ++ flatO r := rfl
    cases i with
    | zero => rfl
    | succ i =>
      have a0 : (i + 1) * 4 = (i * 4) + 4 := by omega
      rw [List.set_cons_succ, show flatO (x :: r.set i q) = opCells x ++ flatO (r.set i q) from rfl, ← ih (by simpa using h), e, a0]
      rfl
theorem lent_swap {V : World} {B : Nat} {oa : Option Addr} {oc : Nat} {ps : List (OpD × Value)} {p o : OpD × Value} (h : V.ownsRow B 40 4 (.slice oa (ps.length + 1) oc) (ps.length + 1) (flatO (ps ++ [p]))) (h0 : 0 < ps.length) (hp : ps[ps.length - 1]? = some p) :
    ∃ g, oa = some ⟨g, 0, none⟩ ∧ V.cell? ⟨g, (ps.length - 1) * 4, none⟩ = some (.int .i64 p.1.kind) ∧ V.cell? ⟨g, (ps.length - 1) * 4 + 1, none⟩ = some (.int .i64 p.1.n) ∧ V.cell? ⟨g, (ps.length - 1) * 4 + 2, none⟩ = some (.string p.1.text) ∧ V.cell? ⟨g, (ps.length - 1) * 4 + 3, none⟩ = some p.2 ∧
      V.frozen? ⟨g, (ps.length - 1) * 4, none⟩ = false ∧ V.frozen? ⟨g, (ps.length - 1) * 4 + 1, none⟩ = false ∧ V.frozen? ⟨g, (ps.length - 1) * 4 + 2, none⟩ = false ∧ V.frozen? ⟨g, (ps.length - 1) * 4 + 3, none⟩ = false ∧
      ((((V.setCell ⟨g, (ps.length - 1) * 4, none⟩ (.int .i64 o.1.kind)).setCell ⟨g, (ps.length - 1) * 4 + 1, none⟩ (.int .i64 o.1.n)).setCell ⟨g, (ps.length - 1) * 4 + 2, none⟩ (.string o.1.text)).setCell ⟨g, (ps.length - 1) * 4 + 3, none⟩ o.2).ownsRow B 40 4 (.slice (some ⟨g, 0, none⟩) (ps.length + 1) oc) (ps.length + 1) (flatO ((ps ++ [p]).set (ps.length - 1) o)) := by
  rcases h.2 with ⟨h0', h1⟩ | ⟨g, cap, cur, h0', _, hg, _⟩
  · omega
  · simp only [Value.slice.injEq] at h0'
    obtain ⟨rfl, _, rfl⟩ := h0'
    have hlt : ps.length - 1 < (ps ++ [p]).length := by rw [List.length_append, List.length_singleton]; omega
    have e : ∀ j, j < 4 → V.cell? ⟨g, (ps.length - 1) * 4 + j, none⟩ = (opCells p)[j]? := fun j hj => by
      have hq : (ps ++ [p])[ps.length - 1]'hlt = p := by
        have : (ps ++ [p])[ps.length - 1]? = some p := by rw [List.getElem?_append_left (by omega)]; exact hp
        rw [List.getElem?_eq_getElem hlt] at this
        exact Option.some.inj this
      have := h.cellAt ((ps.length - 1) * 4 + j) (by omega)
      rw [flatO_at hlt j hj, hq] at this
      exact this
    refine ⟨g, rfl, e 0 (by omega), e 1 (by omega), e 2 (by omega), e 3 (by omega), Lib.frozen_of_heap hg _, Lib.frozen_of_heap hg _, Lib.frozen_of_heap hg _, Lib.frozen_of_heap hg _, ?_⟩
    rw [← flatO_set o hlt]
    exact ((((h.stored _ _).1.stored _ _).1.stored _ _).1.stored _ _).1

theorem set_last {ps : List (OpD × Value)} {p : OpD × Value} (o : OpD × Value) (h0 : 0 < ps.length) (hp : ps[ps.length - 1]? = some p) : ∃ is, ps = is ++ [p] ∧ (ps ++ [p]).set (ps.length - 1) o = is ++ [o] ++ [p] := by
  obtain ⟨is, q, rfl⟩ : ∃ is q, ps = is ++ [q] := ⟨ps.dropLast, ps.getLast (by rintro rfl; simp at h0), (List.dropLast_concat_getLast _).symm⟩
  have hq : q = p := by simpa using hp
  subst hq
  refine ⟨is, rfl, ?_⟩
  rw [List.append_assoc, show (is ++ [q]).length - 1 = is.length by simp, List.set_append_right _ _ (Nat.le_refl _), Nat.sub_self]
  simp
theorem parts_set {ps : List (OpD × Value)} {p : OpD × Value} (o : OpD × Value) {pre : List OpD} (h : Parts (ps.map (·.1)) pre) (h0 : 0 < ps.length) (hp : ps[ps.length - 1]? = some p) (ho : opE o.1 = 0) (hk : o.1.kind = 2) (hd : p.1.kind = 3) : Parts (((ps ++ [p]).set (ps.length - 1) o).map (·.1)) (pre ++ [o.1]) := by
  obtain ⟨is, e1, e2⟩ := set_last o h0 hp
  rw [e2, List.map_append, List.map_append]
  rw [e1, List.map_append] at h
  exact h.swap ho hk hd
theorem dinv_swap {Y V : World} {db g oc : Nat} {f : Int} {ps : List (OpD × Value)} {p o : OpD × Value} {j0 j1 j2 j3 : Nat} {u0 u1 u2 u3 : Value} (h : DInv Y V db f (.slice (some ⟨g, 0, none⟩) (ps.length + 1) oc) (ps ++ [p])) (ho : AtRow Y o.2 o.1.attrs ∧ Proper o.2 ∧ o.1.text.size ≤ maxLen ∧ Sized o.1.attrs)
    (hs : ((((V.setCell ⟨g, j0, none⟩ u0).setCell ⟨g, j1, none⟩ u1).setCell ⟨g, j2, none⟩ u2).setCell ⟨g, j3, none⟩ u3).ownsRow Y.heap.size 40 4 (.slice (some ⟨g, 0, none⟩) (ps.length + 1) oc) (ps.length + 1) (flatO ((ps ++ [p]).set (ps.length - 1) o))) :
    DInv Y ((((V.setCell ⟨g, j0, none⟩ u0).setCell ⟨g, j1, none⟩ u1).setCell ⟨g, j2, none⟩ u2).setCell ⟨g, j3, none⟩ u3) db f (.slice (some ⟨g, 0, none⟩) ((ps ++ [p]).set (ps.length - 1) o).length oc) ((ps ++ [p]).set (ps.length - 1) o) := by
  obtain ⟨hB, cs, hg⟩ := own_heap h.2.1.1
  have K : Keep Y.heap.size [40] V ((((V.setCell ⟨g, j0, none⟩ u0).setCell ⟨g, j1, none⟩ u1).setCell ⟨g, j2, none⟩ u2).setCell ⟨g, j3, none⟩ u3) :=
    (keep_set hg (by simp) hB _ rfl _).trans ((keep_set (nblk_set hg) (by simp) hB _ rfl _).trans ((keep_set (nblk_set (nblk_set hg)) (by simp) hB _ rfl _).trans (keep_set (nblk_set (nblk_set (nblk_set hg))) (by simp) hB _ rfl _)))
  refine ⟨by rw [List.length_set, List.length_append, List.length_singleton]; exact K.kept _ _ _ _ h.1 (by decide), ⟨?_, fun q hq => ?_⟩, h.2.2.trans K.below⟩
  · rw [List.length_set, List.length_append, List.length_singleton]; exact hs
  · rcases List.mem_or_eq_of_mem_set hq with hq | rfl
    · exact h.2.1.2 q hq
    · exact ho

set_option maxRecDepth 100000 in
set_option maxHeartbeats 8000000 in
theorem parts_ok (f : Int) (v : Value) (ops : List OpD) (pv : Value) (zs : List Int) (w : World) (hv : OpRow w v ops) (hz : OSized ops) (hp : IntRow w pv zs) (he : toE f ops = 0) :
    Calls Try.prog 6 #[chAgg f v, pv] w (OutB w true) := by
  obtain ⟨pa, pc, rfl, p1, p2, p3⟩ := hp
  have hzs : zs.length ≤ 9223372036854775807 := Nat.le_trans p1 p2
  have HP3 := Lib.hid p3
  have Hv := Lib.hid hv
  have HCK := Lib.hid ((toE_iff f ops).1 he)
  have hol : ops.length ≤ 2000 := HCK.out.2.2.1
  obtain ⟨a, c, rfl, v1, v2, v3⟩ := hv
  have V3 := Lib.hid v3
  have HN := Lib.hid (fun W hW => normal_ok f (.slice a ops.length c) ops W (Hv.out.below hW) hz he)
  obtain ⟨W, hW⟩ : ∃ W, W = w.alloc (.cells #[.int .i64 f, .slice a ops.length c] 24) := ⟨_, rfl⟩
  have BW := Lib.hid (show Below w.heap.size w W by rw [hW]; exact below_box _ _)
  have b0 : W.heap[w.heap.size]? = some (.cells #[.int .i64 f, .slice a ops.length c] 24 (0, 0)) := by rw [hW]; exact heap_new _ _
  have HW := Lib.hid hW
  have HB0 := Lib.hid b0
  obtain ⟨i0, hi, hz0, hz1, hz2⟩ := info_parts infoOp
  have Hi := Lib.hid (And.intro hi (And.intro hz0 (And.intro hz1 hz2)))
  clear hz he hW b0 p1 p2 p3 v1 v2 v3 hi hz0 hz1 hz2
  go_enter Try.func6, Try.ntmps6
  go_wp2_with fail
  rw [← HW.out]
  refine (awake_any _).mono ?_
  rintro e w1 ⟨rfl, b⟩
  have x1 := heap_of HB0.out b
  have c0 : w1.cell? ⟨w.heap.size, 0, none⟩ = some (.int .i64 f) := (Lib.cell_of_heap x1 0).trans rfl
  have c1 : w1.cell? ⟨w.heap.size, 1, none⟩ = some (.slice a ops.length c) := (Lib.cell_of_heap x1 1).trans rfl
  have B1 := Lib.hid (BW.out.trans (b.mono BW.out.size))
  have HX1 := Lib.hid x1
  clear b x1
  go_wp2_with fail
  refine (HN.out _ B1.out).mono ?_
  rintro e w2 ⟨v2, rfl, O2, b⟩
  obtain ⟨a2, k2, rfl⟩ := O2.row.shape
  have x2 := heap_of HX1.out b
  have d0 : w2.cell? ⟨w.heap.size, 0, none⟩ = some (.int .i64 f) := (Lib.cell_of_heap x2 0).trans rfl
  have lt2 : w.heap.size < w2.heap.size := lt_of_heap x2
  have B2 := Lib.hid (B1.out.trans (b.mono B1.out.size))
  obtain ⟨l, hl⟩ : ∃ l, l = norm ops := ⟨_, rfl⟩
  rw [← hl] at O2
  rw [← hl]
  have HL := Lib.hid hl
  obtain ⟨Y, hY⟩ : ∃ Y, Y = w2.alloc (.cells #[.int .i64 f, .slice a2 l.length k2] 24) := ⟨_, rfl⟩
  have BY := Lib.hid (show Below w2.heap.size w2 Y by rw [hY]; exact below_box _ _)
  have hYs : Y.heap.size = w2.heap.size + 1 := by rw [hY]; simp
  have yA : Y.heap[w2.heap.size]? = some (.cells #[.int .i64 f, .slice a2 l.length k2] 24 (0, 0)) := by rw [hY]; exact heap_new _ _
  have HYA := Lib.hid yA
  have HYC := Lib.hid (heap_of x2 BY.out)
  have HY := Lib.hid hY
  have BWY := Lib.hid (B2.out.trans (BY.out.mono B2.out.size))
  have OY := Lib.hid (O2.row.below BY.out)
  clear b x2 hY yA c0 c1 O2 hl
  go_wp2_with fail
  rw [← HY.out]
  go_loopw [9] (fun i wr => ∃ (n : Nat) (ps : List (OpD × Value)) (oa : Option Addr) (oc : Nat), i = .int .i64 (n : Int) ∧ n ≤ ops.length ∧ Parts (ps.map (·.1)) (ops.take n) ∧ DInv Y wr (w2.heap.size + 1) f (.slice oa ps.length oc) ps) (fun i _ => ops.length - (intOf i).toNat)
  case atStart => exact ⟨0, [], none, 0, rfl, Nat.zero_le _, Parts.nil, by rw [← hYs]; exact heap_new _ _, ⟨World.ownsRow_nil _ _ _ _, fun p hp => by cases hp⟩, below_box _ _⟩
  case round =>
    obtain ⟨n, ps, oa, oc, rfl, hn, hpa, hI⟩ := hrel
    have HI := Lib.hid hI
    have HPA := Lib.hid hpa
    have hpl : ps.length ≤ 2 * n := by have := hpa.len; rw [List.length_map, List.length_take] at this; omega
    have hbs : Y.heap.size ≤ wr.heap.size := hI.2.2.size
    have hdl : w2.heap.size + 1 < wr.heap.size := lt_of_heap hI.1
    have HYW := Lib.hid (BWY.out.trans (hI.2.2.mono BWY.out.size))
    have xC := heap_of HYC.out hI.2.2
    have c0 : wr.cell? ⟨w.heap.size, 0, none⟩ = some (.int .i64 f) := (Lib.cell_of_heap xC 0).trans rfl
    have c1 : wr.cell? ⟨w.heap.size, 1, none⟩ = some (.slice a ops.length c) := (Lib.cell_of_heap xC 1).trans rfl
    have d1 : wr.cell? ⟨w2.heap.size + 1, 0, none⟩ = some (.int .i64 f) := (Lib.cell_of_heap hI.1 0).trans rfl
    have d2 : wr.cell? ⟨w2.heap.size + 1, 1, none⟩ = some (.slice oa ps.length oc) := (Lib.cell_of_heap hI.1 1).trans rfl
    by_cases hlt : n < ops.length
    · have hlt' : (n : Int) < (ops.length : Int) := by omega
      obtain ⟨b, off, rfl, hbl, av, q0, qp, x0, x1, x2, x3⟩ := V3.out n hlt
      have hoE : opE ops[n] = 0 := HCK.out.2.2.2.1 _ (List.getElem_mem hlt)
      have htk : ops.take (n + 1) = ops.take n ++ [ops[n]] := List.take_succ_eq_append_getElem hlt
      have hfp := fold_pos n HCK.out
      have hos := osized_ok HCK.out _ (List.getElem_mem hlt)
      have hn1 : ops[n].n ≤ 20000 := (vop_of HCK.out (List.getElem_mem hlt)).n1
      have hdl2 : w2.heap.size + 1 < wr.heap.size + 1 := by omega
      have HFP := Lib.hid hfp
      obtain ⟨o, ho⟩ : ∃ o, o = ops[n] := ⟨_, rfl⟩
      rw [← ho] at q0 x0 x1 x2 hoE htk hos hn1
      obtain ⟨ar, cr, rfl⟩ := q0.shape
      have y0 : wr.cell? ⟨b, off + n * 4, none⟩ = some (.int .i64 o.kind) := (HYW.out.cell (by exact hbl)).trans x0
      have y1 : wr.cell? ⟨b, off + n * 4 + 1, none⟩ = some (.int .i64 o.n) := (HYW.out.cell (by exact hbl)).trans x1
      have y2 : wr.cell? ⟨b, off + n * 4 + 2, none⟩ = some (.string o.text) := (HYW.out.cell (by exact hbl)).trans x2
      have y3 : wr.cell? ⟨b, off + n * 4 + 3, none⟩ = some (.slice ar o.attrs.length cr) := (HYW.out.cell (by exact hbl)).trans x3
      have HQ := Lib.hid (And.intro (q0.below BWY.out) (And.intro qp hos))
      have HOE := Lib.hid hoE
      have HTK := Lib.hid htk
      clear hI hpa xC q0 qp x0 x1 x2 x3 hoE htk ho hfp hos
      by_cases hp : n < zs.length
      · have hp' : (n : Int) < (zs.length : Int) := by omega
        obtain ⟨pb, poff, rfl, pbl, z0⟩ := HP3.out n hp
        have z1 : wr.cell? ⟨pb, poff + n, none⟩ = some (.int .i64 zs[n]) := (HYW.out.cell (by exact pbl)).trans z0
        have pbl2 : pb < wr.heap.size := by have := HYW.out.size; omega
        clear z0
        obtain ⟨r, hr⟩ : ∃ r, bits BinOp.and IntKind.i64 zs[n] 1 = r := ⟨_, rfl⟩
        by_cases hr1 : r = 1
        · subst hr1
          by_cases h1 : 1 < o.n
          · have g1 : decide (1 < o.n) = true := decide_eq_true h1
            have hA : ((wr.alloc (.cells #[.int .i64 o.kind, .int .i64 (o.n - 1), .string o.text, .slice ar o.attrs.length cr] 40)).alloc (.cells #[.int .i64 o.kind, .int .i64 1, .string o.text, .slice ar o.attrs.length cr] 40)).heap.size = wr.heap.size + 2 := by simp
            have HA := Lib.hid hA
            have hk2 : o.kind ≠ 2 := fun k => by have := ((opE_put k).1 HOE.out).1; omega
            have HK2 := Lib.hid hk2
            have HH1 := Lib.hid h1
            clear hA hk2
            go_wp2_with (at_builtin; refine wpList_append_new rfl (.tmp 77) (.tmp 80) 22 rfl 40 i0 (.agg #[.int .i64 0, .int .i64 0, .string ⟨#[]⟩, .slice none 0 0]) 4 56 Try.underlying22 Hi.out.1 Hi.out.2.1 Hi.out.2.2.1 Hi.out.2.2.2 rfl (by decide) Y.heap.size (.slice oa ps.length oc) ps.length (flatO ps) rfl (((HI.out.2.1.1.alloc _).alloc _).alloc _) ⟨wr.heap.size + 2, 0, none⟩ 2 2 [.int .i64 o.kind, .int .i64 1, .string o.text, .slice ar o.attrs.length cr, .int .i64 o.kind, .int .i64 (o.n - 1), .string o.text, .slice ar o.attrs.length cr] rfl rfl (by have := new_at8 ((wr.alloc (.cells #[.int .i64 o.kind, .int .i64 (o.n - 1), .string o.text, .slice ar o.attrs.length cr] 40)).alloc (.cells #[.int .i64 o.kind, .int .i64 1, .string o.text, .slice ar o.attrs.length cr] 40)) (.int .i64 o.kind) (.int .i64 1) (.string o.text) (.slice ar o.attrs.length cr) (.int .i64 o.kind) (.int .i64 (o.n - 1)) (.string o.text) (.slice ar o.attrs.length cr) 40; rw [HA.out] at this; exact this) (fun u hu => by simp at hu; rcases hu with rfl | rfl | rfl | rfl | rfl | rfl | rfl | rfl <;> rfl) (by unfold maxLen; omega) (by omega) (by have := hbs; simp; omega) ?_; intro v' w5 oC gC _; obtain ⟨oa', oc', rfl⟩ := own_slice oC; have blk2 := (gC.block (w2.heap.size + 1) (by have := lt_of_heap HI.out.1; simp; omega) (fun e => own_ne HI.out.2.1.1 HI.out.1 (by decide) e.symm)).trans ((Below.heap_alloc _ _ _ (by have := lt_of_heap HI.out.1; simp; omega)).trans ((Below.heap_alloc _ _ _ (by have := lt_of_heap HI.out.1; simp; omega)).trans ((Below.heap_alloc _ _ _ (lt_of_heap HI.out.1)).trans HI.out.1))); have e1 : w5.cell? ⟨w2.heap.size + 1, 1, none⟩ = some (.slice oa ps.length oc) := (Lib.cell_of_heap blk2 1).trans rfl; have e2 : w5.frozen? ⟨w2.heap.size + 1, 1, none⟩ = false := Lib.frozen_of_heap blk2 1; have HBK2 := Lib.hid blk2; have HB2 := Lib.hid (((((HI.out.2.2.alloc hbs _).alloc (by have := hbs; simp; omega) _).alloc (by have := hbs; simp; omega) _).grown gC (by have := hbs; simp; omega) (fun j hj => (HI.out.2.1.1.lt j hj).1))); have HOC := Lib.hid oC; clear blk2 oC gC)
            have HIN := Lib.hid (dinv_put HBK2.out HOC.out (qs := [({ o with n := 1 }, .slice ar o.attrs.length cr), ({ o with n := o.n - 1 }, .slice ar o.attrs.length cr)]) (fun p hp => by simp only [List.mem_cons, List.not_mem_nil, or_false] at hp; rcases hp with rfl | rfl <;> exact HQ.out) HI.out.2.1 HB2.out (by omega))
            go_roundw
            case rel => exact ⟨n + 1, ps ++ [({ o with n := 1 }, .slice ar o.attrs.length cr), ({ o with n := o.n - 1 }, .slice ar o.attrs.length cr)], oa', oc', by go_num, by omega, by rw [HTK.out, List.map_append]; exact HPA.out.two HFP.out HOE.out HK2.out HH1.out, by rw [List.length_append]; exact HIN.out⟩
            case measure => simp [intOf]; omega
          · have g1 : decide (1 < o.n) = false := decide_eq_false h1
            by_cases h2 : o.kind = 2
            · have g2 : (o.kind == 2) = true := by rw [beq_iff_eq]; exact h2
              have HK2 := Lib.hid h2
              clear h2
              by_cases h3 : 0 < ps.length
              · have g3 : decide ((0 : Int) < (ps.length : Int)) = true := decide_eq_true (by omega)
                have g4 : decide (0 < ps.length) = true := decide_eq_true h3
                have h3' : 1 ≤ ps.length := h3
                have i2 : (ps.length : Int) - 1 < (ps.length : Int) := by omega
                have i3 : (0 : Int) ≤ (ps.length : Int) - 1 := by omega
                obtain ⟨gg, qa, qc, p, e4, hpe, l0, l1, l2, l3⟩ := lent_last HI.out.2.1 h3
                subst e4
                have HPE := Lib.hid hpe
                have hgg : gg < wr.heap.size := World.block_lt_of_cell? _ _ l0
                clear hpe
                by_cases h4 : p.kind = 3
                · have g5 : (p.kind == 3) = true := by rw [beq_iff_eq]; exact h4
                  have HK4 := Lib.hid h4
                  clear h4
                  obtain ⟨X, hX⟩ : ∃ X, X = wr.alloc (.cells #[.int .i64 o.kind, .int .i64 o.n, .string o.text, .slice ar o.attrs.length cr] 40) := ⟨_, rfl⟩
                  have BX : Below wr.heap.size wr X := by rw [hX]; exact below_box _ _
                  have xo : X.heap[wr.heap.size]? = some (.cells #[.int .i64 o.kind, .int .i64 o.n, .string o.text, .slice ar o.attrs.length cr] 40 (0, 0)) := by rw [hX]; exact heap_new _ _
                  have S1 : X.drew.cell? ⟨w2.heap.size + 1, 1, none⟩ = some (.slice (some ⟨gg, 0, none⟩) ps.length oc) ∧ X.drew.cell? ⟨gg, (ps.length - 1) * 4, none⟩ = some (.int .i64 p.kind) ∧ X.drew.cell? ⟨gg, (ps.length - 1) * 4 + 1, none⟩ = some (.int .i64 p.n) ∧ X.drew.cell? ⟨gg, (ps.length - 1) * 4 + 2, none⟩ = some (.string p.text) ∧ X.drew.cell? ⟨gg, (ps.length - 1) * 4 + 3, none⟩ = some (.slice qa p.attrs.length qc) := ⟨(BX.cell (by exact hdl)).trans d2, (BX.cell (by exact hgg)).trans l0, (BX.cell (by exact hgg)).trans l1, (BX.cell (by exact hgg)).trans l2, (BX.cell (by exact hgg)).trans l3⟩
                  have hxl : wr.heap.size < X.heap.size := lt_of_heap xo
                  have ux : w2.heap.size + 1 < X.drew.heap.size := by show w2.heap.size + 1 < X.heap.size; omega
                  have ug : gg < X.drew.heap.size := by show gg < X.heap.size; omega
                  have uo : wr.heap.size < X.drew.heap.size := hxl
                  have SBX : (X.drew.alloc (.cells #[.int .i64 p.kind, .int .i64 p.n, .string p.text, .slice qa p.attrs.length qc] 40)).cell? ⟨w2.heap.size + 1, 1, none⟩ = some (.slice (some ⟨gg, 0, none⟩) ps.length oc) ∧ (X.drew.alloc (.cells #[.int .i64 p.kind, .int .i64 p.n, .string p.text, .slice qa p.attrs.length qc] 40)).cell? ⟨gg, (ps.length - 1) * 4, none⟩ = some (.int .i64 p.kind) ∧ (X.drew.alloc (.cells #[.int .i64 p.kind, .int .i64 p.n, .string p.text, .slice qa p.attrs.length qc] 40)).cell? ⟨gg, (ps.length - 1) * 4 + 1, none⟩ = some (.int .i64 p.n) ∧ (X.drew.alloc (.cells #[.int .i64 p.kind, .int .i64 p.n, .string p.text, .slice qa p.attrs.length qc] 40)).cell? ⟨gg, (ps.length - 1) * 4 + 2, none⟩ = some (.string p.text) ∧ (X.drew.alloc (.cells #[.int .i64 p.kind, .int .i64 p.n, .string p.text, .slice qa p.attrs.length qc] 40)).cell? ⟨gg, (ps.length - 1) * 4 + 3, none⟩ = some (.slice qa p.attrs.length qc) := ⟨((below_box X.drew _).cell (by exact ux)).trans S1.1, ((below_box X.drew _).cell (by exact ug)).trans S1.2.1, ((below_box X.drew _).cell (by exact ug)).trans S1.2.2.1, ((below_box X.drew _).cell (by exact ug)).trans S1.2.2.2.1, ((below_box X.drew _).cell (by exact ug)).trans S1.2.2.2.2⟩
                  have OX := Lib.hid (show X.drew.ownsRow Y.heap.size 40 4 (.slice (some ⟨gg, 0, none⟩) ps.length oc) ps.length (flatO ps) from (show X.ownsRow _ _ _ _ _ _ from by rw [hX]; exact HI.out.2.1.1.alloc _))
                  have XD := Lib.hid (show X.drew.heap[w2.heap.size + 1]? = some (.cells #[.int .i64 f, .slice (some ⟨gg, 0, none⟩) ps.length oc] 24 (0, 0)) from (BX.block _ hdl).trans HI.out.1)
                  have BYX := Lib.hid (show Below Y.heap.size Y X.drew from (HI.out.2.2.trans (BX.mono hbs)).drew)
                  have HX := Lib.hid hX
                  have HBX := Lib.hid BX
                  have HXO := Lib.hid xo
                  have hwr : IntKind.i64.wrap ((ps.length : Int) - 1) = (ps.length : Int) - 1 := by rw [IntKind.wrap_i64]; omega
                  have hnt : ((ps.length : Int) - 1).toNat = ps.length - 1 := by omega
                  clear hX BX xo
                  go_wp2_with fail
                  rw [← HX.out]
                  refine wp_region_B (fun w' => w'.cell? ⟨w2.heap.size + 1, 1, none⟩ = some (.slice (some ⟨gg, 0, none⟩) ps.length oc) ∧ w'.cell? ⟨gg, (ps.length - 1) * 4, none⟩ = some (.int .i64 p.kind) ∧ w'.cell? ⟨gg, (ps.length - 1) * 4 + 1, none⟩ = some (.int .i64 p.n) ∧ w'.cell? ⟨gg, (ps.length - 1) * 4 + 2, none⟩ = some (.string p.text) ∧ w'.cell? ⟨gg, (ps.length - 1) * 4 + 3, none⟩ = some (.slice qa p.attrs.length qc)) [9, 11] (by kernel_rfl) (?_ : wpAnyB _ _ _ _ _ _ 12 (Array.replicate 12 false) _ _)
                  refine wpAnyB_free (fuel := 11) (i := 0) (v := ?_) rfl (by kernel_rfl) (by kernel_rfl) (by kernel_rfl) (by kernel_rfl) (fun _ _ _ h => h) (.inr S1) ?_ (by rfl) ?_
                  rotate_left
                  · intro w'; go_simp; (try with_reducible rfl)
                  simp only [Act.put, List.setIfInBounds_toArray]
                  refine wpAnyB_load [1,9,11] (fuel := 10) (i := 1) (v := ?_) rfl (by kernel_rfl) (by kernel_rfl) (by kernel_rfl) (by kernel_rfl) (by kernel_rfl) (fun _ _ _ h => h) (.inr S1) ?_ (by rfl) ?_
                  rotate_left
                  · intro w' hw'; obtain ⟨m0, m1, m2, m3, m4⟩ := hw'; go_simp; (try with_reducible rfl)
                  simp only [Act.put]
                  refine wpAnyB_free (fuel := 9) (i := 2) (v := ?_) rfl (by kernel_rfl) (by kernel_rfl) (by kernel_rfl) (by kernel_rfl) (fun _ _ _ h => h) (.inr S1) ?_ (by rfl) ?_
                  rotate_left
                  · intro w'; go_simp; (try with_reducible rfl)
                  simp only [Act.put]
                  refine wpAnyB_load [3,6,7,8,9,11] (fuel := 8) (i := 3) (v := ?_) rfl (by kernel_rfl) (by kernel_rfl) (by kernel_rfl) (by kernel_rfl) (by kernel_rfl) (fun _ _ _ h => h) (.inr S1) ?_ (by rfl) ?_
                  rotate_left
                  · intro w' hw'; obtain ⟨m0, m1, m2, m3, m4⟩ := hw'; go_simp; (try with_reducible rfl)
                  simp only [Act.put]
                  refine wpAnyB_free (fuel := 7) (i := 4) (v := ?_) rfl (by kernel_rfl) (by kernel_rfl) (by kernel_rfl) (by kernel_rfl) (fun _ _ _ h => h) (.inr S1) ?_ (by rfl) ?_
                  rotate_left
                  · intro w'; go_simp; (try with_reducible rfl)
                  simp only [Act.put]
                  refine wpAnyB_free (fuel := 6) (i := 5) (v := .int .i64 ((ps.length : Int) - 1)) rfl (by kernel_rfl) (by kernel_rfl) (by kernel_rfl) (by kernel_rfl) (fun _ _ _ h => h) (.inr S1) ?_ (by rfl) ?_
                  · intro w'; go_simp; (try rw [hwr])
                  simp only [Act.put]
                  refine wpAnyB_free (fuel := 5) (i := 6) (v := .pointer (some ⟨gg, (ps.length - 1) * 4, none⟩)) rfl (by kernel_rfl) (by kernel_rfl) (by kernel_rfl) (by kernel_rfl) (fun _ _ _ h => h) (.inr S1) ?_ (by rfl) ?_
                  · intro w'; go_simp; intro hh; omega
                  simp only [Act.put]
                  refine wpAnyB_load [7,8,9,11] (fuel := 4) (i := 7) (v := ?_) rfl (by kernel_rfl) (by kernel_rfl) (by kernel_rfl) (by kernel_rfl) (by kernel_rfl) (fun _ _ _ h => h) (.inr S1) ?_ (by rfl) ?_
                  rotate_left
                  · intro w' hw'; obtain ⟨m0, m1, m2, m3, m4⟩ := hw'; go_simp; (try with_reducible rfl)
                  simp only [Act.put]
                  refine wpAnyB_one (fuel := 3) (i := 8) rfl (by kernel_rfl) ?_
                  intro KB hKB
                  go_simp
                  have SB := SBX
                  refine hKB _ _ (.inr SB) ?_
                  (try simp only [Act.put, List.setIfInBounds_toArray, List.set_cons_zero, List.set_cons_succ])
                  refine wpAnyB_one (fuel := 2) (i := 9) rfl (by kernel_rfl) ?_
                  intro KB hKB
                  refine step_append_new rfl (.tmp 107) (.tmp 114) 22 rfl 40 i0 (.agg #[.int .i64 0, .int .i64 0, .string ⟨#[]⟩, .slice none 0 0]) 4 56 Try.underlying22 Hi.out.1 Hi.out.2.1 Hi.out.2.2.1 Hi.out.2.2.2 rfl (by decide) Y.heap.size (.slice (some ⟨gg, 0, none⟩) ps.length oc) ps.length (flatO ps) rfl (OX.out.alloc _) ⟨X.heap.size, 0, none⟩ 1 1 [.int .i64 p.kind, .int .i64 p.n, .string p.text, .slice qa p.attrs.length qc] rfl rfl (new_at4 _ _ _ _ _ _) (fun u hu => by simp at hu; rcases hu with rfl | rfl | rfl | rfl <;> rfl) (by unfold maxLen; omega) (by omega) (by have := hbs; have := HBX.out.size; simp; omega) ?_
                  intro v' w5 oC gC _
                  obtain ⟨oa', oc', rfl⟩ := own_slice oC
                  have blk2 := (gC.block (w2.heap.size + 1) (by simp; omega) (fun e => own_ne OX.out XD.out (by decide) e.symm)).trans ((Below.heap_alloc X.drew _ _ ux).trans XD.out)
                  have xo5 := (gC.block wr.heap.size (by simp; omega) (fun e => by have := (HI.out.2.1.1.lt _ e.symm).2; omega)).trans ((Below.heap_alloc X.drew _ _ uo).trans HXO.out)
                  have e1 : w5.cell? ⟨w2.heap.size + 1, 1, none⟩ = some (.slice (some ⟨gg, 0, none⟩) ps.length oc) := (Lib.cell_of_heap blk2 1).trans rfl
                  have e2 : w5.frozen? ⟨w2.heap.size + 1, 1, none⟩ = false := Lib.frozen_of_heap blk2 1
                  have HBK2 := Lib.hid blk2
                  have HX5 := Lib.hid xo5
                  have HB5 := Lib.hid ((BYX.out.alloc (by have := hbs; have := HBX.out.size; show Y.heap.size ≤ X.heap.size; omega) _).grown gC (by have := hbs; have := HBX.out.size; simp; omega) (fun j hj => (OX.out.lt j hj).1))
                  have HOC := Lib.hid oC
                  clear oC gC blk2 xo5
                  refine hKB _ _ (.inl (by kernel_rfl)) ?_
                  (try simp only [Act.put, List.setIfInBounds_toArray])
                  refine wpAnyB_free (fuel := 1) (i := 10) (v := ?_) rfl (by kernel_rfl) (by kernel_rfl) (by kernel_rfl) (by kernel_rfl) (fun _ _ _ h => h) (.inl (by rfl)) ?_ (by rfl) ?_
                  rotate_left
                  · intro w'; go_simp; (try with_reducible rfl)
                  simp only [Act.put]
                  refine wpAnyB_one (fuel := 0) (i := 11) rfl (by kernel_rfl) ?_
                  intro KB hKB
                  go_simp
                  refine hKB _ _ (.inl (by kernel_rfl)) ?_
                  (try simp only [Act.put, List.setIfInBounds_toArray, List.set_cons_zero, List.set_cons_succ])
                  refine wpAnyB_done (by kernel_rfl) ?_
                  have DV := dinv_put (qs := [(p, .slice qa p.attrs.length qc)]) HBK2.out HOC.out (fun q hq => by obtain rfl : q = (p, .slice qa p.attrs.length qc) := (by simpa using hq); exact HI.out.2.1.2 _ (List.mem_of_getElem? HPE.out)) HI.out.2.1 HB5.out (by omega)
                  obtain ⟨V, hV⟩ : ∃ V, V = w5.setCell ⟨w2.heap.size + 1, 1, none⟩ (.slice oa' (ps.length + 1) oc') := ⟨_, rfl⟩
                  have xoV : V.heap[wr.heap.size]? = some (.cells #[.int .i64 o.kind, .int .i64 o.n, .string o.text, .slice ar o.attrs.length cr] 40 (0, 0)) := by rw [hV, Below.heap_setCell _ _ _ _ (show wr.heap.size ≠ w2.heap.size + 1 by omega)]; exact HX5.out
                  change (Exit.then _ _) _ _ (w5.setCell ⟨w2.heap.size + 1, 1, none⟩ (.slice oa' (ps.length + 1) oc'))
                  rw [← hV] at DV ⊢
                  have HDV := Lib.hid DV
                  have HXV := Lib.hid xoV
                  have y0' : V.cell? ⟨wr.heap.size, 0, none⟩ = some (.int .i64 o.kind) := (Lib.cell_of_heap xoV 0).trans rfl
                  have y1' : V.cell? ⟨wr.heap.size, 1, none⟩ = some (.int .i64 o.n) := (Lib.cell_of_heap xoV 1).trans rfl
                  have y2' : V.cell? ⟨wr.heap.size, 2, none⟩ = some (.string o.text) := (Lib.cell_of_heap xoV 2).trans rfl
                  have y3' : V.cell? ⟨wr.heap.size, 3, none⟩ = some (.slice ar o.attrs.length cr) := (Lib.cell_of_heap xoV 3).trans rfl
                  have dV : V.cell? ⟨w2.heap.size + 1, 1, none⟩ = some (.slice oa' (ps.length + 1) oc') := (Lib.cell_of_heap DV.1 1).trans rfl
                  obtain ⟨g2, e5, m0, m1, m2, m3, n0, n1, n2, n3, hset⟩ := lent_swap (o := (o, .slice ar o.attrs.length cr)) (by have := DV.2.1.1; rwa [List.length_append, List.length_singleton] at this) h3 HPE.out
                  subst e5
                  have j1 : (0 : Int) ≤ (ps.length : Int) - 1 := i3
                  have j2 : (ps.length : Int) - 1 < (ps.length : Int) + 1 := by omega
                  have HSET := Lib.hid hset
                  clear hV DV xoV e1 e2 hset d2 y0 y1 y2 y3 l0 l1 l2 l3
                  go_wp2_with fail
                  go_roundw
                  case rel => exact ⟨n + 1, (ps ++ [(p, Value.slice qa p.attrs.length qc)]).set (ps.length - 1) (o, Value.slice ar o.attrs.length cr), some ⟨g2, 0, none⟩, oc', by go_num, by omega, by rw [HTK.out]; exact parts_set (o, Value.slice ar o.attrs.length cr) HPA.out h3 HPE.out HOE.out HK2.out HK4.out, dinv_swap HDV.out HQ.out HSET.out⟩
                  case measure => simp [intOf]; omega
                · have g5 : (p.kind == 3) = false := by rw [beq_eq_false_iff_ne]; exact h4
                  clear h4
                  have hA : (wr.alloc (.cells #[.int .i64 o.kind, .int .i64 o.n, .string o.text, .slice ar o.attrs.length cr] 40)).heap.size = wr.heap.size + 1 := by simp
                  have HA := Lib.hid hA
                  clear hA
                  go_wp2_with (at_builtin; refine wpList_append_new rfl (.tmp 56) (.tmp 58) 22 rfl 40 i0 (.agg #[.int .i64 0, .int .i64 0, .string ⟨#[]⟩, .slice none 0 0]) 4 56 Try.underlying22 Hi.out.1 Hi.out.2.1 Hi.out.2.2.1 Hi.out.2.2.2 rfl (by decide) Y.heap.size (.slice (some ⟨gg, 0, none⟩) ps.length oc) ps.length (flatO ps) rfl ((HI.out.2.1.1.alloc _).alloc _) ⟨wr.heap.size + 1, 0, none⟩ 1 1 [.int .i64 o.kind, .int .i64 o.n, .string o.text, .slice ar o.attrs.length cr] rfl rfl (by have := new_at4 (wr.alloc (.cells #[.int .i64 o.kind, .int .i64 o.n, .string o.text, .slice ar o.attrs.length cr] 40)) (.int .i64 o.kind) (.int .i64 o.n) (.string o.text) (.slice ar o.attrs.length cr) 40; rw [HA.out] at this; exact this) (fun u hu => by simp at hu; rcases hu with rfl | rfl | rfl | rfl <;> rfl) (by unfold maxLen; omega) (by omega) (by have := hbs; simp; omega) ?_; intro v' w5 oC gC _; obtain ⟨oa', oc', rfl⟩ := own_slice oC; have blk2 := (gC.block (w2.heap.size + 1) (by have := lt_of_heap HI.out.1; simp; omega) (fun e => own_ne HI.out.2.1.1 HI.out.1 (by decide) e.symm)).trans ((Below.heap_alloc _ _ _ (by have := lt_of_heap HI.out.1; simp; omega)).trans ((Below.heap_alloc _ _ _ (lt_of_heap HI.out.1)).trans HI.out.1)); have e1 : w5.cell? ⟨w2.heap.size + 1, 1, none⟩ = some (.slice (some ⟨gg, 0, none⟩) ps.length oc) := (Lib.cell_of_heap blk2 1).trans rfl; have e2 : w5.frozen? ⟨w2.heap.size + 1, 1, none⟩ = false := Lib.frozen_of_heap blk2 1; have HBK2 := Lib.hid blk2; have HB2 := Lib.hid ((((HI.out.2.2.alloc hbs _).alloc (by have := hbs; simp; omega) _).grown gC (by have := hbs; simp; omega) (fun j hj => (HI.out.2.1.1.lt j hj).1))); have HOC := Lib.hid oC; clear blk2 oC gC)
                  have HIN := Lib.hid (dinv_put HBK2.out HOC.out (qs := [(o, .slice ar o.attrs.length cr)]) (fun p hp => by obtain rfl : p = (o, .slice ar o.attrs.length cr) := (by simpa using hp); exact HQ.out) HI.out.2.1 HB2.out (by omega))
                  go_roundw
                  case rel => exact ⟨n + 1, ps ++ [(o, .slice ar o.attrs.length cr)], oa', oc', by go_num, by omega, by rw [HTK.out, List.map_append]; exact HPA.out.one HOE.out, by rw [List.length_append]; exact HIN.out⟩
                  case measure => simp [intOf]; omega
              · have g3 : decide ((0 : Int) < (ps.length : Int)) = false := decide_eq_false (by omega)
                have hps : ps = [] := List.length_eq_zero_iff.1 (by omega)
                subst hps
                clear h3 g3
                have hA : (wr.alloc (.cells #[.int .i64 o.kind, .int .i64 o.n, .string o.text, .slice ar o.attrs.length cr] 40)).heap.size = wr.heap.size + 1 := by simp
                have HA := Lib.hid hA
                clear hA
                go_wp2_with (at_builtin; refine wpList_append_new rfl (.tmp 56) (.tmp 58) 22 rfl 40 i0 (.agg #[.int .i64 0, .int .i64 0, .string ⟨#[]⟩, .slice none 0 0]) 4 56 Try.underlying22 Hi.out.1 Hi.out.2.1 Hi.out.2.2.1 Hi.out.2.2.2 rfl (by decide) Y.heap.size (.slice oa 0 oc) 0 (flatO []) rfl ((HI.out.2.1.1.alloc _).alloc _) ⟨wr.heap.size + 1, 0, none⟩ 1 1 [.int .i64 o.kind, .int .i64 o.n, .string o.text, .slice ar o.attrs.length cr] rfl rfl (by have := new_at4 (wr.alloc (.cells #[.int .i64 o.kind, .int .i64 o.n, .string o.text, .slice ar o.attrs.length cr] 40)) (.int .i64 o.kind) (.int .i64 o.n) (.string o.text) (.slice ar o.attrs.length cr) 40; rw [HA.out] at this; exact this) (fun u hu => by simp at hu; rcases hu with rfl | rfl | rfl | rfl <;> rfl) (by unfold maxLen; omega) (by omega) (by have := hbs; simp; omega) ?_; intro v' w5 oC gC _; obtain ⟨oa', oc', rfl⟩ := own_slice oC; have blk2 := (gC.block (w2.heap.size + 1) (by have := lt_of_heap HI.out.1; simp; omega) (fun e => own_ne HI.out.2.1.1 HI.out.1 (by decide) e.symm)).trans ((Below.heap_alloc _ _ _ (by have := lt_of_heap HI.out.1; simp; omega)).trans ((Below.heap_alloc _ _ _ (lt_of_heap HI.out.1)).trans HI.out.1)); have e1 : w5.cell? ⟨w2.heap.size + 1, 1, none⟩ = some (.slice oa 0 oc) := (Lib.cell_of_heap blk2 1).trans rfl; have e2 : w5.frozen? ⟨w2.heap.size + 1, 1, none⟩ = false := Lib.frozen_of_heap blk2 1; have HBK2 := Lib.hid blk2; have HB2 := Lib.hid ((((HI.out.2.2.alloc hbs _).alloc (by have := hbs; simp; omega) _).grown gC (by have := hbs; simp; omega) (fun j hj => (HI.out.2.1.1.lt j hj).1))); have HOC := Lib.hid oC; clear blk2 oC gC)
                have HIN := Lib.hid (dinv_put HBK2.out HOC.out (qs := [(o, .slice ar o.attrs.length cr)]) (fun p hp => by obtain rfl : p = (o, .slice ar o.attrs.length cr) := (by simpa using hp); exact HQ.out) HI.out.2.1 HB2.out (by omega))
                go_roundw
                case rel => exact ⟨n + 1, [] ++ [(o, .slice ar o.attrs.length cr)], oa', oc', by go_num, by omega, by rw [HTK.out, List.map_append]; exact HPA.out.one HOE.out, by rw [List.length_append]; exact HIN.out⟩
                case measure => simp [intOf]; omega
            · have g2 : (o.kind == 2) = false := by rw [beq_eq_false_iff_ne]; exact h2
              have hA : (wr.alloc (.cells #[.int .i64 o.kind, .int .i64 o.n, .string o.text, .slice ar o.attrs.length cr] 40)).heap.size = wr.heap.size + 1 := by simp
              have HA := Lib.hid hA
              clear hA
              go_wp2_with (at_builtin; refine wpList_append_new rfl (.tmp 56) (.tmp 58) 22 rfl 40 i0 (.agg #[.int .i64 0, .int .i64 0, .string ⟨#[]⟩, .slice none 0 0]) 4 56 Try.underlying22 Hi.out.1 Hi.out.2.1 Hi.out.2.2.1 Hi.out.2.2.2 rfl (by decide) Y.heap.size (.slice oa ps.length oc) ps.length (flatO ps) rfl ((HI.out.2.1.1.alloc _).alloc _) ⟨wr.heap.size + 1, 0, none⟩ 1 1 [.int .i64 o.kind, .int .i64 o.n, .string o.text, .slice ar o.attrs.length cr] rfl rfl (by have := new_at4 (wr.alloc (.cells #[.int .i64 o.kind, .int .i64 o.n, .string o.text, .slice ar o.attrs.length cr] 40)) (.int .i64 o.kind) (.int .i64 o.n) (.string o.text) (.slice ar o.attrs.length cr) 40; rw [HA.out] at this; exact this) (fun u hu => by simp at hu; rcases hu with rfl | rfl | rfl | rfl <;> rfl) (by unfold maxLen; omega) (by omega) (by have := hbs; simp; omega) ?_; intro v' w5 oC gC _; obtain ⟨oa', oc', rfl⟩ := own_slice oC; have blk2 := (gC.block (w2.heap.size + 1) (by have := lt_of_heap HI.out.1; simp; omega) (fun e => own_ne HI.out.2.1.1 HI.out.1 (by decide) e.symm)).trans ((Below.heap_alloc _ _ _ (by have := lt_of_heap HI.out.1; simp; omega)).trans ((Below.heap_alloc _ _ _ (lt_of_heap HI.out.1)).trans HI.out.1)); have e1 : w5.cell? ⟨w2.heap.size + 1, 1, none⟩ = some (.slice oa ps.length oc) := (Lib.cell_of_heap blk2 1).trans rfl; have e2 : w5.frozen? ⟨w2.heap.size + 1, 1, none⟩ = false := Lib.frozen_of_heap blk2 1; have HBK2 := Lib.hid blk2; have HB2 := Lib.hid ((((HI.out.2.2.alloc hbs _).alloc (by have := hbs; simp; omega) _).grown gC (by have := hbs; simp; omega) (fun j hj => (HI.out.2.1.1.lt j hj).1))); have HOC := Lib.hid oC; clear blk2 oC gC)
              have HIN := Lib.hid (dinv_put HBK2.out HOC.out (qs := [(o, .slice ar o.attrs.length cr)]) (fun p hp => by obtain rfl : p = (o, .slice ar o.attrs.length cr) := (by simpa using hp); exact HQ.out) HI.out.2.1 HB2.out (by omega))
              go_roundw
              case rel => exact ⟨n + 1, ps ++ [(o, .slice ar o.attrs.length cr)], oa', oc', by go_num, by omega, by rw [HTK.out, List.map_append]; exact HPA.out.one HOE.out, by rw [List.length_append]; exact HIN.out⟩
              case measure => simp [intOf]; omega
        · have g0 : (r == 1) = false := by rw [beq_eq_false_iff_ne]; exact hr1
          have hA : (wr.alloc (.cells #[.int .i64 o.kind, .int .i64 o.n, .string o.text, .slice ar o.attrs.length cr] 40)).heap.size = wr.heap.size + 1 := by simp
          have HA := Lib.hid hA
          clear hA
          go_wp2_with (at_builtin; refine wpList_append_new rfl (.tmp 56) (.tmp 58) 22 rfl 40 i0 (.agg #[.int .i64 0, .int .i64 0, .string ⟨#[]⟩, .slice none 0 0]) 4 56 Try.underlying22 Hi.out.1 Hi.out.2.1 Hi.out.2.2.1 Hi.out.2.2.2 rfl (by decide) Y.heap.size (.slice oa ps.length oc) ps.length (flatO ps) rfl ((HI.out.2.1.1.alloc _).alloc _) ⟨wr.heap.size + 1, 0, none⟩ 1 1 [.int .i64 o.kind, .int .i64 o.n, .string o.text, .slice ar o.attrs.length cr] rfl rfl (by have := new_at4 (wr.alloc (.cells #[.int .i64 o.kind, .int .i64 o.n, .string o.text, .slice ar o.attrs.length cr] 40)) (.int .i64 o.kind) (.int .i64 o.n) (.string o.text) (.slice ar o.attrs.length cr) 40; rw [HA.out] at this; exact this) (fun u hu => by simp at hu; rcases hu with rfl | rfl | rfl | rfl <;> rfl) (by unfold maxLen; omega) (by omega) (by have := hbs; simp; omega) ?_; intro v' w5 oC gC _; obtain ⟨oa', oc', rfl⟩ := own_slice oC; have blk2 := (gC.block (w2.heap.size + 1) (by have := lt_of_heap HI.out.1; simp; omega) (fun e => own_ne HI.out.2.1.1 HI.out.1 (by decide) e.symm)).trans ((Below.heap_alloc _ _ _ (by have := lt_of_heap HI.out.1; simp; omega)).trans ((Below.heap_alloc _ _ _ (lt_of_heap HI.out.1)).trans HI.out.1)); have e1 : w5.cell? ⟨w2.heap.size + 1, 1, none⟩ = some (.slice oa ps.length oc) := (Lib.cell_of_heap blk2 1).trans rfl; have e2 : w5.frozen? ⟨w2.heap.size + 1, 1, none⟩ = false := Lib.frozen_of_heap blk2 1; have HBK2 := Lib.hid blk2; have HB2 := Lib.hid ((((HI.out.2.2.alloc hbs _).alloc (by have := hbs; simp; omega) _).grown gC (by have := hbs; simp; omega) (fun j hj => (HI.out.2.1.1.lt j hj).1))); have HOC := Lib.hid oC; clear blk2 oC gC)
          have HIN := Lib.hid (dinv_put HBK2.out HOC.out (qs := [(o, .slice ar o.attrs.length cr)]) (fun p hp => by obtain rfl : p = (o, .slice ar o.attrs.length cr) := (by simpa using hp); exact HQ.out) HI.out.2.1 HB2.out (by omega))
          go_roundw
          case rel => exact ⟨n + 1, ps ++ [(o, .slice ar o.attrs.length cr)], oa', oc', by go_num, by omega, by rw [HTK.out, List.map_append]; exact HPA.out.one HOE.out, by rw [List.length_append]; exact HIN.out⟩
          case measure => simp [intOf]; omega
      · have s1 : decide ((n : Int) < (zs.length : Int)) = false := decide_eq_false (by omega)
        have s2 : decide (n < zs.length) = false := decide_eq_false hp
        have hr : bits BinOp.and IntKind.i64 0 1 = 0 := by decide
        have hA : (wr.alloc (.cells #[.int .i64 o.kind, .int .i64 o.n, .string o.text, .slice ar o.attrs.length cr] 40)).heap.size = wr.heap.size + 1 := by simp
        have HA := Lib.hid hA
        clear hA
        go_wp2_with (at_builtin; refine wpList_append_new rfl (.tmp 56) (.tmp 58) 22 rfl 40 i0 (.agg #[.int .i64 0, .int .i64 0, .string ⟨#[]⟩, .slice none 0 0]) 4 56 Try.underlying22 Hi.out.1 Hi.out.2.1 Hi.out.2.2.1 Hi.out.2.2.2 rfl (by decide) Y.heap.size (.slice oa ps.length oc) ps.length (flatO ps) rfl ((HI.out.2.1.1.alloc _).alloc _) ⟨wr.heap.size + 1, 0, none⟩ 1 1 [.int .i64 o.kind, .int .i64 o.n, .string o.text, .slice ar o.attrs.length cr] rfl rfl (by have := new_at4 (wr.alloc (.cells #[.int .i64 o.kind, .int .i64 o.n, .string o.text, .slice ar o.attrs.length cr] 40)) (.int .i64 o.kind) (.int .i64 o.n) (.string o.text) (.slice ar o.attrs.length cr) 40; rw [HA.out] at this; exact this) (fun u hu => by simp at hu; rcases hu with rfl | rfl | rfl | rfl <;> rfl) (by unfold maxLen; omega) (by omega) (by have := hbs; simp; omega) ?_; intro v' w5 oC gC _; obtain ⟨oa', oc', rfl⟩ := own_slice oC; have blk2 := (gC.block (w2.heap.size + 1) (by have := lt_of_heap HI.out.1; simp; omega) (fun e => own_ne HI.out.2.1.1 HI.out.1 (by decide) e.symm)).trans ((Below.heap_alloc _ _ _ (by have := lt_of_heap HI.out.1; simp; omega)).trans ((Below.heap_alloc _ _ _ (lt_of_heap HI.out.1)).trans HI.out.1)); have e1 : w5.cell? ⟨w2.heap.size + 1, 1, none⟩ = some (.slice oa ps.length oc) := (Lib.cell_of_heap blk2 1).trans rfl; have e2 : w5.frozen? ⟨w2.heap.size + 1, 1, none⟩ = false := Lib.frozen_of_heap blk2 1; have HBK2 := Lib.hid blk2; have HB2 := Lib.hid ((((HI.out.2.2.alloc hbs _).alloc (by have := hbs; simp; omega) _).grown gC (by have := hbs; simp; omega) (fun j hj => (HI.out.2.1.1.lt j hj).1))); have HOC := Lib.hid oC; clear blk2 oC gC)
        have HIN := Lib.hid (dinv_put HBK2.out HOC.out (qs := [(o, .slice ar o.attrs.length cr)]) (fun p hp => by obtain rfl : p = (o, .slice ar o.attrs.length cr) := (by simpa using hp); exact HQ.out) HI.out.2.1 HB2.out (by omega))
        go_roundw
        case rel => exact ⟨n + 1, ps ++ [(o, .slice ar o.attrs.length cr)], oa', oc', by go_num, by omega, by rw [HTK.out, List.map_append]; exact HPA.out.one HOE.out, by rw [List.length_append]; exact HIN.out⟩
        case measure => simp [intOf]; omega
    · have t1 : decide ((n : Int) < (ops.length : Int)) = false := decide_eq_false (by omega)
      have t2 : decide (n < ops.length) = false := decide_eq_false hlt
      have hno : n = ops.length := by omega
      rw [hno, List.take_length] at hpa
      have RD := (hI.2.1.row hI.2.2)
      have yA := heap_of HYA.out hI.2.2
      have OW := Lib.hid (OY.out.below hI.2.2)
      have e0 : wr.cell? ⟨w2.heap.size, 0, none⟩ = some (.int .i64 f) := (Lib.cell_of_heap yA 0).trans rfl
      have e1 : wr.cell? ⟨w2.heap.size, 1, none⟩ = some (.slice a2 l.length k2) := (Lib.cell_of_heap yA 1).trans rfl
      have OSZ := hI.2.1.sized
      have BWR := Lib.hid (BWY.out.trans (hI.2.2.mono BWY.out.size))
      have HXA := Lib.hid yA
      have lty : w2.heap.size < wr.heap.size := by omega
      have ROW := RD
      rw [show (ps.length : Nat) = (ps.map (·.1)).length by simp] at ROW
      rcases hpa.done HCK.out with ⟨hlong, he2⟩ | ⟨he2, hnm⟩
      · have HBD := normal_bad f (.slice oa ps.length oc) (ps.map (·.1)) wr RD OSZ (by rw [he2]; decide)
        rw [he2] at HBD
        have HBD := Lib.hid HBD
        clear hI hpa RD yA xC OSZ hlt hno hlong he2 ROW
        go_wp2_with fail
        refine HBD.out.mono ?_
        rintro e w6 ⟨rfl, b⟩
        have B6 := Lib.hid (BWR.out.trans (b.mono BWR.out.size))
        clear b
        go_wp2_with fail
        go_ret
        exact ⟨rfl, B6.out.alloc B6.out.size _⟩
      · have HOKN := normal_ok f (.slice oa ps.length oc) (ps.map (·.1)) wr RD OSZ he2
        rw [hnm, ← HL.out] at HOKN
        have HOKN := Lib.hid HOKN
        clear hI hpa RD yA xC OSZ hlt hno he2 hnm ROW
        go_wp2_with fail
        refine HOKN.out.mono ?_
        rintro e w6 ⟨v6, rfl, O6, b⟩
        obtain ⟨a6, k6, rfl⟩ := O6.row.shape
        have x6 := heap_of HXA.out b
        have h0 : w6.cell? ⟨w2.heap.size, 0, none⟩ = some (.int .i64 f) := (Lib.cell_of_heap x6 0).trans rfl
        have h1 : w6.cell? ⟨w2.heap.size, 1, none⟩ = some (.slice a2 l.length k2) := (Lib.cell_of_heap x6 1).trans rfl
        have lt6 : w2.heap.size < w6.heap.size := lt_of_heap x6
        have B6 := Lib.hid (BWR.out.trans (b.mono BWR.out.size))
        obtain ⟨T, hT⟩ : ∃ T, T = w6.alloc (.cells #[.int .i64 f, .slice a6 l.length k6] 24) := ⟨_, rfl⟩
        have BT : Below w6.heap.size w6 T := by rw [hT]; exact below_box _ _
        have HSM := Lib.hid (same_ok f _ _ l T ((OW.out.below b).below BT) (O6.row.below BT))
        have B7 := Lib.hid (B6.out.trans (BT.mono B6.out.size))
        have HT := Lib.hid hT
        clear b x6 O6 hT BT e0 e1
        go_wp2_with fail
        rw [← HT.out]
        refine HSM.out.mono ?_
        rintro e w8 ⟨rfl, b⟩
        have B8 := Lib.hid (B7.out.trans (b.mono B7.out.size))
        clear b
        go_wp2_with fail
        go_ret
        exact ⟨rfl, B8.out⟩

set_option maxRecDepth 100000 in
set_option maxHeartbeats 4000000 in
theorem parts_bad (f : Int) (v : Value) (ops : List OpD) (pv : Value) (w : World) (hv : OpRow w v ops) (hz : OSized ops) (he : toE f ops ≠ 0) :
    Calls Try.prog 6 #[chAgg f v, pv] w (OutB w true) := by
  have Hv := Lib.hid hv
  obtain ⟨a, c, rfl⟩ := hv.shape
  have HN := Lib.hid (fun W hW => normal_bad f (.slice a ops.length c) ops W (Hv.out.below hW) hz he)
  have t1 : (toE f ops != 0) = true := by rw [bne_iff_ne]; exact he
  generalize toE f ops = E at *
  obtain ⟨W, hW⟩ : ∃ W, W = w.alloc (.cells #[.int .i64 f, .slice a ops.length c] 24) := ⟨_, rfl⟩
  have BW := Lib.hid (show Below w.heap.size w W by rw [hW]; exact below_box _ _)
  have b0 : W.heap[w.heap.size]? = some (.cells #[.int .i64 f, .slice a ops.length c] 24 (0, 0)) := by rw [hW]; exact heap_new _ _
  have HW := Lib.hid hW
  have HB0 := Lib.hid b0
  clear hv hz he hW b0
  go_enter Try.func6, Try.ntmps6
  go_wp2_with fail
  rw [← HW.out]
  refine (awake_any _).mono ?_
  rintro e w1 ⟨rfl, b⟩
  have x1 := heap_of HB0.out b
  have c0 : w1.cell? ⟨w.heap.size, 0, none⟩ = some (.int .i64 f) := (Lib.cell_of_heap x1 0).trans rfl
  have c1 : w1.cell? ⟨w.heap.size, 1, none⟩ = some (.slice a ops.length c) := (Lib.cell_of_heap x1 1).trans rfl
  have B1 := Lib.hid (BW.out.trans (b.mono BW.out.size))
  clear b x1
  go_wp2_with fail
  refine (HN.out _ B1.out).mono ?_
  rintro e w2 ⟨rfl, b⟩
  have B2 := Lib.hid (B1.out.trans (b.mono B1.out.size))
  clear b c0 c1
  go_wp2_with fail
  go_ret
  exact ⟨rfl, B2.out.alloc B2.out.size _⟩

theorem parts_walk (f : Int) (v : Value) (ops : List OpD) (pv : Value) (zs : List Int) (w : World) (hv : OpRow w v ops) (hz : OSized ops) (hp : IntRow w pv zs) :
    Calls Try.prog 6 #[chAgg f v, pv] w (OutB w true) := by
  by_cases he : toE f ops = 0
  · exact parts_ok f v ops pv zs w hv hz hp he
  · exact parts_bad f v ops pv w hv hz he
end Go.Proofs.Ytggjeiemofkfbaa
