/- Rows of bytes put behind each other: an append, slices.Grow of nothing, slices.Concat of two rows, bytes.Clone. -/
import Derived.Test.YtbnkpbphahjomaaDoorSv
import Derived.Lib.AppendZerosOnto
import Derived.Lib.SliceRun
import Derived.OwnWalk
import Derived.LoopN
import Derived.Laws.AppendOwnNone
namespace Go.Proofs.YtbnkpbphahjomaaDoor
open Go.RowKit Su

theorem byteCells_append (l m : List UInt8) : Lib.byteCells (l ++ m) = Lib.byteCells l ++ Lib.byteCells m := by simp [Lib.byteCells]
theorem byteCells_one (l : List UInt8) : ∀ u ∈ Lib.byteCells l, u.oneCell' = true := by
  intro u hu
  obtain ⟨x, _, rfl⟩ := List.mem_map.1 hu
  rfl
theorem OwnU.lt {w : World} {B : Nat} {v : Value} {l : List UInt8} (h : OwnU w B v l) : ∀ k, v.ownBlock = some k → B ≤ k ∧ k < w.heap.size := by
  intro k hk
  rcases h.2 with ⟨rfl, _⟩ | ⟨g, cap, cur, rfl, hg, hc, _⟩
  · simp [Value.ownBlock] at hk
  · simp only [Value.ownBlock, Option.some.injEq] at hk
    subst hk
    exact ⟨hg, (Array.getElem?_eq_some_iff.1 hc).1⟩
theorem wpList_append_bytes {w : World} {ops : Array Oper} {rest : List Oper} {o : Oper} {a : Act} {Q : Exit → Act → World → Prop} (hgd : o.guard = none) (s x : Operand)
    (ho : o.op = .call { callee := .builtin .append, args := #[s, x], argTypes := #[22, 22] })
    (base : Nat) (v v' : Value) (l m : List UInt8) (hs : a.eval s = v) (hx : a.eval x = v') (hown : OwnU w base v l) (hrow : BRow w v' m)
    (hbytes : l.length + m.length ≤ 140737488355328) (hbase : base ≤ w.heap.size)
    (h : ∀ u w', OwnU w' base u (l ++ m) → w.grownBy w' v.ownBlock → wpList Tryd.prog ops Q rest (a.put o.dst u) w') : wpList Tryd.prog ops Q (o :: rest) a w := by
  have h63' : l.length + m.length ≤ maxLen := by unfold maxLen; omega
  obtain ⟨i0, hi, hz0, hz1, hz2⟩ := info_parts infoByte
  obtain ⟨ad, cap, rfl, h1, h2, h3, h4⟩ := hrow
  cases ad with
  | none =>
    obtain rfl := h3 rfl
    have hm : m = [] := List.length_eq_zero_iff.1 (by omega)
    subst hm
    refine wpList_append_own_none hgd s x 22 ho base 5 i0 1 Tryd.underlying22 hi v l.length _ hs hown hx ?_
    refine h v w ?_ ⟨rfl, rfl, rfl, Nat.le_refl _, fun _ _ _ => rfl⟩
    rw [List.append_nil]; exact hown
  | some ad =>
    refine wpList_append_own w hgd s x 22 ho base 5 i0 (.int .u8 0) 1 1 Tryd.underlying22 hi hz0 hz1 hz2 rfl (by decide) v l.length _ hs hown ad m.length cap (Lib.byteCells m) hx (by simp [Lib.byteCells]) (fun j u hj => ?_) (byteCells_one m) h63' (by omega) hbase
      fun u w' h1 h2 _ => h u w' (by unfold OwnU; rw [List.length_append, byteCells_append]; exact h1) h2
    have hjl : j < m.length := by have := (List.getElem?_eq_some_iff.1 hj).1; simpa [Lib.byteCells] using this
    obtain ⟨b, off, e, _, hc⟩ := h4 j hjl
    obtain rfl := Option.some.inj e
    rw [byteCells_at m j hjl] at hj
    rw [add_at, hc]
    exact hj

theorem nscB {n : Nat} (h : 1 ≤ n) : Builtin.nextslicecap (0 + n) 0 = 0 + n := by
  unfold Builtin.nextslicecap
  rw [if_pos (by omega)]
theorem append_zerosB (n : Nat) (W : World) (h1 : 1 ≤ n) (h2 : n ≤ 140737488355328) :
    ∃ cap W', (Builtin.append_ #[22, 3] 22 #[.slice none 0 0, .int .i64 n]).run Tryd.prog W = .ok (.slice (some ⟨W.heap.size, 0, none⟩) n cap) W' ∧
      OwnU W' W.heap.size (.slice (some ⟨W.heap.size, 0, none⟩) 0 cap) [] ∧ Below W.heap.size W W' ∧ n ≤ cap := by
  obtain ⟨i0, hi, hz0, hz1, hz2⟩ := info_parts infoByte
  have h := Lib.run_append_grow_zeros (P := Tryd.prog) W 22 3 22 5 i0 (.int .u8 0) .i64 .i64 Tryd.underlying22 Tryd.underlying3 hi hz0 none 0 0 [] (by rfl) n (by omega) (by rw [hz1]; decide) (by omega) (by omega) (by rw [hz2]; omega) (by rw [hz2, nscB h1]; omega)
  rw [Nat.zero_add] at h
  refine ⟨_, _, h, ⟨rfl, .inr ⟨_, _, _, rfl, Nat.le_refl _, heap_alloc_last _ _, Nat.zero_le _, ?_, ?_, by simp [Lib.byteCells]⟩⟩, ?_, grownCap_ge _ _ _ _⟩
  · exact grownCap_le_maxLen _ _ _ _ (by unfold maxLen; omega)
  · rw [Array.size_append, Array.size_append, size_zeroCells, size_zeroCells]
    have := grownCap_ge W n 0 5
    have hz : (Value.int .u8 0).cells.size = 1 := rfl
    rw [hz]
    simp
    omega
  · exact ((Below.refl _ W).drew).alloc (Nat.le_refl _) _
theorem slice_noneB (W : World) : (Instr.sliceAt 22 (.slice none 0 0) none (some (.int .i64 0)) none).run Tryd.prog W = .ok (.slice none 0 0) W := by
  rw [run_sliceAt_slice W _ _ _ _ _ underB, run_slice_h W _ _ _ _ underB .i64 _ (by omega) (by omega), elemB, Tryd.sizeOf5]
  rfl
/-- One operation 'append', by its run. -/
theorem wpList_appended {P : Program} {ops : Array Oper} {rest : List Oper} {o : Oper} {a : Act} {w w' : World} {Q : Exit → Act → World → Prop}
    (hgd : o.guard = none) (s x : Operand) (t u : TypeId) (hop : o.op = Op.call { callee := Callee.builtin Builtin.append, args := #[s, x], argTypes := #[t, u] })
    (v y v' : Value) (hs : a.eval s = v) (hx : a.eval x = y) (hr : (Builtin.append_ #[t, u] o.type #[v, y]).run P w = .ok v' w') (h : wpList P ops Q rest (a.put o.dst v') w') : wpList P ops Q (o :: rest) a w := by
  refine wpList_plain hgd fun K hK => ?_
  unfold Oper.wp execOp
  simp only [hop, resolve, invoke, builtin, Sem.run_bind, Sem.run_pure, Result.andThen_ok, List.map_toArray, List.map_cons, List.map_nil, hs, hx, hr]
  exact hK _ _ h

set_option maxRecDepth 100000 in
set_option maxHeartbeats 4000000 in
theorem grow_any (n : Nat) (w : World) (h1 : 1 ≤ n) (h2 : n ≤ 140737488355328) :
    Calls Tryd.prog 27 #[.slice none 0 0, .int .i64 n] w fun e w' => ∃ g cap, e = .returned (.slice (some ⟨g, 0, none⟩) 0 cap) ∧ OwnU w' w.heap.size (.slice (some ⟨g, 0, none⟩) 0 cap) [] ∧ Below w.heap.size w w' := by
  obtain ⟨cap, W', hrun, hown, hb, hcap⟩ := append_zerosB n w h1 h2
  have HO := Lib.hid hown
  have HB := Lib.hid hb
  have HS0 := slice_noneB w
  have HS1 := run_head (some ⟨w.heap.size, 0, none⟩) n cap 0 (Nat.zero_le _) W'
  have e1 : decide ((n : Int) < 0) = false := decide_eq_false (by omega)
  have e2 : ¬ ((n : Int) < 0) := by omega
  have e3 : (0 : Int) < (n : Int) := by omega
  clear hown hb hcap
  go_enter Tryd.func27, Tryd.ntmps27
  go_wp2_with (refine wpList_appended rfl _ _ 22 3 rfl (.slice none 0 0) (.int .i64 n) (.slice (some ⟨w.heap.size, 0, none⟩) n cap) rfl rfl hrun ?_; clear hrun)
  go_ret
  exact ⟨_, _, rfl, HO.out, HB.out⟩

set_option maxRecDepth 100000 in
set_option maxHeartbeats 4000000 in
theorem concat_any (sb : Nat) (v1 v2 : Value) (l m : List UInt8) (w : World) (hlt : sb < w.heap.size) (c0 : w.cell? ⟨sb, 0, none⟩ = some v1) (c1 : w.cell? ⟨sb, 1, none⟩ = some v2) (h1 : BRow w v1 l) (h2 : BRow w v2 m) (hm : 1 ≤ m.length) (hn : l.length + m.length ≤ 140737488355328) :
    Calls Tryd.prog 24 #[.slice (some ⟨sb, 0, none⟩) 2 2] w fun e w' => ∃ v, e = .returned v ∧ OwnU w' w.heap.size v (l ++ m) ∧ Below w.heap.size w w' := by
  obtain ⟨a1, k1, rfl⟩ : ∃ a c, v1 = .slice a l.length c := by obtain ⟨a, c, h, _⟩ := h1; exact ⟨a, c, h⟩
  obtain ⟨a2, k2, rfl⟩ : ∃ a c, v2 = .slice a m.length c := by obtain ⟨a, c, h, _⟩ := h2; exact ⟨a, c, h⟩
  have H1 := Lib.hid h1
  have H2 := Lib.hid h2
  have hg := grow_any (l.length + m.length) w (by omega) (by omega)
  rw [Int.natCast_add] at hg
  have HG := Lib.hid hg
  have e1 : wrap64 (l.length : Int) = (l.length : Int) := IntWalk.wrap64_in _ (by omega)
  have e2 : wrap64 ((l.length : Int) + (m.length : Int)) = ((l.length + m.length : Nat) : Int) := by rw [IntWalk.wrap64_in _ (by omega)]; omega
  have e3 : decide ((l.length : Int) < 0) = false := decide_eq_false (by omega)
  have e4 : decide (((l.length + m.length : Nat) : Int) < 0) = false := decide_eq_false (by omega)
  clear h1 h2 hg
  go_enter Tryd.func24, Tryd.ntmps24
  go_wp2_with fail
  refine wp_loop_rounds 3 ?_
  rw [rounds_succ]
  go_wp2_with fail
  rw [rounds_succ]
  go_wp2_with fail
  rw [rounds_succ]
  go_wp2_with fail
  refine HG.out.mono ?_
  rintro e w1 ⟨g, cap, rfl, hown, hb⟩
  have hs1 := hb.size
  have d0 : w1.cell? ⟨sb, 0, none⟩ = some (.slice a1 l.length k1) := (hb.cell (by exact hlt)).trans c0
  have d1 : w1.cell? ⟨sb, 1, none⟩ = some (.slice a2 m.length k2) := (hb.cell (by exact hlt)).trans c1
  have HO := Lib.hid hown
  have HB := Lib.hid hb
  clear hown hb c0 c1
  go_wp2_with fail
  refine wp_loop_rounds 3 ?_
  rw [rounds_succ]
  go_wp2_with (refine wpList_append_bytes rfl _ _ rfl w.heap.size (.slice (some ⟨g, 0, none⟩) 0 cap) (.slice a1 l.length k1) [] l rfl rfl HO.out (H1.out.below HB.out) (by simp; omega) hs1 ?_; intro u w2 own2 gr2; rw [List.nil_append] at own2; obtain ⟨ua, uc, rfl⟩ := own2.shape; have hb2 : Below w.heap.size w w2 := HB.out.grown gr2 hs1 (fun k hk => (HO.out.lt k hk).1); have hlt1 : sb < w1.heap.size := Nat.lt_of_lt_of_le hlt hs1; have f1 : w2.cell? ⟨sb, 1, none⟩ = some (.slice a2 m.length k2) := gr2.cell d1 (fun e => by have := (HO.out.lt sb e.symm).1; omega); have HO2 := Lib.hid own2; have HB2 := Lib.hid hb2; have hs2 := hb2.size; clear own2 hb2 gr2)
  rw [rounds_succ]
  go_wp2_with (refine wpList_append_bytes rfl _ _ rfl w.heap.size (.slice ua l.length uc) (.slice a2 m.length k2) l m rfl rfl HO2.out (H2.out.below HB2.out) (by omega) hs2 ?_; intro u3 w3 own3 gr3; obtain ⟨ua3, uc3, rfl⟩ := own3.shape; have HB3 := Lib.hid (HB2.out.grown gr3 hs2 (fun k hk => (HO2.out.lt k hk).1)); have HO3 := Lib.hid own3; clear own3 gr3)
  rw [rounds_succ]
  go_wp2_with fail
  go_ret
  have h := HO3.out
  rw [List.length_append] at h
  exact ⟨_, rfl, h, HB3.out⟩

/-- An empty literal. -/
theorem own_empty (w : World) : OwnU (w.alloc (.cells #[] 5)) w.heap.size (.slice (some ⟨w.heap.size, 0, none⟩) 0 0) [] :=
  World.ownsRow_made w #[] 0 (Nat.le_refl _) (Nat.zero_le _) rfl
set_option maxRecDepth 100000 in
set_option maxHeartbeats 2000000 in
theorem clone_any (v : Value) (l : List UInt8) (w : World) (h : BRow w v l) (hn : l.length ≤ 140737488355328) :
    Calls Tryd.prog 25 #[v] w fun e w' => ∃ v', e = .returned v' ∧ OwnU w' w.heap.size v' l ∧ Below w.heap.size w w' := by
  have H := Lib.hid h
  obtain ⟨a, cap, rfl, h2, h3, h4, _⟩ := h
  have q : ∀ (w : World) (a : Option Addr) (n c n' c' : Nat), (binOp .eql 22 (.slice a n c) (.slice none n' c')).run Tryd.prog w = .ok (.bool a.isNone) w := fun w a n c n' c' => Lib.run_eql_slice_nil w _ _ a n c n' c' Tryd.underlying22
  cases a with
  | none =>
    have hc := h4 rfl
    have hl : l = [] := List.length_eq_zero_iff.1 (by omega)
    have HL := Lib.hid hl
    clear h4 hl
    go_enter Tryd.func25, Tryd.ntmps25
    go_wp2_with fail
    go_ret
    refine ⟨_, rfl, ?_, Below.refl _ _⟩
    rw [HL.out]
    exact ⟨rfl, .inl ⟨rfl, rfl⟩⟩
  | some a =>
    clear h4
    have HE := Lib.hid (own_empty w)
    have hbx := (Below.refl w.heap.size w).alloc (Nat.le_refl _) (.cells #[] 5)
    have HX := Lib.hid hbx
    clear hbx
    go_enter Tryd.func25, Tryd.ntmps25
    go_wp2_with (refine wpList_append_bytes rfl _ _ rfl w.heap.size (.slice (some ⟨w.heap.size, 0, none⟩) 0 0) (.slice (some a) l.length cap) [] l rfl rfl HE.out (H.out.below HX.out) (by simpa using hn) (by simp) ?_; intro u w2 own2 gr2; rw [List.nil_append] at own2; have HO2 := Lib.hid own2; have HB2 := Lib.hid (HX.out.grown gr2 (by simp) (fun k hk => (HE.out.lt k hk).1)); clear own2 gr2)
    go_ret
    exact ⟨_, rfl, HO2.out, HB2.out⟩
end Go.Proofs.YtbnkpbphahjomaaDoor
