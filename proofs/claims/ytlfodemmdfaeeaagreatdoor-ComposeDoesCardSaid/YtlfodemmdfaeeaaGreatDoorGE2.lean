/- Texts of this seat, put together: Dg, Dr, Df. -/
import Derived.Test.YtlfodemmdfaeeaaGreatDoorGC3
import Derived.Test.YtlfodemmdfaeeaaGreatDoorGD1
import Derived.Test.YtlfodemmdfaeeaaGreatDoorGB3
import Derived.Test.YtlfodemmdfaeeaaGreatDoorGE4
import Derived.Test.YtlfodemmdfaeeaaGreatDoorGC1
import Derived.Lib.AppendZerosOnto
import Derived.LoopN
import Derived.RangeFuncBox
/- slices.Grow of nothing, slices.Concat of two rows of operations. -/
namespace Go.Proofs.YtlfodemmdfaeeaaGreatDoor
open Go.RowKit Ch

theorem nsc {n : Nat} (h : 1 ≤ n) : Builtin.nextslicecap (0 + n) 0 = 0 + n := by
 unfold Builtin.nextslicecap
 rw [if_pos (by omega)]
theorem append_zeros (n : Nat) (W : World) (h1 : 1 ≤ n) (h2 : n ≤ 1000000) :
 ∃ cap W', (Builtin.append_ #[23, 3] 23 #[.slice none 0 0, .int .i64 n]).run Tryz.prog W = .ok (.slice (some ⟨W.heap.size, 0, none⟩) n cap) W' ∧
  W'.ownsRow W.heap.size 37 4 (.slice (some ⟨W.heap.size, 0, none⟩) 0 cap) 0 [] ∧ Below W.heap.size W W' ∧ n ≤ cap := by
 obtain ⟨i0, hi, hz0, hz1, hz2⟩ := info_parts infoOp
 obtain ⟨z, hz⟩ : ∃ z, z = (Value.agg #[.int .i64 0, .int .i64 0, .string ⟨#[]⟩, .slice none 0 0]) := ⟨_, rfl⟩
 have hzc : z.cells.size = 4 := by rw [hz]; rfl
 rw [← hz] at hz0
 have h := Lib.run_append_grow_zeros (P := Tryz.prog) W 23 3 23 37 i0 z .i64 .i64 Tryz.underlying23 Tryz.underlying3 hi hz0 none 0 0 [] (by rfl) n (by omega) (by rw [hz1]; decide) (by omega) (by omega) (by rw [hz2]; omega) (by rw [hz2, nsc h1]; omega)
 rw [Nat.zero_add] at h
 refine ⟨_, _, h, ⟨rfl, .inr ⟨_, _, _, rfl, Nat.le_refl _, heap_new _ _, Nat.zero_le _, ?_, ?_, by simp⟩⟩, ?_, grownCap_ge _ _ _ _⟩
 ·exact grownCap_le_maxLen _ _ _ _ (by unfold maxLen; omega)
 ·rw [Array.size_append, Array.size_append, size_zeroCells, size_zeroCells, hzc]
  have := grownCap_ge W n 0 37
  simp
  omega
 ·exact ((Below.refl _ W).drew).alloc (Nat.le_refl _) _
theorem slice_none (W : World) : (Instr.sliceAt 23 (.slice none 0 0) none (some (.int .i64 0)) none).run Tryz.prog W = .ok (.slice none 0 0) W := by
 have he : Tryz.prog.elem 23 = 37 := by kernel_rfl
 have hu : Tryz.prog.underlying 23 = some (.slice (Tryz.prog.elem 23)) := by kernel_rfl
 rw [run_sliceAt_slice W _ _ _ _ _ hu, run_slice_h W _ _ _ _ hu .i64 _ (by omega) (by omega), he, Tryz.sizeOf37]
 rfl

/-- One operation 'append', by its run. -/
theorem wpList_appended {P : Program} {ops : Array Oper} {rest : List Oper} {o : Oper} {a : Act} {w w' : World} {Q : Exit → Act → World → Prop}
 (hgd : o.guard = none) (s x : Operand) (t u : TypeId) (hop : o.op = Op.call { callee := Callee.builtin Builtin.append, args := #[s, x], argTypes := #[t, u] })
 (v y v' : Value) (hs : a.eval s = v) (hx : a.eval x = y) (hr : (Builtin.append_ #[t, u] o.type #[v, y]).run P w = .ok v' w') (h : wpList P ops Q rest (a.put o.dst v') w') : wpList P ops Q (o :: rest) a w := by
 refine wpList_plain hgd fun K hK => ?_
 unfold Oper.wp execOp
 simp only [hop, resolve, invoke, builtin, Sem.run_bind, Sem.run_pure, Result.andThen_ok, List.map_toArray, List.map_cons, List.map_nil, hs, hx, hr]
 exact hK _ _ h

set_option maxRecDepth 100000 in
set_option maxHeartbeats 4000000 in
theorem grow_any (n : Nat) (w : World) (h1 : 1 ≤ n) (h2 : n ≤ 1000000) :
 Calls Tryz.prog 68 #[.slice none 0 0, .int .i64 n] w fun e w' => ∃ g cap, e = .returned (.slice (some ⟨g, 0, none⟩) 0 cap) ∧ w'.ownsRow w.heap.size 37 4 (.slice (some ⟨g, 0, none⟩) 0 cap) 0 [] ∧ Below w.heap.size w w' := by
 obtain ⟨cap, W', hrun, hown, hb, hcap⟩ := append_zeros n w h1 h2
 have HO := Lib.hid hown
 have HB := Lib.hid hb
 have HS0 := Lib.hid (fun W => slice_none W)
 have HS1 := Lib.hid (fun W => slice_ops w.heap.size n cap 0 (Nat.zero_le _) W)
 have e1 : decide ((n : Int) < 0) = false := decide_eq_false (by omega)
 have e2 : ¬ ((n : Int) < 0) := by omega
 have e3 : (0 : Int) < (n : Int) := by omega
 clear hown hb hcap
 go_enter Tryz.func68, Tryz.ntmps68
 go_wp2_with (refine wpList_appended rfl _ _ 23 3 rfl (.slice none 0 0) (.int .i64 n) (.slice (some ⟨w.heap.size, 0, none⟩) n cap) rfl rfl hrun ?_; clear hrun)
 go_ret
 exact ⟨_, _, rfl, HO.out, HB.out⟩

/-- Operations of a row, each with its row's value, as cells. -/
def OpCells (w : World) (v : Value) (qs : List (OpD × Value)) : Prop :=
 ∃ a cap, v = .slice a qs.length cap ∧ (a = none → cap = 0) ∧ (∀ j u, (flatO qs)[j]? = some u → ∃ b off, a = some ⟨b, off, none⟩ ∧ b < w.heap.size ∧ w.cell? ⟨b, off + j, none⟩ = some u) ∧ ∀ u ∈ flatO qs, u.oneCell' = true
theorem OpCells.below {w w' : World} {v : Value} {qs : List (OpD × Value)} (h : OpCells w v qs) (hb : Below w.heap.size w w') : OpCells w' v qs := by
 obtain ⟨a, cap, rfl, h1, h2, h3⟩ := h
 refine ⟨a, cap, rfl, h1, fun j u hj => ?_, h3⟩
 obtain ⟨b, off, rfl, hlt, hc⟩ := h2 j u hj
 exact ⟨b, off, rfl, Nat.lt_of_lt_of_le hlt hb.size, (hb.cell (by exact hlt)).trans hc⟩
theorem wpList_append_ops {w : World} {ops : Array Oper} {rest : List Oper} {o : Oper} {a : Act} {Q : Exit → Act → World → Prop} (hgd : o.guard = none) (s x : Operand)
 (ho : o.op = .call { callee := .builtin .append, args := #[s, x], argTypes := #[23, 23] })
 (base : Nat) (v v' : Value) (n : Nat) (xs : List Value) (qs : List (OpD × Value)) (hs : a.eval s = v) (hx : a.eval x = v') (hown : w.ownsRow base 37 4 v n xs) (hrow : OpCells w v' qs)
 (h63 : n + qs.length ≤ 1000000) (hbase : base ≤ w.heap.size)
 (h : ∀ u w', w'.ownsRow base 37 4 u (n + qs.length) (xs ++ flatO qs) → w.grownBy w' v.ownBlock → wpList Tryz.prog ops Q rest (a.put o.dst u) w') : wpList Tryz.prog ops Q (o :: rest) a w := by
 have h63' : n + qs.length ≤ maxLen := by unfold maxLen; omega
 have hbytes : (n + qs.length) * 56 ≤ 140737488355328 := by omega
 obtain ⟨i0, hi, hz0, hz1, hz2⟩ := info_parts infoOp
 obtain ⟨ad, cap, rfl, h1, h2, h3⟩ := hrow
 cases ad with
 | none =>
   have hm : qs = [] := by
    cases qs with
    | nil => rfl
    | cons y r =>
      obtain ⟨b, off, he, _⟩ := h2 0 (.int .i64 y.1.kind) (by simp [flatO, opCells])
      cases he
   subst hm
   obtain rfl := h1 rfl
   refine wpList_append_own_none hgd s x 23 ho base 37 i0 4 Tryz.underlying23 hi v n xs hs hown hx ?_
   refine h v w ?_ ⟨rfl, rfl, rfl, Nat.le_refl _, fun _ _ _ => rfl⟩
   have : xs ++ flatO [] = xs := by simp [flatO]
   rw [this]; exact hown
 | some ad =>
   refine wpList_append_own w hgd s x 23 ho base 37 i0 (.agg #[.int .i64 0, .int .i64 0, .string ⟨#[]⟩, .slice none 0 0]) 4 56 Tryz.underlying23 hi hz0 hz1 hz2 rfl (by decide) v n xs hs hown ad qs.length cap (flatO qs) hx (flatO_len qs) (fun j u hj => ?_) h3 h63' hbytes hbase
    fun u w' h1 h2 _ => h u w' h1 h2
   obtain ⟨b, off, e, _, hc⟩ := h2 j u hj
   obtain rfl := Option.some.inj e
   have e2 : (⟨b, off, none⟩ : Addr).add j = ⟨b, off + j, none⟩ := by
    by_cases hj0 : j = 0
    ·subst hj0; simp [Addr.add]
    ·simp [Addr.add, hj0]
   rw [e2]
   exact hc

set_option maxRecDepth 100000 in
set_option maxHeartbeats 4000000 in
theorem concat_any (sb : Nat) (v1 v2 : Value) (q1 q2 : List (OpD × Value)) (w : World) (hlt : sb < w.heap.size) (c0 : w.cell? ⟨sb, 0, none⟩ = some v1) (c1 : w.cell? ⟨sb, 1, none⟩ = some v2) (h1 : OpCells w v1 q1) (h2 : OpCells w v2 q2) (hn : q1.length ≤ 100000) (hm : 1 ≤ q2.length) (hm2 : q2.length ≤ 100000) :
 Calls Tryz.prog 38 #[.slice (some ⟨sb, 0, none⟩) 2 2] w fun e w' => ∃ v, e = .returned v ∧ w'.ownsRow w.heap.size 37 4 v (q1.length + q2.length) (flatO (q1 ++ q2)) ∧ Below w.heap.size w w' := by
 obtain ⟨a1, k1, rfl⟩ : ∃ a c, v1 = .slice a q1.length c := by obtain ⟨a, c, h, _⟩ := h1; exact ⟨a, c, h⟩
 obtain ⟨a2, k2, rfl⟩ : ∃ a c, v2 = .slice a q2.length c := by obtain ⟨a, c, h, _⟩ := h2; exact ⟨a, c, h⟩
 have H1 := Lib.hid h1
 have H2 := Lib.hid h2
 have hg := grow_any (q1.length + q2.length) w (by omega) (by omega)
 rw [Int.natCast_add] at hg
 have HG := Lib.hid hg
 have e1 : wrap64 (q1.length : Int) = (q1.length : Int) := IntWalk.wrap64_in _ (by omega)
 have e2 : wrap64 ((q1.length : Int) + (q2.length : Int)) = ((q1.length + q2.length : Nat) : Int) := by rw [IntWalk.wrap64_in _ (by omega)]; omega
 have e3 : decide ((q1.length : Int) < 0) = false := decide_eq_false (by omega)
 have e4 : decide (((q1.length + q2.length : Nat) : Int) < 0) = false := decide_eq_false (by omega)
 clear h1 h2 hg
 go_enter Tryz.func38, Tryz.ntmps38
 go_wp2_with fail
 refine wp_loop_rounds 3 ?_
 rw [rounds_succ]
 go_wp2_with fail
 rw [rounds_succ]
 go_wp2_with fail
 rw [rounds_succ]
 go_wp2_with fail
 refine HG.out.mono ?_
 rintro e w1 ⟨g, cap, rfl, hown, hb⟩
 have hs1 := hb.size
 have d0 : w1.cell? ⟨sb, 0, none⟩ = some (.slice a1 q1.length k1) := (hb.cell (by exact hlt)).trans c0
 have d1 : w1.cell? ⟨sb, 1, none⟩ = some (.slice a2 q2.length k2) := (hb.cell (by exact hlt)).trans c1
 have HO := Lib.hid hown
 have HB := Lib.hid hb
 clear hown hb c0 c1
 go_wp2_with fail
 refine wp_loop_rounds 3 ?_
 rw [rounds_succ]
 go_wp2_with (refine wpList_append_ops rfl _ _ rfl w.heap.size (.slice (some ⟨g, 0, none⟩) 0 cap) (.slice a1 q1.length k1) 0 [] q1 rfl rfl HO.out (H1.out.below HB.out) (by omega) hs1 ?_; intro u w2 own2 gr2; rw [Nat.zero_add, List.nil_append] at own2; obtain ⟨ua, uc, rfl⟩ := own_slice own2; have hb2 : Below w.heap.size w w2 := HB.out.grown gr2 hs1 (fun k hk => (HO.out.lt k hk).1); have hlt1 : sb < w1.heap.size := Nat.lt_of_lt_of_le hlt hs1; have f1 : w2.cell? ⟨sb, 1, none⟩ = some (.slice a2 q2.length k2) := gr2.cell d1 (fun e => by have := (HO.out.lt sb e.symm).1; omega); have HO2 := Lib.hid own2; have HB2 := Lib.hid hb2; have hs2 := hb2.size; clear own2 hb2 gr2)
 rw [rounds_succ]
 go_wp2_with (refine wpList_append_ops rfl _ _ rfl w.heap.size (.slice ua q1.length uc) (.slice a2 q2.length k2) q1.length (flatO q1) q2 rfl rfl HO2.out (H2.out.below HB2.out) (by omega) hs2 ?_; intro u3 w3 own3 gr3; obtain ⟨ua3, uc3, rfl⟩ := own_slice own3; have HB3 := Lib.hid (HB2.out.grown gr3 hs2 (fun k hk => (HO2.out.lt k hk).1)); have HO3 := Lib.hid own3; clear own3 gr3)
 rw [rounds_succ]
 go_wp2_with fail
 go_ret
 refine ⟨_, rfl, ?_, HB3.out⟩
 have h := HO3.out
 rw [show flatO (q1 ++ q2) = flatO q1 ++ flatO q2 by simp [flatO]]
 exact h
end Go.Proofs.YtlfodemmdfaeeaaGreatDoor

/- The program's remembered: a way to make attributes of two rows, gone anew only where they are others. -/
namespace Go.Proofs.YtlfodemmdfaeeaaGreatDoor
open Go.RowKit At Ch

abbrev TM : List TypeId := [35, 27]
abbrev WAYT : TypeId := 42
/-- What remembered keeps: which two rows, and what came of them. -/
def RemSt (F : Nat) (R : List (K × V) → List (K × V) → List (K × V)) (E : List (K × V) → List (K × V) → Int) (w : World) (B bb : Nat) (L C : List (K × V)) : Prop :=
 ∃ lv cv av, Boxed w bb WAYT (.func (.func F) #[] #[]) ∧ Boxed w (bb + 1) 35 lv ∧ Boxed w (bb + 2) 35 cv ∧ Boxed w (bb + 3) 35 av ∧ Boxed w (bb + 4) 27 (.int .i64 (E L C)) ∧
  (∀ w', Below B w w' → AtRow w' lv L) ∧ (∀ w', Below B w w' → AtRow w' cv C) ∧ w.ownsRow B 88 2 av (R L C).length (flat (R L C))
theorem boxed_keep2 {w w' : World} {b B : Nat} {t : TypeId} {v : Value} {ts : List TypeId} (h : Boxed w b t v) (hk : Keep B ts w w') (ht : t ∉ ts) : Boxed w' b t v := hk.kept _ _ _ _ h ht
theorem RemSt.keep {F : Nat} {R : List (K × V) → List (K × V) → List (K × V)} {E : List (K × V) → List (K × V) → Int} {w w' : World} {B bb : Nat} {L C : List (K × V)} {ts : List TypeId} (h : RemSt F R E w B bb L C) (hk : Keep B ts w w') (h1 : WAYT ∉ ts) (h2 : 35 ∉ ts) (h3 : 27 ∉ ts) (h4 : 88 ∉ ts) : RemSt F R E w' B bb L C := by
 obtain ⟨lv, cv, av, a, b, c, d, e, f, g, i⟩ := h
 exact ⟨lv, cv, av, boxed_keep2 a hk h1, boxed_keep2 b hk h2, boxed_keep2 c hk h2, boxed_keep2 d hk h2, boxed_keep2 e hk h3, fun w'' hb => f w'' (hk.below.trans hb), fun w'' hb => g w'' (hk.below.trans hb), hk.own i h4⟩
def capR (bb : Nat) : Array Value := #[.pointer (some ⟨bb + 1, 0, none⟩), .pointer (some ⟨bb + 2, 0, none⟩), .pointer (some ⟨bb, 0, none⟩), .pointer (some ⟨bb + 3, 0, none⟩), .pointer (some ⟨bb + 4, 0, none⟩)]
theorem sameB_of {l m : List (K × V)} (h : l = m) : sameB l m = true := decide_eq_true h
theorem sameB_not {l m : List (K × V)} (h : l ≠ m) : sameB l m = false := decide_eq_false h

set_option maxRecDepth 100000 in
theorem remembered_a (B : Nat) (w : World) : Calls Tryz.prog 13 #[.func (.func 14) #[] #[]] w fun e w' => e = .returned (.func (.func 31) #[] (capR w.heap.size)) ∧ Below w.heap.size w w' ∧ RemSt 14 applyR applyE w' B w.heap.size [] [] := by
 go_enter Tryz.func13, Tryz.ntmps13
 go_wp2_with fail
 go_ret
 refine ⟨rfl, ?_, .slice none 0 0, .slice none 0 0, .slice none 0 0, ?_, ?_, ?_, ?_, ?_, fun w' _ => row_nil w', fun w' _ => row_nil w', by rw [show applyR [] [] = [] by decide +kernel]; exact World.ownsRow_nil _ _ _ _⟩
 ·exact (((((Below.refl _ w).alloc (Nat.le_refl _) _).alloc (by simp) _).alloc (by simp; omega) _).alloc (by simp; omega) _).alloc (by simp; omega) _
 ·exact ((((Boxed.new w _ _).alloc _).alloc _).alloc _).alloc _
 ·have := (((Boxed.new (w.alloc (.cells #[.func (.func 14) #[] #[]] WAYT)) 35 (.slice none 0 0)).alloc (.cells #[.slice none 0 0] 35)).alloc (.cells #[.slice none 0 0] 35)).alloc (.cells #[.int .i64 0] 27)
  simpa only [World.size_alloc] using this
 ·have := ((Boxed.new ((w.alloc (.cells #[.func (.func 14) #[] #[]] WAYT)).alloc (.cells #[.slice none 0 0] 35)) 35 (.slice none 0 0)).alloc (.cells #[.slice none 0 0] 35)).alloc (.cells #[.int .i64 0] 27)
  simpa only [World.size_alloc] using this
 ·have := (Boxed.new (((w.alloc (.cells #[.func (.func 14) #[] #[]] WAYT)).alloc (.cells #[.slice none 0 0] 35)).alloc (.cells #[.slice none 0 0] 35)) 35 (.slice none 0 0)).alloc (.cells #[.int .i64 0] 27)
  simpa only [World.size_alloc] using this
 ·rw [show applyE [] [] = 0 by decide +kernel]
  have := Boxed.new ((((w.alloc (.cells #[.func (.func 14) #[] #[]] WAYT)).alloc (.cells #[.slice none 0 0] 35)).alloc (.cells #[.slice none 0 0] 35)).alloc (.cells #[.slice none 0 0] 35)) 27 (.int .i64 0)
  simpa only [World.size_alloc] using this

def LaidOut_a (w : World) (B bb : Nat) (L C : List (K × V)) (e : Ending) (w' : World) : Prop :=
 ∃ av, e = .returned (.tuple #[av, .int .i64 (applyE L C)]) ∧ RemSt 14 applyR applyE w' B bb L C ∧ w'.ownsRow B 88 2 av (applyR L C).length (flat (applyR L C)) ∧ Keep bb TM w w'

set_option maxRecDepth 100000 in
set_option maxHeartbeats 4000000 in
theorem laid_a (B bb : Nat) (L C L' C' : List (K × V)) (v u : Value) (w : World) (h : RemSt 14 applyR applyE w B bb L C) (hB : B ≤ bb) (hv : ∀ w', Below B w w' → AtRow w' v L') (hu : ∀ w', Below B w w' → AtRow w' u C') (hz : Sized L') (hy : Sized C') :
 Calls Tryz.prog 31 (#[v, u] ++ capR bb) w (LaidOut_a w B bb L' C') := by
 have h' := h
 obtain ⟨lv, cv, av, a, b, c, d, e, f, g, i⟩ := h
 have hbw : B ≤ w.heap.size := Nat.le_trans hB (Nat.le_of_lt a.lt)
 have hbb : bb ≤ w.heap.size := Nat.le_of_lt a.lt
 obtain ⟨va, vc, rfl⟩ := (hv w (Below.refl _ _)).shape
 obtain ⟨ua, uc, rfl⟩ := (hu w (Below.refl _ _)).shape
 obtain ⟨la, lc, rfl⟩ := (f w (Below.refl _ _)).shape
 obtain ⟨ca, cc, rfl⟩ := (g w (Below.refl _ _)).shape
 obtain ⟨aa, ac, rfl⟩ := own_slice i
 have a0 := a.cell
 have b0 := b.cell
 have c0 := c.cell
 have d0 := d.cell
 have e0 := e.cell
 have HS1 := Lib.hid (fun n => same_any (.slice va L'.length vc) (.slice la L.length lc) L' L (w.drewN n) (hv _ (below_drewN (Below.refl _ _) n)) (f _ (below_drewN (Below.refl _ _) n)))
 have HS2 := Lib.hid (fun n => same_any (.slice ua C'.length uc) (.slice ca C.length cc) C' C (w.drewN n) (hu _ (below_drewN (Below.refl _ _) n)) (g _ (below_drewN (Below.refl _ _) n)))
 have HH := Lib.hid h'
 have HI := Lib.hid i
 by_cases hL : L' = L
 ·by_cases hC : C' = C
  ·have s1 := sameB_of hL
   have s2 := sameB_of hC
   have HE := Lib.hid (And.intro hL hC)
   clear h' f g i hL hC
   unfold capR
   go_enter Tryz.func31, Tryz.ntmps31
   go_wp2_with fail
   refine (HS1.out 0).mono ?_
   rintro e w1 ⟨rfl, k1, rfl⟩
   rw [s1]
   go_wp2_with fail
   refine (HS2.out k1).mono ?_
   rintro e w2 ⟨rfl, k2, rfl⟩
   rw [s2]
   go_wp2_with fail
   go_quiet (fail)
   go_wp2_with fail
   obtain ⟨hL, hC⟩ := HE.out
   subst hL
   subst hC
   go_ret2
   have HBQ : Below w.heap.size w ((w.drewN (k1 + k2)).drewN nq) := below_drewN (below_drewN (Below.refl _ _) _) _
   have KQ : Keep bb TM w ((w.drewN (k1 + k2)).drewN nq) := keep_below HBQ hbb
   have KQ0 : Keep B [] w ((w.drewN (k1 + k2)).drewN nq) := keep_below HBQ hbw
   exact ⟨_, rfl, HH.out.keep KQ0 (by simp) (by simp) (by simp) (by simp), KQ0.own HI.out (by simp), KQ⟩
  ·have s1 := sameB_of hL
   have s2 := sameB_not hC
   clear hL hC
   unfold capR
   go_enter Tryz.func31, Tryz.ntmps31
   go_wp2_with fail
   refine (HS1.out 0).mono ?_
   rintro e' w1 ⟨rfl, k1, rfl⟩
   rw [s1]
   go_wp2_with fail
   refine (HS2.out k1).mono ?_
   rintro e' w2 ⟨rfl, k2, rfl⟩
   rw [s2]
   have HBK : Below w.heap.size w (w.drewN (k1 + k2)) := below_drewN (Below.refl _ _) _
   have K0 : Keep bb TM w (w.drewN (k1 + k2)) := keep_below HBK hbb
   have A0 : Boxed (w.drewN (k1 + k2)) bb WAYT (.func (.func 14) #[] #[]) := (HBK.block _ a.lt).trans a
   have B0 : Boxed (w.drewN (k1 + k2)) (bb + 1) 35 (.slice la L.length lc) := (HBK.block _ b.lt).trans b
   have C0 : Boxed (w.drewN (k1 + k2)) (bb + 2) 35 (.slice ca C.length cc) := (HBK.block _ c.lt).trans c
   have D0 : Boxed (w.drewN (k1 + k2)) (bb + 3) 35 (.slice aa (applyR L C).length ac) := (HBK.block _ d.lt).trans d
   have E0 : Boxed (w.drewN (k1 + k2)) (bb + 4) 27 (.int .i64 (applyE L C)) := (HBK.block _ e.lt).trans e
   have b1 := b.frozen
   have c1 := c.frozen
   have HK0 := Lib.hid K0
   have HA0 := Lib.hid A0
   have HB0 := Lib.hid B0
   have HC0 := Lib.hid C0
   have HD0 := Lib.hid D0
   have HE0 := Lib.hid E0
   clear a b c d e A0 B0 C0 D0 E0 K0 HBK h' f g i
   go_wp2_with fail
   have B2 := (HB0.out.set (.slice va L'.length vc)).other (show bb + 1 ≠ bb + 2 by omega) (.slice ua C'.length uc)
   have C2 := (HC0.out.other (show bb + 2 ≠ bb + 1 by omega) (.slice va L'.length vc)).set (.slice ua C'.length uc)
   have D2 := (HD0.out.other (show bb + 3 ≠ bb + 1 by omega) (.slice va L'.length vc)).other (show bb + 3 ≠ bb + 2 by omega) (.slice ua C'.length uc)
   have E2 := (HE0.out.other (show bb + 4 ≠ bb + 1 by omega) (.slice va L'.length vc)).other (show bb + 4 ≠ bb + 2 by omega) (.slice ua C'.length uc)
   have A2 := (HA0.out.other (show bb ≠ bb + 1 by omega) (.slice va L'.length vc)).other (show bb ≠ bb + 2 by omega) (.slice ua C'.length uc)
   have K2 := (HK0.out.trans (keep_set (ts := TM) HB0.out (by simp) (Nat.le_succ bb) ⟨bb + 1, 0, none⟩ rfl (.slice va L'.length vc))).trans (keep_set (ts := TM) (HC0.out.other (show bb + 2 ≠ bb + 1 by omega) (.slice va L'.length vc)) (by simp) (by omega) ⟨bb + 2, 0, none⟩ rfl (.slice ua C'.length uc))
   obtain ⟨W2, hW2⟩ : ∃ W2, W2 = ((w.drewN (k1 + k2)).setCell ⟨bb + 1, 0, none⟩ (.slice va L'.length vc)).setCell ⟨bb + 2, 0, none⟩ (.slice ua C'.length uc) := ⟨_, rfl⟩
   rw [← hW2] at A2 B2 C2 D2 E2 K2 ⊢
   have hs2 := D2.lt
   have HK2 := Lib.hid K2
   have HA2 := Lib.hid A2
   have HB2 := Lib.hid B2
   have HC2 := Lib.hid C2
   have HD2 := Lib.hid D2
   have HE2 := Lib.hid E2
   clear A2 B2 C2 D2 E2 K2 hW2 a0 b0 c0 d0 e0 b1 c1
   refine (applyD_any (.slice va L'.length vc) (.slice ua C'.length uc) L' C' W2 (hv _ (HK2.out.below.mono hB)) (hu _ (HK2.out.below.mono hB)) hz hy).mono ?_
   rintro e w3 ⟨rv, rfl, own3, hb3⟩
   obtain ⟨ra, rc, rfl⟩ := own_slice own3
   have hbk : ∀ {i : Nat} {o : Obj}, W2.heap[i]? = some o → w3.heap[i]? = some o := fun hi => (hb3.block _ (lt_of_heap hi)).trans hi
   have D3 : Boxed w3 (bb + 3) 35 _ := hbk HD2.out
   have E3 : Boxed w3 (bb + 4) 27 _ := hbk HE2.out
   have A3 : Boxed w3 bb WAYT _ := hbk HA2.out
   have B3 : Boxed w3 (bb + 1) 35 _ := hbk HB2.out
   have C3 : Boxed w3 (bb + 2) 35 _ := hbk HC2.out
   have hBW2 : B ≤ W2.heap.size := Nat.le_trans hbw HK2.out.below.size
   have K3 := HK2.out.trans (keep_below (ts := TM) hb3 (Nat.le_trans hbb HK2.out.below.size))
   have d3 := D3.cell
   have df3 := D3.frozen
   have e3 := E3.cell
   have ef3 := E3.frozen
   have S1 := keep_set (B := bb) (ts := TM) D3 (by simp) (by omega) ⟨bb + 3, 0, none⟩ rfl (.slice ra (applyR L' C').length rc)
   have S2 := keep_set (B := bb) (ts := TM) (E3.other (show bb + 4 ≠ bb + 3 by omega) (.slice ra (applyR L' C').length rc)) (by simp) (by omega) ⟨bb + 4, 0, none⟩ rfl (.int .i64 (applyE L' C'))
   have OW := (S1.trans S2).own (own_base own3 hBW2) (by decide)
   have FIN : LaidOut_a w B bb L' C' (.returned (.tuple #[.slice ra (applyR L' C').length rc, .int .i64 (applyE L' C')])) _ := ⟨_, rfl, ⟨.slice va L'.length vc, .slice ua C'.length uc, .slice ra (applyR L' C').length rc,
    (A3.other (show bb ≠ bb + 3 by omega) _).other (show bb ≠ bb + 4 by omega) _, (B3.other (show bb + 1 ≠ bb + 3 by omega) _).other (show bb + 1 ≠ bb + 4 by omega) _, (C3.other (show bb + 2 ≠ bb + 3 by omega) _).other (show bb + 2 ≠ bb + 4 by omega) _,
    (D3.set _).other (show bb + 3 ≠ bb + 4 by omega) _, (E3.other (show bb + 4 ≠ bb + 3 by omega) _).set _, fun w' hb => hv w' ((((K3.trans S1).trans S2).below.mono hB).trans hb), fun w' hb => hu w' ((((K3.trans S1).trans S2).below.mono hB).trans hb), OW⟩, OW, (K3.trans S1).trans S2⟩
   have HF := Lib.hid FIN
   clear D3 E3 A3 B3 C3 K3 S1 S2 OW FIN own3 hb3 hbk
   go_wp2_with fail
   go_region
   all_goals (go_wp2_with fail; go_ret2; obtain ⟨x, hx1, hx2, hx3, hx4⟩ := HF.out; exact ⟨x, hx1, hx2.keep (ts := []) (Keep.refl _ _ _).drew (by simp) (by simp) (by simp) (by simp), hx3, hx4.drew⟩)
 ·have s1 := sameB_not hL
  clear hL
  unfold capR
  go_enter Tryz.func31, Tryz.ntmps31
  go_wp2_with fail
  refine (HS1.out 0).mono ?_
  rintro e' w1 ⟨rfl, k1, rfl⟩
  rw [s1]
  have HBK : Below w.heap.size w (w.drewN k1) := below_drewN (Below.refl _ _) _
  have K0 : Keep bb TM w (w.drewN k1) := keep_below HBK hbb
  have A0 : Boxed (w.drewN k1) bb WAYT (.func (.func 14) #[] #[]) := (HBK.block _ a.lt).trans a
  have B0 : Boxed (w.drewN k1) (bb + 1) 35 (.slice la L.length lc) := (HBK.block _ b.lt).trans b
  have C0 : Boxed (w.drewN k1) (bb + 2) 35 (.slice ca C.length cc) := (HBK.block _ c.lt).trans c
  have D0 : Boxed (w.drewN k1) (bb + 3) 35 (.slice aa (applyR L C).length ac) := (HBK.block _ d.lt).trans d
  have E0 : Boxed (w.drewN k1) (bb + 4) 27 (.int .i64 (applyE L C)) := (HBK.block _ e.lt).trans e
  have b1 := b.frozen
  have c1 := c.frozen
  have HK0 := Lib.hid K0
  have HA0 := Lib.hid A0
  have HB0 := Lib.hid B0
  have HC0 := Lib.hid C0
  have HD0 := Lib.hid D0
  have HE0 := Lib.hid E0
  clear a b c d e A0 B0 C0 D0 E0 K0 HBK h' f g i
  go_wp2_with fail
  have B2 := (HB0.out.set (.slice va L'.length vc)).other (show bb + 1 ≠ bb + 2 by omega) (.slice ua C'.length uc)
  have C2 := (HC0.out.other (show bb + 2 ≠ bb + 1 by omega) (.slice va L'.length vc)).set (.slice ua C'.length uc)
  have D2 := (HD0.out.other (show bb + 3 ≠ bb + 1 by omega) (.slice va L'.length vc)).other (show bb + 3 ≠ bb + 2 by omega) (.slice ua C'.length uc)
  have E2 := (HE0.out.other (show bb + 4 ≠ bb + 1 by omega) (.slice va L'.length vc)).other (show bb + 4 ≠ bb + 2 by omega) (.slice ua C'.length uc)
  have A2 := (HA0.out.other (show bb ≠ bb + 1 by omega) (.slice va L'.length vc)).other (show bb ≠ bb + 2 by omega) (.slice ua C'.length uc)
  have K2 := (HK0.out.trans (keep_set (ts := TM) HB0.out (by simp) (Nat.le_succ bb) ⟨bb + 1, 0, none⟩ rfl (.slice va L'.length vc))).trans (keep_set (ts := TM) (HC0.out.other (show bb + 2 ≠ bb + 1 by omega) (.slice va L'.length vc)) (by simp) (by omega) ⟨bb + 2, 0, none⟩ rfl (.slice ua C'.length uc))
  obtain ⟨W2, hW2⟩ : ∃ W2, W2 = ((w.drewN k1).setCell ⟨bb + 1, 0, none⟩ (.slice va L'.length vc)).setCell ⟨bb + 2, 0, none⟩ (.slice ua C'.length uc) := ⟨_, rfl⟩
  rw [← hW2] at A2 B2 C2 D2 E2 K2 ⊢
  have hs2 := D2.lt
  have HK2 := Lib.hid K2
  have HA2 := Lib.hid A2
  have HB2 := Lib.hid B2
  have HC2 := Lib.hid C2
  have HD2 := Lib.hid D2
  have HE2 := Lib.hid E2
  clear A2 B2 C2 D2 E2 K2 hW2 a0 b0 c0 d0 e0 b1 c1
  refine (applyD_any (.slice va L'.length vc) (.slice ua C'.length uc) L' C' W2 (hv _ (HK2.out.below.mono hB)) (hu _ (HK2.out.below.mono hB)) hz hy).mono ?_
  rintro e w3 ⟨rv, rfl, own3, hb3⟩
  obtain ⟨ra, rc, rfl⟩ := own_slice own3
  have hbk : ∀ {i : Nat} {o : Obj}, W2.heap[i]? = some o → w3.heap[i]? = some o := fun hi => (hb3.block _ (lt_of_heap hi)).trans hi
  have D3 : Boxed w3 (bb + 3) 35 _ := hbk HD2.out
  have E3 : Boxed w3 (bb + 4) 27 _ := hbk HE2.out
  have A3 : Boxed w3 bb WAYT _ := hbk HA2.out
  have B3 : Boxed w3 (bb + 1) 35 _ := hbk HB2.out
  have C3 : Boxed w3 (bb + 2) 35 _ := hbk HC2.out
  have hBW2 : B ≤ W2.heap.size := Nat.le_trans hbw HK2.out.below.size
  have K3 := HK2.out.trans (keep_below (ts := TM) hb3 (Nat.le_trans hbb HK2.out.below.size))
  have d3 := D3.cell
  have df3 := D3.frozen
  have e3 := E3.cell
  have ef3 := E3.frozen
  have S1 := keep_set (B := bb) (ts := TM) D3 (by simp) (by omega) ⟨bb + 3, 0, none⟩ rfl (.slice ra (applyR L' C').length rc)
  have S2 := keep_set (B := bb) (ts := TM) (E3.other (show bb + 4 ≠ bb + 3 by omega) (.slice ra (applyR L' C').length rc)) (by simp) (by omega) ⟨bb + 4, 0, none⟩ rfl (.int .i64 (applyE L' C'))
  have OW := (S1.trans S2).own (own_base own3 hBW2) (by decide)
  have FIN : LaidOut_a w B bb L' C' (.returned (.tuple #[.slice ra (applyR L' C').length rc, .int .i64 (applyE L' C')])) _ := ⟨_, rfl, ⟨.slice va L'.length vc, .slice ua C'.length uc, .slice ra (applyR L' C').length rc,
   (A3.other (show bb ≠ bb + 3 by omega) _).other (show bb ≠ bb + 4 by omega) _, (B3.other (show bb + 1 ≠ bb + 3 by omega) _).other (show bb + 1 ≠ bb + 4 by omega) _, (C3.other (show bb + 2 ≠ bb + 3 by omega) _).other (show bb + 2 ≠ bb + 4 by omega) _,
   (D3.set _).other (show bb + 3 ≠ bb + 4 by omega) _, (E3.other (show bb + 4 ≠ bb + 3 by omega) _).set _, fun w' hb => hv w' ((((K3.trans S1).trans S2).below.mono hB).trans hb), fun w' hb => hu w' ((((K3.trans S1).trans S2).below.mono hB).trans hb), OW⟩, OW, (K3.trans S1).trans S2⟩
  have HF := Lib.hid FIN
  clear D3 E3 A3 B3 C3 K3 S1 S2 OW FIN own3 hb3 hbk
  go_wp2_with fail
  go_region
  all_goals (go_wp2_with fail; go_ret2; obtain ⟨x, hx1, hx2, hx3, hx4⟩ := HF.out; exact ⟨x, hx1, hx2.keep (ts := []) (Keep.refl _ _ _).drew (by simp) (by simp) (by simp) (by simp), hx3, hx4.drew⟩)

end Go.Proofs.YtlfodemmdfaeeaaGreatDoor

/- Does a changeset fit a document; the end of a document on the way; operations in memory with their rows. -/
namespace Go.Proofs.YtlfodemmdfaeeaaGreatDoor
open Go.RowKit Rn Ch

def fitE (l : List RunD) (f : Int) (ops : List OpD) : Int := if lenE l ≠ 0 then lenE l else if toE f ops ≠ 0 then toE f ops else if f ≠ lenN l then 31 else 0
theorem fit_bad {w w' : World} {l : List RunD} {f E : Int} {ops : List OpD} (h : fitE l f ops = E) (hb : Below w.heap.size w w') : Ending.returned (.int .i64 E) = .returned (.int .i64 (fitE l f ops)) ∧ Below w.heap.size w w' := ⟨by rw [h], hb⟩

set_option maxRecDepth 100000 in
set_option maxHeartbeats 4000000 in
theorem fits_any (v ov : Value) (ps : List RP) (f : Int) (ops : List OpD) (w : World) (hv : RunRow w v ps) (hz : RSized (ps.map (·.1))) (hc : OpRow w ov ops) (hy : OSized ops) :
 Calls Tryz.prog 12 #[v, chAgg f ov] w fun e w' => e = .returned (.int .i64 (fitE (ps.map (·.1)) f ops)) ∧ Below w.heap.size w w' := by
 have bA := below_box w (.cells #[.int .i64 f, ov] 25)
 have HL := Lib.hid (length_any v ps (w.alloc (.cells #[.int .i64 f, ov] 25)) (hv.below bA) hz)
 have HR := Lib.hid (fun W (h : Below w.heap.size w W) => changeRight_any f ov ops W (hc.below h) hy)
 have HBA := Lib.hid bA
 obtain ⟨aa, acap, rfl⟩ := hc.shape
 obtain ⟨ra, rcap, rfl⟩ := hv.shape
 have hx0 : (w.alloc (.cells #[.int .i64 f, .slice aa ops.length acap] 25)).cell? ⟨w.heap.size, 0, none⟩ = some (.int .i64 f) := by go_simp
 have hx1 : (w.alloc (.cells #[.int .i64 f, .slice aa ops.length acap] 25)).cell? ⟨w.heap.size, 1, none⟩ = some (.slice aa ops.length acap) := by go_simp
 have HX := Lib.hid (And.intro hx0 hx1)
 clear hv hz hc hy bA hx0 hx1
 generalize hl : ps.map (·.1) = l at HL ⊢
 clear hl
 go_enter Tryz.func12, Tryz.ntmps12
 go_wp2_with fail
 refine HL.out.mono ?_
 rintro e w1 ⟨rfl, hb1⟩
 have hs1 := hb1.size
 have HB1 := Lib.hid (HBA.out.trans (hb1.mono HBA.out.size))
 have x0 : w1.cell? ⟨w.heap.size, 0, none⟩ = some (.int .i64 f) := (hb1.cell (by simp)).trans HX.out.1
 have x1 : w1.cell? ⟨w.heap.size, 1, none⟩ = some (.slice aa ops.length acap) := (hb1.cell (by simp)).trans HX.out.2
 have hlt1 : w.heap.size < w1.heap.size := by
  have h2 : (w.alloc (.cells #[.int .i64 f, .slice aa ops.length acap] 25)).heap.size = w.heap.size + 1 := by simp
  omega
 have HC := Lib.hid (HR.out w1 HB1.out)
 clear hb1 hs1
 by_cases hE : lenE l = 0
 ·have HE := Lib.hid hE
  have tE : (lenE l != 0) = false := by rw [hE]; rfl
  clear hE
  go_wp2_with fail
  refine HC.out.mono ?_
  rintro e w2 ⟨rfl, hb2⟩
  have y0 : w2.cell? ⟨w.heap.size, 0, none⟩ = some (.int .i64 f) := (hb2.cell (by exact hlt1)).trans x0
  have HB2 := Lib.hid (HB1.out.trans (hb2.mono HB1.out.size))
  clear hb2 x0 x1
  by_cases hT : toE f ops = 0
  ·have HT := Lib.hid hT
   have tT : (toE f ops != 0) = false := by rw [hT]; rfl
   clear hT
   by_cases hn : f = lenN l
   ·have HN := Lib.hid (show fitE l f ops = 0 by unfold fitE; rw [if_neg (by rw [HE.out]; simp), if_neg (by rw [HT.out]; simp), if_neg (by rw [← hn]; simp)])
    have tN : (f != lenN l) = false := by rw [hn]; simp
    clear hn
    go_wp2_with fail
    go_ret
    exact fit_bad HN.out HB2.out
   ·have HN := Lib.hid (show fitE l f ops = 31 by unfold fitE; rw [if_neg (by rw [HE.out]; simp), if_neg (by rw [HT.out]; simp), if_pos hn])
    have tN : (f != lenN l) = true := by rw [bne_iff_ne]; exact hn
    clear hn
    go_wp2_with fail
    go_ret
    exact fit_bad HN.out HB2.out
  ·have HT := Lib.hid (show fitE l f ops = toE f ops by unfold fitE; rw [if_neg (by rw [HE.out]; simp), if_pos hT])
   have tT : (toE f ops != 0) = true := by rw [bne_iff_ne]; exact hT
   clear hT
   go_wp2_with fail
   go_ret
   exact fit_bad HT.out HB2.out
 ·have HT := Lib.hid (show fitE l f ops = lenE l by unfold fitE; rw [if_pos hE])
  have tE : (lenE l != 0) = true := by rw [bne_iff_ne]; exact hE
  clear hE
  go_wp2_with fail
  go_ret
  exact fit_bad HT.out HB1.out

/-- A row of operations, with the values of its rows of attributes. -/
theorem opRow_cells {w : World} {v : Value} {ops : List OpD} (h : OpRow w v ops) (hp : Proper v) : ∃ qs : List (OpD × Value), qs.map (·.1) = ops ∧ OpCells w v qs ∧ ∀ q ∈ qs, AtRow w q.2 q.1.attrs := by
 obtain ⟨a, cap, rfl, h1, h2, h3⟩ := h
 have hex : ∀ i : Fin ops.length, ∃ av, ∃ b off, a = some ⟨b, off, none⟩ ∧ b < w.heap.size ∧ AtRow w av ops[i.1].attrs ∧ w.cell? ⟨b, off + i.1 * 4, none⟩ = some (.int .i64 ops[i.1].kind) ∧ w.cell? ⟨b, off + i.1 * 4 + 1, none⟩ = some (.int .i64 ops[i.1].n) ∧ w.cell? ⟨b, off + i.1 * 4 + 2, none⟩ = some (.string ops[i.1].text) ∧ w.cell? ⟨b, off + i.1 * 4 + 3, none⟩ = some av := fun i => by
  obtain ⟨b, off, e, hlt, av, x0, _, x1, x2, x3, x4⟩ := h3 i.1 i.2
  exact ⟨av, b, off, e, hlt, x0, x1, x2, x3, x4⟩
 obtain ⟨F, hF⟩ := Classical.axiomOfChoice hex
 have hlen : (List.ofFn fun i : Fin ops.length => (ops[i.1], F i)).length = ops.length := by simp
 refine ⟨List.ofFn fun i : Fin ops.length => (ops[i.1], F i), ?_, ⟨a, cap, by rw [hlen], ?_, ?_, ?_⟩, ?_⟩
 ·apply List.ext_getElem
  ·simp
  ·intro i hi hj
   simp
 ·intro ha
  subst ha
  exact (hp _ _ rfl).2
 ·intro j u hj
  have hjl : j < (flatO (List.ofFn fun i : Fin ops.length => (ops[i.1], F i))).length := (List.getElem?_eq_some_iff.1 hj).1
  rw [flatO_len, hlen] at hjl
  have hi : j / 4 < ops.length := by omega
  have hi' : j / 4 < (List.ofFn fun i : Fin ops.length => (ops[i.1], F i)).length := by rw [hlen]; exact hi
  have e : j = j / 4 * 4 + j % 4 := by omega
  have hr : j % 4 < 4 := by omega
  obtain ⟨b, off, hb, hlt, _, x1, x2, x3, x4⟩ := hF ⟨j / 4, hi⟩
  refine ⟨b, off, hb, hlt, ?_⟩
  rw [e, flatO_at hi' _ hr] at hj
  simp only [List.getElem_ofFn] at hj
  rw [e, ← Nat.add_assoc]
  generalize j % 4 = r at hr hj
  have hr4 : r = 0 ∨ r = 1 ∨ r = 2 ∨ r = 3 := by omega
  rcases hr4 with rfl | rfl | rfl | rfl
  ·cases hj; exact x1
  ·cases hj; exact x2
  ·cases hj; exact x3
  ·cases hj; exact x4
 ·refine flatO_one fun p hp => ?_
  obtain ⟨i, rfl⟩ := List.mem_ofFn.1 hp
  obtain ⟨b, off, hb, hlt, hat, _⟩ := hF i
  obtain ⟨_, _, hs⟩ := hat.shape
  show (F i).oneCell' = true
  rw [hs]; rfl
 ·intro q hq
  obtain ⟨i, rfl⟩ := List.mem_ofFn.1 hq
  obtain ⟨b, off, hb, hlt, hat, _⟩ := hF i
  exact hat

def EndDOut (w : World) (B _b : Nat) (ov : Value) (l : List RunD) (e : Ending) (w' : World) : Prop := e = .returned ov ∧ (∃ ps : List RP, ps.map (·.1) = l.reverse ∧ OwnR w' B ov ps) ∧ KeepR B w w' ov ov
set_option maxRecDepth 100000 in
theorem endD_any (B b : Nat) (ov : Value) (l : List RunD) (w : World) (h : DSt w B b ov l) (hB : B ≤ b) (hl : l.length ≤ 1000100) :
 Calls Tryz.prog 17 #[.pointer (some ⟨b, 0, none⟩)] w (EndDOut w B b ov l) := by
 have HF := Lib.hid (finishD_any B b ov l w h hB hl)
 have hlt := h.lt
 obtain ⟨a, c, rfl⟩ := h.slice
 clear h hl
 go_enter Tryz.func17, Tryz.ntmps17
 go_wp2_with fail
 refine HF.out.mono ?_
 rintro e w1 ⟨rfl, ⟨ps, ad, bv, hN, hA, hP, hH, hm⟩, hK⟩
 have k0 := hN.cells.1
 have HP := Lib.hid hP
 have HM := Lib.hid hm
 have HK := Lib.hid hK
 clear hN hA hP hH hm hK
 go_wp2_with fail
 go_ret
 exact ⟨rfl, ⟨ps, HM.out, HP.out⟩, HK.out⟩
end Go.Proofs.YtlfodemmdfaeeaaGreatDoor
