/- Eight steps for each byte, as an array. -/
import Derived.Test.YtbnkpbphahjomaaDoorSb
import Derived.Laws.IdiomArrays
namespace Go.Proofs.YtbnkpbphahjomaaDoor
open Go.RowKit Su

/-- The array when so many are done. -/
def mid (k : Nat) : Array Value := (Array.range 256).map fun i => Value.int .u32 (if i < k then ((steps 8 i : Nat) : Int) else 0)
theorem mid_size (k : Nat) : (mid k).size = 256 := by simp [mid]
theorem mid_at (k i : Nat) (h : i < 256) : (mid k)[i]? = some (Value.int .u32 (if i < k then ((steps 8 i : Nat) : Int) else 0)) := by
  simp [mid, h]
theorem mid_set (k : Nat) (h : k < 256) : (mid k).setIfInBounds k (.int .u32 ((steps 8 k : Nat) : Int)) = mid (k + 1) := by
  apply Array.ext_getElem?
  intro i
  rw [Array.getElem?_setIfInBounds]
  by_cases hi : i < 256
  · rw [mid_at _ _ hi]
    split
    · rename_i e
      subst e
      rw [if_pos (by rw [mid_size]; exact h), mid_at _ _ hi, if_pos (by omega)]
    · rename_i e
      rw [mid_at _ _ hi]
      by_cases hk : i < k
      · rw [if_pos hk, if_pos (by omega)]
      · rw [if_neg hk, if_neg (by omega)]
  · have e1 : ∀ j, (mid j)[i]? = none := fun j => Array.getElem?_eq_none (by rw [mid_size]; omega)
    rw [e1, e1]
    split
    · omega
    · rfl
theorem mid_one (k : Nat) : (mid k).all (·.oneCell') = true := by
  rw [Array.all_eq_true]
  intro i hi
  simp [mid, Value.oneCell']
theorem infoTab : (Tryd.prog.info? 42).map (fun i => (i.zero, i.size)) = some (some (.agg (mid 0)), 256) := by kernel_rfl
theorem zeroTab (w : World) : (zeroValue 42).run Tryd.prog w = .ok (.agg (mid 0)) w := (zero_of_info infoTab).1 w
theorem sizeTab : (Tryd.prog.info? 42).map (·.size) = some 256 := (zero_of_info infoTab).2

theorem wpList_loads {P : Program} {ops : Array Oper} {rest : List Oper} {o : Oper} {a : Act} {w w' : World} {Q : Exit → Act → World → Prop}
    (hgd : o.guard = none) (t : TypeId) (p : Operand) (hop : o.op = Op.load t p) (u v : Value) (hp : a.eval p = u) (hr : (Instr.loadAt t u).run P w = .ok v w') (h : wpList P ops Q rest (a.put o.dst v) w') : wpList P ops Q (o :: rest) a w := by
  refine wpList_plain hgd fun K hK => ?_
  unfold Oper.wp execOp
  simp only [hop, Sem.run_bind, Sem.run_pure, Result.andThen_ok, hp, hr]
  exact hK _ _ h
theorem wpList_stores {P : Program} {ops : Array Oper} {rest : List Oper} {o : Oper} {a : Act} {w w' : World} {Q : Exit → Act → World → Prop}
    (hgd : o.guard = none) (t : TypeId) (p x : Operand) (hop : o.op = Op.store t p x) (u v : Value) (hp : a.eval p = u) (hx : a.eval x = v) (hr : (Instr.storeAt t u v).run P w = .ok () w') (h : wpList P ops Q rest (a.put o.dst undef) w') : wpList P ops Q (o :: rest) a w := by
  refine wpList_plain hgd fun K hK => ?_
  unfold Oper.wp execOp
  simp only [hop, Sem.run_bind, Sem.run_pure, Result.andThen_ok, hp, hx, hr]
  exact hK _ _ h
theorem load_tab (w : World) (k : Nat) : (Instr.loadAt 42 (.pointer (some ⟨w.heap.size + 1, 0, none⟩))).run Tryd.prog ((w.alloc (.cells (mid 0) 42)).alloc (.cells (mid k) 42)) =
    .ok (.agg (mid k)) ((w.alloc (.cells (mid 0) 42)).alloc (.cells (mid k) 42)) := by
  have h := run_loadAt_new (P := Tryd.prog) (w.alloc (.cells (mid 0) 42)) 42 (mid k) 256 41 Tryd.underlying42 (by rw [mid_size]; exact sizeTab)
  simpa using h
theorem first_tab (w : World) (k : Nat) : ((w.alloc (.cells (mid k) 42)).alloc (.cells (mid k) 42)).heap[w.heap.size]? = some (.cells (mid k) 42 (0, 0)) := by
  show ((w.heap.push _).push _)[w.heap.size]? = _
  rw [Array.getElem?_push]
  simp
theorem store_tab (w : World) (k : Nat) : (Instr.storeAt 42 (.pointer (some ⟨w.heap.size, 0, none⟩)) (.agg (mid k))).run Tryd.prog ((w.alloc (.cells (mid 0) 42)).alloc (.cells (mid k) 42)) =
    .ok () ((w.alloc (.cells (mid k) 42)).alloc (.cells (mid k) 42)) := by
  have hh : ((w.alloc (.cells (mid 0) 42)).alloc (.cells (mid k) 42)).heap[w.heap.size]? = some (.cells (mid 0) 42) := by
    show ((w.heap.push _).push _)[w.heap.size]? = _
    rw [Array.getElem?_push]
    simp
  have h := run_storeVar_row (P := Tryd.prog) _ w.heap.size 42 42 (mid 0) (mid k) hh (by rw [mid_size]; exact sizeTab) (by rw [mid_size, mid_size]) (mid_one k)
  simp only [Instr.storeAt, Instr.sureAddr, Sem.run_bind, Sem.run_pure, Result.andThen]
  rw [h]
  congr 1
  simp only [World.setRow, World.alloc]
  congr 1
  apply Array.ext_getElem?
  intro i
  rw [Array.getElem?_modify]
  by_cases h1 : w.heap.size = i
  · subst h1
    simp [Array.getElem?_push]
  · have h2 : ¬ i = w.heap.size := fun e => h1 e.symm
    simp [h1, h2, Array.getElem?_push]

set_option maxRecDepth 100000 in
set_option maxHeartbeats 2000000 in
theorem eights_any (w : World) (hf : Fo w) :
    Calls Tryd.prog 22 #[] w fun e w' => e = .returned (.agg (mid 256)) ∧ Below w.heap.size w w' := by
  have hz := zeroTab
  go_enter Tryd.func22, Tryd.ntmps22
  go_wp2_with fail
  go_loopw [2, 3] (fun _ i wr => ∃ k : Nat, i = .int .i64 (k : Int) ∧ k ≤ 256 ∧ wr = (w.alloc (.cells (mid 0) 42)).alloc (.cells (mid k) 42)) (fun _ i _ => 256 - (intOf i).toNat)
  case atStart => exact ⟨0, rfl, by omega, rfl⟩
  case round =>
    obtain ⟨k, rfl, hk, rfl⟩ := hrel
    have hf2 : Fo ((w.alloc (.cells (mid 0) 42)).alloc (.cells (mid k) 42)) := hf.below (((Below.refl _ _).alloc (Nat.le_refl _) _).alloc (by simp) _)
    by_cases hlt : k < 256
    · have hlt' : (k : Int) < 256 := by omega
      have H1 := Lib.hid (four_any k _ (by omega) hf2)
      have H2 := Lib.hid (four_any (steps 4 k) _ (steps_lt (by omega)) hf2)
      have HS := Lib.hid (mid_set k hlt)
      have HE := Lib.hid (eight_eq k)
      have hm : (mid k)[k]? = some (.int .u32 0) := by rw [mid_at _ _ hlt, if_neg (Nat.lt_irrefl _)]
      have hms := mid_size k
      go_wp2_with fail
      refine H1.out.mono ?_
      rintro e w1 ⟨rfl, rfl⟩
      go_wp2_with fail
      refine H2.out.mono ?_
      rintro e w1 ⟨rfl, rfl⟩
      go_wp2_with fail
      refine ⟨⟨k + 1, by rw [Int.natCast_add]; rfl, by omega, by rw [← HE.out, HS.out]⟩, ?_⟩
      simp only [intOf]
      omega
    · have HK := Lib.hid (show k = 256 by omega)
      have hge : ¬ (k : Int) < 256 := by omega
      have hl := load_tab w k
      have hs := store_tab w k
      go_wp2_with (first | (refine wpList_loads rfl 42 _ rfl _ _ rfl hl ?_; clear hl) | (refine wpList_stores rfl 42 _ _ rfl _ _ rfl rfl hs ?_; clear hs))
      rw [HK.out]
      exact bodyPost_ret (v := .agg (mid 256)) (results_cell_row rfl _ _ w.heap.size 42 (mid 256) (0, 0) _ rfl (first_tab w 256) Tryd.underlying42 rfl (by rw [mid_size]; exact sizeTab)) rfl ⟨rfl, ((Below.refl _ _).alloc (Nat.le_refl _) _).alloc (by simp) _⟩
end Go.Proofs.YtbnkpbphahjomaaDoor
