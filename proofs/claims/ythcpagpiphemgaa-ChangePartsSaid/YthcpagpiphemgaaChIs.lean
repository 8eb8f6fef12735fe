/- The program's Is and Nothing; the law's own Keep, Put, Cut. -/
import Derived.Test.YthcpagpiphemgaaChNormal
import Derived.Test.YthcpagpiphemgaaChSame
namespace Go.Proofs.Ythcpagpiphemgaa
open Go.RowKit Ch

def isB (f : Int) (ops : List OpD) : Bool := decide (toE f ops = 0 ∧ ops = norm ops)
theorem NormOut.row {w w' : World} {f : Int} {ops : List OpD} {v : Value} (h : OwnOps w' w.heap.size v (norm ops)) : OpRow w' v (norm ops) := h.row
theorem normal_ok (f : Int) (v : Value) (ops : List OpD) (w : World) (hv : OpRow w v ops) (hz : OSized ops) (he : toE f ops = 0) :
    Calls Try.prog 20 #[chAgg f v] w fun e w' => ∃ v', e = .returned (.tuple #[chAgg f v', .int .i64 0]) ∧ OwnOps w' w.heap.size v' (norm ops) ∧ Below w.heap.size w w' :=
  (normal_any f v ops w hv hz).mono fun e w' h => by
    rcases h with ⟨h0, _⟩ | ⟨_, h⟩
    · exact absurd he h0
    · exact h
theorem normal_bad (f : Int) (v : Value) (ops : List OpD) (w : World) (hv : OpRow w v ops) (hz : OSized ops) (he : toE f ops ≠ 0) :
    Calls Try.prog 20 #[chAgg f v] w fun e w' => e = .returned (.tuple #[chAgg 0 (.slice none 0 0), .int .i64 (toE f ops)]) ∧ Below w.heap.size w w' :=
  (normal_any f v ops w hv hz).mono fun e w' h => by
    rcases h with ⟨_, h⟩ | ⟨h0, _⟩
    · exact h
    · exact absurd h0 he

set_option maxRecDepth 100000 in
set_option maxHeartbeats 2000000 in
theorem is_any (f : Int) (v : Value) (ops : List OpD) (w : World) (hv : OpRow w v ops) (hz : OSized ops) :
    Calls Try.prog 13 #[chAgg f v] w (OutB w (isB f ops)) := by
  have Hv := Lib.hid hv
  obtain ⟨a, c, rfl⟩ := hv.shape
  obtain ⟨W, hW⟩ : ∃ W, W = w.alloc (.cells #[.int .i64 f, .slice a ops.length c] 24) := ⟨_, rfl⟩
  have BW := Lib.hid (show Below w.heap.size w W by rw [hW]; exact below_box _ _)
  have b0 : W.heap[w.heap.size]? = some (.cells #[.int .i64 f, .slice a ops.length c] 24 (0, 0)) := by rw [hW]; exact heap_new _ _
  have c0 : W.cell? ⟨w.heap.size, 0, none⟩ = some (.int .i64 f) := (Lib.cell_of_heap b0 0).trans rfl
  have c1 : W.cell? ⟨w.heap.size, 1, none⟩ = some (.slice a ops.length c) := (Lib.cell_of_heap b0 1).trans rfl
  have HW := Lib.hid hW
  have HB0 := Lib.hid b0
  by_cases he : toE f ops = 0
  · have HC := Lib.hid (normal_ok f _ ops W (Hv.out.below BW.out) hz he)
    have HR := Lib.hid (show isB f ops = sameCh f f ops (norm ops) by unfold isB sameCh; simp [he])
    clear hv hz hW b0 he
    go_enter Try.func13, Try.ntmps13
    go_wp2_with fail
    rw [← HW.out]
    go_wp2_with fail
    refine HC.out.mono ?_
    rintro e w1 ⟨v1, rfl, O1, b1⟩
    obtain ⟨a1, k1, rfl⟩ := O1.row.shape
    have x0 := (b1.block _ (lt_of_heap HB0.out)).trans HB0.out
    have d0 : w1.cell? ⟨w.heap.size, 0, none⟩ = some (.int .i64 f) := (Lib.cell_of_heap x0 0).trans rfl
    have d1 : w1.cell? ⟨w.heap.size, 1, none⟩ = some (.slice a ops.length c) := (Lib.cell_of_heap x0 1).trans rfl
    have hlt : w.heap.size < w1.heap.size := lt_of_heap x0
    have B1 := Lib.hid (BW.out.trans (b1.mono BW.out.size))
    obtain ⟨X, hX⟩ : ∃ X, X = w1.alloc (.cells #[.int .i64 f, .slice a1 (norm ops).length k1] 24) := ⟨_, rfl⟩
    have BX := Lib.hid (show Below w1.heap.size w1 X by rw [hX]; exact below_box _ _)
    have HX := Lib.hid hX
    have y0 : X.cell? ⟨w1.heap.size, 0, none⟩ = some (.int .i64 f) := by rw [hX]; go_simp
    have y1 : X.cell? ⟨w1.heap.size, 1, none⟩ = some (.slice a1 (norm ops).length k1) := by rw [hX]; go_simp
    have y2 := (BX.out.cell (p := ⟨w.heap.size, 0, none⟩) (by exact hlt)).trans d0
    have y3 := (BX.out.cell (p := ⟨w.heap.size, 1, none⟩) (by exact hlt)).trans d1
    have HS := Lib.hid (changeSame_any f f (.slice a ops.length c) (.slice a1 (norm ops).length k1) ops (norm ops) X ((Hv.out.below B1.out).below (BX.out)) (O1.row.below BX.out))
    clear O1 b1 x0 c0 c1 hX
    go_wp2_with fail
    rw [← HX.out]
    go_wp2_with fail
    refine HS.out.mono ?_
    rintro e w2 ⟨rfl, b2⟩
    have B2 := Lib.hid (B1.out.trans ((BX.out.trans (b2.mono BX.out.size)).mono B1.out.size))
    clear b2
    go_wp2_with fail
    go_ret
    exact outB_mk HR.out B2.out
  · have HC := Lib.hid (normal_bad f _ ops W (Hv.out.below BW.out) hz he)
    have HR := Lib.hid (show isB f ops = false from decide_eq_false fun h => he h.1)
    have t1 : (toE f ops == 0) = false := by rw [beq_eq_false_iff_ne]; exact he
    clear hv hz hW b0 he
    go_enter Try.func13, Try.ntmps13
    go_wp2_with fail
    rw [← HW.out]
    go_wp2_with fail
    refine HC.out.mono ?_
    rintro e w1 ⟨rfl, b1⟩
    have B1 := Lib.hid (BW.out.trans (b1.mono BW.out.size))
    clear b1 c0 c1
    go_wp2_with fail
    go_ret
    exact outB_mk HR.out (B1.out.alloc B1.out.size _)

def NothOut (w : World) (n : Int) (e : Ending) (w' : World) : Prop :=
  ((n < 0 ∨ 20000 < n) ∧ e = .returned (.tuple #[chAgg 0 (.slice none 0 0), .int .i64 31]) ∨ (0 ≤ n ∧ n ≤ 20000) ∧ e = .returned (.tuple #[chAgg n (.slice none 0 0), .int .i64 0])) ∧ Below w.heap.size w w'
theorem toE_nil {n : Int} : toE n [] = if n < 0 ∨ 20000 < n then 31 else 0 := by
  unfold toE
  split
  · rfl
  · rw [if_neg (by simp)]
    show (if (0 : Int) ≠ 0 then _ else if 20000 < n then 3 else 0) = 0
    rw [if_neg (by simp), if_neg (by omega)]

set_option maxRecDepth 100000 in
set_option maxHeartbeats 2000000 in
theorem nothing_any (n : Int) (w : World) : Calls Try.prog 17 #[.int .i64 n] w (NothOut w n) := by
  obtain ⟨W, hW⟩ : ∃ W, W = (w.alloc (.cells #[.int .i64 0, .slice none 0 0] 24)).alloc (.cells #[.int .i64 n, .slice none 0 0] 24) := ⟨_, rfl⟩
  have BW := Lib.hid (show Below w.heap.size w W by rw [hW]; exact ((Below.refl _ _).alloc (Nat.le_refl _) _).alloc (by simp) _)
  have r0 : W.heap[w.heap.size]? = some (.cells #[.int .i64 0, .slice none 0 0] 24 (0, 0)) := by
    rw [hW, Below.heap_alloc _ _ _ (by simp)]
    exact heap_new _ _
  have r1 : W.heap[w.heap.size + 1]? = some (.cells #[.int .i64 n, .slice none 0 0] 24 (0, 0)) := by
    rw [hW]
    have := heap_new (w.alloc (.cells #[.int .i64 0, .slice none 0 0] 24)) (.cells #[.int .i64 n, .slice none 0 0] 24)
    simpa using this
  have c0 : W.cell? ⟨w.heap.size + 1, 0, none⟩ = some (.int .i64 n) := (Lib.cell_of_heap r1 0).trans rfl
  have c1 : W.cell? ⟨w.heap.size + 1, 1, none⟩ = some (.slice none 0 0) := (Lib.cell_of_heap r1 1).trans rfl
  have HC := changeRight_any n (.slice none 0 0) [] W (OpRow.nil _) (fun o ho => by cases ho)
  rw [toE_nil] at HC
  have HW := Lib.hid hW
  have HR0 := Lib.hid r0
  have HR1 := Lib.hid r1
  clear hW r0 r1
  by_cases hn : n < 0 ∨ 20000 < n
  · rw [if_pos hn] at HC
    have HC := Lib.hid HC
    have Hn := Lib.hid hn
    clear hn
    go_enter Try.func17, Try.ntmps17
    go_wp2_with fail
    rw [← HW.out]
    go_wp2_with fail
    refine HC.out.mono ?_
    rintro e w1 ⟨rfl, b1⟩
    have x0 := (b1.block _ (lt_of_heap HR0.out)).trans HR0.out
    have e0 : w1.cell? ⟨w.heap.size, 0, none⟩ = some (.int .i64 0) := (Lib.cell_of_heap x0 0).trans rfl
    have e1 : w1.cell? ⟨w.heap.size, 1, none⟩ = some (.slice none 0 0) := (Lib.cell_of_heap x0 1).trans rfl
    have e2 : w1.frozen? ⟨w.heap.size, 0, none⟩ = false := Lib.frozen_of_heap x0 0
    have e3 : w1.frozen? ⟨w.heap.size, 1, none⟩ = false := Lib.frozen_of_heap x0 1
    have HRC := Lib.hid (nblk_set (j := 1) (u := .slice none 0 0) (nblk_set (j := 0) (u := .int .i64 0) x0))
    have B1 := Lib.hid (((BW.out.trans (b1.mono BW.out.size)).setCell (p := ⟨w.heap.size, 0, none⟩) (Nat.le_refl _) (.int .i64 0)).setCell (p := ⟨w.heap.size, 1, none⟩) (Nat.le_refl _) (.slice none 0 0))
    clear b1 x0 c0 c1
    go_wp2_with fail
    have z0 := (Lib.cell_of_heap HRC.out 0)
    have z1 := (Lib.cell_of_heap HRC.out 1)
    exact bodyPost_ret (v := .tuple #[chAgg 0 (.slice none 0 0), .int .i64 31]) (by simp [results, Try.results17, go_sem, z0, z1]) rfl ⟨.inl ⟨Hn.out, rfl⟩, B1.out⟩
  · rw [if_neg hn] at HC
    have HC := Lib.hid HC
    have Hn := Lib.hid (show 0 ≤ n ∧ n ≤ 20000 by omega)
    clear hn
    go_enter Try.func17, Try.ntmps17
    go_wp2_with fail
    rw [← HW.out]
    go_wp2_with fail
    refine HC.out.mono ?_
    rintro e w1 ⟨rfl, b1⟩
    have x0 := (b1.block _ (lt_of_heap HR0.out)).trans HR0.out
    have x1 := (b1.block _ (lt_of_heap HR1.out)).trans HR1.out
    have d0 : w1.cell? ⟨w.heap.size + 1, 0, none⟩ = some (.int .i64 n) := (Lib.cell_of_heap x1 0).trans rfl
    have d1 : w1.cell? ⟨w.heap.size + 1, 1, none⟩ = some (.slice none 0 0) := (Lib.cell_of_heap x1 1).trans rfl
    have e0 : w1.cell? ⟨w.heap.size, 0, none⟩ = some (.int .i64 0) := (Lib.cell_of_heap x0 0).trans rfl
    have e1 : w1.cell? ⟨w.heap.size, 1, none⟩ = some (.slice none 0 0) := (Lib.cell_of_heap x0 1).trans rfl
    have e2 : w1.frozen? ⟨w.heap.size, 0, none⟩ = false := Lib.frozen_of_heap x0 0
    have e3 : w1.frozen? ⟨w.heap.size, 1, none⟩ = false := Lib.frozen_of_heap x0 1
    have HRC := Lib.hid (nblk_set (j := 1) (u := .slice none 0 0) (nblk_set (j := 0) (u := .int .i64 n) x0))
    have B1 := Lib.hid (((BW.out.trans (b1.mono BW.out.size)).setCell (p := ⟨w.heap.size, 0, none⟩) (Nat.le_refl _) (.int .i64 n)).setCell (p := ⟨w.heap.size, 1, none⟩) (Nat.le_refl _) (.slice none 0 0))
    clear b1 x0 x1 c0 c1
    go_wp2_with fail
    have z0 := (Lib.cell_of_heap HRC.out 0)
    have z1 := (Lib.cell_of_heap HRC.out 1)
    exact bodyPost_ret (v := .tuple #[chAgg n (.slice none 0 0), .int .i64 0]) (by simp [results, Try.results17, go_sem, z0, z1]) rfl ⟨.inr ⟨Hn.out, rfl⟩, B1.out⟩

def OutV (w : World) (v : Value) (e : Ending) (w' : World) : Prop := e = .returned v ∧ Below w.heap.size w w'
set_option maxRecDepth 100000 in
set_option maxHeartbeats 1000000 in
theorem lawKeep_any (n : Int) (w : World) : Calls Try.prog 24 #[.int .i64 n, .slice none 0 0] w (OutV w (opAgg ⟨1, n, ⟨#[]⟩, []⟩ (.slice none 0 0))) := by
  go_enter Try.func24, Try.ntmps24
  go_wp2_with fail
  exact bodyPost_ret (v := opAgg ⟨1, n, ⟨#[]⟩, []⟩ (.slice none 0 0)) (by simp [results, Try.results24, go_sem]) rfl ⟨rfl, below_box _ _⟩
set_option maxRecDepth 100000 in
set_option maxHeartbeats 1000000 in
theorem lawCut_any (n : Int) (w : World) : Calls Try.prog 25 #[.int .i64 n] w (OutV w (opAgg ⟨3, n, ⟨#[]⟩, []⟩ (.slice none 0 0))) := by
  go_enter Try.func25, Try.ntmps25
  go_wp2_with fail
  exact bodyPost_ret (v := opAgg ⟨3, n, ⟨#[]⟩, []⟩ (.slice none 0 0)) (by simp [results, Try.results25, go_sem]) rfl ⟨rfl, below_box _ _⟩
set_option maxRecDepth 100000 in
set_option maxHeartbeats 1000000 in
theorem lawPut_any (s : ByteArray) (w : World) : Calls Try.prog 26 #[.string s, .slice none 0 0] w (OutV w (opAgg ⟨2, 0, s, []⟩ (.slice none 0 0))) := by
  go_enter Try.func26, Try.ntmps26
  go_wp2_with fail
  exact bodyPost_ret (v := opAgg ⟨2, 0, s, []⟩ (.slice none 0 0)) (by simp [results, Try.results26, go_sem]) rfl ⟨rfl, below_box _ _⟩

theorem opRow_new (w : World) (ps : List (OpD × Value)) (h : ∀ p ∈ ps, p.1.attrs = [] ∧ p.2 = .slice none 0 0) (hm : ps.length ≤ maxLen) :
    OpRow (w.alloc (.cells (flatO ps).toArray 40)) (.slice (some ⟨w.heap.size, 0, none⟩) ps.length ps.length) (ps.map (·.1)) := by
  refine OwnP.row (B := w.heap.size) ⟨⟨flatO_len ps, .inr ⟨w.heap.size, ps.length, (flatO ps).toArray, rfl, Nat.le_refl _, heap_new _ _, Nat.le_refl _, hm, by simp [flatO_len], ?_⟩⟩, fun p hp => ?_⟩
  · rw [List.take_of_length_le (by simp [flatO_len])]
  · obtain ⟨h1, h2⟩ := h p hp
    rw [h1, h2]
    exact World.ownsRow_nil _ _ _ _
end Go.Proofs.Ythcpagpiphemgaa
