/- Signs of bytes: the program's signsOf. -/
import Derived.Test.YtigdmgpejmfceaaBb
import Derived.Test.YtigdmgpejmfceaaYg
import Derived.Laws.CopyOwn
import Derived.Lib.BufferMore
namespace Go.Proofs.Ytigdmgpejmfceaa
open Go.RowKit Su Yg

theorem i64_or_nat (a b : Nat) (ha : a < 4611686018427387904) (hb : b < 4611686018427387904) : bits .or .i64 (a : Int) (b : Int) = ((a ||| b : Nat) : Int) := by
  have hx : a ||| b < 2 ^ 62 := Nat.or_lt_two_pow (by omega) (by omega)
  show IntKind.i64.wrap ((BitVec.ofInt 64 (a : Int) ||| BitVec.ofInt 64 (b : Int)).toNat : Int) = _
  rw [BitVec.toNat_or, ofInt_u64 a (by omega), ofInt_u64 b (by omega)]
  exact IntWalk.i64_in _ (by omega)
theorem i64_join {a b : Nat} (i : Nat) (hx : a % 2 ^ i = 0) (hy : b < 2 ^ i) (ha : a < 4611686018427387904) (hb : b < 4611686018427387904) : bits .or .i64 (a : Int) (b : Int) = ((a + b : Nat) : Int) := by
  rw [i64_or_nat a b ha hb, nat_join i a b hx hy]
abbrev signsT : ByteArray := ⟨#[65, 66, 67, 68, 69, 70, 71, 72, 73, 74, 75, 76, 77, 78, 79, 80, 81, 82, 83, 84, 85, 86, 87, 88, 89, 90, 97, 98, 99, 100, 101, 102, 103, 104, 105, 106, 107, 108, 109, 110, 111, 112, 113, 114, 115, 116, 117, 118, 119, 120, 121, 122, 48, 49, 50, 51, 52, 53, 54, 55, 56, 57, 43, 47]⟩
theorem sign_size : signsT.size = 64 := rfl
theorem sign_at (n : Nat) (hb : n < signsT.size) : signsT[n]'hb = sgn n := by
  have H : ∀ i : Fin 64, signsT[i.1]'(show i.1 < signsT.size from i.2) = sgn i.1 := by decide +kernel
  exact H ⟨n, hb⟩
theorem run_sign (W : World) (n : Nat) (h : n < 64) : (Instr.index 9 (.string signsT) (.int .i64 (n : Int))).run Try.prog W = .ok (.int .u8 ((sgn n).toNat : Int)) W := by
  rw [run_index_string W 9 _ _ _ Try.underlying9, dif_pos ⟨by omega, by rw [sign_size]; omega⟩]
  have e := sign_at n (by rw [sign_size]; exact h)
  simp only [Int.toNat_natCast]
  rw [e]
/-- Four signs stored one by one. -/
theorem four_end {w2 : World} {g : Nat} {z0 z1 z2 z3 : Value} {T : TypeId} (h : w2.heap[g]? = some (.cells #[z0, z1, z2, z3] T (0, 0))) (a b c d : Value) (o : Obj) :
    ((((((w2.setCell ⟨g, 0, none⟩ a).setCell ⟨g, 1, none⟩ b).setCell ⟨g, 2, none⟩ c).setCell ⟨g, 3, none⟩ d).alloc o).drew).heap[g]? = some (.cells #[a, b, c, d] T (0, 0)) := by
  have h1 := Lib.heap_setCell_same (i := 0) h a
  have h2 := Lib.heap_setCell_same (i := 1) h1 b
  have h3 := Lib.heap_setCell_same (i := 2) h2 c
  have h4 := Lib.heap_setCell_same (i := 3) h3 d
  exact (Below.heap_alloc _ _ _ (Array.getElem?_eq_some_iff.1 h4).1).trans h4
theorem below_four {B g : Nat} {w w2 : World} (h : Below B w w2) (hB : B ≤ g) (hB2 : B ≤ w.heap.size) (a b c d : Value) (o : Obj) :
    Below B w ((((((w2.setCell ⟨g, 0, none⟩ a).setCell ⟨g, 1, none⟩ b).setCell ⟨g, 2, none⟩ c).setCell ⟨g, 3, none⟩ d).alloc o).drew) := by
  have h4 := (((h.setCell (p := ⟨g, 0, none⟩) hB a).setCell (p := ⟨g, 1, none⟩) hB b).setCell (p := ⟨g, 2, none⟩) hB c).setCell (p := ⟨g, 3, none⟩) hB d
  exact (h4.alloc (Nat.le_trans hB2 h4.size) o).drew
set_option maxRecDepth 100000 in
set_option maxHeartbeats 4000000 in
theorem signs_any (v : Value) (b : List UInt8) (w : World) (h : BRow w v b) (h1 : 1 ≤ b.length) (h3 : b.length ≤ 3) :
    Calls Try.prog 27 #[v] w fun e w' => e = .returned (.agg (Lib.byteCells (signs4 b)).toArray) ∧ Below w.heap.size w w' := by
  have hn := num3_lt b
  have HB := Lib.hid h
  obtain ⟨ad, cap, rfl, g2, g3, g4, g5⟩ := h
  have HG := Lib.hid g5
  obtain ⟨n, hnb⟩ : ∃ n, n = b.length := ⟨_, rfl⟩
  rw [← hnb] at h1 h3 g2 HB ⊢
  unfold maxLen at g3
  have u0 := u8_lt (b.getD 0 0)
  have u1 := u8_lt (b.getD 1 0)
  have u2 := u8_lt (b.getD 2 0)
  have HE := Lib.hid (show num3 b = (b.getD 0 0).toNat * 65536 + (b.getD 1 0).toNat * 256 + (b.getD 2 0).toNat from rfl)
  have HS := Lib.hid (show signs4 b = [sgn (num3 b / 262144), sgn (num3 b / 4096 % 64), if b.length < 2 then 61 else sgn (num3 b / 64 % 64), if b.length < 3 then 61 else sgn (num3 b % 64)] from rfl)
  rw [← hnb] at HS
  have HP := Lib.hid (show (Lib.byteCells b ++ List.drop b.length [Value.int .u8 0, .int .u8 0, .int .u8 0]) = [.int .u8 ((b.getD 0 0).toNat : Int), .int .u8 ((b.getD 1 0).toNat : Int), .int .u8 ((b.getD 2 0).toNat : Int)] by
    rcases b with _ | ⟨x, _ | ⟨y, _ | ⟨z, _ | ⟨t, l⟩⟩⟩⟩
    · simp at hnb; omega
    · rfl
    · rfl
    · rfl
    · simp at hnb; omega)
  have HL := Lib.hid hnb
  have HC := Lib.hid (fun j v (hj : (Lib.byteCells b)[j]? = some v) => show ∃ a, ad = some a ∧ w.cell? (a.add j) = some v by
    have hjl : j < b.length := by have := (List.getElem?_eq_some_iff.1 hj).1; simpa [Lib.byteCells] using this
    obtain ⟨bb, off, e, _, hc⟩ := g5 j hjl
    rw [byteCells_at b j hjl] at hj
    exact ⟨_, e, by rw [add_at, hc]; exact hj⟩)
  obtain ⟨a0, ha0⟩ : ∃ a, ad = some a := by
    obtain ⟨bb, off, e, _⟩ := g5 0 (by omega)
    exact ⟨_, e⟩
  subst ha0
  have hlt0 : a0.block < w.heap.size := by
    obtain ⟨bb, off, e, hlt, _⟩ := g5 0 (by omega)
    obtain rfl := Option.some.inj e
    exact hlt
  clear g5 g4
  have q1 := i64_join (a := (b.getD 0 0).toNat * 65536) (b := (b.getD 1 0).toNat * 256) 16 (by omega) (by omega) (by omega) (by omega)
  have q2 := i64_join (a := (b.getD 0 0).toNat * 65536 + (b.getD 1 0).toNat * 256) (b := (b.getD 2 0).toNat) 8 (by omega) (by omega) (by omega) (by omega)
  rw [← HE.out] at q2
  have r1 : ∀ W, (Instr.index 9 (.string signsT) (.int .i64 ((num3 b : Int) / 262144))).run Try.prog W = .ok (.int .u8 ((sgn (num3 b / 262144)).toNat : Int)) W := fun W => run_sign W (num3 b / 262144) (by omega)
  have r2 : ∀ W, (Instr.index 9 (.string signsT) (.int .i64 ((num3 b : Int) / 4096 % 64))).run Try.prog W = .ok (.int .u8 ((sgn (num3 b / 4096 % 64)).toNat : Int)) W := fun W => run_sign W (num3 b / 4096 % 64) (by omega)
  have r3 : ∀ W, (Instr.index 9 (.string signsT) (.int .i64 ((num3 b : Int) / 64 % 64))).run Try.prog W = .ok (.int .u8 ((sgn (num3 b / 64 % 64)).toNat : Int)) W := fun W => run_sign W (num3 b / 64 % 64) (by omega)
  have r4 : ∀ W, (Instr.index 9 (.string signsT) (.int .i64 ((num3 b : Int) % 64))).run Try.prog W = .ok (.int .u8 ((sgn (num3 b % 64)).toNat : Int)) W := fun W => run_sign W (num3 b % 64) (by omega)
  generalize (b.getD 0 0).toNat = x0 at *
  generalize (b.getD 1 0).toNat = x1 at *
  generalize (b.getD 2 0).toNat = x2 at *
  generalize num3 b = N at *
  obtain ⟨m1, hm1⟩ : ∃ m, m = x0 * 65536 + x1 * 256 := ⟨_, rfl⟩
  rw [← hm1] at q1 q2
  have q1 : bits .or .i64 ((x0 : Int) * 65536) ((x1 : Int) * 256) = (m1 : Int) := q1
  generalize sgn (N / 262144) = s1 at *
  generalize sgn (N / 4096 % 64) = s2 at *
  generalize sgn (N / 64 % 64) = s3 at *
  generalize sgn (N % 64) = s4 at *
  clear hm1 hnb
  go_enter Try.func27, Try.ntmps27
  go_wp2_with (with_reducible refine wpList_copy_splice rfl _ _ 22 22 rfl 5 Try.underlying22 (by kernel_rfl) _ _ _ _ _ _ rfl rfl (w.heap.size + 1) 0 [.int .u8 0, .int .u8 0, .int .u8 0] 55 ?_ (Lib.byteCells b) ?_ ?_ ?_ ?_ (w.heap.size + 1) ((w.alloc (.cells #[.int .u8 0, .int .u8 0, .int .u8 0, .int .u8 0] 46)).alloc (.cells #[.int .u8 0, .int .u8 0, .int .u8 0] 55)) ?_ ?_ ?_)
  · have := heap_alloc_last (w.alloc (.cells #[.int .u8 0, .int .u8 0, .int .u8 0, .int .u8 0] 46)) (.cells #[.int .u8 0, .int .u8 0, .int .u8 0] 55)
    rw [World.size_alloc] at this
    exact this
  · rw [Lib.byteCells, List.length_map, ← HL.out]; exact (Nat.min_eq_left h3).symm
  · intro _ j v hj
    obtain ⟨a, e, hc⟩ := HC.out j v hj
    obtain rfl := Option.some.inj e
    exact ((((Below.refl w.heap.size w).alloc (Nat.le_refl _) _).alloc (by simp) _).cell (by unfold Addr.add; split <;> exact hlt0)).trans hc
  · rw [Lib.byteCells, List.length_map, ← HL.out]; simpa using h3
  · exact byteCells_one b
  · exact Below.refl _ _
  · omega
  intro w2 hw2 hb2
  have e2 : splice [Value.int .u8 0, .int .u8 0, .int .u8 0] 0 (Lib.byteCells b) = [.int .u8 (x0 : Int), .int .u8 (x1 : Int), .int .u8 (x2 : Int)] := by
    rw [← HP.out, splice, Nat.zero_add, Lib.byteCells, List.length_map]
    rfl
  have HW2 := hw2.out
  rw [e2] at HW2
  have HZ2 := Lib.hid HW2
  have HX2 := Lib.hid (show w2.heap[w.heap.size]? = some (.cells #[.int .u8 0, .int .u8 0, .int .u8 0, .int .u8 0] 46 (0, 0)) by
    rw [hb2.block _ (by omega), Below.heap_alloc _ _ _ (by simp)]; exact heap_alloc_last w _)
  have HBL := Lib.hid (show Below w.heap.size w w2 from (((Below.refl w.heap.size w).alloc (Nat.le_refl _) _).alloc (by simp) _).trans (hb2.mono (by omega)))
  have HLB := Lib.hid (show (Lib.byteCells b).length = n by rw [Lib.byteCells, List.length_map, ← HL.out])
  rw [HLB.out]
  have hsz : w.heap.size + 2 ≤ w2.heap.size := by have := hb2.size; simp at this; omega
  have c0 : w2.cell? ⟨w.heap.size + 1, 0, none⟩ = some (.int .u8 (x0 : Int)) := by simp [World.cell?, HW2]
  have c1 : w2.cell? ⟨w.heap.size + 1, 1, none⟩ = some (.int .u8 (x1 : Int)) := by simp [World.cell?, HW2]
  have c2 : w2.cell? ⟨w.heap.size + 1, 2, none⟩ = some (.int .u8 (x2 : Int)) := by simp [World.cell?, HW2]
  have k0 : w2.cell? ⟨w.heap.size, 0, none⟩ = some (.int .u8 0) := by simp [World.cell?, HX2.out]
  have k1 : w2.cell? ⟨w.heap.size, 1, none⟩ = some (.int .u8 0) := by simp [World.cell?, HX2.out]
  have k2 : w2.cell? ⟨w.heap.size, 2, none⟩ = some (.int .u8 0) := by simp [World.cell?, HX2.out]
  have k3 : w2.cell? ⟨w.heap.size, 3, none⟩ = some (.int .u8 0) := by simp [World.cell?, HX2.out]
  have kf : ∀ j, w2.frozen? ⟨w.heap.size, j, none⟩ = false := fun j => by simp [World.frozen?, HX2.out]
  have f0 := kf 0
  have f1 := kf 1
  have f2 := kf 2
  have f3 := kf 3
  have hlt2 : w.heap.size < w2.heap.size := by omega
  clear kf
  clear hw2 e2 hb2 HW2
  go_wp2_with fail
  go_region
  go_wp2_with fail
  obtain rfl | rfl | rfl : n = 3 ∨ n = 2 ∨ n = 1 := by omega
  · have HV := Lib.hid HS.out
    simp only [Nat.reduceLT, if_false, Nat.lt_irrefl] at HV
    clear HS
    refine wp_loop_rounds 1 ?_
    rw [rounds_succ]
    go_wp2_with fail
    refine bodyPost_ret (v := .agg #[.int .u8 (s1.toNat : Int), .int .u8 (s2.toNat : Int), .int .u8 (s3.toNat : Int), .int .u8 (s4.toNat : Int)]) (results_cell_row rfl _ _ w.heap.size 46 _ (0, 0) _ rfl (four_end HX2.out _ _ _ _ _) Try.underlying46 rfl (by kernel_rfl)) rfl ⟨?_, below_four HBL.out (Nat.le_refl _) (Nat.le_refl _) _ _ _ _ _⟩
    rw [HV.out]
    rfl
  · have HV := Lib.hid HS.out
    simp only [Nat.reduceLT, if_false, if_true, Nat.lt_irrefl] at HV
    clear HS
    refine wp_loop_rounds 2 ?_
    rw [rounds_succ]
    go_wp2_with fail
    rw [rounds_succ]
    go_wp2_with fail
    refine bodyPost_ret (v := .agg #[.int .u8 (s1.toNat : Int), .int .u8 (s2.toNat : Int), .int .u8 (s3.toNat : Int), .int .u8 61]) (results_cell_row rfl _ _ w.heap.size 46 _ (0, 0) _ rfl (four_end HX2.out _ _ _ _ _) Try.underlying46 rfl (by kernel_rfl)) rfl ⟨?_, below_four HBL.out (Nat.le_refl _) (Nat.le_refl _) _ _ _ _ _⟩
    rw [HV.out]
    rfl
  · have HV := Lib.hid HS.out
    simp only [Nat.reduceLT, if_true] at HV
    clear HS
    refine wp_loop_rounds 3 ?_
    rw [rounds_succ]
    go_wp2_with fail
    rw [rounds_succ]
    go_wp2_with fail
    rw [rounds_succ]
    go_wp2_with fail
    refine bodyPost_ret (v := .agg #[.int .u8 (s1.toNat : Int), .int .u8 (s2.toNat : Int), .int .u8 61, .int .u8 61]) (results_cell_row rfl _ _ w.heap.size 46 _ (0, 0) _ rfl (four_end HX2.out _ _ _ _ _) Try.underlying46 rfl (by kernel_rfl)) rfl ⟨?_, below_four HBL.out (Nat.le_refl _) (Nat.le_refl _) _ _ _ _ _⟩
    rw [HV.out]
    rfl
end Go.Proofs.Ytigdmgpejmfceaa
