/- Seals opened: the program's. -/
import Derived.Test.YtbnkpbphahjomaaDoorSl
import Derived.Deep.RegionHeld3
import Derived.Deep.QuietTactic
import Derived.BigQuiet
namespace Go.Proofs.YtbnkpbphahjomaaDoor
open Go.RowKit Su

set_option maxRecDepth 100000 in
set_option maxHeartbeats 2000000 in
theorem open_short (v : Value) (l : List UInt8) (w : World) (h : BRow w v l) (h4 : l.length < 4) :
    Calls Tryd.prog 12 #[v] w fun e w' => e = .returned (.tuple #[.slice none 0 0, .bool false]) ∧ ∃ n, w' = w.drewN n := by
  obtain ⟨a, cap, rfl⟩ : ∃ a c, v = .slice a l.length c := by obtain ⟨a, c, h, _⟩ := h; exact ⟨a, c, h⟩
  have d : decide ((l.length : Int) - 4 < 0) = true := decide_eq_true (by omega)
  clear h
  go_enter Tryd.func12, Tryd.ntmps12
  go_wp2_with fail
  go_quiet (fail)
  go_wp2_with fail
  go_ret2
  exact ⟨rfl, _, rfl⟩
theorem below_drewN {B : Nat} {a w : World} (h : Below B a w) (n : Nat) : Below B a (w.drewN n) := ⟨h.os, h.tape, h.output, h.size, h.block⟩
theorem head_row {w : World} {b off A cap : Nat} {l : List UInt8} (h : BRow w (.slice (some ⟨b, off, none⟩) (A + 4) cap) l) (hA : l.length = A + 4) :
    BRow w (.slice (some ⟨b, off, none⟩) A cap) (l.take A) ∧ A + 4 ≤ cap ∧ cap ≤ maxLen ∧ b < w.heap.size ∧ ∀ i, i < 4 → ∃ x : UInt8, (l.drop A)[i]? = some x ∧ w.cell? ⟨b, off + A + i, none⟩ = some (.int .u8 (x.toNat : Int)) := by
  obtain ⟨a0, cap0, he, h1, h2, h3, h5⟩ := h
  simp only [Value.slice.injEq] at he
  obtain ⟨rfl, _, rfl⟩ := he
  have hl : (l.take A).length = A := by rw [List.length_take]; omega
  refine ⟨⟨some ⟨b, off, none⟩, cap, by rw [hl], by rw [hl]; omega, h2, h3, fun i hi => ?_⟩, by omega, h2, ?_, fun i hi => ?_⟩
  · rw [hl] at hi
    obtain ⟨b', off', e, hb, hc⟩ := h5 i (by omega)
    refine ⟨b', off', e, hb, ?_⟩
    rw [List.getElem_take]; exact hc
  · obtain ⟨b', off', e, hb, hc⟩ := h5 0 (by omega)
    obtain rfl : b = b' := by simp at e; exact e.1
    exact hb
  · obtain ⟨b', off', e, hb, hc⟩ := h5 (A + i) (by omega)
    simp only [Option.some.injEq, Addr.mk.injEq, and_true] at e
    obtain ⟨rfl, rfl⟩ := e
    refine ⟨l[A + i]'(by omega), ?_, by rw [Nat.add_assoc]; exact hc⟩
    rw [List.getElem?_drop, List.getElem?_eq_getElem (by omega)]
theorem eq4 (a b c d x y z t : Int) (w : World) : (Op.equalIn 10000 38 (.agg #[.int .u8 a, .int .u8 b, .int .u8 c, .int .u8 d]) (.agg #[.int .u8 x, .int .u8 y, .int .u8 z, .int .u8 t])).run Tryd.prog w = .ok (a == x && b == y && c == z && d == t) w := by
  have u3 := Tryd.underlying5
  have a3 := Tryd.isAgg5
  have z3 := Tryd.sizeOf5
  rw [show (10000 : Nat) = 9999 + 1 from rfl, Op.equalIn]
  simp only [Sem.run_bind, run_underlying Tryd.underlying38, Result.andThen_ok]
  simp only [Std.Legacy.Range.forIn_eq_forIn_range', Std.Legacy.Range.size, Nat.sub_zero, Nat.add_sub_cancel, Nat.div_one, List.range'_succ, List.range'_zero, List.forIn_cons, List.forIn_nil]
  go_simp
  by_cases h1 : a = x <;> by_cases h2 : b = y <;> by_cases h3 : c = z <;> by_cases h4 : d = t <;> simp [h1, h2, h3, h4]
theorem byteCells_inj {l m : List UInt8} (h : Lib.byteCells l = Lib.byteCells m) : l = m := by
  induction l generalizing m with
  | nil => cases m with
    | nil => rfl
    | cons y r => simp [Lib.byteCells] at h
  | cons x r ih => cases m with
    | nil => simp [Lib.byteCells] at h
    | cons y s =>
      simp only [Lib.byteCells, List.map_cons, List.cons.injEq, Value.int.injEq, true_and] at h
      rw [ih h.2, UInt8.toNat_inj.1 (show x.toNat = y.toNat by omega)]
/-- What opening answers: the bytes, or nothing. -/
def OpenOut (l : List UInt8) (w : World) (e : Ending) (w' : World) : Prop :=
  ∃ v, ((∃ m, openB l = some m ∧ e = .returned (.tuple #[v, .bool true]) ∧ OwnU w' w.heap.size v m) ∨ (openB l = none ∧ v = .slice none 0 0 ∧ e = .returned (.tuple #[v, .bool false]))) ∧ Below w.heap.size w w'
theorem four_list {l : List UInt8} (h : l.length = 4) {a b c d : UInt8} (h0 : l[0]? = some a) (h1 : l[1]? = some b) (h2 : l[2]? = some c) (h3 : l[3]? = some d) : l = [a, b, c, d] := by
  match l, h with
  | [x, y, z, t], _ => simp at h0 h1 h2 h3; rw [h0, h1, h2, h3]
set_option maxRecDepth 100000 in
set_option maxHeartbeats 4000000 in
theorem open_long (b off A cap : Nat) (l : List UInt8) (w : World) (h : BRow w (.slice (some ⟨b, off, none⟩) (A + 4) cap) l) (hA : l.length = A + 4) (hf : Fo w) (hn : l.length ≤ 140737488355328) :
    Calls Tryd.prog 12 #[.slice (some ⟨b, off, none⟩) (A + 4) cap] w (OpenOut l w) := by
  obtain ⟨hrow, hc1, hc2, hb0, hcells⟩ := head_row h hA
  unfold maxLen at hc2
  obtain ⟨x0, y0, c0⟩ := hcells 0 (by omega)
  obtain ⟨x1, y1, c1⟩ := hcells 1 (by omega)
  obtain ⟨x2, y2, c2⟩ := hcells 2 (by omega)
  obtain ⟨x3, y3, c3⟩ := hcells 3 (by omega)
  rw [Nat.add_zero] at c0
  have hd : l.drop A = [x0, x1, x2, x3] := four_list (by rw [List.length_drop]; omega) y0 y1 y2 y3
  have hT : ∀ W, (Instr.sliceAt 22 (.slice (some ⟨b, off, none⟩) (A + 4) cap) (some (.int .i64 (A : Int))) none none).run Tryd.prog W = .ok (.slice (some ⟨b, off + A, none⟩) 4 (cap - A)) W := fun W => by
    rw [run_tail _ _ _ _ (by omega)]
    unfold sliced
    rw [if_neg (by omega), show A + 4 - A = 4 by omega]
    simp [add_at]
  have hH : ∀ W, (Instr.sliceAt 22 (.slice (some ⟨b, off, none⟩) (A + 4) cap) none (some (.int .i64 (A : Int))) none).run Tryd.prog W = .ok (.slice (some ⟨b, off, none⟩) A cap) W := fun W => by
    rw [run_head _ _ _ _ (by omega)]
    unfold sliced
    rw [if_neg (by omega)]
    simp [add_at]
  have hat : ∀ W, (Instr.arrayAt 38 (.slice (some ⟨b, off + A, none⟩) 4 (cap - A))).run Tryd.prog W = .ok (.pointer (some ⟨b, off + A, none⟩)) W := fun W => by
    simp [Instr.arrayAt, run_underlying Tryd.underlying38]
  have HC := Lib.hid (fun W (hW : Below w.heap.size w W) => tail_any _ _ W (hrow.below hW) (hf.below hW))
  have HCL := Lib.hid (fun W (hW : Below w.heap.size w W) => clone_any _ _ W (hrow.below hW) (by rw [List.length_take]; omega))
  have d : decide ((A : Int) < 0) = false := decide_eq_false (by omega)
  clear hcells y0 y1 y2 y3 hrow h
  go_enter Tryd.func12, Tryd.ntmps12
  go_wp2_with fail
  unfold arr4 at HC
  have hs4 := sum_lt (l.take A)
  obtain ⟨n, hnn⟩ : ∃ n, n = sum (l.take A) := ⟨_, rfl⟩
  have hcl := le4_cells n (by rw [hnn]; exact hs4)
  have hopen : openB l = if ((x0.toNat : Int) == (n : Int) % 256 && (x1.toNat : Int) == (n : Int) / 256 % 256 && (x2.toNat : Int) == (n : Int) / 65536 % 256 && (x3.toNat : Int) == (n : Int) / 16777216) = true then some (l.take A) else none := by
    unfold openB
    rw [show l.length - 4 = A by omega, hd, ← hnn]
    have hiff : [x0, x1, x2, x3] = le4 n ↔ Lib.byteCells [x0, x1, x2, x3] = Lib.byteCells (le4 n) := by
      constructor
      · intro h; rw [h]
      · exact byteCells_inj
    have e4 : 4 ≤ l.length := by omega
    rw [hcl] at hiff
    simp only [Lib.byteCells, List.map_cons, List.map_nil, List.cons.injEq, Value.int.injEq, true_and, and_true] at hiff
    by_cases hh : [x0, x1, x2, x3] = le4 n
    · rw [if_pos ⟨e4, hh⟩, if_pos]
      obtain ⟨r0, r1, r2, r3⟩ := hiff.1 hh
      simp only [Bool.and_eq_true, beq_iff_eq]
      omega
    · rw [if_neg (fun h => hh h.2), if_neg]
      intro h
      simp only [Bool.and_eq_true, beq_iff_eq] at h
      exact hh (hiff.2 (by omega))
  have HOP := Lib.hid hopen
  have HEQ := Lib.hid (eq4 (x0.toNat : Int) (x1.toNat : Int) (x2.toNat : Int) (x3.toNat : Int) ((n : Int) % 256) ((n : Int) / 256 % 256) ((n : Int) / 65536 % 256) ((n : Int) / 16777216))
  rw [← hnn] at HC hs4
  obtain ⟨E, hE⟩ : ∃ E, E = ((x0.toNat : Int) == (n : Int) % 256 && (x1.toNat : Int) == (n : Int) / 256 % 256 && (x2.toNat : Int) == (n : Int) / 65536 % 256 && (x3.toNat : Int) == (n : Int) / 16777216) := ⟨_, rfl⟩
  rw [← hE] at HOP HEQ
  clear hnn hcl hopen hE
  cases E
  · have heq := HEQ.out
    go_region_held3 (fun w' => w'.cell? ⟨b, off + A, none⟩ = some (.int .u8 (x0.toNat : Int)) ∧ w'.cell? ⟨b, off + A + 1, none⟩ = some (.int .u8 (x1.toNat : Int)) ∧ w'.cell? ⟨b, off + A + 2, none⟩ = some (.int .u8 (x2.toNat : Int)) ∧ w'.cell? ⟨b, off + A + 3, none⟩ = some (.int .u8 (x3.toNat : Int)))
      (first | exact ⟨c0, c1, c2, c3⟩ | exact S1)
      (first | (go_at_call 23; refine (HC.out _ (below_drewN (Below.refl w.heap.size w) 1)).mono ?_; rintro e w1 ⟨rfl, hb⟩; have S1 := And.intro ((hb.cell (by exact hb0)).trans c0) (And.intro ((hb.cell (by exact hb0)).trans c1) (And.intro ((hb.cell (by exact hb0)).trans c2) ((hb.cell (by exact hb0)).trans c3))); have HB1 := Lib.hid ((below_drewN (Below.refl w.heap.size w) 1).trans hb); clear hb))
    all_goals
      go_wp2_with fail
      go_ret2
      exact ⟨_, .inr ⟨HOP.out, rfl, rfl⟩, HB1.out⟩
  · have heq := HEQ.out
    go_region_held3 (fun w' => w'.cell? ⟨b, off + A, none⟩ = some (.int .u8 (x0.toNat : Int)) ∧ w'.cell? ⟨b, off + A + 1, none⟩ = some (.int .u8 (x1.toNat : Int)) ∧ w'.cell? ⟨b, off + A + 2, none⟩ = some (.int .u8 (x2.toNat : Int)) ∧ w'.cell? ⟨b, off + A + 3, none⟩ = some (.int .u8 (x3.toNat : Int)))
      (first | exact ⟨c0, c1, c2, c3⟩ | exact S1)
      (first | (go_at_call 23; refine (HC.out _ (below_drewN (Below.refl w.heap.size w) 1)).mono ?_; rintro e w1 ⟨rfl, hb⟩; have S1 := And.intro ((hb.cell (by exact hb0)).trans c0) (And.intro ((hb.cell (by exact hb0)).trans c1) (And.intro ((hb.cell (by exact hb0)).trans c2) ((hb.cell (by exact hb0)).trans c3))); have HB1 := Lib.hid ((below_drewN (Below.refl w.heap.size w) 1).trans hb); clear hb))
    all_goals
      go_wp2_with fail
      refine (HCL.out w1 HB1.out).mono ?_
      rintro e w2 ⟨v2, rfl, ho, hb⟩
      have HO := Lib.hid ho
      have HB2 := Lib.hid (HB1.out.trans (hb.mono HB1.out.size))
      clear ho hb
      go_wp2_with fail
      go_ret2
      exact ⟨_, .inl ⟨_, HOP.out, rfl, own_low HO.out HB1.out.size⟩, HB2.out⟩
theorem open_any (v : Value) (l : List UInt8) (w : World) (h : BRow w v l) (hf : Fo w) (hn : l.length ≤ 140737488355328) :
    Calls Tryd.prog 12 #[v] w (OpenOut l w) := by
  by_cases h4 : l.length < 4
  · refine (open_short v l w h h4).mono ?_
    rintro e w' ⟨rfl, n, rfl⟩
    exact ⟨_, .inr ⟨by unfold openB; rw [if_neg (fun h => by omega)], rfl, rfl⟩, below_drewN (Below.refl _ _) n⟩
  · obtain ⟨A, hA⟩ : ∃ A, l.length = A + 4 := ⟨l.length - 4, by omega⟩
    obtain ⟨a, cap, rfl, h1, h2, h3, h5⟩ := id h
    obtain ⟨b, off, rfl, _⟩ := h5 0 (by omega)
    rw [hA] at h ⊢
    exact open_long b off A cap l w h hA hf hn
end Go.Proofs.YtbnkpbphahjomaaDoor
