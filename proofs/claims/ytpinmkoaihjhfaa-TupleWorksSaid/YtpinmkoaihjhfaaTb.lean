/- Rows of bytes in memory: read, of one's own, put behind each other. (Out of the texts of stages 9 and 10, by cut_tup.py.) -/
import Derived.Test.YtpinmkoaihjhfaaSu
import Derived.Test.YtpinmkoaihjhfaaProg
import Derived.Lib.UnsafeStr
import Derived.Lib.Hide
import Derived.Laws.BitsAllLaws
import Derived.Laws.OwnMore
import Derived.IntWalk
import Derived.Deep.WholeRow
import Derived.Deep.OwnRows
import Derived.Laws.IdiomStrings
import Derived.Laws.IdiomArrays
import Derived.Lib.AppendZerosOnto
import Derived.Lib.SliceRun
import Derived.Lib.SlBytesConst
import Derived.OwnWalk
import Derived.LoopN
import Derived.Laws.AppendOwnNone
import Derived.Deep.RegionHeld3
import Derived.Deep.QuietTactic
import Derived.BigQuiet
import Derived.Shelf.RegionOpen
namespace Go.Proofs.Ytpinmkoaihjhfaa
open Go.RowKit Su

theorem byteCells_at (l : List UInt8) (i : Nat) (h : i < l.length) : (Lib.byteCells l)[i]? = some (.int .u8 (l[i].toNat : Int)) := by
  rw [Lib.byteCells, List.getElem?_map, List.getElem?_eq_getElem h]; rfl
theorem add_at (b off i : Nat) : (⟨b, off, none⟩ : Addr).add i = ⟨b, off + i, none⟩ := by
  unfold Addr.add
  split
  · rename_i h; rw [h]; simp
  · rfl
/-- The value v is, in world w, a row of these bytes. -/
def BRow (w : World) (v : Value) (l : List UInt8) : Prop :=
  ∃ a cap, v = .slice a l.length cap ∧ l.length ≤ cap ∧ cap ≤ maxLen ∧ (a = none → cap = 0) ∧
    ∀ i (hi : i < l.length), ∃ b off, a = some ⟨b, off, none⟩ ∧ b < w.heap.size ∧ w.cell? ⟨b, off + i, none⟩ = some (.int .u8 (l[i].toNat : Int))
theorem BRow.below {w w' : World} {v : Value} {l : List UInt8} (h : BRow w v l) (hb : Below w.heap.size w w') : BRow w' v l := by
  obtain ⟨a, cap, h1, h2, h3, h4, h5⟩ := h
  refine ⟨a, cap, h1, h2, h3, h4, fun i hi => ?_⟩
  obtain ⟨b, off, e, hlt, hc⟩ := h5 i hi
  exact ⟨b, off, e, Nat.lt_of_lt_of_le hlt hb.size, (hb.cell (by exact hlt)).trans hc⟩
theorem BRow.len {w : World} {v : Value} {l : List UInt8} (h : BRow w v l) : l.length ≤ maxLen := by
  obtain ⟨a, cap, _, h2, h3, _⟩ := h
  omega
/-- A row of bytes of a call's own. -/
def OwnU (w : World) (B : Nat) (v : Value) (l : List UInt8) : Prop := w.ownsRow B 5 1 v l.length (Lib.byteCells l)
theorem OwnU.row {w : World} {B : Nat} {v : Value} {l : List UInt8} (h : OwnU w B v l) : BRow w v l := by
  rcases h.2 with ⟨rfl, h0⟩ | ⟨g, cap, cur, rfl, hB, hg, hn, hm, hs, ht⟩
  · refine ⟨none, 0, by rw [h0], by omega, by simp [maxLen], fun _ => rfl, fun i hi => by omega⟩
  · refine ⟨some ⟨g, 0, none⟩, cap, rfl, hn, hm, fun e => (by cases e), fun i hi => ⟨g, 0, rfl, (Array.getElem?_eq_some_iff.1 hg).1, ?_⟩⟩
    have := World.ownsRow.cells h rfl i _ (byteCells_at l i hi)
    rwa [add_at] at this
theorem OwnU.shape {w : World} {B : Nat} {v : Value} {l : List UInt8} (h : OwnU w B v l) : ∃ a cap, v = .slice a l.length cap := by
  obtain ⟨a, cap, e, _⟩ := h.row
  exact ⟨a, cap, e⟩
/-- The text of bytes. -/
def txB (l : List UInt8) : ByteArray := ⟨l.toArray⟩
theorem txB_inj {l m : List UInt8} (h : txB l = txB m) : l = m := by
  have e := congrArg (fun b => b.data.toList) h
  exact e
theorem conv_row {W : World} {v : Value} {l : List UInt8} (h : BRow W v l) : (convert 39 9 v).run Try.prog W = .ok (.string (txB l)) W := by
  obtain ⟨a, cap, rfl, h2, h3, h4, h5⟩ := h
  cases a with
  | none =>
    have h0 := h4 rfl
    have hl : l = [] := List.length_eq_zero_iff.1 (by omega)
    subst hl
    rw [run_convert_bytes_string W 39 9 5 none _ cap Try.underlying39 Try.underlying5 Try.underlying9]
    rfl
  | some a =>
    refine run_convert_bytes_back (P := Try.prog) W 39 9 5 a cap l Try.underlying39 Try.underlying5 Try.underlying9 (fun j hj => ?_)
    obtain ⟨b, off, e, _, hc⟩ := h5 j hj
    obtain rfl := Option.some.inj e
    rw [add_at]
    exact hc
theorem infoByte : (Try.prog.info? 5).map (fun i => (i.zero, i.size, i.bytes)) = some (some (.int .u8 0), 1, 1) := by kernel_rfl
theorem made_eq (k : Nat) (v : Value) : madeCells #[v] k = (List.replicate k v).toArray := by
  apply Array.ext'
  simp only [madeCells, Array.toList_map, Array.toList_range]
  rw [List.eq_replicate_iff]
  refine ⟨by simp, fun b hb => ?_⟩
  obtain ⟨x, _, rfl⟩ := List.mem_map.1 hb
  simp [Nat.mod_one]
theorem elemB : Try.prog.elem 39 = 5 := by kernel_rfl
theorem underB : Try.prog.underlying 39 = some (.slice (Try.prog.elem 39)) := by kernel_rfl
theorem row_part {w : World} {a : Option Addr} {n cap : Nat} {l : List UInt8} (h : BRow w (.slice a n cap) l) (A H : Nat) (hAH : A ≤ H) (hH : H ≤ l.length) :
    n = l.length ∧ BRow w (sliced a A H cap 1) ((l.drop A).take (H - A)) ∧ ∃ a' c', sliced a A H cap 1 = .slice a' (H - A) c' := by
  obtain ⟨a0, cap0, he0, h1, h2, h3, h4⟩ := h
  simp only [Value.slice.injEq] at he0
  obtain ⟨rfl, rfl, rfl⟩ := he0
  have hl : ((l.drop A).take (H - A)).length = H - A := by rw [List.length_take, List.length_drop]; omega
  have hs : sliced a A H cap 1 = .slice (if cap = A then a else a.map (·.add (A * 1))) (H - A) (cap - A) := rfl
  refine ⟨rfl, ?_, _, _, hs⟩
  refine ⟨if cap = A then a else a.map (·.add (A * 1)), cap - A, by rw [hl]; exact hs, by rw [hl]; omega, by omega, fun e => ?_, fun i hi => ?_⟩
  · split at e
    · have := h3 e; omega
    · cases a with
      | none => have := h3 rfl; omega
      | some _ => cases e
  · rw [hl] at hi
    obtain ⟨b, off, rfl, hlt, h5⟩ := h4 (A + i) (by omega)
    refine ⟨b, off + A, ?_, hlt, ?_⟩
    · rw [if_neg (by omega)]
      show some ((⟨b, off, none⟩ : Addr).add (A * 1)) = _
      rw [add_at, Nat.mul_one]
    · rw [List.getElem_take, List.getElem_drop, ← h5, Nat.add_assoc]
theorem run_mid (a : Option Addr) (n cap A H : Nat) (h1 : A ≤ H) (h2 : H ≤ cap) (W : World) :
    (Instr.sliceAt 39 (.slice a n cap) (some (.int .i64 (A : Int))) (some (.int .i64 (H : Int))) none).run Try.prog W = .ok (sliced a A H cap 1) W := by
  rw [run_sliceAt_slice W _ _ _ _ _ underB, run_slice_lh W _ _ _ _ underB .i64 .i64 _ _ (by omega) (by omega) (by omega), elemB, Try.sizeOf5]
  rfl
theorem run_head (a : Option Addr) (n cap H : Nat) (h2 : H ≤ cap) (W : World) :
    (Instr.sliceAt 39 (.slice a n cap) none (some (.int .i64 (H : Int))) none).run Try.prog W = .ok (sliced a 0 H cap 1) W := by
  rw [run_sliceAt_slice W _ _ _ _ _ underB, run_slice_h W _ _ _ _ underB .i64 _ (by omega) (by omega), elemB, Try.sizeOf5]
  rfl
theorem run_tail (a : Option Addr) (n cap A : Nat) (h2 : A ≤ n) (W : World) :
    (Instr.sliceAt 39 (.slice a n cap) (some (.int .i64 (A : Int))) none none).run Try.prog W = .ok (sliced a A n cap 1) W := by
  rw [run_sliceAt_slice W _ _ _ _ _ underB, run_slice_l W _ _ _ _ underB .i64 _ (by omega) (by omega), elemB, Try.sizeOf5]
  rfl
/-- The bytes of a part. -/
def part (l : List UInt8) (a s : Nat) : List UInt8 := (l.drop a).take s
theorem byteCells_append (l m : List UInt8) : Lib.byteCells (l ++ m) = Lib.byteCells l ++ Lib.byteCells m := by simp [Lib.byteCells]
theorem byteCells_one (l : List UInt8) : ∀ u ∈ Lib.byteCells l, u.oneCell' = true := by
  intro u hu
  obtain ⟨x, _, rfl⟩ := List.mem_map.1 hu
  rfl
theorem OwnU.lt {w : World} {B : Nat} {v : Value} {l : List UInt8} (h : OwnU w B v l) : ∀ k, v.ownBlock = some k → B ≤ k ∧ k < w.heap.size := by
  intro k hk
  rcases h.2 with ⟨rfl, _⟩ | ⟨g, cap, cur, rfl, hg, hc, _⟩
  · simp [Value.ownBlock] at hk
  · simp only [Value.ownBlock, Option.some.injEq] at hk
    subst hk
    exact ⟨hg, (Array.getElem?_eq_some_iff.1 hc).1⟩
theorem wpList_append_bytes {w : World} {ops : Array Oper} {rest : List Oper} {o : Oper} {a : Act} {Q : Exit → Act → World → Prop} (hgd : o.guard = none) (s x : Operand)
    (ho : o.op = .call { callee := .builtin .append, args := #[s, x], argTypes := #[39, 39] })
    (base : Nat) (v v' : Value) (l m : List UInt8) (hs : a.eval s = v) (hx : a.eval x = v') (hown : OwnU w base v l) (hrow : BRow w v' m)
    (hbytes : l.length + m.length ≤ 140737488355328) (hbase : base ≤ w.heap.size)
    (h : ∀ u w', OwnU w' base u (l ++ m) → w.grownBy w' v.ownBlock → wpList Try.prog ops Q rest (a.put o.dst u) w') : wpList Try.prog ops Q (o :: rest) a w := by
  have h63' : l.length + m.length ≤ maxLen := by unfold maxLen; omega
  obtain ⟨i0, hi, hz0, hz1, hz2⟩ := info_parts infoByte
  obtain ⟨ad, cap, rfl, h1, h2, h3, h4⟩ := hrow
  cases ad with
  | none =>
    obtain rfl := h3 rfl
    have hm : m = [] := List.length_eq_zero_iff.1 (by omega)
    subst hm
    refine wpList_append_own_none hgd s x 39 ho base 5 i0 1 Try.underlying39 hi v l.length _ hs hown hx ?_
    refine h v w ?_ ⟨rfl, rfl, rfl, Nat.le_refl _, fun _ _ _ => rfl⟩
    rw [List.append_nil]; exact hown
  | some ad =>
    refine wpList_append_own w hgd s x 39 ho base 5 i0 (.int .u8 0) 1 1 Try.underlying39 hi hz0 hz1 hz2 rfl (by decide) v l.length _ hs hown ad m.length cap (Lib.byteCells m) hx (by simp [Lib.byteCells]) (fun j u hj => ?_) (byteCells_one m) h63' (by omega) hbase
      fun u w' h1 h2 _ => h u w' (by unfold OwnU; rw [List.length_append, byteCells_append]; exact h1) h2
    have hjl : j < m.length := by have := (List.getElem?_eq_some_iff.1 hj).1; simpa [Lib.byteCells] using this
    obtain ⟨b, off, e, _, hc⟩ := h4 j hjl
    obtain rfl := Option.some.inj e
    rw [byteCells_at m j hjl] at hj
    rw [add_at, hc]
    exact hj
theorem nscB {n : Nat} (h : 1 ≤ n) : Builtin.nextslicecap (0 + n) 0 = 0 + n := by
  unfold Builtin.nextslicecap
  rw [if_pos (by omega)]
theorem append_zerosB (n : Nat) (W : World) (h1 : 1 ≤ n) (h2 : n ≤ 140737488355328) :
    ∃ cap W', (Builtin.append_ #[39, 3] 39 #[.slice none 0 0, .int .i64 n]).run Try.prog W = .ok (.slice (some ⟨W.heap.size, 0, none⟩) n cap) W' ∧
      OwnU W' W.heap.size (.slice (some ⟨W.heap.size, 0, none⟩) 0 cap) [] ∧ Below W.heap.size W W' ∧ n ≤ cap := by
  obtain ⟨i0, hi, hz0, hz1, hz2⟩ := info_parts infoByte
  have h := Lib.run_append_grow_zeros (P := Try.prog) W 39 3 39 5 i0 (.int .u8 0) .i64 .i64 Try.underlying39 Try.underlying3 hi hz0 none 0 0 [] (by rfl) n (by omega) (by rw [hz1]; decide) (by omega) (by omega) (by rw [hz2]; omega) (by rw [hz2, nscB h1]; omega)
  rw [Nat.zero_add] at h
  refine ⟨_, _, h, ⟨rfl, .inr ⟨_, _, _, rfl, Nat.le_refl _, heap_alloc_last _ _, Nat.zero_le _, ?_, ?_, by simp [Lib.byteCells]⟩⟩, ?_, grownCap_ge _ _ _ _⟩
  · exact grownCap_le_maxLen _ _ _ _ (by unfold maxLen; omega)
  · rw [Array.size_append, Array.size_append, size_zeroCells, size_zeroCells]
    have := grownCap_ge W n 0 5
    have hz : (Value.int .u8 0).cells.size = 1 := rfl
    rw [hz]
    simp
    omega
  · exact ((Below.refl _ W).drew).alloc (Nat.le_refl _) _
theorem slice_noneB (W : World) : (Instr.sliceAt 39 (.slice none 0 0) none (some (.int .i64 0)) none).run Try.prog W = .ok (.slice none 0 0) W := by
  rw [run_sliceAt_slice W _ _ _ _ _ underB, run_slice_h W _ _ _ _ underB .i64 _ (by omega) (by omega), elemB, Try.sizeOf5]
  rfl
/-- One operation 'append', by its run. -/
theorem wpList_appended {P : Program} {ops : Array Oper} {rest : List Oper} {o : Oper} {a : Act} {w w' : World} {Q : Exit → Act → World → Prop}
    (hgd : o.guard = none) (s x : Operand) (t u : TypeId) (hop : o.op = Op.call { callee := Callee.builtin Builtin.append, args := #[s, x], argTypes := #[t, u] })
    (v y v' : Value) (hs : a.eval s = v) (hx : a.eval x = y) (hr : (Builtin.append_ #[t, u] o.type #[v, y]).run P w = .ok v' w') (h : wpList P ops Q rest (a.put o.dst v') w') : wpList P ops Q (o :: rest) a w := by
  refine wpList_plain hgd fun K hK => ?_
  unfold Oper.wp execOp
  simp only [hop, resolve, invoke, builtin, Sem.run_bind, Sem.run_pure, Result.andThen_ok, List.map_toArray, List.map_cons, List.map_nil, hs, hx, hr]
  exact hK _ _ h
/-- An empty literal. -/
theorem own_empty (w : World) : OwnU (w.alloc (.cells #[] 5)) w.heap.size (.slice (some ⟨w.heap.size, 0, none⟩) 0 0) [] :=
  World.ownsRow_made w #[] 0 (Nat.le_refl _) (Nat.zero_le _) rfl
theorem own_low {w : World} {B C : Nat} {v : Value} {l : List UInt8} (h : OwnU w B v l) (hC : C ≤ B) : OwnU w C v l :=
  ⟨h.1, h.2.imp id fun ⟨g, cap, cur, e, hg, r⟩ => ⟨g, cap, cur, e, Nat.le_trans hC hg, r⟩⟩
theorem OwnU.alloc {w : World} {B : Nat} {v : Value} {l : List UInt8} (h : OwnU w B v l) (o : Obj) : OwnU (w.alloc o) B v l :=
  World.ownsRow.alloc h o
theorem brow_lit {w : World} {b k : Nat} {cs : Array Value} {fr : Nat × Nat} {l : List UInt8} (h : w.heap[b]? = some (.cells cs 5 fr)) (hk : k = l.length) (hm : l.length ≤ maxLen) (hc : cs.toList = Lib.byteCells l) : BRow w (.slice (some ⟨b, 0, none⟩) k k) l := by
  subst hk
  refine ⟨some ⟨b, 0, none⟩, l.length, rfl, Nat.le_refl _, hm, (fun e => by cases e), fun i hi => ⟨b, 0, rfl, (Array.getElem?_eq_some_iff.1 h).1, ?_⟩⟩
  rw [cell_of_row w b (0 + i) _ _ _ h, ← byteCells_at l i hi, Nat.zero_add, ← hc]
  simp
theorem below_drewN {B : Nat} {a w : World} (h : Below B a w) (n : Nat) : Below B a (w.drewN n) := ⟨h.os, h.tape, h.output, h.size, h.block⟩
theorem byteCells_inj {l m : List UInt8} (h : Lib.byteCells l = Lib.byteCells m) : l = m := by
  induction l generalizing m with
  | nil => cases m with
    | nil => rfl
    | cons y r => simp [Lib.byteCells] at h
  | cons x r ih => cases m with
    | nil => simp [Lib.byteCells] at h
    | cons y s =>
      simp only [Lib.byteCells, List.map_cons, List.cons.injEq, Value.int.injEq, true_and] at h
      rw [ih h.2, UInt8.toNat_inj.1 (show x.toNat = y.toNat by omega)]
theorem tx_list (l : List UInt8) : (txB l).toList = l := by rw [ByteArray.toList_eq]; rfl
theorem tx_beq (l m : List UInt8) : ((txB l).toList == (txB m).toList) = decide (l = m) := by
  rw [tx_list, tx_list]
  by_cases h : l = m
  · simp [h]
  · simp [h]
theorem OwnU.grown {w w' : World} {B : Nat} {v : Value} {l : List UInt8} {row : Option Nat} (h : OwnU w B v l) (hg : w.grownBy w' row) (hne : ∀ g, v.ownBlock = some g → row ≠ some g) : OwnU w' B v l :=
  ⟨h.1, h.2.imp id fun ⟨g, cap, cur, e, hB, hh, r⟩ => ⟨g, cap, cur, e, hB, by
    rw [hg.block g (Array.getElem?_eq_some_iff.1 hh).1 (fun e' => hne g (by rw [e]; rfl) e'.symm)]; exact hh, r⟩⟩
theorem OwnU.below {w w' : World} {B : Nat} {v : Value} {l : List UInt8} (h : OwnU w B v l) (hb : Below w.heap.size w w') : OwnU w' B v l :=
  ⟨h.1, h.2.imp id fun ⟨g, cap, cur, e, hB, hh, r⟩ => ⟨g, cap, cur, e, hB, by
    rw [hb.block g (Array.getElem?_eq_some_iff.1 hh).1]; exact hh, r⟩⟩
theorem own_cap {w : World} {B n cap : Nat} {a : Option Addr} {l : List UInt8} (h : OwnU w B (.slice a n cap) l) : l.length ≤ cap ∧ cap ≤ 9223372036854775807 := by
  obtain ⟨a', cap', e, h1, h2, _⟩ := h.row
  simp only [Value.slice.injEq] at e
  obtain ⟨_, _, rfl⟩ := e
  exact ⟨h1, by simpa [maxLen] using h2⟩
theorem own_open {w : World} {B : Nat} {v : Value} {l : List UInt8} (h : OwnU w B v l) (hn : l ≠ []) : ∃ g cap, v = .slice (some ⟨g, 0, none⟩) l.length cap := by
  rcases h.2 with ⟨_, h0⟩ | ⟨g, cap, cur, rfl, _⟩
  · exact absurd (List.length_eq_zero_iff.1 h0) hn
  · exact ⟨g, cap, rfl⟩
theorem own_put {w : World} {B g n cap : Nat} {xs : List UInt8} (h : OwnU w B (.slice (some ⟨g, 0, none⟩) n cap) xs) (hn : xs.length = n) (k : Nat) (x : UInt8) :
    OwnU (w.setCell ⟨g, k, none⟩ (.int .u8 (x.toNat : Int))) B (.slice (some ⟨g, 0, none⟩) n cap) (xs.set k x) := by
  subst hn
  have h2 := (World.ownsRow.stored h k (.int .u8 (x.toNat : Int))).1
  unfold OwnU
  rw [List.length_set]
  have e : Lib.byteCells (xs.set k x) = (Lib.byteCells xs).set k (.int .u8 (x.toNat : Int)) := by simp [Lib.byteCells, List.map_set]
  rw [e]
  exact h2
theorem own_at {w : World} {B g n cap : Nat} {xs : List UInt8} (h : OwnU w B (.slice (some ⟨g, 0, none⟩) n cap) xs) (hn : xs.length = n) (k : Nat) (hk : k < xs.length) : w.cell? ⟨g, k, none⟩ = some (.int .u8 (xs[k].toNat : Int)) ∧ w.frozen? ⟨g, k, none⟩ = false := by
  subst hn
  exact ⟨by rw [World.ownsRow.cellAt h k (by omega)]; exact byteCells_at xs k hk, World.ownsRow.frozenAt h k⟩
theorem flip_eq (x : UInt8) : bits .xor .u8 (x.toNat : Int) 255 = ((UInt8.ofNat (x.toNat ^^^ 255)).toNat : Int) := by
  have hx := u8_lt x
  have h := u8_xor_nat x.toNat 255 hx (by omega)
  have hl : x.toNat ^^^ 255 < 256 := Nat.xor_lt_two_pow (n := 8) (by omega) (by omega)
  rw [show (255 : Int) = ((255 : Nat) : Int) from rfl, h, UInt8.toNat_ofNat', Nat.mod_eq_of_lt hl]
theorem grown_refl (w : World) (row : Option Nat) : w.grownBy w row := ⟨rfl, rfl, rfl, Nat.le_refl _, fun _ _ _ => rfl⟩
theorem only_setCell {a w : World} {g : Nat} (h : a.grownBy w (some g)) {p : Addr} (hp : p.block = g) (u : Value) : a.grownBy (w.setCell p u) (some g) :=
  ⟨h.os, h.tape, h.output, by simpa [World.setCell] using h.size, fun i hi hne => (Below.heap_setCell w p u i (by rintro rfl; exact hne (by rw [hp]))).trans (h.block i hi hne)⟩
theorem BRow.drew {w : World} {v : Value} {l : List UInt8} (h : BRow w v l) : BRow w.drew v l := h.below ((Below.refl _ _).drew)
theorem brow_new {w : World} {cs : Array Value} {k : Nat} {l : List UInt8} (hk : k = l.length) (hm : l.length ≤ maxLen) (hc : cs.toList = Lib.byteCells l) : BRow (w.alloc (.cells cs 5)) (.slice (some ⟨w.heap.size, 0, none⟩) k k) l := brow_lit (heap_alloc_last w _) hk hm hc
theorem brow_new2 {w : World} {o : Obj} {cs : Array Value} {k : Nat} {l : List UInt8} (hk : k = l.length) (hm : l.length ≤ maxLen) (hc : cs.toList = Lib.byteCells l) : BRow ((w.alloc o).alloc (.cells cs 5)) (.slice (some ⟨w.heap.size + 1, 0, none⟩) k k) l := by
  have h := brow_new (w := w.alloc o) hk hm hc
  rw [show (w.alloc o).heap.size = w.heap.size + 1 by simp] at h
  exact h
theorem OwnU.shapeW {w : World} {B : Nat} {v : Value} {l : List UInt8} (h : OwnU w B v l) : ∃ a n cap, v = .slice a n cap := by
  obtain ⟨a, cap, e⟩ := h.shape
  exact ⟨a, _, cap, e⟩
theorem nil_own (w : World) (B : Nat) : OwnU w B (.slice none 0 0) [] := ⟨rfl, .inl ⟨rfl, rfl⟩⟩

theorem run_append_bytes {w : World} (ty : TypeId) (base : Nat) (v v' : Value) (l m : List UInt8) (hown : OwnU w base v l) (hrow : BRow w v' m) (hbytes : l.length + m.length ≤ 140737488355328) (hbase : base ≤ w.heap.size) :
    ∃ u w', (Builtin.append_ #[39, 39] ty #[v, v']).run Try.prog w = .ok u w' ∧ OwnU w' base u (l ++ m) ∧ w.grownBy w' v.ownBlock := by
  have h63' : l.length + m.length ≤ maxLen := by unfold maxLen; omega
  obtain ⟨i0, hi, hz0, hz1, hz2⟩ := info_parts infoByte
  obtain ⟨ad, cap, rfl, h1, h2, h3, h4⟩ := hrow
  cases ad with
  | none =>
    obtain rfl := h3 rfl
    have hm : m = [] := List.length_eq_zero_iff.1 (by omega)
    subst hm
    refine ⟨v, w, run_append_owned_none _ base _ ty 5 i0 1 Try.underlying39 hi v l.length _ hown, ?_, ⟨rfl, rfl, rfl, Nat.le_refl _, fun _ _ _ => rfl⟩⟩
    rw [List.append_nil]; exact hown
  | some ad =>
    obtain ⟨u, w', a1, a2, a3, _⟩ := run_append_own (P := Try.prog) w base 39 ty 5 i0 (.int .u8 0) 1 1 Try.underlying39 hi hz0 hz1 hz2 rfl (by decide) v l.length _ hown ad m.length cap (Lib.byteCells m) (by simp [Lib.byteCells]) (fun j u hj => by
      have hjl : j < m.length := by have := (List.getElem?_eq_some_iff.1 hj).1; simpa [Lib.byteCells] using this
      obtain ⟨b, off, e, _, hc⟩ := h4 j hjl
      obtain rfl := Option.some.inj e
      rw [byteCells_at m j hjl] at hj
      rw [add_at, hc]
      exact hj) (byteCells_one m) h63' (by omega) hbase
    exact ⟨u, w', a1, by unfold OwnU; rw [List.length_append, byteCells_append]; exact a2, a3⟩

theorem brow_blk {w : World} {b k : Nat} {cs : Array Value} {T : TypeId} {fr : Nat × Nat} {l : List UInt8} (h : w.heap[b]? = some (.cells cs T fr)) (hk : k = l.length) (hm : l.length ≤ maxLen) (hc : cs.toList = Lib.byteCells l) : BRow w (.slice (some ⟨b, 0, none⟩) k k) l := by
  subst hk
  refine ⟨some ⟨b, 0, none⟩, l.length, rfl, Nat.le_refl _, hm, (fun e => by cases e), fun i hi => ⟨b, 0, rfl, (Array.getElem?_eq_some_iff.1 h).1, ?_⟩⟩
  rw [cell_of_row w b (0 + i) _ _ _ h, ← byteCells_at l i hi, Nat.zero_add, ← hc]
  simp
end Go.Proofs.Ytpinmkoaihjhfaa
