/- What rounds over slices.Chunk keep; the run of an append of bytes. -/
import Derived.Test.YtigdmgpejmfceaaYc
namespace Go.Proofs.Ytigdmgpejmfceaa
open Go.RowKit Go.Shelf Su

theorem run_append_bytes {w : World} (ty : TypeId) (base : Nat) (v v' : Value) (l m : List UInt8) (hown : OwnU w base v l) (hrow : BRow w v' m) (hbytes : l.length + m.length ≤ 140737488355328) (hbase : base ≤ w.heap.size) :
    ∃ u w', (Builtin.append_ #[22, 22] ty #[v, v']).run Try.prog w = .ok u w' ∧ OwnU w' base u (l ++ m) ∧ w.grownBy w' v.ownBlock := by
  have h63' : l.length + m.length ≤ maxLen := by unfold maxLen; omega
  obtain ⟨i0, hi, hz0, hz1, hz2⟩ := info_parts infoByte
  obtain ⟨ad, cap, rfl, h1, h2, h3, h4⟩ := hrow
  cases ad with
  | none =>
    obtain rfl := h3 rfl
    have hm : m = [] := List.length_eq_zero_iff.1 (by omega)
    subst hm
    refine ⟨v, w, run_append_owned_none _ base _ ty 5 i0 1 Try.underlying22 hi v l.length _ hown, ?_, ⟨rfl, rfl, rfl, Nat.le_refl _, fun _ _ _ => rfl⟩⟩
    rw [List.append_nil]; exact hown
  | some ad =>
    obtain ⟨u, w', a1, a2, a3, _⟩ := run_append_own (P := Try.prog) w base 22 ty 5 i0 (.int .u8 0) 1 1 Try.underlying22 hi hz0 hz1 hz2 rfl (by decide) v l.length _ hown ad m.length cap (Lib.byteCells m) (by simp [Lib.byteCells]) (fun j u hj => by
      have hjl : j < m.length := by have := (List.getElem?_eq_some_iff.1 hj).1; simpa [Lib.byteCells] using this
      obtain ⟨b, off, e, _, hc⟩ := h4 j hjl
      obtain rfl := Option.some.inj e
      rw [byteCells_at m j hjl] at hj
      rw [add_at, hc]
      exact hj) (byteCells_one m) h63' (by omega) hbase
    exact ⟨u, w', a1, by unfold OwnU; rw [List.length_append, byteCells_append]; exact a2, a3⟩

theorem brow_blk {w : World} {b k : Nat} {cs : Array Value} {T : TypeId} {fr : Nat × Nat} {l : List UInt8} (h : w.heap[b]? = some (.cells cs T fr)) (hk : k = l.length) (hm : l.length ≤ maxLen) (hc : cs.toList = Lib.byteCells l) : BRow w (.slice (some ⟨b, 0, none⟩) k k) l := by
  subst hk
  refine ⟨some ⟨b, 0, none⟩, l.length, rfl, Nat.le_refl _, hm, (fun e => by cases e), fun i hi => ⟨b, 0, rfl, (Array.getElem?_eq_some_iff.1 h).1, ?_⟩⟩
  rw [cell_of_row w b (0 + i) _ _ _ h, ← byteCells_at l i hi, Nat.zero_add, ← hc]
  simp
/-- An append as an operation of a region that draws, in a round. -/
theorem in_append {F : Fence} {n : Nat} {P : Program} {ops : Array Oper} {o : Oper} {a : Act} {w : World} {K : Act → World → Prop} {Q : Exit → Act → World → Prop} {E : Prop}
    (hg : o.guard = none) (s x : Operand) (t u : TypeId) (hop : o.op = Op.call { callee := Callee.builtin Builtin.append, args := #[s, x], argTypes := #[t, u] })
    (v y v' : Value) (w' : World) (hs : a.eval s = v) (hx : a.eval x = y) (hr : (Builtin.append_ #[t, u] o.type #[v, y]).run P w = .ok v' w') (h : K (a.put o.dst v') w') :
    if Region.wanted o (yielded ops a.tmps) = true then Oper.wpIn F n P o a w K Q else E := by
  have hw : Region.wanted o (yielded ops a.tmps) = true := by simp [Region.wanted, hg]
  rw [if_pos hw]
  unfold Oper.wpIn
  refine ⟨?_, ?_⟩
  · simp [Oper.about, hop, resolve, Target.leads, Sem.run_pure]
  · rw [Oper.semAt_plain F _ _ (by rw [hop]; intro c hc'; cases hc')]
    simp [execOp, hop, resolve, invoke, builtin, hs, hx, hr, Result.andThen]
    exact h
/-- An append as the next operation, in a round. -/
theorem wpListIn_appended {F : Fence} {n : Nat} {P : Program} {w w' : World} {ops : Array Oper} {rest : List Oper} {o : Oper} {a : Act} {Q : Exit → Act → World → Prop}
    (hg : o.guard = none) (s x : Operand) (t u : TypeId) (hop : o.op = Op.call { callee := Callee.builtin Builtin.append, args := #[s, x], argTypes := #[t, u] })
    (v y v' : Value) (hs : a.eval s = v) (hx : a.eval x = y) (hr : (Builtin.append_ #[t, u] o.type #[v, y]).run P w = .ok v' w') (h : wpListIn F n P ops Q rest (a.put o.dst v') w') : wpListIn F n P ops Q (o :: rest) a w := by
  refine wpListIn_plain hg fun K hK' => ?_
  unfold Oper.wpIn
  refine ⟨?_, ?_⟩
  · simp [Oper.about, hop, resolve, Target.leads, Sem.run_pure]
  · rw [Oper.semAt_plain F _ _ (by rw [hop]; intro c hc'; cases hc')]
    simp [execOp, hop, resolve, invoke, builtin, hs, hx, hr, Result.andThen]
    exact hK' _ _ h
/-- What the iterator's boxes hold stays. -/
def Kb (bs bn : Nat) (A A' : World) : Prop := ∀ i o, (i = bs ∨ i = bn) → A.heap[i]? = some o → o.isCells = true → A'.heap[i]? = some o
theorem Kb.refl (bs bn : Nat) (A : World) : Kb bs bn A A := fun _ _ _ h _ => h
theorem Kb.trans {bs bn : Nat} {A C D : World} (h : Kb bs bn A C) (k : Kb bs bn C D) : Kb bs bn A D := fun i o hi ho hc => k i o hi (h i o hi ho hc) hc
theorem Kb.put {bs bn : Nat} (W : World) (l : Nat) (o o' : Obj) (hl : W.heap[l]? = some o) (ho : o.isCells = false) : Kb bs bn W (W.putObj l o') := fun i x _ hx hc =>
  putObj_other hl hx (fun e => by subst e; rw [hl] at hx; cases hx; rw [ho] at hc; cases hc)
theorem Kb.box {bs bn : Nat} {A A' : World} (h : Kb bs bn A A') {t : TypeId} {v : Value} : (Boxed A bs t v → Boxed A' bs t v) ∧ (Boxed A bn t v → Boxed A' bn t v) :=
  ⟨fun hb => h bs _ (.inl rfl) hb rfl, fun hb => h bn _ (.inr rfl) hb rfl⟩
theorem Kb.below {bs bn : Nat} {A A' : World} (h : Below A.heap.size A A') : Kb bs bn A A' := fun _ _ _ ho _ => (h.block _ (Array.getElem?_eq_some_iff.1 ho).1).trans ho
theorem Kb.grown {bs bn : Nat} {A A' : World} {row : Option Nat} (h : A.grownBy A' row) (hn : ∀ g, row = some g → g ≠ bs ∧ g ≠ bn) : Kb bs bn A A' := fun i o hi ho _ => by
  have hne : some i ≠ row := fun e => by
    rcases hi with rfl | rfl
    · exact (hn _ e.symm).1 rfl
    · exact (hn _ e.symm).2 rfl
  rw [h.block i (Array.getElem?_eq_some_iff.1 ho).1 hne]
  exact ho
theorem Kb.set {bs bn : Nat} (A : World) (p : Addr) (u : Value) (h1 : p.block ≠ bs) (h2 : p.block ≠ bn) : Kb bs bn A (A.setCell p u) := fun i o hi ho _ => by
  have hne : i ≠ p.block := by
    rcases hi with rfl | rfl
    · exact fun e => h1 e.symm
    · exact fun e => h2 e.symm
  rw [Below.heap_setCell A p u i hne]
  exact ho
/-- A row's growth, a cell's store in a round. -/
theorem rnd_grown {B N : Nat} {w w' : World} {row : Option Nat} (tB : List TypeId) (hg : w.grownBy w' row) (hB : B ≤ w.heap.size) (hr : ∀ g, row = some g → B ≤ g ∧ ∃ cs e fr, w.heap[g]? = some (.cells cs e fr) ∧ e ∈ tB) : Rnd B N tB w w' :=
  ⟨(Below.refl B w).grown hg hB fun k e => (hr k e).1, fun i cs e fr hi he => by
    rw [hg.block i (Array.getElem?_eq_some_iff.1 hi).1 (fun e' => by
      obtain ⟨_, cs', e2, fr', h1, h2⟩ := hr i e'.symm
      rw [hi] at h1
      cases h1
      exact he h2)]
    exact hi, fun i o _ hi ho => by
    rw [hg.block i (Array.getElem?_eq_some_iff.1 hi).1 (fun e' => by
      obtain ⟨_, cs', e2, fr', h1, h2⟩ := hr i e'.symm
      rw [hi] at h1
      cases h1
      cases ho)]
    exact hi⟩
theorem rnd_set {B N : Nat} {w : World} (tB : List TypeId) (p : Addr) (u : Value) {cs : Array Value} {e : TypeId} {fr : Nat × Nat} (hB : B ≤ p.block) (hp : w.heap[p.block]? = some (.cells cs e fr)) (he : e ∈ tB) : Rnd B N tB w (w.setCell p u) :=
  ⟨(Below.refl B w).setCell hB u, fun i cs' e' fr' hi hne => by
    rw [Below.heap_setCell w p u i (fun e2 => by subst e2; rw [hp] at hi; cases hi; exact hne he)]
    exact hi, fun i o _ hi ho => by
    rw [Below.heap_setCell w p u i (fun e2 => by subst e2; rw [hp] at hi; cases hi; cases ho)]
    exact hi⟩
theorem own_cells {w w' : World} {C k n : Nat} {e : TypeId} {v : Value} {xs : List Value} (h : w.ownsRow C e k v n xs) (hk : ∀ (i : Nat) (cs : Array Value) (fr : Nat × Nat), w.heap[i]? = some (.cells cs e fr) → w'.heap[i]? = some (.cells cs e fr)) : w'.ownsRow C e k v n xs :=
  ⟨h.1, h.2.imp id fun ⟨g, cap, cur, a, b, c, d⟩ => ⟨g, cap, cur, a, b, hk g cur (0, 0) c, d⟩⟩
theorem OwnU.block {w : World} {B : Nat} {v : Value} {l : List UInt8} (h : OwnU w B v l) : ∀ g, v.ownBlock = some g → B ≤ g ∧ ∃ cs e fr, w.heap[g]? = some (.cells cs e fr) ∧ e = 5 := fun g hg => by
  rcases h.2 with ⟨rfl, _⟩ | ⟨g', cap, cur, rfl, hB, hc, _⟩
  · simp [Value.ownBlock] at hg
  · simp only [Value.ownBlock, Option.some.injEq] at hg
    subst hg
    exact ⟨hB, cur, _, _, hc, rfl⟩
/-- An own row's block is no box. -/
theorem OwnU.noBox {w : World} {B b : Nat} {v u : Value} {l : List UInt8} {t : TypeId} (h : OwnU w B v l) (hb : Boxed w b t u) (ht : t ≠ 5) : ∀ g, v.ownBlock = some g → g ≠ b := fun g hg e => by
  obtain ⟨_, cs, e2, fr, h1, h2⟩ := h.block g hg
  subst e
  unfold Boxed at hb
  rw [hb] at h1
  cases h1
  exact ht h2
/-- A row of one's own in a box of one's own. -/
structure RowSt (B : Nat) (w0 : World) (ob : Nat) (l : List UInt8) (W : World) : Prop where
  below : Below B w0 W
  row : ∃ v, Boxed W ob 22 v ∧ OwnU W B v l
theorem RowSt.step {B N ob : Nat} {w0 A A' : World} {l : List UInt8} (h : RowSt B w0 ob l A) (hs : Step B N [] [] A A') : RowSt B w0 ob l A' := by
  obtain ⟨v, h1, h2⟩ := h.row
  exact ⟨h.below.trans hs.below, v, hs.cells _ _ _ _ h1 (.inl (by simp)), own_cells h2 (fun i cs fr hi => hs.cells _ _ _ _ hi (.inl (by simp)))⟩
theorem RowSt.belowS {B ob : Nat} {w0 A A' : World} {l : List UInt8} (h : RowSt B w0 ob l A) (hB : B ≤ A.heap.size) (hb : Below A.heap.size A A') : RowSt B w0 ob l A' := h.step (N := 0) (step_below [] hb hB)
abbrev TB : List TypeId := [5, 22, 31]
/-- .. and the iterator's boxes behind it. -/
structure CkSt (B : Nat) (w0 : World) (ob bs bn : Nat) (sv nv : Value) (l : List UInt8) (W : World) : Prop where
  st : RowSt B w0 ob l W
  hs : Boxed W bs 22 sv
  hn : Boxed W bn 3 nv
theorem CkSt.step {B N ob bs bn : Nat} {w0 A A' : World} {sv nv : Value} {l : List UInt8} (h : CkSt B w0 ob bs bn sv nv l A) (hs : Step B N [] [] A A') : CkSt B w0 ob bs bn sv nv l A' :=
  ⟨h.st.step hs, hs.cells _ _ _ _ h.hs (.inl (by simp)), hs.cells _ _ _ _ h.hn (.inl (by simp))⟩
theorem CkSt.belowS {B ob bs bn : Nat} {w0 A A' : World} {sv nv : Value} {l : List UInt8} (h : CkSt B w0 ob bs bn sv nv l A) (hB : B ≤ A.heap.size) (hb : Below A.heap.size A A') : CkSt B w0 ob bs bn sv nv l A' := h.step (N := 0) (step_below [] hb hB)
theorem CkSt.out {B ob bs bn : Nat} {w0 W : World} {sv nv : Value} {l : List UInt8} (h : CkSt B w0 ob bs bn sv nv l W) : ∃ v, Boxed W ob 22 v ∧ OwnU W B v l := h.st.row
/-- A round that has put bytes behind the row. -/
theorem ck_end {B N ob bs bn : Nat} {w0 A C D : World} {sv nv ov u : Value} {l l' : List UInt8} (h : CkSt B w0 ob bs bn sv nv l A) (hB : B ≤ A.heap.size) (hob : B ≤ ob) (e1 : ob ≠ bs) (e2 : ob ≠ bn) (hb : Below A.heap.size A C) (h1 : Boxed C ob 22 ov) (h2 : OwnU C B ov l) (hg : C.grownBy D ov.ownBlock) (h3 : OwnU D B u l') :
    Rnd B N TB A (D.setCell ⟨ob, 0, none⟩ u) ∧ Kb bs bn A (D.setCell ⟨ob, 0, none⟩ u) ∧ CkSt B w0 ob bs bn sv nv l' (D.setCell ⟨ob, 0, none⟩ u) := by
  have b1 : Boxed C bs 22 sv := (hb.block _ h.hs.lt).trans h.hs
  have b2 : Boxed C bn 3 nv := (hb.block _ h.hn.lt).trans h.hn
  have n0 := h2.noBox h1 (by decide)
  have n1 := h2.noBox b1 (by decide)
  have n2 := h2.noBox b2 (by decide)
  have hBC : B ≤ C.heap.size := Nat.le_trans hB hb.size
  have d0 : Boxed D ob 22 ov := (hg.block _ h1.lt (fun e => n0 _ e.symm rfl)).trans h1
  have d1 : Boxed D bs 22 sv := (hg.block _ b1.lt (fun e => n1 _ e.symm rfl)).trans b1
  have d2 : Boxed D bn 3 nv := (hg.block _ b2.lt (fun e => n2 _ e.symm rfl)).trans b2
  have r1 : Rnd B N TB A C := rnd_below TB hb hB
  have r2 : Rnd B N TB C D := rnd_grown TB hg hBC (fun g hg => by
    obtain ⟨x1, cs, e, fr, x2, x3⟩ := h2.block g hg
    exact ⟨x1, cs, e, fr, x2, by rw [x3]; simp⟩)
  have r3 : Rnd B N TB D (D.setCell ⟨ob, 0, none⟩ u) := rnd_set (cs := #[ov]) (fr := (0, 0)) TB ⟨ob, 0, none⟩ u hob d0 (by simp)
  have e0 : Boxed (D.setCell ⟨ob, 0, none⟩ u) ob 22 u := by
    unfold Boxed at d0 ⊢
    simp [World.setCell, Array.getElem?_modify, d0]
  refine ⟨r1.trans (r2.trans r3), (Kb.below hb).trans ((Kb.grown hg (fun g hg => ⟨n1 g hg, n2 g hg⟩)).trans (Kb.set D _ _ e1 e2)), ⟨⟨h.st.below.trans (r1.below.trans (r2.below.trans r3.below)), u, e0, ?_⟩, ?_, ?_⟩⟩
  · exact own_cells h3 (fun i cs fr hi => by
      rw [Below.heap_setCell D ⟨ob, 0, none⟩ u i (fun e => by
        have e : i = ob := e
        subst e
        rw [show D.heap[i]? = _ from d0] at hi
        cases hi)]
      exact hi)
  · show (D.setCell ⟨ob, 0, none⟩ u).heap[bs]? = _
    rw [Below.heap_setCell D ⟨ob, 0, none⟩ u bs (fun e => e1 e.symm)]
    exact d1
  · show (D.setCell ⟨ob, 0, none⟩ u).heap[bn]? = _
    rw [Below.heap_setCell D ⟨ob, 0, none⟩ u bn (fun e => e2 e.symm)]
    exact d2
theorem chunks_at (a : Option Addr) (L n k : Nat) (h : k < ((List.range (cnt L n)).map (chV a L n)).length) : ((List.range (cnt L n)).map (chV a L n))[k] = chV a L n k := by simp
theorem chunks_len (a : Option Addr) (L n : Nat) : ((List.range (cnt L n)).map (chV a L n)).length = cnt L n := by simp
end Go.Proofs.Ytigdmgpejmfceaa
