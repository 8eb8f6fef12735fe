/- The program's merge, by whatever choice. -/
import Derived.Test.YtpbdbiconcmcfaaAtClos
import Derived.StillTailTactics
import Derived.Laws.OwnMore
namespace Go.Proofs.Ytpbdbiconcmcfaa
open Go.RowKit At

def flat (l : List (ByteArray × ByteArray)) : List Value := l.flatMap fun x => [Value.string x.1, Value.string x.2]
theorem flat_len (l : List (ByteArray × ByteArray)) : (flat l).length = l.length * 2 := by
  induction l with
  | nil => rfl
  | cons x r ih => simp [flat] at ih ⊢; omega
theorem flat_snoc (l : List (ByteArray × ByteArray)) (z : ByteArray × ByteArray) : flat (l ++ [z]) = flat l ++ [.string z.1, .string z.2] := by simp [flat]

theorem undAttrs : Try.prog.underlying 22 = some (.slice (Try.prog.elem 22)) := by kernel_rfl
theorem elemAttrs : Try.prog.elem 22 = 33 := by kernel_rfl
theorem infoAttr : (Try.prog.info? 33).map (fun i => (i.zero, i.size, i.bytes)) = some (some (.agg #[.string ⟨#[]⟩, .string ⟨#[]⟩]), 2, 32) := by kernel_rfl

/-- The parts of a row that is not empty. -/
theorem AtRow.open {w : World} {v : Value} {x : ByteArray × ByteArray} {r : List (ByteArray × ByteArray)} (h : AtRow w v (x :: r)) :
    ∃ b off cap, v = .slice (some ⟨b, off, none⟩) (r.length + 1) cap ∧ r.length + 1 ≤ cap ∧ cap ≤ maxLen ∧ b < w.heap.size ∧ w.cell? ⟨b, off, none⟩ = some (.string x.1) ∧ w.cell? ⟨b, off + 1, none⟩ = some (.string x.2) := by
  obtain ⟨a, cap, rfl, h1, h2, h3⟩ := h
  obtain ⟨b, off, rfl, h4, h5, h6⟩ := h3 0 (by simp)
  exact ⟨b, off, cap, rfl, h1, h2, h4, by simpa using h5, by simpa using h6⟩
theorem AtRow.open0 {w : World} {v : Value} (h : AtRow w v []) : ∃ a cap, v = .slice a 0 cap := by
  obtain ⟨a, cap, rfl, _⟩ := h
  exact ⟨a, cap, rfl⟩
/-- What 'l[1:]' answers. -/
theorem tail_run {w : World} {x : ByteArray × ByteArray} {r : List (ByteArray × ByteArray)} {b off cap : Nat} (h : AtRow w (.slice (some ⟨b, off, none⟩) (r.length + 1) cap) (x :: r)) :
    ∃ v', (∀ W, (Instr.sliceAt 22 (.slice (some ⟨b, off, none⟩) (r.length + 1) cap) (some (.int .i64 1)) none none).run Try.prog W = .ok v' W) ∧ AtRow w v' r := by
  obtain ⟨a, cap', he, h1, h2, h3⟩ := h
  simp only [Value.slice.injEq, true_and] at he
  obtain ⟨rfl, _, rfl⟩ := he
  refine ⟨sliced (some ⟨b, off, none⟩) 1 (r.length + 1) cap 2, fun W => by rw [run_sliceAt_slice W _ _ _ _ _ undAttrs, run_slice_l W _ _ _ _ undAttrs .i64 _ (by omega) (by omega), elemAttrs, Try.sizeOf33]; rfl, ?_⟩
  have hl : (x :: r).length = r.length + 1 := rfl
  rw [hl] at h1
  unfold sliced
  by_cases hc : cap = 1
  · rw [if_pos hc]
    refine ⟨some ⟨b, off, none⟩, cap - 1, by rw [Nat.add_sub_cancel], by omega, by omega, fun i hi => by omega⟩
  · rw [if_neg hc]
    refine ⟨some ⟨b, off + 2, none⟩, cap - 1, by rw [Nat.add_sub_cancel]; rfl, by omega, by omega, fun i hi => ?_⟩
    obtain ⟨b', off', he, h4, h5, h6⟩ := h3 (i + 1) (by simp; exact hi)
    simp only [Option.some.injEq, Addr.mk.injEq, and_true] at he
    obtain ⟨rfl, rfl⟩ := he
    have e1 : off + 2 + i * 2 = off + (i + 1) * 2 := by omega
    exact ⟨b, off + 2, rfl, h4, by rw [e1]; simpa using h5, by rw [e1]; simpa using h6⟩

theorem wpList_tail {P : Program} {ops : Array Oper} {Q : Exit → Act → World → Prop} {a : Act} {w : World} {rest : List Oper} {dst : Option Tmp} {t ty : TypeId} {pos : String} {after : Array Edge} {x : Operand} (v v' : Value)
    (hx : a.eval x = v) (hrun : (Instr.sliceAt t v (some (.int .i64 1)) none none).run P w = .ok v' w) (h : wpList P ops Q rest (a.put dst v') w) :
    wpList P ops Q ({ dst := dst, op := .slice t x (some (.const (.int .i64 1))) none none, type := ty, pos := pos, after := after, guard := none } :: rest) a w :=
  wpList_plain rfl fun K hK => by
    subst hx
    have hk := hK _ _ h
    have e : (execOp a.eval { dst := dst, op := .slice t x (some (.const (.int .i64 1))) none none, type := ty, pos := pos, after := after, guard := none }).run P w = .ok (.value v') w := by
      show (Sem.run P (do let v ← Instr.sliceAt t (a.eval x) (some (.int .i64 1)) none none; pure (Next.value v)) w) = _
      rw [Sem.run_bind, hrun]
      rfl
    show Oper.upon _ _ _ _ _ _
    rw [e]
    exact hk

theorem row_below {w w' : World} {B n k : Nat} {e : TypeId} {v : Value} {xs : List Value} (h : w.ownsRow B e k v n xs) (hb : Below w.heap.size w w') : w'.ownsRow B e k v n xs :=
  ⟨h.1, h.2.imp id fun ⟨g, cap, cur, a, b, c, d⟩ => ⟨g, cap, cur, a, b, (hb.block g (Array.getElem?_eq_some_iff.1 c).1).trans c, d⟩⟩
theorem cmpB (a b : ByteArray) : Lib.compareBytes a.data.toList b.data.toList = if ltB a b = true then -1 else if ltB b a = true then 1 else 0 := by
  rw [At.cmp_eq]
  unfold ltB
  rw [ByteArray.toList_eq, ByteArray.toList_eq]
theorem order_at (x y : ByteArray × ByteArray) (c : Int) (hc : Lib.compareBytes x.1.data.toList y.1.data.toList = c) (W : World) :
    Calls Try.prog 33 #[.agg #[.string x.1, .string x.2], .agg #[.string y.1, .string y.2]] W fun e w' => e = .returned (.int .i64 c) ∧ Below W.heap.size W w' := by
  subst hc
  exact order_any x y W
theorem of_drew {a w : World} (h : Below a.drew.heap.size a.drew w) : Below a.heap.size a w := ⟨h.os, h.tape, h.output, h.size, h.block⟩
theorem new_at2 (w : World) (u v : Value) (e : TypeId) : ∀ j x, [u, v][j]? = some x → (w.alloc (.cells #[u, v] e)).cell? ((⟨w.heap.size, 0, none⟩ : Addr).add j) = some x := by
  intro j x hj
  match j, hj with
  | 0, hj => simp at hj; subst hj; go_simp
  | 1, hj => simp at hj; subst hj; go_simp
  | j + 2, hj => simp at hj

theorem ptr_of {w W : World} {b off : Nat} {x : ByteArray × ByteArray} (BW : Below w.heap.size w W) (lt : b < w.heap.size) (p : w.cell? ⟨b, off, none⟩ = some (.string x.1) ∧ w.cell? ⟨b, off + 1, none⟩ = some (.string x.2)) : PtrAt W (.pointer (some ⟨b, off, none⟩)) (some x) :=
  ⟨b, off, rfl, Nat.lt_of_lt_of_le lt BW.size, by rw [BW.cell (by exact lt)]; exact p.1, by rw [BW.cell (by exact lt)]; exact p.2⟩
def MergeOut (W : World) (R : List (ByteArray × ByteArray)) (e : Ending) (w' : World) : Prop := ∃ v, e = .returned v ∧ w'.ownsRow W.heap.size 33 2 v R.length (flat R) ∧ Below W.heap.size W w'
/-- What a choice does, whatever two it is given. -/
structure Chooses (F : FuncId) (C : Array Value) (ch : O → O → O) (w0 : World) : Prop where
  enters : ∀ args W, (callFunc F args).run Try.prog W = .ok (.enter F args) W
  does : ∀ (x y : Value) (ox oy : O) (W : World), Below w0.heap.size w0 W → PtrAt W x ox → PtrAt W y oy → Calls Try.prog F (#[x, y] ++ C) W (ChOut W (ch ox oy))

end Go.Proofs.Ytpbdbiconcmcfaa
