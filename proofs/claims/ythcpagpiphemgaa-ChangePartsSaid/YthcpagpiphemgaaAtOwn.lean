/- Rows of attributes that a call owns, and what appends, cuts and stores make of them. -/
import Derived.Test.YthcpagpiphemgaaAtCheck
import Derived.Laws.OwnMore
import Derived.Laws.AppendOwnNone
import Derived.OwnWalk
import Derived.Lib.Hide
namespace Go.Proofs.Ythcpagpiphemgaa
open Go.RowKit At

def flat (l : List (ByteArray × ByteArray)) : List Value := l.flatMap fun x => [Value.string x.1, Value.string x.2]
theorem flat_len (l : List (ByteArray × ByteArray)) : (flat l).length = l.length * 2 := by
  induction l with
  | nil => rfl
  | cons x r ih => simp [flat] at ih ⊢; omega
theorem flat_snoc (l : List (ByteArray × ByteArray)) (z : ByteArray × ByteArray) : flat (l ++ [z]) = flat l ++ [.string z.1, .string z.2] := by simp [flat]
theorem undAttrs : Try.prog.underlying 38 = some (.slice (Try.prog.elem 38)) := by kernel_rfl
theorem elemAttrs : Try.prog.elem 38 = 71 := by kernel_rfl
theorem infoAttr : (Try.prog.info? 71).map (fun i => (i.zero, i.size, i.bytes)) = some (some (.agg #[.string ⟨#[]⟩, .string ⟨#[]⟩]), 2, 32) := by kernel_rfl
theorem row_below {w w' : World} {B n k : Nat} {e : TypeId} {v : Value} {xs : List Value} (h : w.ownsRow B e k v n xs) (hb : Below w.heap.size w w') : w'.ownsRow B e k v n xs :=
  ⟨h.1, h.2.imp id fun ⟨g, cap, cur, a, b, c, d⟩ => ⟨g, cap, cur, a, b, (hb.block g (Array.getElem?_eq_some_iff.1 c).1).trans c, d⟩⟩
theorem of_drew {a w : World} (h : Below a.drew.heap.size a.drew w) : Below a.heap.size a w := ⟨h.os, h.tape, h.output, h.size, h.block⟩
theorem new_at2 (w : World) (u v : Value) (e : TypeId) : ∀ j x, [u, v][j]? = some x → (w.alloc (.cells #[u, v] e)).cell? ((⟨w.heap.size, 0, none⟩ : Addr).add j) = some x := by
  intro j x hj
  match j, hj with
  | 0, hj => simp at hj; subst hj; go_simp
  | 1, hj => simp at hj; subst hj; go_simp
  | j + 2, hj => simp at hj
def MergeOut (W : World) (R : List (ByteArray × ByteArray)) (e : Ending) (w' : World) : Prop := ∃ v, e = .returned v ∧ w'.ownsRow W.heap.size 71 2 v R.length (flat R) ∧ Below W.heap.size W w'
theorem ownsRow_open {w : World} {base k : Nat} {e : TypeId} {v : Value} {n : Nat} {xs : List Value} (h : w.ownsRow base e k v n xs) (hn : 0 < n) : ∃ g cap, v = .slice (some ⟨g, 0, none⟩) n cap := by
  rcases h.2 with ⟨_, h⟩ | ⟨g, cap, _, hv, _⟩
  · omega
  · exact ⟨g, cap, hv⟩
theorem flat_at0 {l : List (ByteArray × ByteArray)} {i : Nat} (h : i < l.length) : (flat l)[i * 2]? = some (.string l[i].1) := by
  induction l generalizing i with
  | nil => simp at h
  | cons x r ih =>
    cases i with
    | zero => rfl
    | succ i =>
      have e : (i + 1) * 2 = i * 2 + 1 + 1 := by omega
      rw [e]
      exact ih (by simpa using h)
theorem flat_at1 {l : List (ByteArray × ByteArray)} {i : Nat} (h : i < l.length) : (flat l)[i * 2 + 1]? = some (.string l[i].2) := by
  induction l generalizing i with
  | nil => simp at h
  | cons x r ih =>
    cases i with
    | zero => rfl
    | succ i =>
      have e : (i + 1) * 2 + 1 = i * 2 + 1 + 1 + 1 := by omega
      rw [e]
      exact ih (by simpa using h)
theorem set_same {α : Type} (l : List α) (i : Nat) (x : α) (h : l[i]? = some x) : l.set i x = l := by
  induction l generalizing i with
  | nil => rfl
  | cons a r ih =>
    cases i with
    | zero => simp at h; subst h; rfl
    | succ i => rw [List.set_cons_succ, ih i (by simpa using h)]
def RowOut (W : World) (R : List (K × V)) (E : Int) (e : Ending) (w' : World) : Prop := ∃ v, e = .returned (.tuple #[v, .int .i64 E]) ∧ w'.ownsRow W.heap.size 71 2 v R.length (flat R) ∧ Below W.heap.size W w'
def Sized (l : List (K × V)) : Prop := ∀ x ∈ l, x.1.size ≤ maxLen ∧ x.2.size ≤ maxLen
theorem rowOut_nil {W w' : World} {E : Int} (hb : Below W.heap.size W w') : RowOut W [] E (.returned (.tuple #[.slice none 0 0, .int .i64 E])) w' := ⟨_, rfl, World.ownsRow_nil _ _ _ _, hb⟩
theorem own_base {w : World} {B C k n : Nat} {e : TypeId} {v : Value} {xs : List Value} (h : w.ownsRow B e k v n xs) (hc : C ≤ B) : w.ownsRow C e k v n xs :=
  ⟨h.1, h.2.imp id fun ⟨g, cap, cur, a, b, c⟩ => ⟨g, cap, cur, a, Nat.le_trans hc b, c⟩⟩
theorem own_slice {w : World} {B k n : Nat} {e : TypeId} {v : Value} {xs : List Value} (h : w.ownsRow B e k v n xs) : ∃ a cap, v = .slice a n cap := by
  rcases h.2 with ⟨rfl, h0⟩ | ⟨g, cap, _, rfl, _⟩
  · exact ⟨none, 0, by rw [h0]⟩
  · exact ⟨_, _, rfl⟩
/-- A row of one's own is a row in memory. -/
theorem row_of_own {w : World} {B : Nat} {v : Value} {R : List (K × V)} (h : w.ownsRow B 71 2 v R.length (flat R)) : AtRow w v R := by
  rcases h.2 with ⟨rfl, h0⟩ | ⟨g, cap, cur, rfl, _, hg, hn, hm, _⟩
  · exact ⟨none, 0, by rw [h0], by omega, by simp [maxLen], fun i hi => by omega⟩
  · refine ⟨_, cap, rfl, hn, hm, fun i hi => ⟨g, 0, rfl, (Array.getElem?_eq_some_iff.1 hg).1, ?_, ?_⟩⟩
    · rw [Nat.zero_add, h.cellAt _ (by omega), flat_at0 hi]
    · rw [Nat.zero_add, h.cellAt _ (by omega), flat_at1 hi]
/-- A slice that is nil has no room. -/
def Proper (v : Value) : Prop := ∀ n cap, v = .slice none n cap → n = 0 ∧ cap = 0
theorem proper_own {w : World} {B k n : Nat} {e : TypeId} {v : Value} {xs : List Value} (h : w.ownsRow B e k v n xs) : Proper v := fun n' cap' he => by
  rcases h.2 with ⟨rfl, h0⟩ | ⟨g, cap, _, rfl, _⟩
  · simp only [Value.slice.injEq, true_and] at he
    exact ⟨he.1.symm, he.2.symm⟩
  · simp at he
theorem flat_append (l m : List (ByteArray × ByteArray)) : flat (l ++ m) = flat l ++ flat m := by simp [flat]
theorem wpList_sliced {P : Program} {ops : Array Oper} {Q : Exit → Act → World → Prop} {a : Act} {w : World} {rest : List Oper} {dst : Option Tmp} {t ty : TypeId} {pos : String} {after : Array Edge} {x : Operand} {lo hi mx : Option Operand} (v v' : Value)
    (hx : a.eval x = v) (hrun : (Instr.sliceAt t v (lo.map a.eval) (hi.map a.eval) (mx.map a.eval)).run P w = .ok v' w) (h : wpList P ops Q rest (a.put dst v') w) :
    wpList P ops Q ({ dst := dst, op := .slice t x lo hi mx, type := ty, pos := pos, after := after, guard := none } :: rest) a w :=
  wpList_plain rfl fun K hK => by
    subst hx
    have hk := hK _ _ h
    have e : (execOp a.eval { dst := dst, op := .slice t x lo hi mx, type := ty, pos := pos, after := after, guard := none }).run P w = .ok (.value v') w := by
      show (Sem.run P (do let v ← Instr.sliceAt t (a.eval x) (lo.map a.eval) (hi.map a.eval) (mx.map a.eval); pure (Next.value v)) w) = _
      rw [Sem.run_bind, hrun]
      rfl
    show Oper.upon _ _ _ _ _ _
    rw [e]
    exact hk
theorem cell_spot {w : World} {a : Addr} {u : Value} (h : w.cell? a = some u) : a.spot = none := World.cell?_spot h
theorem flat_one {l : List (ByteArray × ByteArray)} : ∀ u ∈ flat l, u.oneCell' = true := fun u hu => by
  unfold flat at hu
  obtain ⟨x, _, hx⟩ := List.mem_flatMap.1 hu
  simp at hx
  rcases hx with rfl | rfl <;> rfl
theorem flat_news {w : World} {a : Addr} {cap : Nat} {l : List (ByteArray × ByteArray)} (h : AtRow w (.slice (some a) l.length cap) l) : ∀ j u, (flat l)[j]? = some u → w.cell? (a.add j) = some u := by
  intro j u hu
  obtain ⟨a', cap', he, _, _, h3⟩ := h
  simp only [Value.slice.injEq, true_and] at he
  obtain ⟨rfl, _⟩ := he
  have hj : j < l.length * 2 := by
    rw [← flat_len]
    exact (List.getElem?_eq_some_iff.1 hu).1
  obtain ⟨b, off, he, _, h5, h6⟩ := h3 (j / 2) (by omega)
  simp only [Option.some.injEq] at he
  subst he
  rw [Go.WideShapes.add_plain]
  by_cases h2 : j % 2 = 0
  · obtain ⟨i, rfl⟩ : ∃ i, j = i * 2 := ⟨j / 2, by omega⟩
    have hi : i < l.length := by omega
    rw [flat_at0 hi] at hu
    have e : i * 2 / 2 = i := by omega
    simp only [e] at h5
    rw [h5]; exact hu
  · obtain ⟨i, rfl⟩ : ∃ i, j = i * 2 + 1 := ⟨j / 2, by omega⟩
    have hi : i < l.length := by omega
    rw [flat_at1 hi] at hu
    have e : (i * 2 + 1) / 2 = i := by omega
    simp only [e] at h6
    rw [← Nat.add_assoc, h6]; exact hu
/-- 'append(own, row...)'. -/
theorem wpList_append_row {w : World} {ops : Array Oper} {rest : List Oper} {o : Oper} {a : Act} {Q : Exit → Act → World → Prop} (hgd : o.guard = none) (s x : Operand)
    (ho : o.op = .call { callee := .builtin .append, args := #[s, x], argTypes := #[38, 38] })
    (base : Nat) (v v' : Value) (n : Nat) (xs : List Value) (m : List (ByteArray × ByteArray)) (hs : a.eval s = v) (hx : a.eval x = v') (hown : w.ownsRow base 71 2 v n xs) (hrow : AtRow w v' m) (hp : Proper v')
    (N : Nat) (ys : List Value) (hN : n + m.length = N) (hy : xs ++ flat m = ys) (h63 : N ≤ 4096) (hbase : base ≤ w.heap.size)
    (h : ∀ u w', w'.ownsRow base 71 2 u N ys → w.grownBy w' v.ownBlock → wpList Try.prog ops Q rest (a.put o.dst u) w') : wpList Try.prog ops Q (o :: rest) a w := by
  subst hN
  subst hy
  have h63' : n + m.length ≤ maxLen := by unfold maxLen; omega
  have hbytes : (n + m.length) * 32 ≤ 140737488355328 := by omega
  obtain ⟨i0, hi, hz0, hz1, hz2⟩ := info_parts infoAttr
  have hrow' := hrow
  obtain ⟨ad, cap, rfl, h1, h2, h3⟩ := hrow
  cases ad with
  | none =>
    have hm : m = [] := by
      cases m with
      | nil => rfl
      | cons y r =>
        obtain ⟨b, off, he, _⟩ := h3 0 (by simp)
        cases he
    subst hm
    obtain ⟨_, rfl⟩ := hp _ _ rfl
    refine wpList_append_own_none hgd s x 38 ho base 71 i0 2 Try.underlying38 hi v n xs hs hown hx ?_
    refine h v w ?_ ⟨rfl, rfl, rfl, Nat.le_refl _, fun _ _ _ => rfl⟩
    have : xs ++ flat [] = xs := by simp [flat]
    rw [this]; exact hown
  | some ad =>
    refine wpList_append_own w hgd s x 38 ho base 71 i0 (.agg #[.string ⟨#[]⟩, .string ⟨#[]⟩]) 2 32 Try.underlying38 hi hz0 hz1 hz2 rfl (by decide) v n xs hs hown ad m.length cap (flat m) hx (flat_len m) (flat_news hrow') flat_one h63' hbytes hbase
      fun u w' h1 h2 _ => h u w' h1 h2
/-- 'append(own, one)'. -/
theorem wpList_append_one {w : World} {ops : Array Oper} {rest : List Oper} {o : Oper} {a : Act} {Q : Exit → Act → World → Prop} (hgd : o.guard = none) (s x : Operand)
    (ho : o.op = .call { callee := .builtin .append, args := #[s, x], argTypes := #[38, 38] })
    (base : Nat) (v : Value) (n : Nat) (xs : List Value) (p : ByteArray × ByteArray) (hs : a.eval s = v) (hx : a.eval x = .slice (some ⟨w.heap.size, 0, none⟩) 1 1) (hown : w.ownsRow base 71 2 v n xs)
    (N : Nat) (ys : List Value) (hN : n + 1 = N) (hy : xs ++ [.string p.1, .string p.2] = ys) (h63 : N ≤ 4096) (hbase : base ≤ w.heap.size)
    (h : ∀ u w', w'.ownsRow base 71 2 u N ys → (w.alloc (.cells #[.string p.1, .string p.2] 71)).grownBy w' v.ownBlock → wpList Try.prog ops Q rest (a.put o.dst u) w') :
    wpList Try.prog ops Q (o :: rest) a (w.alloc (.cells #[.string p.1, .string p.2] 71)) := by
  subst hN
  subst hy
  have h63' : n + 1 ≤ maxLen := by unfold maxLen; omega
  obtain ⟨i0, hi, hz0, hz1, hz2⟩ := info_parts infoAttr
  refine wpList_append_own _ hgd s x 38 ho base 71 i0 (.agg #[.string ⟨#[]⟩, .string ⟨#[]⟩]) 2 32 Try.underlying38 hi hz0 hz1 hz2 rfl (by decide) v n xs hs (hown.alloc _) ⟨w.heap.size, 0, none⟩ 1 1 [.string p.1, .string p.2] hx rfl (new_at2 _ _ _ _) (fun u hu => by simp at hu; rcases hu with rfl | rfl <;> rfl) h63' (by omega) (by simp; omega)
    fun u w' h1 h2 _ => h u w' h1 h2
theorem own0 (W : World) (k : Nat) : ((W.drewN k).alloc (.cells #[] 71)).ownsRow W.heap.size 71 2 (.slice (some ⟨W.heap.size, 0, none⟩) 0 0) 0 [] := World.ownsRow_lit (W.drewN k) #[] 0 (Nat.le_refl _) (Nat.zero_le _) rfl
theorem bel0 (W : World) (k : Nat) : Below W.heap.size W ((W.drewN k).alloc (.cells #[] 71)) := (below_drewN (Below.refl _ _) k).alloc (Nat.le_refl _) _
theorem own_ge {w : World} {B k n : Nat} {e : TypeId} {v : Value} {xs : List Value} (h : w.ownsRow B e k v n xs) : ∀ j, v.ownBlock = some j → B ≤ j := fun j hj => (h.lt j hj).1
theorem grown_refl (w : World) (row : Option Nat) : w.grownBy w row := ⟨rfl, rfl, rfl, Nat.le_refl _, fun _ _ _ => rfl⟩
theorem grown_trans {a b c : World} {row : Option Nat} (h : a.grownBy b row) (k : b.grownBy c row) : a.grownBy c row :=
  ⟨k.os.trans h.os, k.tape.trans h.tape, k.output.trans h.output, Nat.le_trans h.size k.size, fun i hi hne => (k.block i (Nat.lt_of_lt_of_le hi h.size) hne).trans (h.block i hi hne)⟩
theorem only_drewN {a w : World} {row : Option Nat} (h : a.grownBy w row) (n : Nat) : a.grownBy (w.drewN n) row := ⟨h.os, h.tape, h.output, h.size, h.block⟩
theorem only_setCell {a w : World} {g : Nat} (h : a.grownBy w (some g)) {p : Addr} (hp : p.block = g) (u : Value) : a.grownBy (w.setCell p u) (some g) :=
  ⟨h.os, h.tape, h.output, by simpa [World.setCell] using h.size, fun i hi hne => (Below.heap_setCell w p u i (by rintro rfl; exact hne (by rw [hp]))).trans (h.block i hi hne)⟩
theorem news_any {W : World} {ao : Option Addr} {cap : Nat} {l : List (ByteArray × ByteArray)} (h : AtRow W (.slice ao l.length cap) l) : ∀ ad, ao = some ad → ∀ j u, (flat l)[j]? = some u → W.cell? (ad.add j) = some u := by
  intro ad had
  subst had
  exact flat_news h
/-- Cutting one's own row from its head. -/
theorem slice_own (g n cap k : Nat) (hk : k ≤ cap) (W : World) : (Instr.sliceAt 38 (.slice (some ⟨g, 0, none⟩) n cap) none (some (.int .i64 (k : Int))) none).run Try.prog W = .ok (.slice (some ⟨g, 0, none⟩) k cap) W := by
  rw [run_sliceAt_slice W _ _ _ _ _ undAttrs, run_slice_h W _ _ _ _ undAttrs .i64 _ (by omega) (by omega), elemAttrs, Try.sizeOf71, Int.toNat_natCast]
  have e : sliced (some ⟨g, 0, none⟩) 0 k cap 2 = .slice (some ⟨g, 0, none⟩) k cap := by
    unfold sliced
    split <;> simp [Addr.add]
  rw [← e]; rfl
/-- A row stays, whatever is written into one that was made before it. -/
theorem kept_own {w w' : World} {lo k n : Nat} {e : TypeId} {v u : Value} {xs : List Value} (h : w.ownsRow lo e k v n xs) (hg : w.grownBy w' u.ownBlock) (hu : ∀ j, u.ownBlock = some j → j < lo) : w'.ownsRow lo e k v n xs := by
  refine h.kept hg ?_
  cases hv : v.ownBlock with
  | none => exact .inl rfl
  | some i =>
    refine .inr fun e => ?_
    have h1 := (h.lt i hv).1
    have h2 := hu i e.symm
    omega
end Go.Proofs.Ythcpagpiphemgaa
