/- What a call keeps that writes into blocks of its own, told by the blocks' types; operations that a call owns. -/
import Derived.Test.YthcpagpiphemgaaChRow
namespace Go.Proofs.Ythcpagpiphemgaa
open Go.RowKit Ch

/-- Below B all stays, and every block of another type than these. -/
structure Keep (B : Nat) (ts : List TypeId) (w w' : World) : Prop where
  below : Below B w w'
  kept : ∀ (i : Nat) (cs : Array Value) (e : TypeId) (fr : Nat × Nat), w.heap[i]? = some (Obj.cells cs e fr) → e ∉ ts → w'.heap[i]? = some (Obj.cells cs e fr)
theorem lt_of_heap {w : World} {i : Nat} {o : Obj} (h : w.heap[i]? = some o) : i < w.heap.size := (Array.getElem?_eq_some_iff.1 h).1
theorem Keep.refl (B : Nat) (ts : List TypeId) (w : World) : Keep B ts w w := ⟨Below.refl _ _, fun _ _ _ _ h _ => h⟩
theorem Keep.trans {B : Nat} {ts : List TypeId} {a b c : World} (h : Keep B ts a b) (k : Keep B ts b c) : Keep B ts a c :=
  ⟨h.below.trans k.below, fun i cs e fr hi he => k.kept i cs e fr (h.kept i cs e fr hi he) he⟩
theorem Keep.more {B : Nat} {ts us : List TypeId} {w w' : World} (h : Keep B ts w w') (hs : ∀ t, t ∈ ts → t ∈ us) : Keep B us w w' :=
  ⟨h.below, fun i cs e fr hi he => h.kept i cs e fr hi fun ht => he (hs _ ht)⟩
theorem Keep.mono {B C : Nat} {ts : List TypeId} {w w' : World} (h : Keep B ts w w') (hB : C ≤ B) : Keep C ts w w' := ⟨h.below.mono hB, h.kept⟩
/-- A call that only makes memory. -/
theorem keep_below {B : Nat} {ts : List TypeId} {w w' : World} (h : Below w.heap.size w w') (hB : B ≤ w.heap.size) : Keep B ts w w' :=
  ⟨h.mono hB, fun i cs e fr hi _ => (h.block i (lt_of_heap hi)).trans hi⟩
theorem keep_set {B b : Nat} {ts : List TypeId} {w : World} {cs : Array Value} {e : TypeId} {fr : Nat × Nat} (hb : w.heap[b]? = some (.cells cs e fr)) (he : e ∈ ts) (hB : B ≤ b) (p : Addr) (hp : p.block = b) (u : Value) : Keep B ts w (w.setCell p u) :=
  ⟨(Below.refl _ _).setCell (by rw [hp]; exact hB) u, fun i cs' e' fr' hi he' => by
    rw [Below.heap_setCell w p u i (by
      rintro rfl
      rw [hp, hb] at hi
      simp only [Option.some.injEq, Obj.cells.injEq] at hi
      exact he' (hi.2.1 ▸ he))]
    exact hi⟩
theorem keep_grown {B : Nat} {ts : List TypeId} {w w' : World} {row : Option Nat} (hg : w.grownBy w' row) (hB : B ≤ w.heap.size) (hr : ∀ k, row = some k → B ≤ k ∧ ∃ cs e fr, w.heap[k]? = some (.cells cs e fr) ∧ e ∈ ts) : Keep B ts w w' :=
  ⟨(Below.refl _ _).grown hg hB fun k hk => (hr k hk).1, fun i cs e fr hi he => by
    rw [hg.block i (lt_of_heap hi) (by
      intro hk
      obtain ⟨_, cs', e', fr', h1, h2⟩ := hr i hk.symm
      rw [h1] at hi
      simp only [Option.some.injEq, Obj.cells.injEq] at hi
      exact he (hi.2.1 ▸ h2))]
    exact hi⟩
theorem own_row {w : World} {C k n : Nat} {e : TypeId} {v : Value} {xs : List Value} (h : w.ownsRow C e k v n xs) : ∀ j, v.ownBlock = some j → C ≤ j ∧ ∃ cs fr, w.heap[j]? = some (.cells cs e fr) := by
  intro j hj
  rcases h.2 with ⟨rfl, _⟩ | ⟨g, cap, cur, rfl, hg, hc, _⟩
  · simp [Value.ownBlock] at hj
  · simp only [Value.ownBlock, Option.some.injEq] at hj
    subst hj
    exact ⟨hg, cur, (0, 0), hc⟩
theorem keep_row {B k n : Nat} {ts : List TypeId} {w w' : World} {e : TypeId} {v : Value} {xs : List Value} (h : w.ownsRow B e k v n xs) (hg : w.grownBy w' v.ownBlock) (he : e ∈ ts) (hB : B ≤ w.heap.size) : Keep B ts w w' :=
  keep_grown hg hB fun j hj => by
    obtain ⟨h1, cs, fr, h2⟩ := own_row h j hj
    exact ⟨h1, cs, e, fr, h2, he⟩
theorem Keep.own {B C k n : Nat} {ts : List TypeId} {w w' : World} {e : TypeId} {v : Value} {xs : List Value} (hk : Keep B ts w w') (h : w.ownsRow C e k v n xs) (he : e ∉ ts) : w'.ownsRow C e k v n xs :=
  ⟨h.1, h.2.imp id fun ⟨g, cap, cur, a, b, c, d⟩ => ⟨g, cap, cur, a, b, hk.kept g cur e (0, 0) c he, d⟩⟩
theorem block_ne {w : World} {i j : Nat} {cs cs' : Array Value} {e e' : TypeId} {fr fr' : Nat × Nat} (h : w.heap[i]? = some (.cells cs e fr)) (h' : w.heap[j]? = some (.cells cs' e' fr')) (hne : e ≠ e') : i ≠ j := by
  rintro rfl
  rw [h] at h'
  simp only [Option.some.injEq, Obj.cells.injEq] at h'
  exact hne h'.2.1
theorem own_ne {w : World} {C k n i : Nat} {e e' : TypeId} {v : Value} {xs : List Value} {cs : Array Value} {fr : Nat × Nat} (h : w.ownsRow C e k v n xs) (h' : w.heap[i]? = some (.cells cs e' fr)) (hne : e ≠ e') : v.ownBlock ≠ some i := fun hv => by
  obtain ⟨_, cs', fr', h2⟩ := own_row h i hv
  exact block_ne h2 h' hne rfl

/-- Operations and their rows of attributes, as cells. -/
def opCells (p : OpD × Value) : List Value := [.int .i64 p.1.kind, .int .i64 p.1.n, .string p.1.text, p.2]
def flatO (ps : List (OpD × Value)) : List Value := ps.flatMap opCells
theorem flatO_len (ps : List (OpD × Value)) : (flatO ps).length = ps.length * 4 := by
  induction ps with
  | nil => rfl
  | cons x r ih => simp [flatO, opCells] at ih ⊢; omega
theorem flatO_snoc (ps : List (OpD × Value)) (p : OpD × Value) : flatO (ps ++ [p]) = flatO ps ++ opCells p := by simp [flatO]
theorem flatO_at {ps : List (OpD × Value)} {i : Nat} (h : i < ps.length) (j : Nat) (hj : j < 4) : (flatO ps)[i * 4 + j]? = (opCells ps[i])[j]? := by
  induction ps generalizing i with
  | nil => simp at h
  | cons x r ih =>
    have e : flatO (x :: r) = opCells x ++ flatO r := rfl
    have hx : (opCells x).length = 4 := rfl
    rw [e]
    cases i with
    | zero => rw [List.getElem?_append_left (by omega)]; simp
    | succ i =>
      rw [List.getElem?_append_right (by omega), hx]
      have e2 : (i + 1) * 4 + j - 4 = i * 4 + j := by omega
      rw [e2, ih (by simpa using h)]
      rfl
theorem flatO_one {ps : List (OpD × Value)} (h : ∀ p ∈ ps, p.2.oneCell' = true) : ∀ u ∈ flatO ps, u.oneCell' = true := fun u hu => by
  unfold flatO at hu
  obtain ⟨x, hx, hu⟩ := List.mem_flatMap.1 hu
  simp [opCells] at hu
  rcases hu with rfl | rfl | rfl | rfl
  · rfl
  · rfl
  · rfl
  · exact h x hx
theorem own_one {w : World} {C k n : Nat} {e : TypeId} {v : Value} {xs : List Value} (h : w.ownsRow C e k v n xs) : v.oneCell' = true := by
  rcases h.2 with ⟨rfl, _⟩ | ⟨g, cap, cur, rfl, _⟩ <;> rfl

def OwnP (w : World) (B : Nat) (v : Value) (ps : List (OpD × Value)) : Prop :=
  w.ownsRow B 40 4 v ps.length (flatO ps) ∧ ∀ p ∈ ps, w.ownsRow B 71 2 p.2 p.1.attrs.length (flat p.1.attrs)
/-- Operations that a call owns, their attributes too. -/
def OwnOps (w : World) (B : Nat) (v : Value) (l : List OpD) : Prop := ∃ ps : List (OpD × Value), ps.map (·.1) = l ∧ OwnP w B v ps
theorem OwnP.row {w : World} {B : Nat} {v : Value} {ps : List (OpD × Value)} (h : OwnP w B v ps) : OpRow w v (ps.map (·.1)) := by
  have hl : (ps.map (·.1)).length = ps.length := by simp
  rcases h.1.2 with ⟨rfl, h0⟩ | ⟨g, cap, cur, rfl, _, hg, hn, hm, _⟩
  · have : ps = [] := List.length_eq_zero_iff.1 h0
    subst this
    exact OpRow.nil w
  · refine ⟨_, cap, by rw [hl], by omega, hm, fun i hi => ?_⟩
    have hi' : i < ps.length := by omega
    refine ⟨g, 0, rfl, lt_of_heap hg, ps[i].2, ?_, ?_, ?_⟩
    · have := row_of_own (h.2 _ (List.getElem_mem hi'))
      rw [List.getElem_map]
      exact this
    · exact proper_own (h.2 _ (List.getElem_mem hi'))
    · have e : ∀ j, j < 4 → w.cell? ⟨g, 0 + i * 4 + j, none⟩ = (opCells ps[i])[j]? := fun j hj => by
        rw [Nat.zero_add, h.1.cellAt _ (by omega), flatO_at hi' j hj]
      rw [List.getElem_map]
      exact ⟨e 0 (by omega), e 1 (by omega), e 2 (by omega), e 3 (by omega)⟩
theorem OwnOps.row {w : World} {B : Nat} {v : Value} {l : List OpD} (h : OwnOps w B v l) : OpRow w v l := by
  obtain ⟨ps, rfl, h⟩ := h
  exact h.row
theorem OwnP.keep {w w' : World} {B C : Nat} {ts : List TypeId} {v : Value} {ps : List (OpD × Value)} (h : OwnP w B v ps) (hk : Keep C ts w w') (h1 : 40 ∉ ts) (h2 : 71 ∉ ts) : OwnP w' B v ps :=
  ⟨hk.own h.1 h1, fun p hp => hk.own (h.2 p hp) h2⟩
theorem OwnP.base {w : World} {B C : Nat} {v : Value} {ps : List (OpD × Value)} (h : OwnP w B v ps) (hc : C ≤ B) : OwnP w C v ps := ⟨own_base h.1 hc, fun p hp => own_base (h.2 p hp) hc⟩
theorem OwnOps.base {w : World} {B C : Nat} {v : Value} {l : List OpD} (h : OwnOps w B v l) (hc : C ≤ B) : OwnOps w C v l := by
  obtain ⟨ps, e, h⟩ := h
  exact ⟨ps, e, h.base hc⟩
theorem OwnOps.below {w w' : World} {B : Nat} {v : Value} {l : List OpD} (h : OwnOps w B v l) (hb : Below w.heap.size w w') : OwnOps w' B v l := by
  obtain ⟨ps, e, h⟩ := h
  exact ⟨ps, e, h.keep (keep_below (ts := []) hb (Nat.le_refl _)) (by simp) (by simp)⟩

theorem undOps : Try.prog.underlying 22 = some (.slice 40) := Try.underlying22
theorem infoOp : (Try.prog.info? 40).map (fun i => (i.zero, i.size, i.bytes)) = some (some (.agg #[.int .i64 0, .int .i64 0, .string ⟨#[]⟩, .slice none 0 0]), 4, 56) := by kernel_rfl

/-- 'append' onto a row of one's own, as a step of a region that draws. -/
theorem step_append_own {P : Program} {ops : Array Oper} {o : Oper} {a : Act} {w : World} {K : Act → World → Prop} {Q : Exit → Act → World → Prop} {E : Prop}
    (hg : o.guard = none) (s x : Operand) (t : TypeId) (hop : o.op = Op.call { callee := Callee.builtin Builtin.append, args := #[s, x], argTypes := #[t, t] })
    (e : TypeId) (i : TypeInfo) (z : Value) (size bytes : Nat) (h1 : P.underlying t = some (.slice e)) (h2 : P.info? e = some i) (h3 : i.zero = some z) (h4 : i.size = size) (h5 : i.bytes = bytes) (h6 : z.cells.size = size) (h7 : 0 < size)
    (base : Nat) (v : Value) (n : Nat) (xs : List Value) (hs : a.eval s = v) (hown : w.ownsRow base e size v n xs)
    (ad : Addr) (m c : Nat) (news : List Value) (hx : a.eval x = .slice (some ad) m c) (hn : news.length = m * size) (hc : ∀ j u, news[j]? = some u → w.cell? (ad.add j) = some u) (h1c : ∀ u ∈ news, u.oneCell' = true)
    (b1 : n + m ≤ maxLen) (b2 : (n + m) * bytes ≤ 140737488355328) (hbase : base ≤ w.heap.size)
    (hK : ∀ v' w', w'.ownsRow base e size v' (n + m) (xs ++ news) → w.grownBy w' v.ownBlock → K (a.put o.dst v') w') :
    if Region.wanted o (yielded ops a.tmps) = true then Oper.wp P o a w K Q else E := by
  have hw : Region.wanted o (yielded ops a.tmps) = true := by simp [Region.wanted, hg]
  rw [if_pos hw]
  obtain ⟨v', w', hrun, r1, r2, _⟩ := run_append_own (P := P) w base t o.type e i z size bytes h1 h2 h3 h4 h5 h6 h7 v n xs hown ad m c news hn hc h1c b1 b2 hbase
  unfold Oper.wp
  simp [execOp, hop, resolve, invoke, builtin, hs, hx, hrun, Result.andThen]
  exact hK v' w' r1 r2

/-- A builder inside of the program's normal: its block. -/
def NBlk (w : World) (b : Nat) (ov ad bv : Value) (g : Int) : Prop := w.heap[b]? = some (.cells #[ov, ad, bv, .int .i64 g] 60 (0, 0))
theorem NBlk.cells {w : World} {b : Nat} {ov ad bv : Value} {g : Int} (h : NBlk w b ov ad bv g) : w.cell? ⟨b, 0, none⟩ = some ov ∧ w.cell? ⟨b, 1, none⟩ = some ad ∧ w.cell? ⟨b, 2, none⟩ = some bv ∧ w.cell? ⟨b, 3, none⟩ = some (.int .i64 g) ∧
    ∀ j, w.frozen? ⟨b, j, none⟩ = false := by
  unfold NBlk at h
  refine ⟨by simp [World.cell?, h], by simp [World.cell?, h], by simp [World.cell?, h], by simp [World.cell?, h], fun j => by simp [World.frozen?, h]⟩
theorem NBlk.keep {w w' : World} {b C : Nat} {ts : List TypeId} {ov ad bv : Value} {g : Int} (h : NBlk w b ov ad bv g) (hk : Keep C ts w w') (h1 : 60 ∉ ts) : NBlk w' b ov ad bv g := hk.kept _ _ _ _ h h1
theorem nblk_set {w : World} {b j : Nat} {cs : Array Value} {e : TypeId} {u : Value} (h : w.heap[b]? = some (.cells cs e (0, 0))) : (w.setCell ⟨b, j, none⟩ u).heap[b]? = some (.cells (cs.setIfInBounds j u) e (0, 0)) := by
  simp [World.setCell, Array.getElem?_modify, h]
theorem NBlk.set0 {w : World} {b : Nat} {ov ad bv u : Value} {g : Int} (h : NBlk w b ov ad bv g) : NBlk (w.setCell ⟨b, 0, none⟩ u) b u ad bv g := nblk_set h
theorem NBlk.set1 {w : World} {b : Nat} {ov ad bv u : Value} {g : Int} (h : NBlk w b ov ad bv g) : NBlk (w.setCell ⟨b, 1, none⟩ u) b ov u bv g := nblk_set h
theorem NBlk.set2 {w : World} {b : Nat} {ov ad bv u : Value} {g : Int} (h : NBlk w b ov ad bv g) : NBlk (w.setCell ⟨b, 2, none⟩ u) b ov ad u g := nblk_set h
theorem NBlk.set3 {w : World} {b : Nat} {ov ad bv : Value} {g k : Int} (h : NBlk w b ov ad bv g) : NBlk (w.setCell ⟨b, 3, none⟩ (.int .i64 k)) b ov ad bv k := nblk_set h
end Go.Proofs.Ythcpagpiphemgaa
