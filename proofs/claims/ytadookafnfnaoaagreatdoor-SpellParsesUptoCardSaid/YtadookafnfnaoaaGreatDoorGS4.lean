import Derived.Test.YtadookafnfnaoaaGreatDoorGS3
import Derived.Test.YtadookafnfnaoaaGreatDoorGS0
import Derived.Deep.SlicePairs
import Derived.Deep.Slices
import Derived.Deep.Fields
import Derived.Lib.SmallJoins
import Derived.ChangeArms
import Derived.ChangeSlices
import Derived.Carry
import Derived.Lib.Builder
import Derived.Lib.AppendStr
import Derived.Lib.UnsafeStr
import Derived.Laws.Externs
import Derived.Laws.IdiomCopy
import Derived.RegionTactic
import Derived.Lib.Hide
import Derived.Below
import Derived.WalkKit
import Derived.WalkLawsBesides
import Derived.WalkSpells
import Derived.Deep.RegionHeld3
/- Arguments opened: a changeset, its operations and their attributes. -/
namespace Go.Proofs.YtadookafnfnaoaaGreatDoor
open Go.RowKit Go.ChangeShapes Go.WideShapes Go.Deep Go.Joins Ch

instance : Inhabited OpD := ⟨⟨0, 0, ⟨#[]⟩, []⟩⟩
theorem laidOutC : laidOutB Tryz.prog = true := by kernel_rfl
theorem structAttrC : ∃ f0 f1 : Field, Tryz.prog.underlying 53 = some (.struct #[f0, f1]) ∧ f0.offset = 0 ∧ f1.offset = 1 ∧ f0.type = 9 ∧ f1.type = 9 :=
  ⟨_, _, Tryz.underlying53, rfl, rfl, rfl, rfl⟩
theorem structOp : ∃ f0 f1 f2 f3 : Field, Tryz.prog.underlying 48 = some (.struct #[f0, f1, f2, f3]) ∧ (f0.offset = 0 ∧ f1.offset = 1 ∧ f2.offset = 2 ∧ f3.offset = 3) ∧ f0.type = 3 ∧ f1.type = 3 ∧ f2.type = 9 ∧ f3.type = 46 :=
  ⟨_, _, _, _, Tryz.underlying48, ⟨rfl, rfl, rfl, rfl⟩, rfl, rfl, rfl, rfl⟩
theorem structChange : ∃ f0 f1 : Field, Tryz.prog.underlying 24 = some (.struct #[f0, f1]) ∧ oneCellFields Tryz.prog #[f0, f1] = true ∧ f0.type = 3 ∧ f1.type = 22 :=
  ⟨_, _, Tryz.underlying24, by kernel_rfl, rfl, rfl⟩

set_option maxRecDepth 100000 in
theorem open_attrs_cell {H : Type} {enc : TypeId × Value → H} {W : World} {fuel : Nat} {c : Value} {y : DataW H × List MemPlace}
    (h : DataW.trod enc Tryz.prog W 0 (fun _ => true) true fuel 46 [c] = some y) : ∃ l, AtRow W c l ∧ Sized l ∧ Proper c := by
  obtain ⟨f0, f1, hs, o0, o1, t0, t1⟩ := structAttrC
  rcases open_slice_pairs Tryz.underlying46 hs (by kernel_rfl) o0 o1 (by rw [t0]; kernel_rfl) (by rw [t1]; kernel_rfl) h with ⟨h0, _⟩ | ⟨a', len, cap, m, k, V0, V1, D0, D1, P0, P1, hcs, _, hl, hm, hmm, _, hi⟩
  · obtain rfl : c = .slice none 0 0 := by simpa using h0
    exact ⟨[], ⟨none, 0, rfl, Nat.le_refl _, by simp [maxLen], fun i hi => by simp at hi⟩, (fun x hx => by cases hx), fun n' c' he => by simp at he; omega⟩
  · obtain rfl : c = .slice (some a') len cap := by simpa using hcs
    have hm' : m = cap := by rw [hmm]; rfl
    subst hm'
    have each : ∀ i, i < len → ∃ q : ByteArray × ByteArray, V0 i = .string q.1 ∧ V1 i = .string q.2 ∧ q.1.size ≤ maxLen ∧ q.2.size ≤ maxLen := fun i hin => by
      obtain ⟨_, _, g0, g1⟩ := hi i (Nat.lt_of_lt_of_le hin hl)
      rw [t0] at g0
      rw [t1] at g1
      obtain ⟨s0, e0, _, z0⟩ := DataW.trod_string Tryz.underlying9 g0
      obtain ⟨s1, e1, _, z1⟩ := DataW.trod_string Tryz.underlying9 g1
      exact ⟨(s0, s1), by simpa using e0, by simpa using e1, z0, z1⟩
    obtain ⟨q, hq⟩ := choose_lt each
    have hlen : ((List.range len).map q).length = len := by simp
    refine ⟨(List.range len).map q, ⟨some a', m, by rw [hlen], by rw [hlen]; exact hl, hm, fun i hin => ?_⟩, fun x hx => ?_, fun n' c' he => by simp at he⟩
    · have hin' : i < len := by simpa using hin
      obtain ⟨c0, c1, _, _⟩ := hi i (Nat.lt_of_lt_of_le hin' hl)
      obtain ⟨e0, e1, _, _⟩ := hq i hin'
      rw [e0] at c0
      rw [e1] at c1
      obtain ⟨b, off, spot⟩ := a'
      have hspot : spot = none := by
        have h0 := (hi 0 (by omega)).1
        simpa [Addr.add] using World.cell?_spot h0
      subst hspot
      rw [add_plain] at c0 c1
      have hb := World.block_lt_of_cell? _ _ c0
      exact ⟨b, off, rfl, hb, by simpa using c0, by simpa [Nat.add_assoc] using c1⟩
    · obtain ⟨i, hin, rfl⟩ := List.mem_map.1 hx
      obtain ⟨_, _, z0, z1⟩ := hq i (by simpa using hin)
      exact ⟨z0, z1⟩

set_option maxRecDepth 100000 in
/-- One operation, read. -/
theorem open_op {H : Type} {enc : TypeId × Value → H} {W : World} {fuel : Nat} {cs : List Value} {y : DataW H × List MemPlace} (h : DataW.trod enc Tryz.prog W 0 (fun _ => true) true fuel 48 cs = some y) :
    ∃ (o : OpD) (av : Value), cs = [.int .i64 o.kind, .int .i64 o.n, .string o.text, av] ∧ AtRow W av o.attrs ∧ Proper av ∧ o.text.size ≤ maxLen ∧ Sized o.attrs := by
  obtain ⟨f0, f1, f2, f3, hs, ⟨o0, o1, o2, o3⟩, t0, t1, t2, t3⟩ := structOp
  obtain ⟨xs, n, _, _, hlen, hxl, hf⟩ := DataW.trod_struct hs h
  have hC : Tryz.prog.cellsOf 48 = 4 := by kernel_rfl
  rw [hC] at hlen
  obtain ⟨c0, c1, c2, c3, rfl⟩ : ∃ c0 c1 c2 c3, cs = [c0, c1, c2, c3] := by
    match cs, hlen with
    | [c0, c1, c2, c3], _ => exact ⟨c0, c1, c2, c3, rfl⟩
  have g : ∀ (i : Nat) (hi : i < xs.length), xs[i]? = some xs[i] := fun i hi => List.getElem?_eq_getElem hi
  have hx : xs.length = 4 := hxl
  have k1 : Tryz.prog.cellsOf 3 = 1 := by kernel_rfl
  have k2 : Tryz.prog.cellsOf 9 = 1 := by kernel_rfl
  have k3 : Tryz.prog.cellsOf 46 = 1 := by kernel_rfl
  have g0 := (hf 0 f0 rfl).trans (g 0 (by omega))
  have g1 := (hf 1 f1 rfl).trans (g 1 (by omega))
  have g2 := (hf 2 f2 rfl).trans (g 2 (by omega))
  have g3 := (hf 3 f3 rfl).trans (g 3 (by omega))
  rw [o0, t0, k1] at g0
  rw [o1, t1, k1] at g1
  rw [o2, t2, k2] at g2
  rw [o3, t3, k3] at g3
  obtain ⟨n0, e0, _, _⟩ := DataW.trod_int Tryz.underlying3 g0
  obtain ⟨n1, e1, _, _⟩ := DataW.trod_int Tryz.underlying3 g1
  obtain ⟨s2, e2, _, z2⟩ := DataW.trod_string Tryz.underlying9 g2
  obtain ⟨l, r1, r2, r3⟩ := open_attrs_cell (c := c3) g3
  obtain rfl : c0 = .int .i64 n0 := by simpa using e0
  obtain rfl : c1 = .int .i64 n1 := by simpa using e1
  obtain rfl : c2 = .string s2 := by simpa using e2
  exact ⟨⟨n0, n1, s2, l⟩, c3, rfl, r1, r3, z2, r2⟩

set_option maxRecDepth 100000 in
theorem open_ops {H : Type} {enc : TypeId × Value → H} {W : World} {fuel : Nat} {c : Value} {y : DataW H × List MemPlace}
    (h : DataW.trod enc Tryz.prog W 0 (fun _ => true) true fuel 22 [c] = some y) : ∃ ops, OpRow W c ops ∧ OSized ops := by
  rcases open_slice Tryz.underlying22 h with ⟨h0, _⟩ | ⟨a, len, cap, m, n, D, Pl, hcs, _, hl, hm, hmm, _, hi⟩
  · obtain rfl : c = .slice none 0 0 := by simpa using h0
    exact ⟨[], OpRow.nil W, fun o ho => by cases ho⟩
  · obtain rfl : c = .slice (some a) len cap := by simpa using hcs
    have hm' : m = cap := by rw [hmm]; rfl
    subst hm'
    have hC : Tryz.prog.cellsOf 48 = 4 := by kernel_rfl
    rw [hC] at hi
    have each : ∀ i, i < len → ∃ q : OpD × Value, W.cells? 0 (a.add (i * 4)) 4 = some [.int .i64 q.1.kind, .int .i64 q.1.n, .string q.1.text, q.2] ∧ AtRow W q.2 q.1.attrs ∧ Proper q.2 ∧ q.1.text.size ≤ maxLen ∧ Sized q.1.attrs := fun i hin => by
      obtain ⟨cs', h1, h2⟩ := hi i (Nat.lt_of_lt_of_le hin hl)
      obtain ⟨o, av, rfl, r⟩ := open_op h2
      exact ⟨(o, av), h1, r⟩
    obtain ⟨q, hq⟩ := choose_lt each
    have hlen : ((List.range len).map fun i => (q i).1).length = len := by simp
    refine ⟨(List.range len).map fun i => (q i).1, ⟨some a, m, by rw [hlen], by rw [hlen]; exact hl, hm, fun i hin => ?_⟩, fun x hx => ?_⟩
    · have hin' : i < len := by simpa using hin
      obtain ⟨h1, h2, h3, _⟩ := hq i hin'
      obtain ⟨_, _, hat⟩ := World.cells?_some h1
      obtain ⟨b, off, spot⟩ := a
      have hspot : spot = none := by
        have h0 := (World.cells?_some (hq 0 (by omega)).1).2.2 0 (by omega)
        have h0' : W.cell? ⟨b, off, spot⟩ = some (.int .i64 (q 0).1.kind) := by simpa [Addr.add] using h0
        exact World.cell?_spot h0'
      subst hspot
      have hc : ∀ j, j < 4 → W.cell? ⟨b, off + i * 4 + j, none⟩ = ([.int .i64 (q i).1.kind, .int .i64 (q i).1.n, .string (q i).1.text, (q i).2] : List Value)[j]? := fun j hj => by
        have := hat j hj
        rw [add_plain, add_plain] at this
        exact this
      have hb := World.block_lt_of_cell? _ _ (hc 0 (by omega))
      refine ⟨b, off, rfl, hb, ?_⟩
      rw [List.getElem_map, List.getElem_range]
      exact ⟨(q i).2, h2, h3, hc 0 (by omega), hc 1 (by omega), hc 2 (by omega), hc 3 (by omega)⟩
    · obtain ⟨i, hin, rfl⟩ := List.mem_map.1 hx
      obtain ⟨_, _, _, z0, z1⟩ := hq i (by simpa using hin)
      exact ⟨z0, z1⟩

set_option maxRecDepth 100000 in
theorem open_change {H : Type} {enc : TypeId × Value → H} {W : World} {base : Nat} {v : Value} {d : DataW H} {p : List MemPlace} (hv : Value.okWide Tryz.prog W .any base 24 v)
    (h : DataW.Trod enc Tryz.prog W 0 (fun _ => true) true 24 v d p) : ∃ (f : Int) (x : Value) (ops : List OpD), v = chAgg f x ∧ OpRow W x ops ∧ OSized ops := by
  obtain ⟨f0, f1, hs, hone, t0, t1⟩ := structChange
  obtain ⟨v0, v1, y0, y1, n, rfl, _, _, g0, g1⟩ := open_agg2 hs hone (by kernel_rfl) hv h
  rw [t0] at g0
  rw [t1] at g1
  obtain ⟨n0, e0, _, _⟩ := DataW.trod_int Tryz.underlying3 g0
  obtain rfl : v0 = .int .i64 n0 := by simpa using e0
  obtain ⟨ops, r1, r2⟩ := open_ops g1
  exact ⟨n0, v1, ops, rfl, r1, r2⟩
end Go.Proofs.YtadookafnfnaoaaGreatDoor
/- What a call keeps that writes into blocks of its own, told by the blocks' types; operations that a call owns. -/
namespace Go.Proofs.YtadookafnfnaoaaGreatDoor
open Go.RowKit Ch

/-- Below B all stays, and every block of another type than these. -/
def Out (ts : List TypeId) : Obj → Prop
  | .cells _ e _ => e ∉ ts
  | _ => True
structure Keep (B : Nat) (ts : List TypeId) (w w' : World) : Prop where
  below : Below B w w'
  all : ∀ (i : Nat) (o : Obj), w.heap[i]? = some o → Out ts o → w'.heap[i]? = some o
theorem Keep.kept {B : Nat} {ts : List TypeId} {w w' : World} (h : Keep B ts w w') (i : Nat) (cs : Array Value) (e : TypeId) (fr : Nat × Nat) (hi : w.heap[i]? = some (Obj.cells cs e fr)) (he : e ∉ ts) : w'.heap[i]? = some (Obj.cells cs e fr) := h.all i _ hi he
theorem lt_of_heap {w : World} {i : Nat} {o : Obj} (h : w.heap[i]? = some o) : i < w.heap.size := (Array.getElem?_eq_some_iff.1 h).1
theorem Keep.refl (B : Nat) (ts : List TypeId) (w : World) : Keep B ts w w := ⟨Below.refl _ _, fun _ _ h _ => h⟩
theorem Keep.trans {B : Nat} {ts : List TypeId} {a b c : World} (h : Keep B ts a b) (k : Keep B ts b c) : Keep B ts a c :=
  ⟨h.below.trans k.below, fun i o hi ho => k.all i o (h.all i o hi ho) ho⟩
theorem Keep.more {B : Nat} {ts us : List TypeId} {w w' : World} (h : Keep B ts w w') (hs : ∀ t, t ∈ ts → t ∈ us) : Keep B us w w' :=
  ⟨h.below, fun i o hi ho => h.all i o hi (by cases o <;> first | trivial | exact fun ht => ho (hs _ ht))⟩
theorem Keep.mono {B C : Nat} {ts : List TypeId} {w w' : World} (h : Keep B ts w w') (hB : C ≤ B) : Keep C ts w w' := ⟨h.below.mono hB, h.all⟩
/-- A call that only makes memory. -/
theorem keep_below {B : Nat} {ts : List TypeId} {w w' : World} (h : Below w.heap.size w w') (hB : B ≤ w.heap.size) : Keep B ts w w' :=
  ⟨h.mono hB, fun i _ hi _ => (h.block i (lt_of_heap hi)).trans hi⟩
theorem keep_set {B b : Nat} {ts : List TypeId} {w : World} {cs : Array Value} {e : TypeId} {fr : Nat × Nat} (hb : w.heap[b]? = some (.cells cs e fr)) (he : e ∈ ts) (hB : B ≤ b) (p : Addr) (hp : p.block = b) (u : Value) : Keep B ts w (w.setCell p u) :=
  ⟨(Below.refl _ _).setCell (by rw [hp]; exact hB) u, fun i o hi ho => by
    rw [Below.heap_setCell w p u i (by
      rintro rfl
      rw [hp, hb] at hi
      cases hi
      exact ho he)]
    exact hi⟩
theorem keep_grown {B : Nat} {ts : List TypeId} {w w' : World} {row : Option Nat} (hg : w.grownBy w' row) (hB : B ≤ w.heap.size) (hr : ∀ k, row = some k → B ≤ k ∧ ∃ cs e fr, w.heap[k]? = some (.cells cs e fr) ∧ e ∈ ts) : Keep B ts w w' :=
  ⟨(Below.refl _ _).grown hg hB fun k hk => (hr k hk).1, fun i o hi ho => by
    rw [hg.block i (lt_of_heap hi) (by
      intro hk
      obtain ⟨_, cs', e', fr', h1, h2⟩ := hr i hk.symm
      rw [h1] at hi
      cases hi
      exact ho h2)]
    exact hi⟩
theorem own_row {w : World} {C k n : Nat} {e : TypeId} {v : Value} {xs : List Value} (h : w.ownsRow C e k v n xs) : ∀ j, v.ownBlock = some j → C ≤ j ∧ ∃ cs fr, w.heap[j]? = some (.cells cs e fr) := by
  intro j hj
  rcases h.2 with ⟨rfl, _⟩ | ⟨g, cap, cur, rfl, hg, hc, _⟩
  · simp [Value.ownBlock] at hj
  · simp only [Value.ownBlock, Option.some.injEq] at hj
    subst hj
    exact ⟨hg, cur, (0, 0), hc⟩
theorem keep_row {B k n : Nat} {ts : List TypeId} {w w' : World} {e : TypeId} {v : Value} {xs : List Value} (h : w.ownsRow B e k v n xs) (hg : w.grownBy w' v.ownBlock) (he : e ∈ ts) (hB : B ≤ w.heap.size) : Keep B ts w w' :=
  keep_grown hg hB fun j hj => by
    obtain ⟨h1, cs, fr, h2⟩ := own_row h j hj
    exact ⟨h1, cs, e, fr, h2, he⟩
theorem Keep.own {B C k n : Nat} {ts : List TypeId} {w w' : World} {e : TypeId} {v : Value} {xs : List Value} (hk : Keep B ts w w') (h : w.ownsRow C e k v n xs) (he : e ∉ ts) : w'.ownsRow C e k v n xs :=
  ⟨h.1, h.2.imp id fun ⟨g, cap, cur, a, b, c, d⟩ => ⟨g, cap, cur, a, b, hk.kept g cur e (0, 0) c he, d⟩⟩
theorem block_ne {w : World} {i j : Nat} {cs cs' : Array Value} {e e' : TypeId} {fr fr' : Nat × Nat} (h : w.heap[i]? = some (.cells cs e fr)) (h' : w.heap[j]? = some (.cells cs' e' fr')) (hne : e ≠ e') : i ≠ j := by
  rintro rfl
  rw [h] at h'
  simp only [Option.some.injEq, Obj.cells.injEq] at h'
  exact hne h'.2.1
theorem own_ne {w : World} {C k n i : Nat} {e e' : TypeId} {v : Value} {xs : List Value} {cs : Array Value} {fr : Nat × Nat} (h : w.ownsRow C e k v n xs) (h' : w.heap[i]? = some (.cells cs e' fr)) (hne : e ≠ e') : v.ownBlock ≠ some i := fun hv => by
  obtain ⟨_, cs', fr', h2⟩ := own_row h i hv
  exact block_ne h2 h' hne rfl

/-- Operations and their rows of attributes, as cells. -/
def opCells (p : OpD × Value) : List Value := [.int .i64 p.1.kind, .int .i64 p.1.n, .string p.1.text, p.2]
def flatO (ps : List (OpD × Value)) : List Value := ps.flatMap opCells
theorem flatO_len (ps : List (OpD × Value)) : (flatO ps).length = ps.length * 4 := by
  induction ps with
  | nil => rfl
  | cons x r ih => simp [flatO, opCells] at ih ⊢; omega
theorem flatO_snoc (ps : List (OpD × Value)) (p : OpD × Value) : flatO (ps ++ [p]) = flatO ps ++ opCells p := by simp [flatO]
theorem flatO_at {ps : List (OpD × Value)} {i : Nat} (h : i < ps.length) (j : Nat) (hj : j < 4) : (flatO ps)[i * 4 + j]? = (opCells ps[i])[j]? := by
  induction ps generalizing i with
  | nil => simp at h
  | cons x r ih =>
    have e : flatO (x :: r) = opCells x ++ flatO r := rfl
    have hx : (opCells x).length = 4 := rfl
    rw [e]
    cases i with
    | zero => rw [List.getElem?_append_left (by omega)]; simp
    | succ i =>
      rw [List.getElem?_append_right (by omega), hx]
      have e2 : (i + 1) * 4 + j - 4 = i * 4 + j := by omega
      rw [e2, ih (by simpa using h)]
      rfl
theorem flatO_one {ps : List (OpD × Value)} (h : ∀ p ∈ ps, p.2.oneCell' = true) : ∀ u ∈ flatO ps, u.oneCell' = true := fun u hu => by
  unfold flatO at hu
  obtain ⟨x, hx, hu⟩ := List.mem_flatMap.1 hu
  simp [opCells] at hu
  rcases hu with rfl | rfl | rfl | rfl
  · rfl
  · rfl
  · rfl
  · exact h x hx
theorem own_one {w : World} {C k n : Nat} {e : TypeId} {v : Value} {xs : List Value} (h : w.ownsRow C e k v n xs) : v.oneCell' = true := by
  rcases h.2 with ⟨rfl, _⟩ | ⟨g, cap, cur, rfl, _⟩ <;> rfl

def OwnP (w : World) (B : Nat) (v : Value) (ps : List (OpD × Value)) : Prop :=
  w.ownsRow B 48 4 v ps.length (flatO ps) ∧ ∀ p ∈ ps, w.ownsRow B 53 2 p.2 p.1.attrs.length (flat p.1.attrs)
/-- Operations that a call owns, their attributes too. -/
def OwnOps (w : World) (B : Nat) (v : Value) (l : List OpD) : Prop := ∃ ps : List (OpD × Value), ps.map (·.1) = l ∧ OwnP w B v ps
theorem OwnP.row {w : World} {B : Nat} {v : Value} {ps : List (OpD × Value)} (h : OwnP w B v ps) : OpRow w v (ps.map (·.1)) := by
  have hl : (ps.map (·.1)).length = ps.length := by simp
  rcases h.1.2 with ⟨rfl, h0⟩ | ⟨g, cap, cur, rfl, _, hg, hn, hm, _⟩
  · have : ps = [] := List.length_eq_zero_iff.1 h0
    subst this
    exact OpRow.nil w
  · refine ⟨_, cap, by rw [hl], by omega, hm, fun i hi => ?_⟩
    have hi' : i < ps.length := by omega
    refine ⟨g, 0, rfl, lt_of_heap hg, ps[i].2, ?_, ?_, ?_⟩
    · have := row_of_own (h.2 _ (List.getElem_mem hi'))
      rw [List.getElem_map]
      exact this
    · exact proper_own (h.2 _ (List.getElem_mem hi'))
    · have e : ∀ j, j < 4 → w.cell? ⟨g, 0 + i * 4 + j, none⟩ = (opCells ps[i])[j]? := fun j hj => by
        rw [Nat.zero_add, h.1.cellAt _ (by omega), flatO_at hi' j hj]
      rw [List.getElem_map]
      exact ⟨e 0 (by omega), e 1 (by omega), e 2 (by omega), e 3 (by omega)⟩
theorem OwnOps.row {w : World} {B : Nat} {v : Value} {l : List OpD} (h : OwnOps w B v l) : OpRow w v l := by
  obtain ⟨ps, rfl, h⟩ := h
  exact h.row
theorem OwnP.keep {w w' : World} {B C : Nat} {ts : List TypeId} {v : Value} {ps : List (OpD × Value)} (h : OwnP w B v ps) (hk : Keep C ts w w') (h1 : 48 ∉ ts) (h2 : 53 ∉ ts) : OwnP w' B v ps :=
  ⟨hk.own h.1 h1, fun p hp => hk.own (h.2 p hp) h2⟩
theorem OwnP.base {w : World} {B C : Nat} {v : Value} {ps : List (OpD × Value)} (h : OwnP w B v ps) (hc : C ≤ B) : OwnP w C v ps := ⟨own_base h.1 hc, fun p hp => own_base (h.2 p hp) hc⟩
theorem OwnOps.base {w : World} {B C : Nat} {v : Value} {l : List OpD} (h : OwnOps w B v l) (hc : C ≤ B) : OwnOps w C v l := by
  obtain ⟨ps, e, h⟩ := h
  exact ⟨ps, e, h.base hc⟩
theorem OwnOps.below {w w' : World} {B : Nat} {v : Value} {l : List OpD} (h : OwnOps w B v l) (hb : Below w.heap.size w w') : OwnOps w' B v l := by
  obtain ⟨ps, e, h⟩ := h
  exact ⟨ps, e, h.keep (keep_below (ts := []) hb (Nat.le_refl _)) (by simp) (by simp)⟩

theorem infoOp : (Tryz.prog.info? 48).map (fun i => (i.zero, i.size, i.bytes)) = some (some (.agg #[.int .i64 0, .int .i64 0, .string ⟨#[]⟩, .slice none 0 0]), 4, 56) := by kernel_rfl

/-- 'append' onto a row of one's own, as a step of a region that draws. -/
theorem step_append_own {P : Program} {ops : Array Oper} {o : Oper} {a : Act} {w : World} {K : Act → World → Prop} {Q : Exit → Act → World → Prop} {E : Prop}
    (hg : o.guard = none) (s x : Operand) (t : TypeId) (hop : o.op = Op.call { callee := Callee.builtin Builtin.append, args := #[s, x], argTypes := #[t, t] })
    (e : TypeId) (i : TypeInfo) (z : Value) (size bytes : Nat) (h1 : P.underlying t = some (.slice e)) (h2 : P.info? e = some i) (h3 : i.zero = some z) (h4 : i.size = size) (h5 : i.bytes = bytes) (h6 : z.cells.size = size) (h7 : 0 < size)
    (base : Nat) (v : Value) (n : Nat) (xs : List Value) (hs : a.eval s = v) (hown : w.ownsRow base e size v n xs)
    (ad : Addr) (m c : Nat) (news : List Value) (hx : a.eval x = .slice (some ad) m c) (hn : news.length = m * size) (hc : ∀ j u, news[j]? = some u → w.cell? (ad.add j) = some u) (h1c : ∀ u ∈ news, u.oneCell' = true)
    (b1 : n + m ≤ maxLen) (b2 : (n + m) * bytes ≤ 140737488355328) (hbase : base ≤ w.heap.size)
    (hK : ∀ v' w', w'.ownsRow base e size v' (n + m) (xs ++ news) → w.grownBy w' v.ownBlock → K (a.put o.dst v') w') :
    if Region.wanted o (yielded ops a.tmps) = true then Oper.wp P o a w K Q else E := by
  have hw : Region.wanted o (yielded ops a.tmps) = true := by simp [Region.wanted, hg]
  rw [if_pos hw]
  obtain ⟨v', w', hrun, r1, r2, _⟩ := run_append_own (P := P) w base t o.type e i z size bytes h1 h2 h3 h4 h5 h6 h7 v n xs hown ad m c news hn hc h1c b1 b2 hbase
  unfold Oper.wp
  simp [execOp, hop, resolve, invoke, builtin, hs, hx, hrun, Result.andThen]
  exact hK v' w' r1 r2

/-- A builder inside of the program's normal: its block. -/
def NBlk (w : World) (b : Nat) (ov ad bv : Value) (g : Int) : Prop := w.heap[b]? = some (.cells #[ov, ad, bv, .int .i64 g] 90 (0, 0))
theorem NBlk.cells {w : World} {b : Nat} {ov ad bv : Value} {g : Int} (h : NBlk w b ov ad bv g) : w.cell? ⟨b, 0, none⟩ = some ov ∧ w.cell? ⟨b, 1, none⟩ = some ad ∧ w.cell? ⟨b, 2, none⟩ = some bv ∧ w.cell? ⟨b, 3, none⟩ = some (.int .i64 g) ∧
    ∀ j, w.frozen? ⟨b, j, none⟩ = false := by
  unfold NBlk at h
  refine ⟨by simp [World.cell?, h], by simp [World.cell?, h], by simp [World.cell?, h], by simp [World.cell?, h], fun j => by simp [World.frozen?, h]⟩
theorem NBlk.keep {w w' : World} {b C : Nat} {ts : List TypeId} {ov ad bv : Value} {g : Int} (h : NBlk w b ov ad bv g) (hk : Keep C ts w w') (h1 : 90 ∉ ts) : NBlk w' b ov ad bv g := hk.kept _ _ _ _ h h1
theorem nblk_set {w : World} {b j : Nat} {cs : Array Value} {e : TypeId} {u : Value} (h : w.heap[b]? = some (.cells cs e (0, 0))) : (w.setCell ⟨b, j, none⟩ u).heap[b]? = some (.cells (cs.setIfInBounds j u) e (0, 0)) := by
  simp [World.setCell, Array.getElem?_modify, h]
theorem NBlk.set0 {w : World} {b : Nat} {ov ad bv u : Value} {g : Int} (h : NBlk w b ov ad bv g) : NBlk (w.setCell ⟨b, 0, none⟩ u) b u ad bv g := nblk_set h
theorem NBlk.set1 {w : World} {b : Nat} {ov ad bv u : Value} {g : Int} (h : NBlk w b ov ad bv g) : NBlk (w.setCell ⟨b, 1, none⟩ u) b ov u bv g := nblk_set h
theorem NBlk.set2 {w : World} {b : Nat} {ov ad bv u : Value} {g : Int} (h : NBlk w b ov ad bv g) : NBlk (w.setCell ⟨b, 2, none⟩ u) b ov ad u g := nblk_set h
theorem NBlk.set3 {w : World} {b : Nat} {ov ad bv : Value} {g k : Int} (h : NBlk w b ov ad bv g) : NBlk (w.setCell ⟨b, 3, none⟩ (.int .i64 k)) b ov ad bv k := nblk_set h
end Go.Proofs.YtadookafnfnaoaaGreatDoor
/- strings.Builder's methods at a builder that lies inside of the program's normal. -/
namespace Go.Proofs.YtadookafnfnaoaaGreatDoor
open Go.RowKit Ch

abbrev selfB (b : Nat) : Value := .pointer (some ⟨b, 1, none⟩)
def Addrs (b : Nat) (ad : Value) : Prop := ad = .pointer none ∨ ad = selfB b
theorem infoBld : (Tryz.prog.info? 59).map (fun i => i.size != 0) = some true := by kernel_rfl
theorem infoU8 : (Tryz.prog.info? 5).map (fun i => (i.zero, i.size, i.bytes)) = some (some (.int .u8 0), 1, 1) := by kernel_rfl
theorem liesBld : liesAt Tryz.prog Tryz.prog.depth 90 (4 / Tryz.prog.cellsOf 90) 1 59 1 = true := by kernel_rfl
theorem NBlk.shape {w : World} {b : Nat} {ov ad bv : Value} {g : Int} (h : NBlk w b ov ad bv g) : w.shape? b = some (90, 4) := by
  unfold NBlk at h
  simp [World.shape?, h]
def CCOut (w : World) (b : Nat) (ov bv : Value) (g : Int) (e : Ending) (w' : World) : Prop := e = .returned (.tuple #[]) ∧ NBlk w' b ov (selfB b) bv g ∧ w.grownBy w' (some b)

set_option maxHeartbeats 1000000 in
set_option maxRecDepth 100000 in
theorem copyCheck_any (b : Nat) (ov ad bv : Value) (g : Int) (w : World) (h : NBlk w b ov ad bv g) (ha : Addrs b ad) :
    Calls Tryz.prog 59 #[selfB b] w (CCOut w b ov bv g) := by
  obtain ⟨j, hj, hjs⟩ := Option.map_eq_some_iff.1 infoBld
  have hj0 : j.size ≠ 0 := by simpa using hjs
  obtain ⟨k0, k1, k2, k3, k4⟩ := h.cells
  have f1 := k4 1
  have HN := Lib.hid h
  rcases ha with rfl | rfl
  · clear h k0 k2 k3 k4 hjs
    go_enter Tryz.func59, Tryz.ntmps59
    go_wp2_with fail
    rw [Lib.run_to_unsafe w ⟨b, 1, none⟩ Tryz.underlying56 Tryz.underlying119 hj hj0 HN.out.shape (show 1 < 4 by decide)]
    simp only [Result.andThen]
    rw [Oper.upon_value]
    go_wp2_with fail
    rw [run_callFunc_extern Tryz.func88 (by kernel_rfl) (by kernel_rfl) (by kernel_rfl) (e := Extern.AbiNoEscape.same) (by kernel_rfl)]
    rw [Lib.run_noEscape]
    simp only [Result.andThen]
    rw [Oper.upon_value]
    go_wp2_with fail
    rw [Lib.run_from_unsafe w ⟨b, 1, none⟩ Tryz.underlying119 Tryz.underlying56 hj HN.out.shape liesBld]
    simp only [Result.andThen]
    rw [Oper.upon_value]
    go_wp2_with fail
    go_end0
    exact ⟨rfl, HN.out.set1, only_setCell (grown_refl _ _) rfl _⟩
  · clear h k0 k2 k3 k4 hjs
    go_enter Tryz.func59, Tryz.ntmps59
    go_wp2_with fail
    rw [Lib.run_neq_ptr_same w _ Tryz.underlying56 hj]
    go_wp2_with fail
    go_end0
    exact ⟨rfl, HN.out, grown_refl _ _⟩

/-- What a builder holds. -/
def Holds8 (w : World) (B : Nat) (bv : Value) (bt : List UInt8) : Prop := w.ownsRow B 5 1 bv bt.length (Lib.byteCells bt) ∧ (bt = [] → bv = .slice none 0 0)
theorem holds8_nil (w : World) (B : Nat) : Holds8 w B (.slice none 0 0) [] := ⟨World.ownsRow_nil _ _ _ _, fun _ => rfl⟩
def WSOut (w : World) (B b : Nat) (ov : Value) (g : Int) (bt : List UInt8) (e : Ending) (w' : World) : Prop :=
  (∃ n : Int, e = .returned (.tuple #[.int .i64 n, .nilIface])) ∧ (∃ bv, NBlk w' b ov (selfB b) bv g ∧ Holds8 w' B bv bt) ∧ Keep B [90, 5] w w'

set_option maxHeartbeats 2000000 in
set_option maxRecDepth 100000 in
theorem writeString_any (B b : Nat) (ov ad bv : Value) (g : Int) (bt : List UInt8) (s : ByteArray) (w : World) (h : NBlk w b ov ad bv g) (ha : Addrs b ad) (hB : B ≤ b) (hh : Holds8 w B bv bt) (hl : bt.length + s.size ≤ 140737488355328) :
    Calls Tryz.prog 31 #[selfB b, .string s] w (WSOut w B b ov g (bt ++ s.data.toList)) := by
  have HC := Lib.hid (copyCheck_any b ov ad bv g w h ha)
  have HN := Lib.hid h
  have HH := Lib.hid hh
  have HL := Lib.hid hl
  have HBw := Lib.hid (show B ≤ w.heap.size from Nat.le_trans hB (Nat.le_of_lt (lt_of_heap h)))
  obtain ⟨i0, hi, hz0, hz1, hz2⟩ := info_parts infoU8
  have Hi := Lib.hid (And.intro hi (And.intro hz0 (And.intro hz1 hz2)))
  clear h hh hl hi hz0 hz1 hz2
  go_enter Tryz.func31, Tryz.ntmps31
  go_wp2_with fail
  refine HC.out.mono ?_
  rintro e w1 ⟨rfl, h1, g1⟩
  obtain ⟨k0, k1, k2, k3, k4⟩ := h1.cells
  have H1 := Lib.hid h1
  have K1 : Keep B [90, 5] w w1 := keep_grown g1 HBw.out fun k hk => by
    cases hk
    exact ⟨hB, _, _, _, HN.out, by simp⟩
  have O1 : w1.ownsRow B 5 1 bv bt.length (Lib.byteCells bt) := HH.out.1.kept g1 (.inr (own_ne HH.out.1 HN.out (by decide)))
  have HK1 := Lib.hid K1
  have HO1 := Lib.hid O1
  have hs1 : B ≤ w1.heap.size := Nat.le_trans HBw.out g1.size
  clear h1 g1 K1 O1 k0 k1 k3 k4
  go_wp2_with (at_builtin; refine Lib.wpList_append_own_string _ rfl (.tmp 12) (.tmp 13) 57 9 rfl B 5 i0 Tryz.underlying57 Tryz.underlying9 Hi.out.1 Hi.out.2.1 Hi.out.2.2.1 Hi.out.2.2.2 bv bt.length (Lib.byteCells bt) rfl HO1.out s rfl (by have := HL.out; unfold maxLen; omega) HL.out hs1 ?_; intro v' w2 o2 g2 i2; obtain ⟨va, vc, rfl⟩ := own_slice o2; have I2 := Lib.hid i2; clear i2; have H2 : NBlk w2 b ov (selfB b) bv g := (g2.block b (lt_of_heap H1.out) (fun e => own_ne HO1.out H1.out (by decide) e.symm)).trans H1.out; have f2 : w2.frozen? ⟨b, 2, none⟩ = false := H2.cells.2.2.2.2 2; obtain ⟨q0, q1, q2, q3, q4⟩ := H2.cells; have HH2 := Lib.hid H2; have HO2 := Lib.hid o2; have HG2 := Lib.hid g2; clear H2 o2 g2 q0 q1 q3 q4 k2)
  go_ret2
  refine ⟨⟨_, rfl⟩, ⟨_, HH2.out.set2, ?_⟩, ?_⟩
  · have hk2 : Keep B [90] w2 (w2.setCell ⟨b, 2, none⟩ (.slice va (bt.length + s.size) vc)) := keep_set HH2.out (by simp) hB _ rfl _
    have := hk2.own HO2.out (by decide)
    refine ⟨?_, fun e => ?_⟩
    · rw [List.length_append, Lib.byteCells_append]
      exact this
    · obtain ⟨e1, e2⟩ := List.append_eq_nil_iff.1 e
      exact I2.out.2 ⟨HH.out.2 e1, by rw [size_data, e2]; rfl⟩
  · exact (HK1.out.trans (keep_row HO1.out HG2.out (by simp) hs1)).trans (keep_set HH2.out (by simp) hB _ rfl _)

theorem heap_freeze (w : World) (p : Addr) (n i : Nat) (h : i ≠ p.block) : (w.freeze p n).heap[i]? = w.heap[i]? := by
  unfold World.freeze
  split
  · rfl
  · simp only [Array.getElem?_modify]
    rw [if_neg (fun e => h e.symm)]
theorem keep_freeze {B g : Nat} {ts : List TypeId} {w : World} {cs : Array Value} {e : TypeId} {fr : Nat × Nat} (hb : w.heap[g]? = some (.cells cs e fr)) (he : e ∈ ts) (hB : B ≤ g) (n : Nat) : Keep B ts w (w.freeze ⟨g, 0, none⟩ n) :=
  ⟨Lib.below_freeze (Below.refl _ _) hB n, fun i o hi ho => by
    rw [heap_freeze w _ n i (fun hh => by
      subst hh
      rw [hb] at hi
      cases hi
      exact ho he)]
    exact hi⟩
theorem Keep.drew {B : Nat} {ts : List TypeId} {a w : World} (h : Keep B ts a w) : Keep B ts a w.drew := ⟨h.below.drew, h.all⟩
theorem of_drewK {B : Nat} {ts : List TypeId} {a w : World} (h : Keep B ts a.drew w) : Keep B ts a w := ⟨⟨h.below.os, h.below.tape, h.below.output, h.below.size, h.below.block⟩, h.all⟩
def StrOut (w : World) (B : Nat) (bt : List UInt8) (e : Ending) (w' : World) : Prop := e = .returned (.string ⟨bt.toArray⟩) ∧ Keep B [5] w w'

set_option maxHeartbeats 2000000 in
set_option maxRecDepth 100000 in
theorem builderString_any (B b : Nat) (ov ad bv : Value) (g : Int) (bt : List UInt8) (w : World) (h : NBlk w b ov ad bv g) (hh : Holds8 w B bv bt) :
    Calls Tryz.prog 35 #[selfB b] w (StrOut w B bt) := by
  obtain ⟨k0, k1, k2, k3, k4⟩ := h.cells
  by_cases h0 : bt = []
  · obtain rfl := hh.2 h0
    have e0 : (⟨bt.toArray⟩ : ByteArray) = ⟨#[]⟩ := by rw [h0]
    have HE := Lib.hid (show (⟨#[]⟩ : ByteArray) = ⟨bt.toArray⟩ from e0.symm)
    have hUS : ∀ q : Option Addr, (Builtin.unsafeString_ #[95, 3] 9 #[.pointer q, .int .i64 0]).run Tryz.prog w.drew = .ok (.string .empty) w.drew := fun q => Lib.run_unsafeString_none w.drew _ _ _ q
    have hSD : (Builtin.unsafeSliceData_ #[57] 95 #[.slice none 0 0]).run Tryz.prog w.drew = .ok (.pointer none) w.drew := rfl
    have c1 : w.drew.cell? ⟨b, 2, none⟩ = some (.slice none 0 0) := k2
    clear h hh e0 h0 k0 k1 k3 k4
    go_enter Tryz.func35, Tryz.ntmps35
    go_wp2_with fail
    go_region
    all_goals (go_wp2_with fail; go_ret; exact ⟨by rw [← HE.out]; rfl, (Keep.refl _ _ _).drew⟩)
  · have hl0 : bt.length ≠ 0 := by simpa using h0
    obtain ⟨gg, cap, cur, rfl, hbg, hg, hnc, hcm, hcs, htake⟩ : ∃ gg cap cur, bv = .slice (some ⟨gg, 0, none⟩) bt.length cap ∧ B ≤ gg ∧ w.heap[gg]? = some (.cells cur 5 (0, 0)) ∧ bt.length ≤ cap ∧ cap ≤ maxLen ∧ cur.size = cap * 1 ∧ cur.toList.take (bt.length * 1) = Lib.byteCells bt := by
      rcases hh.1.2 with ⟨_, hz⟩ | ⟨gg, cap, cur, hv, r⟩
      · exact absurd hz hl0
      · exact ⟨gg, cap, cur, hv, r⟩
    have c1 : w.drew.cell? ⟨b, 2, none⟩ = some (.slice (some ⟨gg, 0, none⟩) bt.length cap) := k2
    have hSD : (Builtin.unsafeSliceData_ #[57] 95 #[.slice (some ⟨gg, 0, none⟩) bt.length cap]).run Tryz.prog w.drew = .ok (.pointer (some ⟨gg, 0, none⟩)) w.drew :=
      Lib.run_unsafeSliceData_row _ _ _ _ _ _ (by omega)
    have hUS : (Builtin.unsafeString_ #[95, 3] 9 #[.pointer (some ⟨gg, 0, none⟩), .int .i64 bt.length]).run Tryz.prog w.drew = .ok (.string ⟨bt.toArray⟩) (w.drew.freeze ⟨gg, 0, none⟩ bt.length) := by
      refine Lib.run_unsafeString_row w.drew 95 3 9 5 Tryz.underlying95 (by kernel_rfl) gg cur.size (by have hg' : w.drew.heap[gg]? = some (.cells cur 5 (0, 0)) := hg; simp [World.shape?, hg']) bt h0 (by omega) (by unfold maxLen at hcm; omega) ?_
      intro j x hx
      exact hh.1.cells (g := gg) rfl j (.int .u8 x.toNat) (by simp [Lib.byteCells, hx])
    have HG := Lib.hid hg
    have HBG := Lib.hid hbg
    clear h hh h0 hl0 k0 k1 k3 k4 hg hnc hcm hcs htake hbg
    go_enter Tryz.func35, Tryz.ntmps35
    go_wp2_with fail
    go_region
    all_goals (go_wp2_with fail; go_ret; exact ⟨rfl, (Keep.refl _ _ _).drew.trans (keep_freeze (w := w.drew) HG.out (by simp) HBG.out _)⟩)

def ResetOut (w : World) (b : Nat) (ov : Value) (g : Int) (e : Ending) (w' : World) : Prop := e = .returned (.tuple #[]) ∧ NBlk w' b ov (.pointer none) (.slice none 0 0) g ∧ w.grownBy w' (some b)
set_option maxHeartbeats 1000000 in
set_option maxRecDepth 100000 in
theorem reset_any (b : Nat) (ov ad bv : Value) (g : Int) (w : World) (h : NBlk w b ov ad bv g) :
    Calls Tryz.prog 117 #[selfB b] w (ResetOut w b ov g) := by
  obtain ⟨k0, k1, k2, k3, k4⟩ := h.cells
  have f1 := k4 1
  have f2 := k4 2
  have HN := Lib.hid h
  have hlt := lt_of_heap h
  clear h k0 k3 k4
  go_enter Tryz.func117, Tryz.ntmps117
  go_wp2_with fail
  go_end0
  exact ⟨rfl, HN.out.set1.set2, only_setCell (p := ⟨b, 2, none⟩) (only_setCell (p := ⟨b, 1, none⟩) (grown_refl _ (some b)) rfl _) rfl _⟩
end Go.Proofs.YtadookafnfnaoaaGreatDoor
/- strings.Clone: the same bytes, in new memory. -/
namespace Go.Proofs.YtadookafnfnaoaaGreatDoor
open Go.RowKit

theorem clone_any (s : ByteArray) (w : World) (hs : s.size ≤ 281474976710656) :
    Calls Tryz.prog 118 #[.string s] w fun e w' => e = .returned (.string s) ∧ Below w.heap.size w w' := by
  go_enter Tryz.func118, Tryz.ntmps118
  go_wp2_with fail
  refine (Tryz.stringslite_Clone s _ hs).mono ?_
  rintro e w1 ⟨rfl, hb1⟩
  go_wp2_with fail
  go_ret
  exact ⟨rfl, hb1⟩
end Go.Proofs.YtadookafnfnaoaaGreatDoor
/- The program's cloneAttrs: attributes in other memory. -/
namespace Go.Proofs.YtadookafnfnaoaaGreatDoor
open Go.RowKit Ch

/-- Attributes as they come up anywhere below: few, and short. -/
def SmallA (l : List (ByteArray × ByteArray)) : Prop := l.length ≤ 1048576 ∧ ∀ x ∈ l, x.1.size ≤ 1048576 ∧ x.2.size ≤ 1048576
theorem SmallA.sized {l : List (ByteArray × ByteArray)} (h : SmallA l) : Sized l := fun x hx => by
  have := h.2 x hx
  unfold maxLen
  omega
theorem flat_take_succ {l : List (ByteArray × ByteArray)} {k : Nat} (h : k < l.length) : flat (l.take (k + 1)) = flat (l.take k) ++ [.string l[k].1, .string l[k].2] := by
  rw [List.take_succ_eq_append_getElem h, flat_snoc]
theorem take_len {α : Type} {l : List α} {k : Nat} (h : k ≤ l.length) : (l.take k).length = k := by rw [List.length_take]; omega

set_option maxRecDepth 100000 in
set_option maxHeartbeats 4000000 in
theorem cloneAttrs_any (v : Value) (l : List (ByteArray × ByteArray)) (w : World) (hv : AtRow w v l) (hz : SmallA l) : Calls Tryz.prog 105 #[v] w (MergeOut w l) := by
  obtain ⟨a, cap, rfl, h1, h2, h3⟩ := hv
  have hn : l.length ≤ 9223372036854775807 := Nat.le_trans h1 h2
  have H3 := Lib.hid h3
  have Hz := Lib.hid hz
  obtain ⟨i0, hi, hz0, hz1, hz2⟩ := info_parts infoAttr
  have Hi := Lib.hid (And.intro hi (And.intro hz0 (And.intro hz1 hz2)))
  clear h1 h2 h3 hz hi hz0 hz1 hz2
  go_enter Tryz.func105, Tryz.ntmps105
  go_wp2_with fail
  go_loopw [3, 8] (fun o i wr => ∃ n : Nat, i = .int .i64 (n : Int) ∧ n ≤ l.length ∧ wr.ownsRow w.heap.size 53 2 o n (flat (l.take n)) ∧ Below w.heap.size w wr) (fun _ i _ => l.length - (intOf i).toNat)
  case atStart => exact ⟨0, rfl, Nat.zero_le _, World.ownsRow_nil _ _ _ _, Below.refl _ _⟩
  case round =>
    obtain ⟨n, rfl, hk, hown, hb⟩ := hrel
    obtain ⟨oa, oc, rfl⟩ := own_slice hown
    have HO := Lib.hid hown
    have HB := Lib.hid hb
    by_cases hlt : n < l.length
    · have hlt' : (n : Int) < (l.length : Int) := by omega
      obtain ⟨b, off, rfl, hbl, x1', z1'⟩ := H3.out n hlt
      obtain ⟨s0, s1⟩ := Hz.out.2 _ (List.getElem_mem hlt)
      have hln := Hz.out.1
      have hf := flat_take_succ hlt
      have x1 : wr.cell? ⟨b, off + n * 2, none⟩ = some (.string l[n].1) := by rw [hb.cell (by exact hbl)]; exact x1'
      have z1 : wr.cell? ⟨b, off + n * 2 + 1, none⟩ = some (.string l[n].2) := by rw [hb.cell (by exact hbl)]; exact z1'
      obtain ⟨x, hx⟩ : ∃ x, x = l[n] := ⟨_, rfl⟩
      rw [← hx] at x1 z1 hf s0 s1
      have hs0 := hb.size
      obtain ⟨W, hW⟩ : ∃ W, W = wr.alloc (.cells #[.string x.1, .string x.2] 53) := ⟨_, rfl⟩
      have BW := Lib.hid (show Below wr.heap.size wr W by rw [hW]; exact below_box _ _)
      have c0 : W.cell? ⟨wr.heap.size, 0, none⟩ = some (.string x.1) := by rw [hW]; go_simp
      have c1 : W.cell? ⟨wr.heap.size, 1, none⟩ = some (.string x.2) := by rw [hW]; go_simp
      have hlW : wr.heap.size < W.heap.size := by rw [hW]; simp
      have HW := Lib.hid hW
      have HF := Lib.hid hf
      have HN := Lib.hid (And.intro s0 (And.intro s1 hln))
      have HNE := Lib.hid (show some wr.heap.size ≠ (Value.slice oa n oc).ownBlock from fun e => by have := (hown.lt _ e.symm).2; omega)
      clear hx hown hb x1' z1' hW hf s0 s1 hln
      go_wp2_with fail
      rw [← HW.out]
      go_region_held3 (fun w' => w'.cell? ⟨wr.heap.size, 0, none⟩ = some (.string x.1) ∧ w'.cell? ⟨wr.heap.size, 1, none⟩ = some (.string x.2))
        (first
          | exact ⟨c0, c1⟩
          | exact ⟨(BA.cell (by exact hlW)).trans c0, (BA.cell (by exact hlW)).trans c1⟩
          | exact ⟨(BB.cell (by exact hlW)).trans c0, (BB.cell (by exact hlW)).trans c1⟩
          | exact ⟨((BB.alloc BB.size _).cell (by exact hlW)).trans c0, ((BB.alloc BB.size _).cell (by exact hlW)).trans c1⟩
          | exact ⟨k0, k1⟩)
        (first
          | (go_at_call_of 118 (Value.string x.1); refine (clone_any _ _ (by have := HN.out.1; omega)).mono ?_; rintro e wA ⟨rfl, hbA⟩; have BA : Below W.heap.size W wA := of_drew hbA)
          | (go_at_call_of 118 (Value.string x.2); refine (clone_any _ _ (by have := HN.out.2.1; omega)).mono ?_; rintro e wB ⟨rfl, hbB⟩; have BB : Below W.heap.size W wB := BA.trans (hbB.mono BA.size); have OB := row_below (row_below HO.out BW.out) BB)
          | (refine step_append_own rfl (.tmp 12) (.tmp 20) 46 rfl 53 i0 (.agg #[.string ⟨#[]⟩, .string ⟨#[]⟩]) 2 32 Tryz.underlying46 Hi.out.1 Hi.out.2.1 Hi.out.2.2.1 Hi.out.2.2.2 rfl (by decide) w.heap.size _ n (flat (l.take n)) rfl (OB.alloc _) ⟨wB.heap.size, 0, none⟩ 1 1 [.string x.1, .string x.2] rfl rfl (new_at2 _ _ _ _) (fun u hu => by simp at hu; rcases hu with rfl | rfl <;> rfl) (by unfold maxLen; have := HN.out.2.2; omega) (by have := HN.out.2.2; omega) (by have := BB.size; have := BW.out.size; simp; omega) ?_; intro v' wC oC gC; have k0 : wC.cell? ⟨wr.heap.size, 0, none⟩ = some (.string x.1) := gC.cell (((BB.alloc BB.size _).cell (by exact hlW)).trans c0) HNE.out; have k1 : wC.cell? ⟨wr.heap.size, 1, none⟩ = some (.string x.2) := gC.cell (((BB.alloc BB.size _).cell (by exact hlW)).trans c1) HNE.out))
      have hl1 : (l.take (n + 1)).length = n + 1 := take_len (by omega)
      have B1 : Below w.heap.size w wC := ((HB.out.trans (BW.out.mono hs0)).trans ((BB.alloc BB.size _).mono (Nat.le_trans hs0 BW.out.size))).grown gC (by have := BB.size; have := BW.out.size; simp; omega) (fun k hk => (HO.out.lt k hk).1)
      rw [← HF.out] at oC
      have OC := Lib.hid oC
      have HB1 := Lib.hid B1
      clear B1 BA BB OB k0 k1 oC gC hbA hbB c0 c1 hl1 x1 z1
      go_wp2_with fail
      go_roundw
      case rel => exact ⟨n + 1, by go_num, by omega, OC.out, HB1.out⟩
      case measure => simp [intOf]; omega
    · have hkn : n = l.length := by omega
      subst hkn
      rw [List.take_length] at hown
      have HO := Lib.hid hown
      clear hown hb
      go_wp2_with fail
      go_ret
      exact ⟨_, rfl, HO.out, HB.out⟩
end Go.Proofs.YtadookafnfnaoaaGreatDoor
/- Are two operations, two changesets the same: the program's alike and Same. -/
namespace Go.Proofs.YtadookafnfnaoaaGreatDoor
open Go.RowKit Ch

instance : DecidableEq OpD := fun x y => decidable_of_iff (x.kind = y.kind ∧ x.n = y.n ∧ x.text = y.text ∧ x.attrs = y.attrs)
  ⟨fun ⟨h1, h2, h3, h4⟩ => by cases x; cases y; simp_all, fun h => by subst h; exact ⟨rfl, rfl, rfl, rfl⟩⟩
def alikeB (x y : OpD) : Bool := decide (x.kind = y.kind ∧ x.attrs = y.attrs)
def sameOp (x y : OpD) : Bool := decide (x = y)
def sameOps (l m : List OpD) : Bool := decide (l = m)
def sameCh (f g : Int) (l m : List OpD) : Bool := decide (f = g ∧ l = m)
theorem sameOps_len {l m : List OpD} (h : l.length ≠ m.length) : sameOps l m = false := decide_eq_false fun e => h (by rw [e])
theorem sameOps_at {l m : List OpD} {n : Nat} (h1 : n < l.length) (h2 : n < m.length) (h : l[n] ≠ m[n]) : sameOps l m = false := decide_eq_false fun e => by
  subst e; exact h rfl
theorem sameOps_all {l m : List OpD} (hl : l.length = m.length) (h : ∀ j (h1 : j < l.length) (h2 : j < m.length), l[j] = m[j]) : sameOps l m = true := decide_eq_true (List.ext_getElem hl h)
theorem alikeB_kind {x y : OpD} (h : x.kind ≠ y.kind) : alikeB x y = false := decide_eq_false fun e => h e.1
theorem alikeB_same {x y : OpD} (h : x.kind = y.kind) : alikeB x y = sameB x.attrs y.attrs := by
  unfold alikeB sameB
  by_cases ha : x.attrs = y.attrs
  · rw [decide_eq_true ha, decide_eq_true ⟨h, ha⟩]
  · rw [decide_eq_false ha, decide_eq_false fun e => ha e.2]

def OutB (w : World) (r : Bool) (e : Ending) (w' : World) : Prop := e = .returned (.bool r) ∧ Below w.heap.size w w'
theorem outB_mk {w w' : World} {r r' : Bool} (h : r = r') (hb : Below w.heap.size w w') : OutB w r (.returned (.bool r')) w' := ⟨by rw [h], hb⟩

set_option maxRecDepth 100000 in
set_option maxHeartbeats 2000000 in
theorem alike_any (x y : OpD) (xv yv : Value) (w : World) (hx : AtRow w xv x.attrs) (hy : AtRow w yv y.attrs) :
    Calls Tryz.prog 103 #[opAgg x xv, opAgg y yv] w (OutB w (alikeB x y)) := by
  have Hx := Lib.hid hx
  have Hy := Lib.hid hy
  obtain ⟨a, c, rfl⟩ := hx.shape
  obtain ⟨b, d, rfl⟩ := hy.shape
  obtain ⟨W, hW⟩ : ∃ W, W = (w.alloc (.cells #[.int .i64 x.kind, .int .i64 x.n, .string x.text, .slice a x.attrs.length c] 48)).alloc (.cells #[.int .i64 y.kind, .int .i64 y.n, .string y.text, .slice b y.attrs.length d] 48) := ⟨_, rfl⟩
  have BW := Lib.hid (show Below w.heap.size w W by rw [hW]; exact ((Below.refl _ _).alloc (Nat.le_refl _) _).alloc (by simp) _)
  have c0 : W.cell? ⟨w.heap.size, 0, none⟩ = some (.int .i64 x.kind) := by rw [hW]; go_simp
  have c3 : W.cell? ⟨w.heap.size, 3, none⟩ = some (.slice a x.attrs.length c) := by rw [hW]; go_simp
  have d0 : W.cell? ⟨w.heap.size + 1, 0, none⟩ = some (.int .i64 y.kind) := by rw [hW]; go_simp
  have d3 : W.cell? ⟨w.heap.size + 1, 3, none⟩ = some (.slice b y.attrs.length d) := by rw [hW]; go_simp
  have HW := Lib.hid hW
  clear hx hy hW
  by_cases hk : x.kind = y.kind
  · have k1 : (x.kind == y.kind) = true := by rw [beq_iff_eq]; exact hk
    have hR := Lib.hid (alikeB_same hk)
    clear hk
    go_enter Tryz.func103, Tryz.ntmps103
    go_wp2_with fail
    rw [← HW.out]
    go_wp2_with fail
    refine (same_any _ _ x.attrs y.attrs _ (Hx.out.below BW.out) (Hy.out.below BW.out)).mono ?_
    rintro e w1 ⟨rfl, k, rfl⟩
    go_wp2_with fail
    go_ret
    exact outB_mk hR.out (below_drewN BW.out _)
  · have k1 : (x.kind == y.kind) = false := by rw [beq_eq_false_iff_ne]; exact hk
    have hR := Lib.hid (alikeB_kind hk)
    clear hk
    go_enter Tryz.func103, Tryz.ntmps103
    go_wp2_with fail
    rw [← HW.out]
    go_wp2_with fail
    go_ret
    exact outB_mk hR.out (BW.out)

theorem beq_text {a b : ByteArray} : (a.toList == b.toList) = decide (a = b) := by
  by_cases h : a = b
  · rw [h]; simp
  · rw [decide_eq_false h, beq_eq_false_iff_ne]
    exact fun e => h (toList_ba e)

end Go.Proofs.YtadookafnfnaoaaGreatDoor
