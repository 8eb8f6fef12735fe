/- Texts of this seat, put together: OpenChA, OpenRun. -/
import Derived.Test.YtlfodemmdfaeeaaGreatDoorGC1
import Derived.Test.YtlfodemmdfaeeaaGreatDoorGD2
import Derived.Test.YtlfodemmdfaeeaaGreatDoorGE4
import Derived.Deep.SlicePairs
import Derived.Deep.Slices
import Derived.Deep.Fields
import Derived.Lib.SmallJoins
import Derived.ChangeArms
import Derived.ChangeSlices
import Derived.Carry
import Derived.LaidLaws
import Derived.LaidSub
import Derived.MakeChecks
import Derived.Lib.LaidTab
import Derived.Lib.LaidU8T
import Derived.PinnedBridge
/- Arguments opened: a changeset, its operations and their attributes. -/
namespace Go.Proofs.YtlfodemmdfaeeaaGreatDoor
open Go.RowKit Go.ChangeShapes Go.WideShapes Go.Deep Go.Joins Ch

instance : Inhabited OpD := ⟨⟨0, 0, ⟨#[]⟩, []⟩⟩
theorem laidOutC : laidOutB Tryz.prog = true := by kernel_rfl
theorem structAttrC : ∃ f0 f1 : Field, Tryz.prog.underlying 88 = some (.struct #[f0, f1]) ∧ f0.offset = 0 ∧ f1.offset = 1 ∧ f0.type = 9 ∧ f1.type = 9 :=
 ⟨_, _, Tryz.underlying88, rfl, rfl, rfl, rfl⟩
theorem structOp : ∃ f0 f1 f2 f3 : Field, Tryz.prog.underlying 37 = some (.struct #[f0, f1, f2, f3]) ∧ (f0.offset = 0 ∧ f1.offset = 1 ∧ f2.offset = 2 ∧ f3.offset = 3) ∧ f0.type = 3 ∧ f1.type = 3 ∧ f2.type = 9 ∧ f3.type = 35 :=
 ⟨_, _, _, _, Tryz.underlying37, ⟨rfl, rfl, rfl, rfl⟩, rfl, rfl, rfl, rfl⟩
theorem structChange : ∃ f0 f1 : Field, Tryz.prog.underlying 25 = some (.struct #[f0, f1]) ∧ oneCellFields Tryz.prog #[f0, f1] = true ∧ f0.type = 3 ∧ f1.type = 23 :=
 ⟨_, _, Tryz.underlying25, by kernel_rfl, rfl, rfl⟩

set_option maxRecDepth 100000 in
theorem open_attrs_cell {H : Type} {enc : TypeId × Value → H} {W : World} {fuel : Nat} {c : Value} {y : DataW H × List MemPlace}
 (h : DataW.trod enc Tryz.prog W 0 (fun _ => true) true fuel 35 [c] = some y) : ∃ l, AtRow W c l ∧ Sized l ∧ Proper c := by
 obtain ⟨f0, f1, hs, o0, o1, t0, t1⟩ := structAttrC
 rcases open_slice_pairs Tryz.underlying35 hs (by kernel_rfl) o0 o1 (by rw [t0]; kernel_rfl) (by rw [t1]; kernel_rfl) h with ⟨h0, _⟩ | ⟨a', len, cap, m, k, V0, V1, D0, D1, P0, P1, hcs, _, hl, hm, hmm, _, hi⟩
 ·obtain rfl : c = .slice none 0 0 := by simpa using h0
  exact ⟨[], ⟨none, 0, rfl, Nat.le_refl _, by simp [maxLen], fun i hi => by simp at hi⟩, (fun x hx => by cases hx), fun n' c' he => by simp at he; omega⟩
 ·obtain rfl : c = .slice (some a') len cap := by simpa using hcs
  have hm' : m = cap := by rw [hmm]; rfl
  subst hm'
  have each : ∀ i, i < len → ∃ q : ByteArray × ByteArray, V0 i = .string q.1 ∧ V1 i = .string q.2 ∧ q.1.size ≤ maxLen ∧ q.2.size ≤ maxLen := fun i hin => by
   obtain ⟨_, _, g0, g1⟩ := hi i (Nat.lt_of_lt_of_le hin hl)
   rw [t0] at g0
   rw [t1] at g1
   obtain ⟨s0, e0, _, z0⟩ := DataW.trod_string Tryz.underlying9 g0
   obtain ⟨s1, e1, _, z1⟩ := DataW.trod_string Tryz.underlying9 g1
   exact ⟨(s0, s1), by simpa using e0, by simpa using e1, z0, z1⟩
  obtain ⟨q, hq⟩ := choose_lt each
  have hlen : ((List.range len).map q).length = len := by simp
  refine ⟨(List.range len).map q, ⟨some a', m, by rw [hlen], by rw [hlen]; exact hl, hm, fun i hin => ?_⟩, fun x hx => ?_, fun n' c' he => by simp at he⟩
  ·have hin' : i < len := by simpa using hin
   obtain ⟨c0, c1, _, _⟩ := hi i (Nat.lt_of_lt_of_le hin' hl)
   obtain ⟨e0, e1, _, _⟩ := hq i hin'
   rw [e0] at c0
   rw [e1] at c1
   obtain ⟨b, off, spot⟩ := a'
   have hspot : spot = none := by
    have h0 := (hi 0 (by omega)).1
    simpa [Addr.add] using World.cell?_spot h0
   subst hspot
   rw [add_plain] at c0 c1
   have hb := World.block_lt_of_cell? _ _ c0
   exact ⟨b, off, rfl, hb, by simpa using c0, by simpa [Nat.add_assoc] using c1⟩
  ·obtain ⟨i, hin, rfl⟩ := List.mem_map.1 hx
   obtain ⟨_, _, z0, z1⟩ := hq i (by simpa using hin)
   exact ⟨z0, z1⟩

set_option maxRecDepth 100000 in
/-- One operation, read. -/
theorem open_op {H : Type} {enc : TypeId × Value → H} {W : World} {fuel : Nat} {cs : List Value} {y : DataW H × List MemPlace} (h : DataW.trod enc Tryz.prog W 0 (fun _ => true) true fuel 37 cs = some y) :
 ∃ (o : OpD) (av : Value), cs = [.int .i64 o.kind, .int .i64 o.n, .string o.text, av] ∧ AtRow W av o.attrs ∧ Proper av ∧ o.text.size ≤ maxLen ∧ Sized o.attrs := by
 obtain ⟨f0, f1, f2, f3, hs, ⟨o0, o1, o2, o3⟩, t0, t1, t2, t3⟩ := structOp
 obtain ⟨xs, n, _, _, hlen, hxl, hf⟩ := DataW.trod_struct hs h
 have hC : Tryz.prog.cellsOf 37 = 4 := by kernel_rfl
 rw [hC] at hlen
 obtain ⟨c0, c1, c2, c3, rfl⟩ : ∃ c0 c1 c2 c3, cs = [c0, c1, c2, c3] := by
  match cs, hlen with
  | [c0, c1, c2, c3], _ => exact ⟨c0, c1, c2, c3, rfl⟩
 have g : ∀ (i : Nat) (hi : i < xs.length), xs[i]? = some xs[i] := fun i hi => List.getElem?_eq_getElem hi
 have hx : xs.length = 4 := hxl
 have k1 : Tryz.prog.cellsOf 3 = 1 := by kernel_rfl
 have k2 : Tryz.prog.cellsOf 9 = 1 := by kernel_rfl
 have k3 : Tryz.prog.cellsOf 35 = 1 := by kernel_rfl
 have g0 := (hf 0 f0 rfl).trans (g 0 (by omega))
 have g1 := (hf 1 f1 rfl).trans (g 1 (by omega))
 have g2 := (hf 2 f2 rfl).trans (g 2 (by omega))
 have g3 := (hf 3 f3 rfl).trans (g 3 (by omega))
 rw [o0, t0, k1] at g0
 rw [o1, t1, k1] at g1
 rw [o2, t2, k2] at g2
 rw [o3, t3, k3] at g3
 obtain ⟨n0, e0, _, _⟩ := DataW.trod_int Tryz.underlying3 g0
 obtain ⟨n1, e1, _, _⟩ := DataW.trod_int Tryz.underlying3 g1
 obtain ⟨s2, e2, _, z2⟩ := DataW.trod_string Tryz.underlying9 g2
 obtain ⟨l, r1, r2, r3⟩ := open_attrs_cell (c := c3) g3
 obtain rfl : c0 = .int .i64 n0 := by simpa using e0
 obtain rfl : c1 = .int .i64 n1 := by simpa using e1
 obtain rfl : c2 = .string s2 := by simpa using e2
 exact ⟨⟨n0, n1, s2, l⟩, c3, rfl, r1, r3, z2, r2⟩

set_option maxRecDepth 100000 in
theorem open_ops {H : Type} {enc : TypeId × Value → H} {W : World} {fuel : Nat} {c : Value} {y : DataW H × List MemPlace}
 (h : DataW.trod enc Tryz.prog W 0 (fun _ => true) true fuel 23 [c] = some y) : ∃ ops, OpRow W c ops ∧ OSized ops := by
 rcases open_slice Tryz.underlying23 h with ⟨h0, _⟩ | ⟨a, len, cap, m, n, D, Pl, hcs, _, hl, hm, hmm, _, hi⟩
 ·obtain rfl : c = .slice none 0 0 := by simpa using h0
  exact ⟨[], OpRow.nil W, fun o ho => by cases ho⟩
 ·obtain rfl : c = .slice (some a) len cap := by simpa using hcs
  have hm' : m = cap := by rw [hmm]; rfl
  subst hm'
  have hC : Tryz.prog.cellsOf 37 = 4 := by kernel_rfl
  rw [hC] at hi
  have each : ∀ i, i < len → ∃ q : OpD × Value, W.cells? 0 (a.add (i * 4)) 4 = some [.int .i64 q.1.kind, .int .i64 q.1.n, .string q.1.text, q.2] ∧ AtRow W q.2 q.1.attrs ∧ Proper q.2 ∧ q.1.text.size ≤ maxLen ∧ Sized q.1.attrs := fun i hin => by
   obtain ⟨cs', h1, h2⟩ := hi i (Nat.lt_of_lt_of_le hin hl)
   obtain ⟨o, av, rfl, r⟩ := open_op h2
   exact ⟨(o, av), h1, r⟩
  obtain ⟨q, hq⟩ := choose_lt each
  have hlen : ((List.range len).map fun i => (q i).1).length = len := by simp
  refine ⟨(List.range len).map fun i => (q i).1, ⟨some a, m, by rw [hlen], by rw [hlen]; exact hl, hm, fun i hin => ?_⟩, fun x hx => ?_⟩
  ·have hin' : i < len := by simpa using hin
   obtain ⟨h1, h2, h3, _⟩ := hq i hin'
   obtain ⟨_, _, hat⟩ := World.cells?_some h1
   obtain ⟨b, off, spot⟩ := a
   have hspot : spot = none := by
    have h0 := (World.cells?_some (hq 0 (by omega)).1).2.2 0 (by omega)
    have h0' : W.cell? ⟨b, off, spot⟩ = some (.int .i64 (q 0).1.kind) := by simpa [Addr.add] using h0
    exact World.cell?_spot h0'
   subst hspot
   have hc : ∀ j, j < 4 → W.cell? ⟨b, off + i * 4 + j, none⟩ = ([.int .i64 (q i).1.kind, .int .i64 (q i).1.n, .string (q i).1.text, (q i).2] : List Value)[j]? := fun j hj => by
    have := hat j hj
    rw [add_plain, add_plain] at this
    exact this
   have hb := World.block_lt_of_cell? _ _ (hc 0 (by omega))
   refine ⟨b, off, rfl, hb, ?_⟩
   rw [List.getElem_map, List.getElem_range]
   exact ⟨(q i).2, h2, h3, hc 0 (by omega), hc 1 (by omega), hc 2 (by omega), hc 3 (by omega)⟩
  ·obtain ⟨i, hin, rfl⟩ := List.mem_map.1 hx
   obtain ⟨_, _, _, z0, z1⟩ := hq i (by simpa using hin)
   exact ⟨z0, z1⟩

end Go.Proofs.YtlfodemmdfaeeaaGreatDoor

/- Arguments opened: a document, its runs and their attributes; what the program reads of the library. -/
namespace Go.Proofs.YtlfodemmdfaeeaaGreatDoor
open Go.RowKit Go.ChangeShapes Go.WideShapes Go.Deep Go.Joins Ch

instance : Inhabited RunD := ⟨⟨⟨#[]⟩, []⟩⟩
theorem structRun : ∃ f0 f1 : Field, Tryz.prog.underlying 77 = some (.struct #[f0, f1]) ∧ (f0.offset = 0 ∧ f1.offset = 1) ∧ f0.type = 9 ∧ f1.type = 35 :=
 ⟨_, _, Tryz.underlying77, ⟨rfl, rfl⟩, rfl, rfl⟩
set_option maxRecDepth 100000 in
theorem open_run {H : Type} {enc : TypeId × Value → H} {W : World} {fuel : Nat} {cs : List Value} {y : DataW H × List MemPlace} (h : DataW.trod enc Tryz.prog W 0 (fun _ => true) true fuel 77 cs = some y) :
 ∃ (o : RunD) (av : Value), cs = [.string o.text, av] ∧ AtRow W av o.attrs ∧ o.text.size ≤ maxLen ∧ Sized o.attrs := by
 obtain ⟨f0, f1, hs, ⟨o0, o1⟩, t0, t1⟩ := structRun
 obtain ⟨xs, n, _, _, hlen, hxl, hf⟩ := DataW.trod_struct hs h
 have hC : Tryz.prog.cellsOf 77 = 2 := by kernel_rfl
 rw [hC] at hlen
 obtain ⟨c0, c1, rfl⟩ : ∃ c0 c1, cs = [c0, c1] := by
  match cs, hlen with
  | [c0, c1], _ => exact ⟨c0, c1, rfl⟩
 have g : ∀ (i : Nat) (hi : i < xs.length), xs[i]? = some xs[i] := fun i hi => List.getElem?_eq_getElem hi
 have hx : xs.length = 2 := hxl
 have k2 : Tryz.prog.cellsOf 9 = 1 := by kernel_rfl
 have k3 : Tryz.prog.cellsOf 35 = 1 := by kernel_rfl
 have g0 := (hf 0 f0 rfl).trans (g 0 (by omega))
 have g1 := (hf 1 f1 rfl).trans (g 1 (by omega))
 rw [o0, t0, k2] at g0
 rw [o1, t1, k3] at g1
 obtain ⟨s0, e0, _, z0⟩ := DataW.trod_string Tryz.underlying9 g0
 obtain ⟨l, r1, r2, r3⟩ := open_attrs_cell (c := c1) g1
 obtain rfl : c0 = .string s0 := by simpa using e0
 exact ⟨⟨s0, l⟩, c1, rfl, r1, z0, r2⟩
set_option maxRecDepth 100000 in
theorem open_runs {H : Type} {enc : TypeId × Value → H} {W : World} {fuel : Nat} {c : Value} {y : DataW H × List MemPlace}
 (h : DataW.trod enc Tryz.prog W 0 (fun _ => true) true fuel 22 [c] = some y) : ∃ ps : List RP, RunRow W c ps ∧ RSized (ps.map (·.1)) := by
 rcases open_slice Tryz.underlying22 h with ⟨h0, _⟩ | ⟨a, len, cap, m, n, D, Pl, hcs, _, hl, hm, hmm, _, hi⟩
 ·obtain rfl : c = .slice none 0 0 := by simpa using h0
  exact ⟨[], ⟨⟨none, 0, rfl, Nat.le_refl _, Nat.zero_le _, fun _ h => absurd h (Nat.not_lt_zero _)⟩, fun p hp => by cases hp⟩, fun o ho => by cases ho⟩
 ·obtain rfl : c = .slice (some a) len cap := by simpa using hcs
  have hm' : m = cap := by rw [hmm]; rfl
  subst hm'
  have hC : Tryz.prog.cellsOf 77 = 2 := by kernel_rfl
  rw [hC] at hi
  have each : ∀ i, i < len → ∃ q : RunD × Value, W.cells? 0 (a.add (i * 2)) 2 = some [.string q.1.text, q.2] ∧ AtRow W q.2 q.1.attrs ∧ q.1.text.size ≤ maxLen ∧ Sized q.1.attrs := fun i hin => by
   obtain ⟨cs', h1, h2⟩ := hi i (Nat.lt_of_lt_of_le hin hl)
   obtain ⟨o, av, rfl, r⟩ := open_run h2
   exact ⟨(o, av), h1, r⟩
  obtain ⟨q, hq⟩ := choose_lt each
  have hlen : ((List.range len).map q).length = len := by simp
  refine ⟨(List.range len).map q, ⟨⟨some a, m, by rw [hlen], by rw [hlen]; exact hl, hm, fun i hin => ?_⟩, fun p hp => ?_⟩, fun x hx => ?_⟩
  ·have hin' : i < len := by simpa using hin
   obtain ⟨h1, h2, _⟩ := hq i hin'
   obtain ⟨_, _, hat⟩ := World.cells?_some h1
   obtain ⟨b, off, spot⟩ := a
   have hspot : spot = none := by
    have h0 := (World.cells?_some (hq 0 (by omega)).1).2.2 0 (by omega)
    have h0' : W.cell? ⟨b, off, spot⟩ = some (.string (q 0).1.text) := by simpa [Addr.add] using h0
    exact World.cell?_spot h0'
   subst hspot
   have hc : ∀ j, j < 2 → W.cell? ⟨b, off + i * 2 + j, none⟩ = ([.string (q i).1.text, (q i).2] : List Value)[j]? := fun j hj => by
    have := hat j hj
    rw [add_plain, add_plain] at this
    exact this
   have hb := World.block_lt_of_cell? _ _ (hc 0 (by omega))
   refine ⟨b, off, rfl, hb, ?_, ?_⟩
   ·rw [List.getElem_map, List.getElem_range]; exact hc 0 (by omega)
   ·rw [List.getElem_map, List.getElem_range]; exact hc 1 (by omega)
  ·obtain ⟨i, hin, rfl⟩ := List.mem_map.1 hp
   exact (hq i (by simpa using hin)).2.1
  ·obtain ⟨p, hp, rfl⟩ := List.mem_map.1 hx
   obtain ⟨i, hin, rfl⟩ := List.mem_map.1 hp
   obtain ⟨_, _, z0, z1⟩ := hq i (by simpa using hin)
   exact ⟨z0, z1⟩
set_option maxRecDepth 100000 in
theorem open_doc {H : Type} {enc : TypeId × Value → H} {W : World} {base : Nat} {v : Value} {d : DataW H} {p : List MemPlace} (hv : Value.okWide Tryz.prog W .any base 22 v)
 (h : DataW.Trod enc Tryz.prog W 0 (fun _ => true) true 22 v d p) : ∃ ps : List RP, RunRow W v ps ∧ RSized (ps.map (·.1)) := by
 obtain ⟨a, n, c, rfl⟩ := okWide_slice Tryz.underlying22 hv
 obtain ⟨fuel, hf⟩ := h
 exact open_runs (c := .slice a n c) hf
set_option maxRecDepth 100000 in
theorem open_changeP {H : Type} {enc : TypeId × Value → H} {W : World} {base : Nat} {v : Value} {d : DataW H} {p : List MemPlace} (hv : Value.okWide Tryz.prog W .any base 25 v)
 (h : DataW.Trod enc Tryz.prog W 0 (fun _ => true) true 25 v d p) : ∃ (f : Int) (x : Value) (ops : List OpD), v = chAgg f x ∧ OpRow W x ops ∧ Proper x ∧ OSized ops := by
 obtain ⟨f0, f1, hs, hone, t0, t1⟩ := structChange
 obtain ⟨v0, v1, y0, y1, n, rfl, _, _, g0, g1⟩ := open_agg2 hs hone (by kernel_rfl) hv h
 rw [t0] at g0
 rw [t1] at g1
 obtain ⟨n0, e0, _, _⟩ := DataW.trod_int Tryz.underlying3 g0
 obtain rfl : v0 = .int .i64 n0 := by simpa using e0
 obtain ⟨ops, r1, r2⟩ := open_ops g1
 refine ⟨n0, v1, ops, rfl, r1, ?_, r2⟩
 rcases open_slice Tryz.underlying23 g1 with ⟨h0, _⟩ | ⟨a, len, cap, m, n, D, Pl, hcs, _⟩
 ·obtain rfl : v1 = .slice none 0 0 := by simpa using h0
  intro n' c' he
  cases he
  exact ⟨rfl, rfl⟩
 ·obtain rfl : v1 = .slice (some a) len cap := by simpa using hcs
  intro n' c' he
  cases he
theorem var_ltD {w : World} {n : String} {g : Nat} {cs : Array Value} (hg : Tryz.prog.globalNamed n = some g) (h : w.var? Tryz.prog n = some cs) : g < w.heap.size := by
 unfold World.var? at h
 rw [hg, Option.bind_some] at h
 cases hh : w.heap[g]? with
 | none => rw [hh] at h; cases h
 | some o => exact lt_of_heap hh
set_option maxRecDepth 100000 in
theorem u8s_of {L : List (String × DataW Unit)} {w : World} (h : laidMet Tryz.prog L w) (h1 : ("unicode/utf8.first", Lib.firstData) ∈ L) (h2 : ("unicode/utf8.acceptRanges", Lib.acceptData) ∈ L) : U8s w.heap.size w := by
 have X : Go.Proofs.U8Extra Tryz.prog Tryz.lays197_ren := { n3 := by kernel_rfl, n4 := by kernel_rfl, y3 := by kernel_rfl, y4 := by kernel_rfl, c5 := by kernel_rfl, c119 := by kernel_rfl, c138 := by kernel_rfl }
 have r1 := Lib.laidMet.reads h h1
 have r2 := Lib.laidMet.reads h h2
 have L8 : Go.Proofs.U8Types Tryz.prog Tryz.lays197_ren := { Tryz.lays197 with }
 refine ⟨?_, ?_, utf8Tabs_of_readsT L8 X r1 r2⟩
 ·obtain ⟨g, t, cs, fuel, p, h1, h2, h3, h4⟩ := r1
  obtain rfl := Option.some.inj (X.n3.symm.trans h1)
  exact var_ltD X.n3 h3
 ·obtain ⟨g, t, cs, fuel, p, h1, h2, h3, h4⟩ := r2
  obtain rfl := Option.some.inj (X.n4.symm.trans h1)
  exact var_ltD X.n4 h3
end Go.Proofs.YtlfodemmdfaeeaaGreatDoor
