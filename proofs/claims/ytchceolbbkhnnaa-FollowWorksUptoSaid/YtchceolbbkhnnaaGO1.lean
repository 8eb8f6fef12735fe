import Derived.Test.YtchceolbbkhnnaaGC1
import Derived.Test.YtchceolbbkhnnaaGK1
import Derived.Test.YtchceolbbkhnnaaGL2
import Derived.Deep.SlicePairs
import Derived.Deep.Slices
import Derived.Deep.Fields
import Derived.Lib.SmallJoins
import Derived.ChangeArms
import Derived.ChangeSlices
import Derived.Carry
import Derived.Test.YtchceolbbkhnnaaRows
namespace Go.Proofs.Ytchceolbbkhnnaa
section
open Go.RowKit Go.ChangeShapes Go.WideShapes Go.Deep Go.Joins Ch
instance : Inhabited OpD := ⟨⟨0, 0, ⟨#[]⟩, []⟩⟩
theorem laidOutC : laidOutB Try.prog = true := by kernel_rfl
theorem structAttrC : ∃ f0 f1 : Field, Try.prog.underlying 81 = some (.struct #[f0, f1]) ∧ f0.offset = 0 ∧ f1.offset = 1 ∧ f0.type = 9 ∧ f1.type = 9 :=
 ⟨_, _, Try.underlying81, rfl, rfl, rfl, rfl⟩
theorem structOp : ∃ f0 f1 f2 f3 : Field, Try.prog.underlying 40 = some (.struct #[f0, f1, f2, f3]) ∧ (f0.offset = 0 ∧ f1.offset = 1 ∧ f2.offset = 2 ∧ f3.offset = 3) ∧ f0.type = 3 ∧ f1.type = 3 ∧ f2.type = 9 ∧ f3.type = 38 :=
 ⟨_, _, _, _, Try.underlying40, ⟨rfl, rfl, rfl, rfl⟩, rfl, rfl, rfl, rfl⟩
theorem structChange : ∃ f0 f1 : Field, Try.prog.underlying 24 = some (.struct #[f0, f1]) ∧ oneCellFields Try.prog #[f0, f1] = true ∧ f0.type = 3 ∧ f1.type = 22 :=
 ⟨_, _, Try.underlying24, by kernel_rfl, rfl, rfl⟩
end
section
open Go.RowKit Go.ChangeShapes Go.WideShapes Go.Deep Go.Joins Ch
theorem bulk_pos {H : Type} (d : DataW H) : 1 ≤ Rows.uptoBulk d := by
 cases d with
 | lit l => cases l <;> simp [Rows.uptoBulk]
 | nil => simp [Rows.uptoBulk]
 | ptr d => simp [Rows.uptoBulk]
 | slice a b => simp [Rows.uptoBulk]
 | agg p => simp [Rows.uptoBulk]
 | iface _ d => simp [Rows.uptoBulk]
 | map e => simp [Rows.uptoBulk]
 | held _ => simp [Rows.uptoBulk]
theorem bulk_mem {H : Type} {l : List (DataW H)} {d : DataW H} (h : d ∈ l) : Rows.uptoBulk d ≤ Rows.uptoBulkAll l := by
 induction l with
 | nil => cases h
 | cons x r ih =>
   rw [Rows.uptoBulkAll]; rcases List.mem_cons.1 h with rfl | h
   ·omega
   ·have := ih h; omega
theorem bulk_len {H : Type} (l : List (DataW H)) : l.length ≤ Rows.uptoBulkAll l := by
 induction l with
 | nil => simp [Rows.uptoBulkAll]
 | cons x r ih =>
   rw [Rows.uptoBulkAll, List.length_cons]; have := bulk_pos x; omega
theorem bulk_slice {H : Type} {es sp : List (DataW H)} {N : Nat} (h : Rows.uptoBulk (.slice es sp) ≤ N) : es.length ≤ N ∧ ∀ d ∈ es, Rows.uptoBulk d ≤ N := by
 rw [Rows.uptoBulk] at h; have h1 := bulk_len es; exact ⟨by omega, fun d hd => by have := bulk_mem hd; omega⟩
theorem bulk_agg {H : Type} {es : List (DataW H)} {N : Nat} (h : Rows.uptoBulk (.agg es) ≤ N) : ∀ d ∈ es, Rows.uptoBulk d ≤ N := fun d hd => by
 rw [Rows.uptoBulk] at h; have := bulk_mem hd; omega
theorem bulk_text {H : Type} {s : ByteArray} {N : Nat} (h : Rows.uptoBulk (.lit (.string s.data.toList) : DataW H) ≤ N) : s.size ≤ N := by
 rw [Rows.uptoBulk] at h; have e : s.data.toList.length = s.size := by simp
 omega
set_option maxRecDepth 100000 in
theorem open_attrs_cellB {H : Type} {enc : TypeId × Value → H} {W : World} {fuel : Nat} {c : Value} {y : DataW H × List MemPlace} (hb : Rows.uptoBulk y.1 ≤ 1048576)
 (h : DataW.trod enc Try.prog W 0 (fun _ => true) true fuel 38 [c] = some y) : ∃ l, AtRow W c l ∧ SmallA l ∧ Proper c := by
 obtain ⟨f0, f1, hs, o0, o1, t0, t1⟩ := structAttrC; rcases open_slice_pairs Try.underlying38 hs (by kernel_rfl) o0 o1 (by rw [t0]; kernel_rfl) (by rw [t1]; kernel_rfl) h with ⟨h0, _⟩ | ⟨a', len, cap, m, k, V0, V1, D0, D1, P0, P1, hcs, _, hl, hm, hmm, hx, hi⟩
 ·obtain rfl : c = .slice none 0 0 := by simpa using h0
  exact ⟨[], ⟨none, 0, rfl, Nat.le_refl _, by simp [maxLen], fun i hi => by simp at hi⟩, ⟨by simp, fun x hx => by cases hx⟩, fun n' c' he => by simp at he; omega⟩
 ·obtain rfl : c = .slice (some a') len cap := by simpa using hcs
  have hm' : m = cap := by rw [hmm]; rfl
  subst hm'; rw [hx] at hb; obtain ⟨hb1, hb2⟩ := bulk_slice hb; rw [List.length_map, List.length_range] at hb1; have each : ∀ i, i < len → ∃ q : ByteArray × ByteArray, V0 i = .string q.1 ∧ V1 i = .string q.2 ∧ q.1.size ≤ 1048576 ∧ q.2.size ≤ 1048576 := fun i hin => by
   obtain ⟨_, _, g0, g1⟩ := hi i (Nat.lt_of_lt_of_le hin hl); rw [t0] at g0; rw [t1] at g1; obtain ⟨s0, e0, d0, _⟩ := DataW.trod_string Try.underlying9 g0; obtain ⟨s1, e1, d1, _⟩ := DataW.trod_string Try.underlying9 g1; have hba := bulk_agg (hb2 (.agg [D0 i, D1 i]) (List.mem_map.2 ⟨i, List.mem_range.2 hin, rfl⟩)); simp only [Prod.mk.injEq] at d0 d1; have z0 := hba (D0 i) (by simp); have z1 := hba (D1 i) (by simp); rw [d0.1] at z0; rw [d1.1] at z1; exact ⟨(s0, s1), by simpa using e0, by simpa using e1, bulk_text z0, bulk_text z1⟩
  obtain ⟨q, hq⟩ := choose_lt each; have hlen : ((List.range len).map q).length = len := by simp
  refine ⟨(List.range len).map q, ⟨some a', m, by rw [hlen], by rw [hlen]; exact hl, hm, fun i hin => ?_⟩, ⟨by rw [hlen]; exact hb1, fun x hx => ?_⟩, fun n' c' he => by simp at he⟩
  ·have hin' : i < len := by simpa using hin
   obtain ⟨c0, c1, _, _⟩ := hi i (Nat.lt_of_lt_of_le hin' hl); obtain ⟨e0, e1, _, _⟩ := hq i hin'; rw [e0] at c0; rw [e1] at c1; obtain ⟨b, off, spot⟩ := a'; have hspot : spot = none := by
    have h0 := (hi 0 (by omega)).1
    simpa [Addr.add] using World.cell?_spot h0
   subst hspot; rw [add_plain] at c0 c1; have hb := World.block_lt_of_cell? _ _ c0; exact ⟨b, off, rfl, hb, by simpa using c0, by simpa [Nat.add_assoc] using c1⟩
  ·obtain ⟨i, hin, rfl⟩ := List.mem_map.1 hx
   obtain ⟨_, _, z0, z1⟩ := hq i (by simpa using hin); exact ⟨z0, z1⟩
set_option maxRecDepth 100000 in
theorem open_opB {H : Type} {enc : TypeId × Value → H} {W : World} {fuel : Nat} {cs : List Value} {y : DataW H × List MemPlace} (hb : Rows.uptoBulk y.1 ≤ 1048576) (h : DataW.trod enc Try.prog W 0 (fun _ => true) true fuel 40 cs = some y) :
 ∃ (o : OpD) (av : Value), cs = [.int .i64 o.kind, .int .i64 o.n, .string o.text, av] ∧ AtRow W av o.attrs ∧ Proper av ∧ o.text.size ≤ 1048576 ∧ SmallA o.attrs := by
 obtain ⟨f0, f1, f2, f3, hs, ⟨o0, o1, o2, o3⟩, t0, t1, t2, t3⟩ := structOp; obtain ⟨xs, n, _, hy, hlen, hxl, hf⟩ := DataW.trod_struct hs h; rw [hy] at hb; have hba := bulk_agg hb; have hC : Try.prog.cellsOf 40 = 4 := by kernel_rfl
 rw [hC] at hlen; obtain ⟨c0, c1, c2, c3, rfl⟩ : ∃ c0 c1 c2 c3, cs = [c0, c1, c2, c3] := by
  match cs, hlen with
  | [c0, c1, c2, c3], _ => exact ⟨c0, c1, c2, c3, rfl⟩
 have g : ∀ (i : Nat) (hi : i < xs.length), xs[i]? = some xs[i] := fun i hi => List.getElem?_eq_getElem hi; have hx : xs.length = 4 := hxl; have k1 : Try.prog.cellsOf 3 = 1 := by kernel_rfl
 have k2 : Try.prog.cellsOf 9 = 1 := by kernel_rfl
 have k3 : Try.prog.cellsOf 38 = 1 := by kernel_rfl
 have g0 := (hf 0 f0 rfl).trans (g 0 (by omega)); have g1 := (hf 1 f1 rfl).trans (g 1 (by omega)); have g2 := (hf 2 f2 rfl).trans (g 2 (by omega)); have g3 := (hf 3 f3 rfl).trans (g 3 (by omega)); rw [o0, t0, k1] at g0; rw [o1, t1, k1] at g1; rw [o2, t2, k2] at g2; rw [o3, t3, k3] at g3; have m2 := hba xs[2].1 (List.mem_map.2 ⟨_, List.getElem_mem (by omega), rfl⟩); have m3 := hba xs[3].1 (List.mem_map.2 ⟨_, List.getElem_mem (by omega), rfl⟩); obtain ⟨n0, e0, _, _⟩ := DataW.trod_int Try.underlying3 g0; obtain ⟨n1, e1, _, _⟩ := DataW.trod_int Try.underlying3 g1; obtain ⟨s2, e2, d2, _⟩ := DataW.trod_string Try.underlying9 g2; obtain ⟨l, r1, r2, r3⟩ := open_attrs_cellB (c := c3) m3 g3; rw [d2] at m2; obtain rfl : c0 = .int .i64 n0 := by simpa using e0
 obtain rfl : c1 = .int .i64 n1 := by simpa using e1
 obtain rfl : c2 = .string s2 := by simpa using e2
 exact ⟨⟨n0, n1, s2, l⟩, c3, rfl, r1, r3, bulk_text m2, r2⟩
set_option maxRecDepth 100000 in
theorem open_opsB {H : Type} {enc : TypeId × Value → H} {W : World} {fuel : Nat} {c : Value} {y : DataW H × List MemPlace} (hb : Rows.uptoBulk y.1 ≤ 1048576)
 (h : DataW.trod enc Try.prog W 0 (fun _ => true) true fuel 22 [c] = some y) : ∃ ops, OpRow W c ops ∧ SmallO ops := by
 rcases open_slice Try.underlying22 h with ⟨h0, _⟩ | ⟨a, len, cap, m, n, D, Pl, hcs, _, hl, hm, hmm, hx, hi⟩
 ·obtain rfl : c = .slice none 0 0 := by simpa using h0
  exact ⟨[], OpRow.nil W, by simp, fun o ho => by cases ho⟩
 ·obtain rfl : c = .slice (some a) len cap := by simpa using hcs
  have hm' : m = cap := by rw [hmm]; rfl
  subst hm'; rw [hx] at hb; obtain ⟨hb1, hb2⟩ := bulk_slice hb; rw [List.length_map, List.length_range] at hb1; have hC : Try.prog.cellsOf 40 = 4 := by kernel_rfl
  rw [hC] at hi; have each : ∀ i, i < len → ∃ q : OpD × Value, W.cells? 0 (a.add (i * 4)) 4 = some [.int .i64 q.1.kind, .int .i64 q.1.n, .string q.1.text, q.2] ∧ AtRow W q.2 q.1.attrs ∧ Proper q.2 ∧ q.1.text.size ≤ 1048576 ∧ SmallA q.1.attrs := fun i hin => by
   obtain ⟨cs', h1, h2⟩ := hi i (Nat.lt_of_lt_of_le hin hl); obtain ⟨o, av, rfl, r⟩ := open_opB (hb2 (D i) (List.mem_map.2 ⟨i, List.mem_range.2 hin, rfl⟩)) h2; exact ⟨(o, av), h1, r⟩
  obtain ⟨q, hq⟩ := choose_lt each; have hlen : ((List.range len).map fun i => (q i).1).length = len := by simp
  refine ⟨(List.range len).map fun i => (q i).1, ⟨some a, m, by rw [hlen], by rw [hlen]; exact hl, hm, fun i hin => ?_⟩, by rw [hlen]; exact hb1, fun x hx => ?_⟩
  ·have hin' : i < len := by simpa using hin
   obtain ⟨h1, h2, h3, _⟩ := hq i hin'; obtain ⟨_, _, hat⟩ := World.cells?_some h1; obtain ⟨b, off, spot⟩ := a; have hspot : spot = none := by
    have h0 := (World.cells?_some (hq 0 (by omega)).1).2.2 0 (by omega); have h0' : W.cell? ⟨b, off, spot⟩ = some (.int .i64 (q 0).1.kind) := by simpa [Addr.add] using h0
    exact World.cell?_spot h0'
   subst hspot; have hc : ∀ j, j < 4 → W.cell? ⟨b, off + i * 4 + j, none⟩ = ([.int .i64 (q i).1.kind, .int .i64 (q i).1.n, .string (q i).1.text, (q i).2] : List Value)[j]? := fun j hj => by
    have := hat j hj; rw [add_plain, add_plain] at this; exact this
   have hb := World.block_lt_of_cell? _ _ (hc 0 (by omega)); refine ⟨b, off, rfl, hb, ?_⟩; rw [List.getElem_map, List.getElem_range]; exact ⟨(q i).2, h2, h3, hc 0 (by omega), hc 1 (by omega), hc 2 (by omega), hc 3 (by omega)⟩
  ·obtain ⟨i, hin, rfl⟩ := List.mem_map.1 hx
   obtain ⟨_, _, _, z0, z1⟩ := hq i (by simpa using hin); exact ⟨z0, z1⟩
set_option maxRecDepth 100000 in
theorem open_changeB {H : Type} {enc : TypeId × Value → H} {W : World} {base : Nat} {v : Value} {d : DataW H} {p : List MemPlace} (hb : Rows.uptoBulk d ≤ 1048576) (hv : Value.okWide Try.prog W .any base 24 v)
 (h : DataW.Trod enc Try.prog W 0 (fun _ => true) true 24 v d p) : ∃ (f : Int) (x : Value) (ops : List OpD), v = chAgg f x ∧ OpRow W x ops ∧ SmallO ops := by
 obtain ⟨f0, f1, hs, hone, t0, t1⟩ := structChange; obtain ⟨v0, v1, y0, y1, n, rfl, hd, _, g0, g1⟩ := open_agg2 hs hone (by kernel_rfl) hv h; rw [t0] at g0; rw [t1] at g1; rw [hd] at hb; obtain ⟨n0, e0, _, _⟩ := DataW.trod_int Try.underlying3 g0; obtain rfl : v0 = .int .i64 n0 := by simpa using e0
 obtain ⟨ops, r1, r2⟩ := open_opsB (bulk_agg hb y1.1 (by simp)) g1; exact ⟨n0, v1, ops, rfl, r1, r2⟩
end
section
open Go.RowKit Go.ChangeShapes Go.WideShapes Go.Deep Go.Joins Ch
theorem structChs : ∃ f0 f1 : Field, Try.prog.underlying 24 = some (.struct #[f0, f1]) ∧ (f0.offset = 0 ∧ f1.offset = 1) ∧ f0.type = 3 ∧ f1.type = 22 :=
 ⟨_, _, Try.underlying24, ⟨rfl, rfl⟩, rfl, rfl⟩
set_option maxRecDepth 100000 in
theorem open_changeCB {H : Type} {enc : TypeId × Value → H} {W : World} {fuel : Nat} {cs : List Value} {y : DataW H × List MemPlace} (hb : Rows.uptoBulk y.1 ≤ 1048576) (h : DataW.trod enc Try.prog W 0 (fun _ => true) true fuel 24 cs = some y) :
 ∃ (c : Int × List OpD) (u : Value), cs = [.int .i64 c.1, u] ∧ OpRow W u c.2 ∧ SmallO c.2 := by
 obtain ⟨f0, f1, hs, ⟨o0, o1⟩, t0, t1⟩ := structChs; obtain ⟨xs, n, _, hy, hlen, hxl, hf⟩ := DataW.trod_struct hs h; rw [hy] at hb; have hba := bulk_agg hb; have hC : Try.prog.cellsOf 24 = 2 := by kernel_rfl
 rw [hC] at hlen; obtain ⟨c0, c1, rfl⟩ : ∃ c0 c1, cs = [c0, c1] := by
  match cs, hlen with
  | [c0, c1], _ => exact ⟨c0, c1, rfl⟩
 have g : ∀ (i : Nat) (hi : i < xs.length), xs[i]? = some xs[i] := fun i hi => List.getElem?_eq_getElem hi; have hx : xs.length = 2 := hxl; have k1 : Try.prog.cellsOf 3 = 1 := by kernel_rfl
 have k2 : Try.prog.cellsOf 22 = 1 := by kernel_rfl
 have g0 := (hf 0 f0 rfl).trans (g 0 (by omega)); have g1 := (hf 1 f1 rfl).trans (g 1 (by omega)); rw [o0, t0, k1] at g0; rw [o1, t1, k2] at g1; obtain ⟨n0, e0, _, _⟩ := DataW.trod_int Try.underlying3 g0; obtain rfl : c0 = .int .i64 n0 := by simpa using e0
 have m1 := hba xs[1].1 (List.mem_map.2 ⟨_, List.getElem_mem (by omega), rfl⟩); obtain ⟨ops, r1, r2⟩ := open_opsB (c := c1) m1 g1; exact ⟨(n0, ops), c1, rfl, r1, r2⟩
set_option maxRecDepth 100000 in
theorem open_changesCB {H : Type} {enc : TypeId × Value → H} {W : World} {fuel : Nat} {c : Value} {y : DataW H × List MemPlace} (hb : Rows.uptoBulk y.1 ≤ 1048576)
 (h : DataW.trod enc Try.prog W 0 (fun _ => true) true fuel 25 [c] = some y) : ∃ L, ChsRow W c L ∧ ∀ c ∈ L, SmallO c.2 := by
 rcases open_slice Try.underlying25 h with ⟨h0, _⟩ | ⟨a, len, cap, m, n, D, Pl, hcs, _, hl, hm, hmm, hx, hi⟩
 ·obtain rfl : c = .slice none 0 0 := by simpa using h0
  exact ⟨[], ⟨none, 0, rfl, Nat.le_refl _, Nat.zero_le _, fun _ h => absurd h (Nat.not_lt_zero _)⟩, fun o ho => by cases ho⟩
 ·obtain rfl : c = .slice (some a) len cap := by simpa using hcs
  have hm' : m = cap := by rw [hmm]; rfl
  subst hm'; rw [hx] at hb; obtain ⟨hb1, hb2⟩ := bulk_slice hb; have hC : Try.prog.cellsOf 24 = 2 := by kernel_rfl
  rw [hC] at hi; have each : ∀ i, i < len → ∃ q : (Int × List OpD) × Value, W.cells? 0 (a.add (i * 2)) 2 = some [.int .i64 q.1.1, q.2] ∧ OpRow W q.2 q.1.2 ∧ SmallO q.1.2 := fun i hin => by
   obtain ⟨cs', h1, h2⟩ := hi i (Nat.lt_of_lt_of_le hin hl); obtain ⟨o, av, rfl, r⟩ := open_changeCB (hb2 (D i) (List.mem_map.2 ⟨i, List.mem_range.2 hin, rfl⟩)) h2; exact ⟨(o, av), h1, r⟩
  obtain ⟨q, hq⟩ := choose_lt each; have hlen : ((List.range len).map fun i => (q i).1).length = len := by simp
  refine ⟨(List.range len).map fun i => (q i).1, ⟨some a, m, by rw [hlen], by rw [hlen]; exact hl, hm, fun i hin => ?_⟩, fun x hx => ?_⟩
  ·have hin' : i < len := by simpa using hin
   obtain ⟨h1, h2, _⟩ := hq i hin'; obtain ⟨_, _, hat⟩ := World.cells?_some h1; obtain ⟨b, off, spot⟩ := a; have hspot : spot = none := by
    have h0 := (World.cells?_some (hq 0 (by omega)).1).2.2 0 (by omega); have h0' : W.cell? ⟨b, off, spot⟩ = some (.int .i64 (q 0).1.1) := by simpa [Addr.add] using h0
    exact World.cell?_spot h0'
   subst hspot; have hc : ∀ j, j < 2 → W.cell? ⟨b, off + i * 2 + j, none⟩ = ([.int .i64 (q i).1.1, (q i).2] : List Value)[j]? := fun j hj => by
    have := hat j hj; rw [add_plain, add_plain] at this; exact this
   have hb := World.block_lt_of_cell? _ _ (hc 0 (by omega)); refine ⟨b, off, (q i).2, rfl, hb, ?_⟩; rw [List.getElem_map, List.getElem_range]; exact ⟨hc 0 (by omega), hc 1 (by omega), h2⟩
  ·obtain ⟨i, hin, rfl⟩ := List.mem_map.1 hx
   obtain ⟨_, _, z0⟩ := hq i (by simpa using hin); exact z0
set_option maxRecDepth 100000 in
theorem open_chsB {H : Type} {enc : TypeId × Value → H} {W : World} {base : Nat} {v : Value} {d : DataW H} {p : List MemPlace} (hb : Rows.uptoBulk d ≤ 1048576) (hv : Value.okWide Try.prog W .any base 25 v)
 (h : DataW.Trod enc Try.prog W 0 (fun _ => true) true 25 v d p) : ∃ L, ChsRow W v L ∧ ∀ c ∈ L, SmallO c.2 := by
 obtain ⟨a, n, c, rfl⟩ := okWide_slice Try.underlying25 hv; obtain ⟨fuel, hf⟩ := h; exact open_changesCB (c := .slice a n c) hb hf
end
end Go.Proofs.Ytchceolbbkhnnaa
