/- Texts of this seat, put together: OpenChsQ. -/
import Derived.Test.YtlfodemmdfaeeaaDoorGO1
import Derived.Test.YtlfodemmdfaeeaaDoorGH4
import Derived.Test.YtlfodemmdfaeeaaDoorGHQ
/- Arguments opened: a row of changesets. -/
namespace Go.Proofs.YtlfodemmdfaeeaaDoor
open Go.RowKit Go.ChangeShapes Go.WideShapes Go.Deep Go.Joins Ch

theorem structChs : ∃ f0 f1 : Field, Tryd.prog.underlying 25 = some (.struct #[f0, f1]) ∧ (f0.offset = 0 ∧ f1.offset = 1) ∧ f0.type = 3 ∧ f1.type = 23 :=
  ⟨_, _, Tryd.underlying25, ⟨rfl, rfl⟩, rfl, rfl⟩
set_option maxRecDepth 100000 in
theorem open_changeC {H : Type} {enc : TypeId × Value → H} {W : World} {fuel : Nat} {cs : List Value} {y : DataW H × List MemPlace} (h : DataW.trod enc Tryd.prog W 0 (fun _ => true) true fuel 25 cs = some y) :
    ∃ (c : Int × List OpD) (u : Value), cs = [.int .i64 c.1, u] ∧ OpRow W u c.2 ∧ Proper u ∧ OSized c.2 := by
  obtain ⟨f0, f1, hs, ⟨o0, o1⟩, t0, t1⟩ := structChs
  obtain ⟨xs, n, _, _, hlen, hxl, hf⟩ := DataW.trod_struct hs h
  have hC : Tryd.prog.cellsOf 25 = 2 := by kernel_rfl
  rw [hC] at hlen
  obtain ⟨c0, c1, rfl⟩ : ∃ c0 c1, cs = [c0, c1] := by
    match cs, hlen with
    | [c0, c1], _ => exact ⟨c0, c1, rfl⟩
  have g : ∀ (i : Nat) (hi : i < xs.length), xs[i]? = some xs[i] := fun i hi => List.getElem?_eq_getElem hi
  have hx : xs.length = 2 := hxl
  have k1 : Tryd.prog.cellsOf 3 = 1 := by kernel_rfl
  have k2 : Tryd.prog.cellsOf 23 = 1 := by kernel_rfl
  have g0 := (hf 0 f0 rfl).trans (g 0 (by omega))
  have g1 := (hf 1 f1 rfl).trans (g 1 (by omega))
  rw [o0, t0, k1] at g0
  rw [o1, t1, k2] at g1
  obtain ⟨n0, e0, _, _⟩ := DataW.trod_int Tryd.underlying3 g0
  obtain rfl : c0 = .int .i64 n0 := by simpa using e0
  obtain ⟨ops, r1, r2⟩ := open_ops (c := c1) g1
  refine ⟨(n0, ops), c1, rfl, r1, ?_, r2⟩
  rcases open_slice Tryd.underlying23 (show DataW.trod enc Tryd.prog W 0 (fun _ => true) true _ 23 [c1] = some _ from g1) with ⟨h0, _⟩ | ⟨a, len, cap, m, n, D, Pl, hcs, _⟩
  · obtain rfl : c1 = .slice none 0 0 := by simpa using h0
    intro n' c' he
    cases he
    exact ⟨rfl, rfl⟩
  · obtain rfl : c1 = .slice (some a) len cap := by simpa using hcs
    intro n' c' he
    cases he
set_option maxRecDepth 100000 in
theorem open_changesC {H : Type} {enc : TypeId × Value → H} {W : World} {fuel : Nat} {c : Value} {y : DataW H × List MemPlace}
    (h : DataW.trod enc Tryd.prog W 0 (fun _ => true) true fuel 39 [c] = some y) : ∃ L, ChsRowP W c L ∧ CsSized L := by
  rcases open_slice Tryd.underlying39 h with ⟨h0, _⟩ | ⟨a, len, cap, m, n, D, Pl, hcs, _, hl, hm, hmm, _, hi⟩
  · obtain rfl : c = .slice none 0 0 := by simpa using h0
    exact ⟨[], ⟨none, 0, rfl, Nat.le_refl _, Nat.zero_le _, fun _ h => absurd h (Nat.not_lt_zero _)⟩, fun o ho => by cases ho⟩
  · obtain rfl : c = .slice (some a) len cap := by simpa using hcs
    have hm' : m = cap := by rw [hmm]; rfl
    subst hm'
    have hC : Tryd.prog.cellsOf 25 = 2 := by kernel_rfl
    rw [hC] at hi
    have each : ∀ i, i < len → ∃ q : (Int × List OpD) × Value, W.cells? 0 (a.add (i * 2)) 2 = some [.int .i64 q.1.1, q.2] ∧ OpRow W q.2 q.1.2 ∧ Proper q.2 ∧ OSized q.1.2 := fun i hin => by
      obtain ⟨cs', h1, h2⟩ := hi i (Nat.lt_of_lt_of_le hin hl)
      obtain ⟨o, av, rfl, r⟩ := open_changeC h2
      exact ⟨(o, av), h1, r⟩
    obtain ⟨q, hq⟩ := choose_lt each
    have hlen : ((List.range len).map fun i => (q i).1).length = len := by simp
    refine ⟨(List.range len).map fun i => (q i).1, ⟨some a, m, by rw [hlen], by rw [hlen]; exact hl, hm, fun i hin => ?_⟩, fun x hx => ?_⟩
    · have hin' : i < len := by simpa using hin
      obtain ⟨h1, h2, h3, _⟩ := hq i hin'
      obtain ⟨_, _, hat⟩ := World.cells?_some h1
      obtain ⟨b, off, spot⟩ := a
      have hspot : spot = none := by
        have h0 := (World.cells?_some (hq 0 (by omega)).1).2.2 0 (by omega)
        have h0' : W.cell? ⟨b, off, spot⟩ = some (.int .i64 (q 0).1.1) := by simpa [Addr.add] using h0
        exact World.cell?_spot h0'
      subst hspot
      have hc : ∀ j, j < 2 → W.cell? ⟨b, off + i * 2 + j, none⟩ = ([.int .i64 (q i).1.1, (q i).2] : List Value)[j]? := fun j hj => by
        have := hat j hj
        rw [add_plain, add_plain] at this
        exact this
      have hb := World.block_lt_of_cell? _ _ (hc 0 (by omega))
      refine ⟨b, off, (q i).2, rfl, hb, ?_⟩
      rw [List.getElem_map, List.getElem_range]
      exact ⟨hc 0 (by omega), hc 1 (by omega), h2, h3⟩
    · obtain ⟨i, hin, rfl⟩ := List.mem_map.1 hx
      obtain ⟨_, _, _, z0⟩ := hq i (by simpa using hin)
      exact z0
set_option maxRecDepth 100000 in
theorem open_changes {H : Type} {enc : TypeId × Value → H} {W : World} {base : Nat} {v : Value} {d : DataW H} {p : List MemPlace} (hv : Value.okWide Tryd.prog W .any base 39 v)
    (h : DataW.Trod enc Tryd.prog W 0 (fun _ => true) true 39 v d p) : ∃ L, ChsRowP W v L ∧ CsSized L := by
  obtain ⟨a, n, c, rfl⟩ := okWide_slice Tryd.underlying39 hv
  obtain ⟨fuel, hf⟩ := h
  exact open_changesC (c := .slice a n c) hf
end Go.Proofs.YtlfodemmdfaeeaaDoor
