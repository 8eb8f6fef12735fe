/- Arguments opened: a row of bytes, four bytes, an int; the program's table, laid. -/
import Derived.Test.YtbnkpbphahjomaaDoorSb
import Derived.Deep.Slices
import Derived.SizedLaws
import Derived.ChangeArms
import Derived.ChangeSlices
import Derived.Carry
import Derived.Lib.LaidTab
import Derived.Lib.LaidU8
import Derived.LaidLaws
import Derived.MakeChecks
import Derived.Laws.IdiomArrays
import Derived.ProofKit
import Derived.WideShapes
import Derived.Deep.DeepHandedRow
namespace Go.Proofs.YtbnkpbphahjomaaDoor
open Go.RowKit Go.ChangeShapes Go.WideShapes Go.Deep Su

theorem laidOutB9 : laidOutB Tryd.prog = true := by kernel_rfl
theorem open_int9 {H : Type} {enc : TypeId × Value → H} {W : World} {base : Nat} {v : Value} {d : DataW H} {p : List MemPlace} (hv : Value.okWide Tryd.prog W .any base 3 v)
    (h : DataW.Trod enc Tryd.prog W 0 (fun _ => true) true 3 v d p) : ∃ n : Int, v = .int .i64 n ∧ -9223372036854775808 ≤ n ∧ n ≤ 9223372036854775807 := by
  obtain ⟨n, e, _, _, hw⟩ := open_int Tryd.underlying3 hv h
  simp only [Lit.wf, IntKind.min, IntKind.max, IntKind.signed, IntKind.bits, Bool.and_eq_true, decide_eq_true_eq, if_true] at hw
  exact ⟨n, e, by omega, by omega⟩
theorem byte_wf {n : Int} (h : (Lit.int IntKind.u8 n).wf = true) : ∃ x : UInt8, n = (x.toNat : Int) := by
  simp only [Lit.wf, IntKind.min, IntKind.max, IntKind.signed, IntKind.bits, Bool.and_eq_true, decide_eq_true_eq, Bool.false_eq_true, if_false] at h
  refine ⟨UInt8.ofNat n.toNat, ?_⟩
  rw [UInt8.toNat_ofNat']
  omega
theorem open_bytes {H : Type} {enc : TypeId × Value → H} {W : World} {base : Nat} {v : Value} {d : DataW H} {p : List MemPlace} (hv : Value.okWide Tryd.prog W .any base 22 v)
    (h : DataW.Trod enc Tryd.prog W 0 (fun _ => true) true 22 v d p) : ∃ l : List UInt8, BRow W v l ∧ ((d = .nil ∧ l = []) ∨ ∃ elems spare, d = .slice elems spare ∧ elems.length = l.length) := by
  obtain ⟨a, n, c, rfl⟩ := okWide_slice Tryd.underlying22 hv
  obtain ⟨fuel, hf⟩ := h
  rcases open_ints Tryd.underlying22 Tryd.underlying5 (by kernel_rfl) hf with ⟨h0, hx⟩ | ⟨a', len, cap, zs, hcs, _, hl, hm, hz, hx, hc, hw⟩
  · simp [Value.cells] at h0
    obtain ⟨rfl, rfl, rfl⟩ := h0
    exact ⟨[], ⟨none, 0, rfl, Nat.le_refl _, by simp [maxLen], fun _ => rfl, fun i hi => by simp at hi⟩, .inl ⟨by simpa using congrArg Prod.fst hx, rfl⟩⟩
  · simp [Value.cells] at hcs
    obtain ⟨rfl, rfl, rfl⟩ := hcs
    have hz' : zs.length = c := by rw [hz]; rfl
    have each : ∀ i, i < n → ∃ x : UInt8, zs.getD i 0 = (x.toNat : Int) := fun i hi => by
      have hi' : i < zs.length := by omega
      have e : zs.getD i 0 = zs[i] := by simp [List.getD, hi']
      rw [e]
      exact byte_wf (hw _ (List.getElem_mem hi'))
    obtain ⟨q, hq⟩ := choose_lt each
    have hlen : ((List.range n).map q).length = n := by simp
    refine ⟨(List.range n).map q, ⟨some a', c, by rw [hlen], by rw [hlen]; exact hl, hm, (fun e => by cases e), fun i hi => ?_⟩, .inr ⟨_, _, congrArg Prod.fst hx, by simp [lits]; omega⟩⟩
    rw [hlen] at hi
    have h0 := hc i (by omega)
    obtain ⟨b, off, spot⟩ := a'
    have hspot : spot = none := by
      have h1 := hc 0 (by omega)
      simpa [Addr.add] using World.cell?_spot h1
    subst hspot
    rw [add_at, hq i hi] at h0
    exact ⟨b, off, rfl, World.block_lt_of_cell? _ _ h0, by simpa using h0⟩
theorem reach_by {H : Type} {P : Program} {ts : List TypeId} {ds : List (DataW H)} {d : DataW H} {l : List UInt8} {j : Nat} (hsz : (DataW.weightsEach P ts ds).all (· ≤ reachBytes) = true)
    (ht : ts[j]? = some 22) (hd : ds[j]? = some d) (hu : P.underlying 22 = some (.slice 5)) (hb : P.bytesOf 5 = 1) (h : (d = .nil ∧ l = []) ∨ ∃ elems spare, d = .slice elems spare ∧ elems.length = l.length) : l.length + 8 ≤ 140737488355328 := by
  rcases h with ⟨_, rfl⟩ | ⟨elems, spare, rfl, hl⟩
  · simp
  · have := sized_slice hsz ht hd hu
    rw [hb] at this
    have h2 : reachBytes = 140737488351232 := rfl
    rw [h2] at this
    rw [← hl]
    omega
theorem open_four {H : Type} {enc : TypeId × Value → H} {W : World} {base : Nat} {v : Value} {d : DataW H} {p : List MemPlace} (hv : Value.okWide Tryd.prog W .any base 38 v)
    (h : DataW.Trod enc Tryd.prog W 0 (fun _ => true) true 38 v d p) : ∃ bs : List UInt8, v = .agg (Lib.byteCells bs).toArray ∧ bs.length = 4 := by
  simp only [Value.okWide, Tryd.underlying38] at hv
  obtain ⟨cs, rfl, hcs, _⟩ := hv
  have hC : Tryd.prog.cellsOf 38 = 4 := by kernel_rfl
  rw [hC] at hcs
  obtain ⟨fuel, hf⟩ := h
  obtain ⟨c0, c1, c2, c3, rfl⟩ : ∃ c0 c1 c2 c3, cs = #[c0, c1, c2, c3] := by
    obtain ⟨L⟩ := cs
    match L, hcs with
    | [c0, c1, c2, c3], _ => exact ⟨c0, c1, c2, c3, rfl⟩
  obtain ⟨y0, y1, y2, y3, n, _, g0, g1, g2, g3⟩ := trod_array4 Tryd.underlying38 (by kernel_rfl) (by simpa [Value.cells] using hf)
  obtain ⟨n0, e0, _, w0⟩ := DataW.trod_int Tryd.underlying5 g0
  obtain ⟨n1, e1, _, w1⟩ := DataW.trod_int Tryd.underlying5 g1
  obtain ⟨n2, e2, _, w2⟩ := DataW.trod_int Tryd.underlying5 g2
  obtain ⟨n3, e3, _, w3⟩ := DataW.trod_int Tryd.underlying5 g3
  obtain rfl : c0 = .int .u8 n0 := by simpa using e0
  obtain rfl : c1 = .int .u8 n1 := by simpa using e1
  obtain rfl : c2 = .int .u8 n2 := by simpa using e2
  obtain rfl : c3 = .int .u8 n3 := by simpa using e3
  obtain ⟨x0, rfl⟩ := byte_wf w0
  obtain ⟨x1, rfl⟩ := byte_wf w1
  obtain ⟨x2, rfl⟩ := byte_wf w2
  obtain ⟨x3, rfl⟩ := byte_wf w3
  exact ⟨[x0, x1, x2, x3], rfl, rfl⟩
theorem fo_of {L : List (String × DataW Unit)} {w : World} (h : laidMet Tryd.prog L w) (hm : ("blotter/sum.fours", Lib.tabData .u32 fours) ∈ L) : Fo w := by
  have hg : Tryd.prog.globalNamed "blotter/sum.fours" = some 0 := by kernel_rfl
  obtain ⟨g, t, cs, fuel, p, h1, h2, h3, h4⟩ := Lib.laidMet.reads h hm
  obtain rfl := Option.some.inj (hg.symm.trans h1)
  have ht : (Tryd.prog.globals[0]?).map (·.type) = some 51 := by kernel_rfl
  obtain rfl := Option.some.inj (ht.symm.trans h2)
  have hcs := Lib.cells_of_tab Tryd.underlying51 Tryd.underlying41 (by kernel_rfl) (by kernel_rfl) h4
  have hlt : 0 < w.heap.size := by
    unfold World.var? at h3
    rw [hg, Option.bind_some] at h3
    cases hh : w.heap[0]? with
    | none => rw [hh] at h3; cases h3
    | some o => exact (Array.getElem?_eq_some_iff.1 hh).1
  refine ⟨hlt, fun i hi => ?_⟩
  have hT : Lib.TabIs Tryd.prog w "blotter/sum.fours" .u32 fours := by
    unfold Lib.TabIs
    rw [h3, ← hcs]
  rw [Lib.TabIs.cell hT hg i hi, fours_at i hi]
end Go.Proofs.YtbnkpbphahjomaaDoor
