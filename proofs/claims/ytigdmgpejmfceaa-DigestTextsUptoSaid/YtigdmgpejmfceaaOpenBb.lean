/- Arguments opened: a row of bytes, four bytes, an int; the program's table, laid. -/
import Derived.Test.YtigdmgpejmfceaaBb
import Derived.Deep.Slices
import Derived.SizedLaws
import Derived.ChangeArms
import Derived.ChangeSlices
import Derived.Carry
import Derived.Lib.LaidTab
import Derived.Lib.LaidU8
import Derived.LaidLaws
import Derived.MakeChecks
import Derived.Laws.IdiomArrays
import Derived.ProofKit
import Derived.WideShapes
import Derived.Deep.DeepHandedRow
namespace Go.Proofs.Ytigdmgpejmfceaa
open Go.RowKit Go.ChangeShapes Go.WideShapes Go.Deep Su

theorem laidOutB9 : laidOutB Try.prog = true := by kernel_rfl
theorem byte_wf {n : Int} (h : (Lit.int IntKind.u8 n).wf = true) : ∃ x : UInt8, n = (x.toNat : Int) := by
  simp only [Lit.wf, IntKind.min, IntKind.max, IntKind.signed, IntKind.bits, Bool.and_eq_true, decide_eq_true_eq, Bool.false_eq_true, if_false] at h
  refine ⟨UInt8.ofNat n.toNat, ?_⟩
  rw [UInt8.toNat_ofNat']
  omega
theorem open_bytes {H : Type} {enc : TypeId × Value → H} {W : World} {base : Nat} {v : Value} {d : DataW H} {p : List MemPlace} (hv : Value.okWide Try.prog W .any base 22 v)
    (h : DataW.Trod enc Try.prog W 0 (fun _ => true) true 22 v d p) : ∃ l : List UInt8, BRow W v l ∧ ((d = .nil ∧ l = []) ∨ ∃ elems spare, d = .slice elems spare ∧ elems.length = l.length) := by
  obtain ⟨a, n, c, rfl⟩ := okWide_slice Try.underlying22 hv
  obtain ⟨fuel, hf⟩ := h
  rcases open_ints Try.underlying22 Try.underlying5 (by kernel_rfl) hf with ⟨h0, hx⟩ | ⟨a', len, cap, zs, hcs, _, hl, hm, hz, hx, hc, hw⟩
  · simp [Value.cells] at h0
    obtain ⟨rfl, rfl, rfl⟩ := h0
    exact ⟨[], ⟨none, 0, rfl, Nat.le_refl _, by simp [maxLen], fun _ => rfl, fun i hi => by simp at hi⟩, .inl ⟨by simpa using congrArg Prod.fst hx, rfl⟩⟩
  · simp [Value.cells] at hcs
    obtain ⟨rfl, rfl, rfl⟩ := hcs
    have hz' : zs.length = c := by rw [hz]; rfl
    have each : ∀ i, i < n → ∃ x : UInt8, zs.getD i 0 = (x.toNat : Int) := fun i hi => by
      have hi' : i < zs.length := by omega
      have e : zs.getD i 0 = zs[i] := by simp [List.getD, hi']
      rw [e]
      exact byte_wf (hw _ (List.getElem_mem hi'))
    obtain ⟨q, hq⟩ := choose_lt each
    have hlen : ((List.range n).map q).length = n := by simp
    refine ⟨(List.range n).map q, ⟨some a', c, by rw [hlen], by rw [hlen]; exact hl, hm, (fun e => by cases e), fun i hi => ?_⟩, .inr ⟨_, _, congrArg Prod.fst hx, by simp [lits]; omega⟩⟩
    rw [hlen] at hi
    have h0 := hc i (by omega)
    obtain ⟨b, off, spot⟩ := a'
    have hspot : spot = none := by
      have h1 := hc 0 (by omega)
      simpa [Addr.add] using World.cell?_spot h1
    subst hspot
    rw [add_at, hq i hi] at h0
    exact ⟨b, off, rfl, World.block_lt_of_cell? _ _ h0, by simpa using h0⟩
theorem reach_by {H : Type} {P : Program} {ts : List TypeId} {ds : List (DataW H)} {d : DataW H} {l : List UInt8} {j : Nat} (hsz : (DataW.weightsEach P ts ds).all (· ≤ reachBytes) = true)
    (ht : ts[j]? = some 22) (hd : ds[j]? = some d) (hu : P.underlying 22 = some (.slice 5)) (hb : P.bytesOf 5 = 1) (h : (d = .nil ∧ l = []) ∨ ∃ elems spare, d = .slice elems spare ∧ elems.length = l.length) : l.length + 4096 ≤ 140737488355328 := by
  rcases h with ⟨_, rfl⟩ | ⟨elems, spare, rfl, hl⟩
  · simp
  · have := sized_slice hsz ht hd hu
    rw [hb] at this
    have h2 : reachBytes = 140737488351232 := rfl
    rw [h2] at this
    rw [← hl]
    omega
end Go.Proofs.Ytigdmgpejmfceaa
