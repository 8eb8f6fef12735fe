/- Texts of this seat, put together: OpenCh. -/
import Derived.Test.YtggjeiemofkfbaaGK2
import Derived.Test.YtggjeiemofkfbaaGO1
import Derived.Deep.SlicePairs
import Derived.Deep.Slices
import Derived.Deep.Fields
import Derived.Lib.SmallJoins
import Derived.ChangeArms
import Derived.ChangeSlices
import Derived.Carry
/- Arguments opened: a changeset, its operations and their attributes; a row of whole numbers. -/
namespace Go.Proofs.Ytggjeiemofkfbaa
open Go.RowKit Go.ChangeShapes Go.WideShapes Go.Deep Go.Joins Ch

set_option maxRecDepth 100000 in
theorem open_introw {H : Type} {enc : TypeId × Value → H} {W : World} {base : Nat} {v : Value} {d : DataW H} {p : List MemPlace} (hv : Value.okWide Try.prog W .any base 41 v)
    (h : DataW.Trod enc Try.prog W 0 (fun _ => true) true 41 v d p) : ∃ zs, IntRow W v zs := by
  obtain ⟨a, n, c, rfl⟩ := okWide_slice Try.underlying41 hv
  obtain ⟨fuel, hf⟩ := h
  rcases open_ints Try.underlying41 Try.underlying3 (by kernel_rfl) hf with ⟨h0, _⟩ | ⟨a', len, cap, zs, hcs, _, hl, hm, hz, _, hi, _⟩
  · simp [Value.cells] at h0
    obtain ⟨rfl, rfl, rfl⟩ := h0
    exact ⟨[], none, 0, rfl, Nat.le_refl _, Nat.zero_le _, fun i hi => by simp at hi⟩
  · simp [Value.cells] at hcs
    obtain ⟨rfl, rfl, rfl⟩ := hcs
    have hz' : zs.length = c := hz
    have hlen : (zs.take n).length = n := by rw [List.length_take]; omega
    refine ⟨zs.take n, some a', c, by rw [hlen], by omega, hm, fun i hin => ?_⟩
    have hin' : i < n := by omega
    have hc := hi i (by omega)
    obtain ⟨b, off, spot⟩ := a'
    have hspot : spot = none := by
      have h0 := hi 0 (by omega)
      simpa [Addr.add] using World.cell?_spot h0
    subst hspot
    rw [add_plain] at hc
    have hb := World.block_lt_of_cell? _ _ hc
    refine ⟨b, off, rfl, hb, ?_⟩
    rw [hc, List.getElem_take, List.getD_eq_getElem?_getD, List.getElem?_eq_getElem (by omega)]
    rfl
end Go.Proofs.Ytggjeiemofkfbaa
