/- An argument of attributes, opened: a row in memory, its room, how much of it the reading took. -/
import Derived.Test.YtpbdbiconcmcfaaOpenAttr
import Derived.Test.YtpbdbiconcmcfaaAtPut
import Derived.SizedLaws
namespace Go.Proofs.Ytpbdbiconcmcfaa
open Go.RowKit Go.ChangeShapes Go.WideShapes Go.Deep

theorem open_attrs2 {H : Type} {enc : TypeId × Value → H} {W : World} {base : Nat} {v : Value} {d : DataW H} {p : List MemPlace} (hv : Value.okWide Try.prog W .any base 22 v)
    (h : DataW.Trod enc Try.prog W 0 (fun _ => true) true 22 v d p) : ∃ l, AtRow W v l ∧ Sized l ∧ Proper v ∧ ((d = .nil ∧ l = []) ∨ ∃ elems spare, d = .slice elems spare ∧ elems.length = l.length) := by
  obtain ⟨a, n, c, rfl⟩ := okWide_slice Try.underlying22 hv
  obtain ⟨fuel, hf⟩ := h
  obtain ⟨f0, f1, hs, o0, o1, t0, t1⟩ := structAttr
  rcases open_slice_pairs Try.underlying22 hs (by kernel_rfl) o0 o1 (by rw [t0]; kernel_rfl) (by rw [t1]; kernel_rfl) hf with ⟨h0, hx⟩ | ⟨a', len, cap, m, k, V0, V1, D0, D1, P0, P1, hcs, _, hl, hm, hmm, hx, hi⟩
  · simp [Value.cells] at h0
    obtain ⟨rfl, rfl, rfl⟩ := h0
    exact ⟨[], ⟨none, 0, rfl, Nat.le_refl _, by simp [maxLen], fun i hi => by simp at hi⟩, (fun x hx => by cases hx), (fun n' c' he => by simp at he; omega), .inl ⟨by simpa using congrArg Prod.fst hx, rfl⟩⟩
  · simp [Value.cells] at hcs
    obtain ⟨rfl, rfl, rfl⟩ := hcs
    have hm' : m = c := by rw [hmm]; rfl
    subst hm'
    have each : ∀ i, i < n → ∃ q : ByteArray × ByteArray, V0 i = .string q.1 ∧ V1 i = .string q.2 ∧ q.1.size ≤ maxLen ∧ q.2.size ≤ maxLen := fun i hin => by
      obtain ⟨_, _, g0, g1⟩ := hi i (Nat.lt_of_lt_of_le hin hl)
      rw [t0] at g0
      rw [t1] at g1
      obtain ⟨s0, e0, _, z0⟩ := DataW.trod_string Try.underlying9 g0
      obtain ⟨s1, e1, _, z1⟩ := DataW.trod_string Try.underlying9 g1
      exact ⟨(s0, s1), by simpa using e0, by simpa using e1, z0, z1⟩
    obtain ⟨q, hq⟩ := choose_lt each
    have hlen : ((List.range n).map q).length = n := by simp
    refine ⟨(List.range n).map q, ⟨some a', m, by rw [hlen], by rw [hlen]; exact hl, hm, fun i hin => ?_⟩, fun x hx => ?_, (fun n' c' he => by simp at he), .inr ⟨_, _, congrArg Prod.fst hx, by simp⟩⟩
    · have hin' : i < n := by simpa using hin
      obtain ⟨c0, c1, _, _⟩ := hi i (Nat.lt_of_lt_of_le hin' hl)
      obtain ⟨e0, e1, _, _⟩ := hq i hin'
      rw [e0] at c0
      rw [e1] at c1
      obtain ⟨b, off, spot⟩ := a'
      have hspot : spot = none := by
        have h0 := (hi 0 (by omega)).1
        simpa [Addr.add] using World.cell?_spot h0
      subst hspot
      rw [add_plain] at c0 c1
      have hb := World.block_lt_of_cell? _ _ c0
      exact ⟨b, off, rfl, hb, by simpa using c0, by simpa [Nat.add_assoc] using c1⟩
    · obtain ⟨i, hin, rfl⟩ := List.mem_map.1 hx
      obtain ⟨_, _, z0, z1⟩ := hq i (by simpa using hin)
      exact ⟨z0, z1⟩

theorem reach_of {H : Type} {P : Program} {ts : List TypeId} {ds : List (DataW H)} {d : DataW H} {l : List (ByteArray × ByteArray)} {j : Nat} (hsz : (DataW.weightsEach P ts ds).all (· ≤ reachBytes) = true)
    (ht : ts[j]? = some 22) (hd : ds[j]? = some d) (hu : P.underlying 22 = some (.slice 33)) (hb : P.bytesOf 33 = 32) (h : (d = .nil ∧ l = []) ∨ ∃ elems spare, d = .slice elems spare ∧ elems.length = l.length) : l.length * 32 ≤ 140737488351232 := by
  rcases h with ⟨_, rfl⟩ | ⟨elems, spare, rfl, hl⟩
  · simp
  · have := sized_slice hsz ht hd hu
    rw [hb] at this
    have h2 : reachBytes = 140737488351232 := rfl
    rw [h2] at this
    rw [← hl]
    omega
end Go.Proofs.Ytpbdbiconcmcfaa
