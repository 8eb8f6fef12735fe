/- Arguments opened: a row of parts; a text's size, a row's, by the reach. -/
import Derived.Test.YtpinmkoaihjhfaaTw
import Derived.Deep.Slices
import Derived.Deep.Fields
import Derived.SizedLaws
import Derived.ChangeArms
import Derived.ChangeSlices
import Derived.ChangeMaps
import Derived.Carry
import Derived.Test.YtpinmkoaihjhfaaRows
namespace Go.Proofs.Ytpinmkoaihjhfaa
open Go.RowKit Go.ChangeShapes Go.WideShapes Go.Deep Tp

instance : Inhabited Pt := ⟨(0, 0, [])⟩
theorem laidOutB9 : laidOutB Try.prog = true := by kernel_rfl
theorem structPart : ∃ f0 f1 f2 : Field, Try.prog.underlying 25 = some (.struct #[f0, f1, f2]) ∧ (f0.offset = 0 ∧ f1.offset = 1 ∧ f2.offset = 2) ∧ f0.type = 3 ∧ f1.type = 3 ∧ f2.type = 9 :=
  ⟨_, _, _, Try.underlying25, ⟨rfl, rfl, rfl⟩, rfl, rfl, rfl⟩
theorem wf_i64 {n : Int} (h : (Lit.int IntKind.i64 n).wf = true) : inI n := by
  simp only [Lit.wf, IntKind.min, IntKind.max, IntKind.signed, IntKind.bits, Bool.and_eq_true, decide_eq_true_eq, if_true] at h
  exact ⟨by omega, by omega⟩
set_option maxRecDepth 100000 in
/-- One part, read. -/
theorem open_part {H : Type} {enc : TypeId × Value → H} {W : World} {fuel : Nat} {cs : List Value} {y : DataW H × List MemPlace} (h : DataW.trod enc Try.prog W 0 (fun _ => true) true fuel 25 cs = some y) :
    ∃ p : Pt, cs = [.int .i64 p.1, .int .i64 p.2.1, .string (txB p.2.2)] ∧ InP p ∧ p.2.2.length ≤ maxLen := by
  obtain ⟨f0, f1, f2, hs, ⟨o0, o1, o2⟩, t0, t1, t2⟩ := structPart
  obtain ⟨xs, n, _, _, hlen, hxl, hf⟩ := DataW.trod_struct hs h
  have hC : Try.prog.cellsOf 25 = 3 := by kernel_rfl
  rw [hC] at hlen
  obtain ⟨c0, c1, c2, rfl⟩ : ∃ c0 c1 c2, cs = [c0, c1, c2] := by
    match cs, hlen with
    | [c0, c1, c2], _ => exact ⟨c0, c1, c2, rfl⟩
  have g : ∀ (i : Nat) (hi : i < xs.length), xs[i]? = some xs[i] := fun i hi => List.getElem?_eq_getElem hi
  have hx : xs.length = 3 := hxl
  have k1 : Try.prog.cellsOf 3 = 1 := by kernel_rfl
  have k2 : Try.prog.cellsOf 9 = 1 := by kernel_rfl
  have g0 := (hf 0 f0 rfl).trans (g 0 (by omega))
  have g1 := (hf 1 f1 rfl).trans (g 1 (by omega))
  have g2 := (hf 2 f2 rfl).trans (g 2 (by omega))
  rw [o0, t0, k1] at g0
  rw [o1, t1, k1] at g1
  rw [o2, t2, k2] at g2
  obtain ⟨n0, e0, _, w0⟩ := DataW.trod_int Try.underlying3 g0
  obtain ⟨n1, e1, _, w1⟩ := DataW.trod_int Try.underlying3 g1
  obtain ⟨s2, e2, _, z2⟩ := DataW.trod_string Try.underlying9 g2
  obtain rfl : c0 = .int .i64 n0 := by simpa using e0
  obtain rfl : c1 = .int .i64 n1 := by simpa using e1
  obtain rfl : c2 = .string s2 := by simpa using e2
  exact ⟨(n0, n1, s2.data.toList), by rw [← tx_eta s2], ⟨wf_i64 w0, wf_i64 w1⟩, by simpa using z2⟩
set_option maxRecDepth 100000 in
theorem open_parts {H : Type} {enc : TypeId × Value → H} {W : World} {base : Nat} {v : Value} {d : DataW H} {p : List MemPlace} (hv : Value.okWide Try.prog W .any base 22 v)
    (h : DataW.Trod enc Try.prog W 0 (fun _ => true) true 22 v d p) : ∃ l : List Pt, PRow W v l ∧ SzP l ∧ ((d = .nil ∧ l = []) ∨ ∃ elems spare, d = .slice elems spare ∧ elems.length = l.length) := by
  obtain ⟨a, n, c, rfl⟩ := okWide_slice Try.underlying22 hv
  obtain ⟨fuel, hf⟩ := h
  rcases open_slice Try.underlying22 hf with ⟨h0, hx⟩ | ⟨a', len, cap, m, k, D, Pl, hcs, _, hl, hm, hmm, hx, hi⟩
  · simp [Value.cells] at h0
    obtain ⟨rfl, rfl, rfl⟩ := h0
    exact ⟨[], ⟨⟨none, 0, rfl, Nat.le_refl _, by simp [maxLen], fun _ => rfl, fun i hi => by simp at hi⟩, by simp⟩, (fun x hx => by cases hx), .inl ⟨by simpa using congrArg Prod.fst hx, rfl⟩⟩
  · simp [Value.cells] at hcs
    obtain ⟨rfl, rfl, rfl⟩ := hcs
    have hm' : m = c := by rw [hmm]; rfl
    subst hm'
    have hC : Try.prog.cellsOf 25 = 3 := by kernel_rfl
    rw [hC] at hi
    have each : ∀ i, i < n → ∃ q : Pt, W.cells? 0 (a'.add (i * 3)) 3 = some [.int .i64 q.1, .int .i64 q.2.1, .string (txB q.2.2)] ∧ InP q ∧ q.2.2.length ≤ maxLen := fun i hin => by
      obtain ⟨cs', h1, h2⟩ := hi i (Nat.lt_of_lt_of_le hin hl)
      obtain ⟨q, rfl, r⟩ := open_part h2
      exact ⟨q, h1, r⟩
    obtain ⟨q, hq⟩ := choose_lt each
    have hlen : ((List.range n).map q).length = n := by simp
    refine ⟨(List.range n).map q, ⟨⟨some a', m, by rw [hlen], by rw [hlen]; exact hl, hm, (fun e => by cases e), fun i hin => ?_⟩, fun x hx => ?_⟩, fun x hx => ?_, .inr ⟨_, _, congrArg Prod.fst hx, by simp⟩⟩
    · have hin' : i < n := by simpa using hin
      obtain ⟨h1, h2, h3⟩ := hq i hin'
      obtain ⟨_, _, hat⟩ := World.cells?_some h1
      obtain ⟨b, off, spot⟩ := a'
      have hspot : spot = none := by
        have h0 := (World.cells?_some (hq 0 (by omega)).1).2.2 0 (by omega)
        have h0' : W.cell? ⟨b, off, spot⟩ = some (.int .i64 (q 0).1) := by simpa [Addr.add] using h0
        exact World.cell?_spot h0'
      subst hspot
      have hc : ∀ j, j < 3 → W.cell? ⟨b, off + i * 3 + j, none⟩ = ([.int .i64 (q i).1, .int .i64 (q i).2.1, .string (txB (q i).2.2)] : List Value)[j]? := fun j hj => by
        have := hat j hj
        rw [add_plain, add_plain] at this
        exact this
      have hb := World.block_lt_of_cell? _ _ (hc 0 (by omega))
      refine ⟨b, off, rfl, hb, ?_⟩
      rw [List.getElem_map, List.getElem_range]
      exact ⟨hc 0 (by omega), hc 1 (by omega), hc 2 (by omega)⟩
    · obtain ⟨i, hin, rfl⟩ := List.mem_map.1 hx
      exact (hq i (by simpa using hin)).2.1
    · obtain ⟨i, hin, rfl⟩ := List.mem_map.1 hx
      have := (hq i (by simpa using hin)).2.2
      simpa [maxLen] using this
theorem reach_parts {H : Type} {P : Program} {ts : List TypeId} {ds : List (DataW H)} {d : DataW H} {l : List Pt} {j : Nat} (hsz : (DataW.weightsEach P ts ds).all (· ≤ reachBytes) = true)
    (ht : ts[j]? = some 22) (hd : ds[j]? = some d) (hu : P.underlying 22 = some (.slice 25)) (hb : P.bytesOf 25 = 32) (h : (d = .nil ∧ l = []) ∨ ∃ elems spare, d = .slice elems spare ∧ elems.length = l.length) : l.length * 32 ≤ 140737488351232 := by
  rcases h with ⟨_, rfl⟩ | ⟨elems, spare, rfl, hl⟩
  · simp
  · have := sized_slice hsz ht hd hu
    rw [hb] at this
    have h2 : reachBytes = 140737488351232 := rfl
    rw [h2] at this
    rw [← hl]
    omega
theorem reach_text {H : Type} {P : Program} {ts : List TypeId} {ds : List (DataW H)} {t : TypeId} {bytes : List UInt8} {j : Nat} (hsz : (DataW.weightsEach P ts ds).all (· ≤ reachBytes) = true)
    (ht : ts[j]? = some t) (hd : ds[j]? = some (.lit (.string bytes))) : bytes.length ≤ 140737488351232 := by
  have h := sized_string hsz ht hd
  have h2 : reachBytes = 140737488351232 := rfl
  omega
theorem bulk_pos {H : Type} (d : DataW H) : 1 ≤ Rows.uptoBulk d := by
  cases d with
  | lit l => cases l <;> simp [Rows.uptoBulk]
  | nil => simp [Rows.uptoBulk]
  | ptr d => simp [Rows.uptoBulk]
  | slice a b => simp [Rows.uptoBulk]
  | agg p => simp [Rows.uptoBulk]
  | iface _ d => simp [Rows.uptoBulk]
  | map e => simp [Rows.uptoBulk]
  | held _ => simp [Rows.uptoBulk]
theorem bulk_len {H : Type} (l : List (DataW H)) : l.length ≤ Rows.uptoBulkAll l := by
  induction l with
  | nil => simp [Rows.uptoBulkAll]
  | cons x r ih =>
    rw [Rows.uptoBulkAll, List.length_cons]
    have := bulk_pos x
    omega
end Go.Proofs.Ytpinmkoaihjhfaa
