/- Rounds over 64 bytes at a time: what they keep; the bytes of five numbers. -/
import Derived.Test.YtigdmgpejmfceaaYm
import Derived.Test.YtigdmgpejmfceaaYk
import Derived.Test.YtigdmgpejmfceaaYn
namespace Go.Proofs.Ytigdmgpejmfceaa
open Go.RowKit Go.Shelf Su Yh

theorem conv_capO {w : World} {a : Option Addr} {n cap : Nat} {l : List UInt8} (h : BRow w (.slice a n cap) l) : l.length ≤ cap := by
  obtain ⟨a', cap', e, h1, _⟩ := h
  simp only [Value.slice.injEq] at e
  omega
/-- Bytes as an array, noughts behind them. -/
def arrB (l : List UInt8) (n : Nat) : Array Value := (Lib.byteCells l ++ List.replicate (n - l.length) (Value.int .u8 0)).toArray
theorem arrB_size (l : List UInt8) (n : Nat) (h : l.length ≤ n) : (arrB l n).size = n := by simp [arrB, Lib.byteCells]; omega
theorem arrB_set (l : List UInt8) (n : Nat) (x : UInt8) (h : l.length < n) : (arrB l n).setIfInBounds l.length (.int .u8 (x.toNat : Int)) = arrB (l ++ [x]) n := by
  unfold arrB
  apply Array.ext'
  rw [Array.toList_setIfInBounds]
  have hl : (Lib.byteCells l).length = l.length := by simp [Lib.byteCells]
  obtain ⟨k, hk⟩ : ∃ k, n - l.length = k + 1 := ⟨n - l.length - 1, by omega⟩
  rw [hk, List.replicate_succ, show n - (l ++ [x]).length = k by simp; omega, byteCells_append]
  simp only [Lib.byteCells] at hl ⊢
  rw [List.set_append_right _ _ (by omega), hl, Nat.sub_self]
  simp
theorem arrB_full (l : List UInt8) (n : Nat) (h : l.length = n) : arrB l n = (Lib.byteCells l).toArray := by simp [arrB, h]
theorem arrB_one (l : List UInt8) (n : Nat) : (arrB l n).all (·.oneCell') = true := by
  rw [Array.all_eq_true_iff_forall_mem]
  intro v hv
  unfold arrB at hv
  rw [List.mem_toArray, List.mem_append] at hv
  rcases hv with hv | hv
  · exact byteCells_one l v hv
  · rw [(List.mem_replicate.1 hv).2]; rfl
theorem info20 : (Try.prog.info? 35).map (fun i => (i.zero, i.size)) = some (some (.agg (arrB [] 20)), 20) := by kernel_rfl
theorem zero20 (w : World) : (zeroValue 35).run Try.prog w = .ok (.agg (arrB [] 20)) w := (zero_of_info info20).1 w
theorem size20 : (Try.prog.info? 35).map (·.size) = some 20 := (zero_of_info info20).2
abbrev TH : List TypeId := [49]
/-- What lies in memory while blocks are stirred in. -/
structure HsSt (B : Nat) (w0 : World) (rb hb bs bn : Nat) (sv nv sr : Value) (sl : List UInt8) (x : H5) (W : World) : Prop where
  below : Below B w0 W
  res : W.heap[rb]? = some (.cells (arrB [] 20) 35 (0, 0))
  hh : W.heap[hb]? = some (.cells (c5 x) 49 (0, 0))
  hs : Boxed W bs 22 sv
  hn : Boxed W bn 3 nv
  own : OwnU W B sr sl
theorem HsSt.step {B N rb hb bs bn : Nat} {w0 A A' : World} {sv nv sr : Value} {sl : List UInt8} {x : H5} (h : HsSt B w0 rb hb bs bn sv nv sr sl x A) (s : Step B N [] [] A A') : HsSt B w0 rb hb bs bn sv nv sr sl x A' :=
  ⟨h.below.trans s.below, s.cells _ _ _ _ h.res (.inl (by simp)), s.cells _ _ _ _ h.hh (.inl (by simp)), s.cells _ _ _ _ h.hs (.inl (by simp)), s.cells _ _ _ _ h.hn (.inl (by simp)), own_cells h.own (fun i cs fr hi => s.cells _ _ _ _ hi (.inl (by simp)))⟩
/-- Five numbers stored. -/
abbrev put5 (W : World) (g : Nat) (y : H5) : World := ((((W.setCell ⟨g, 0, none⟩ (.int .u32 (y.a : Int))).setCell ⟨g, 1, none⟩ (.int .u32 (y.b : Int))).setCell ⟨g, 2, none⟩ (.int .u32 (y.c : Int))).setCell ⟨g, 3, none⟩ (.int .u32 (y.d : Int))).setCell ⟨g, 4, none⟩ (.int .u32 (y.e : Int))
theorem hs_end {B N rb hb bs bn : Nat} {w0 A C : World} {sv nv sr : Value} {sl : List UInt8} {x : H5} (h : HsSt B w0 rb hb bs bn sv nv sr sl x A) (hB : B ≤ A.heap.size) (hhb : B ≤ hb) (e0 : rb ≠ hb) (e1 : bs ≠ hb) (e2 : bn ≠ hb) (hb0 : Below A.heap.size A C) (y : H5) :
    Rnd B N TH A (put5 C hb y) ∧ Kb bs bn A (put5 C hb y) ∧ HsSt B w0 rb hb bs bn sv nv sr sl y (put5 C hb y) := by
  have s1 : HsSt B w0 rb hb bs bn sv nv sr sl x C := h.step (N := 0) (step_below [] hb0 hB)
  have hk : ∀ k, k ≠ hb → (put5 C hb y).heap[k]? = C.heap[k]? := fun k hk => set5_other _ _ _ _ _ hk
  have hnb : ∀ k (o : Obj), C.heap[k]? = some o → (∀ cs fr, o ≠ .cells cs 49 fr) → k ≠ hb := fun k o ho hne e => by
    subst e
    rw [s1.hh] at ho
    exact hne _ _ (Option.some.inj ho).symm
  have r : Rnd B N TH C (put5 C hb y) := ⟨below_set5 (Below.refl _ _) hhb _ _ _ _ _, fun i cs e fr hi hne => by
      rw [hk i (hnb i _ hi (fun cs' fr' e' => by cases e'; exact hne (by simp)))]; exact hi, fun i o _ hi ho => by
      rw [hk i (hnb i o hi (fun cs' fr' e' => by rw [e'] at ho; cases ho))]; exact hi⟩
  refine ⟨(rnd_below TH hb0 hB).trans r, fun i o hi ho hc => ?_, ⟨s1.below.trans r.below, ?_, set5 s1.hh _ _ _ _ _, ?_, ?_, ?_⟩⟩
  · have h1 := (hb0.block _ (Array.getElem?_eq_some_iff.1 ho).1).trans ho
    rw [hk i (by rcases hi with rfl | rfl <;> assumption)]
    exact h1
  · rw [hk rb e0]; exact s1.res
  · show (put5 C hb y).heap[bs]? = _
    rw [hk bs e1]; exact s1.hs
  · show (put5 C hb y).heap[bn]? = _
    rw [hk bn e2]; exact s1.hn
  · exact own_cells s1.own (fun i cs fr hi => r.cells _ _ _ _ hi (by decide))
/-- The bytes of five numbers, one by one. -/
theorem out5_at (x : H5) (i : Nat) (h : i < 20) : (out5 x).take (i + 1) = (out5 x).take i ++ [UInt8.ofNat ((l5 x).getD (i / 4) 0 / 2 ^ (24 - 8 * (i % 4)))] := by
  have hl : i < (out5 x).length := by rw [out5_len]; exact h
  rw [List.take_succ_eq_append_getElem hl]
  congr 2
  have H : ∀ n, be 4 n = [UInt8.ofNat (n / 16777216), UInt8.ofNat (n / 65536), UInt8.ofNat (n / 256), UInt8.ofNat n] := fun n => by simp [be, Nat.div_div_eq_div_mul]
  have hg : (out5 x)[i]? = some ((out5 x)[i]) := List.getElem?_eq_getElem hl
  have hg2 : (out5 x)[i]? = some (UInt8.ofNat ((l5 x).getD (i / 4) 0 / 2 ^ (24 - 8 * (i % 4)))) := by
    unfold out5
    simp only [H]
    match i, h with
    | 0, _ => simp [l5]
    | 1, _ => simp [l5]
    | 2, _ => simp [l5]
    | 3, _ => simp [l5]
    | 4, _ => simp [l5]
    | 5, _ => simp [l5]
    | 6, _ => simp [l5]
    | 7, _ => simp [l5]
    | 8, _ => simp [l5]
    | 9, _ => simp [l5]
    | 10, _ => simp [l5]
    | 11, _ => simp [l5]
    | 12, _ => simp [l5]
    | 13, _ => simp [l5]
    | 14, _ => simp [l5]
    | 15, _ => simp [l5]
    | 16, _ => simp [l5]
    | 17, _ => simp [l5]
    | 18, _ => simp [l5]
    | 19, _ => simp [l5]
  rw [hg] at hg2
  exact Option.some.inj hg2
end Go.Proofs.Ytigdmgpejmfceaa
