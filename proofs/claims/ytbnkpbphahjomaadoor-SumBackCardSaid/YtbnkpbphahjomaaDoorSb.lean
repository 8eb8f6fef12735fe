/- Rows of bytes in memory; the table of the program; four steps, eight steps, the sum of bytes. -/
import Derived.Test.YtbnkpbphahjomaaDoorSu
import Derived.Test.YtbnkpbphahjomaaDoorProg
import Derived.Lib.UnsafeStr
import Derived.Lib.LaidTab
import Derived.Lib.Hide
import Derived.Laws.BitsAllLaws
import Derived.Laws.OwnMore
import Derived.IntWalk
import Derived.Deep.WholeRow
import Derived.Laws.IdiomStrings
namespace Go.Proofs.YtbnkpbphahjomaaDoor
open Go.RowKit Su

theorem byteCells_at (l : List UInt8) (i : Nat) (h : i < l.length) : (Lib.byteCells l)[i]? = some (.int .u8 (l[i].toNat : Int)) := by
  rw [Lib.byteCells, List.getElem?_map, List.getElem?_eq_getElem h]; rfl
theorem add_at (b off i : Nat) : (⟨b, off, none⟩ : Addr).add i = ⟨b, off + i, none⟩ := by
  unfold Addr.add
  split
  · rename_i h; rw [h]; simp
  · rfl
/-- The value v is, in world w, a row of these bytes. -/
def BRow (w : World) (v : Value) (l : List UInt8) : Prop :=
  ∃ a cap, v = .slice a l.length cap ∧ l.length ≤ cap ∧ cap ≤ maxLen ∧ (a = none → cap = 0) ∧
    ∀ i (hi : i < l.length), ∃ b off, a = some ⟨b, off, none⟩ ∧ b < w.heap.size ∧ w.cell? ⟨b, off + i, none⟩ = some (.int .u8 (l[i].toNat : Int))
theorem BRow.below {w w' : World} {v : Value} {l : List UInt8} (h : BRow w v l) (hb : Below w.heap.size w w') : BRow w' v l := by
  obtain ⟨a, cap, h1, h2, h3, h4, h5⟩ := h
  refine ⟨a, cap, h1, h2, h3, h4, fun i hi => ?_⟩
  obtain ⟨b, off, e, hlt, hc⟩ := h5 i hi
  exact ⟨b, off, e, Nat.lt_of_lt_of_le hlt hb.size, (hb.cell (by exact hlt)).trans hc⟩
theorem BRow.len {w : World} {v : Value} {l : List UInt8} (h : BRow w v l) : l.length ≤ maxLen := by
  obtain ⟨a, cap, _, h2, h3, _⟩ := h
  omega
/-- A row of bytes of a call's own. -/
def OwnU (w : World) (B : Nat) (v : Value) (l : List UInt8) : Prop := w.ownsRow B 5 1 v l.length (Lib.byteCells l)
theorem OwnU.row {w : World} {B : Nat} {v : Value} {l : List UInt8} (h : OwnU w B v l) : BRow w v l := by
  rcases h.2 with ⟨rfl, h0⟩ | ⟨g, cap, cur, rfl, hB, hg, hn, hm, hs, ht⟩
  · refine ⟨none, 0, by rw [h0], by omega, by simp [maxLen], fun _ => rfl, fun i hi => by omega⟩
  · refine ⟨some ⟨g, 0, none⟩, cap, rfl, hn, hm, fun e => (by cases e), fun i hi => ⟨g, 0, rfl, (Array.getElem?_eq_some_iff.1 hg).1, ?_⟩⟩
    have := World.ownsRow.cells h rfl i _ (byteCells_at l i hi)
    rwa [add_at] at this
theorem OwnU.shape {w : World} {B : Nat} {v : Value} {l : List UInt8} (h : OwnU w B v l) : ∃ a cap, v = .slice a l.length cap := by
  obtain ⟨a, cap, e, _⟩ := h.row
  exact ⟨a, cap, e⟩
/-- The text of bytes. -/
def txB (l : List UInt8) : ByteArray := ⟨l.toArray⟩
theorem txB_inj {l m : List UInt8} (h : txB l = txB m) : l = m := by
  have e := congrArg (fun b => b.data.toList) h
  exact e
theorem conv_row {W : World} {v : Value} {l : List UInt8} (h : BRow W v l) : (convert 22 9 v).run Tryd.prog W = .ok (.string (txB l)) W := by
  obtain ⟨a, cap, rfl, h2, h3, h4, h5⟩ := h
  cases a with
  | none =>
    have h0 := h4 rfl
    have hl : l = [] := List.length_eq_zero_iff.1 (by omega)
    subst hl
    rw [run_convert_bytes_string W 22 9 5 none _ cap Tryd.underlying22 Tryd.underlying5 Tryd.underlying9]
    rfl
  | some a =>
    refine run_convert_bytes_back (P := Tryd.prog) W 22 9 5 a cap l Tryd.underlying22 Tryd.underlying5 Tryd.underlying9 (fun j hj => ?_)
    obtain ⟨b, off, e, _, hc⟩ := h5 j hj
    obtain rfl := Option.some.inj e
    rw [add_at]
    exact hc
/-- The table stands. -/
def Fo (w : World) : Prop := 0 < w.heap.size ∧ ∀ i, i < 16 → w.cell? ⟨0, i, none⟩ = some (.int .u32 ((steps 4 i : Nat) : Int))
theorem Fo.below {w w' : World} (h : Fo w) (hb : Below w.heap.size w w') : Fo w' :=
  ⟨Nat.lt_of_lt_of_le h.1 hb.size, fun i hi => (hb.cell (by exact h.1)).trans (h.2 i hi)⟩

set_option maxHeartbeats 1000000 in
theorem four_any (n : Nat) (w : World) (hn : n < 4294967296) (hf : Fo w) :
    Calls Tryd.prog 26 #[.int .u32 (n : Int)] w fun e w' => e = .returned (.int .u32 ((steps 4 n : Nat) : Int)) ∧ w = w' := by
  have hc := hf.2 (n % 16) (Nat.mod_lt _ (by decide))
  have h1 : steps 4 (n % 16) < 4294967296 := steps_lt (by omega)
  have h2 := u32_xor_nat (n / 16) (steps 4 (n % 16)) (by omega) h1
  have HE := Lib.hid (four_eq n)
  clear hf
  go_enter Tryd.func26, Tryd.ntmps26
  go_wp2_with fail
  go_ret
  exact ⟨by rw [HE.out, ← h2]; rfl, rfl⟩
end Go.Proofs.YtbnkpbphahjomaaDoor
