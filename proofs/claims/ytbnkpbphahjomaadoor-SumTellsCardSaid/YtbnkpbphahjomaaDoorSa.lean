/- The document's examples. -/
import Derived.Test.YtbnkpbphahjomaaDoorSq
import Derived.Lib.SlBytesConst
namespace Go.Proofs.YtbnkpbphahjomaaDoor
open Go.RowKit Su

theorem brow_new {w : World} {cs : Array Value} {k : Nat} {l : List UInt8} (hk : k = l.length) (hm : l.length ≤ maxLen) (hc : cs.toList = Lib.byteCells l) : BRow (w.alloc (.cells cs 5)) (.slice (some ⟨w.heap.size, 0, none⟩) k k) l := brow_lit (heap_alloc_last w _) hk hm hc
theorem brow_new2 {w : World} {o : Obj} {cs : Array Value} {k : Nat} {l : List UInt8} (hk : k = l.length) (hm : l.length ≤ maxLen) (hc : cs.toList = Lib.byteCells l) : BRow ((w.alloc o).alloc (.cells cs 5)) (.slice (some ⟨w.heap.size + 1, 0, none⟩) k k) l := by
  have h := brow_new (w := w.alloc o) hk hm hc
  rw [show (w.alloc o).heap.size = w.heap.size + 1 by simp] at h
  exact h
theorem fits258 : fitsN 258 2 := by unfold fitsN; decide
theorem read515 : readV [1, 2, 3] 1 2 = 515 ∧ readE [1, 2, 3] 1 2 = 0 := by decide
theorem open3 : openB [1, 2, 3] = none := rfl
theorem sum9 : sum [49, 50, 51, 52, 53, 54, 55, 56, 57] = 3421780262 := by decide +kernel
set_option maxRecDepth 100000 in
set_option maxHeartbeats 4000000 in
theorem awake_any (w : World) (hf : Fo w) :
    Calls Tryd.prog 7 #[] w fun e w' => e = .returned (.bool true) ∧ Below w.heap.size w w' := by
  have H1 := Lib.hid (number_any 258 2 w (by omega) (by omega) (by omega) (by omega))
  have HR := Lib.hid (fun (W : World) (v : Value) (h : BRow W v [1, 2, 3]) => read_any v [1, 2, 3] 1 2 W h (by omega) (by omega) (by omega) (by omega))
  rw [read515.1, read515.2] at HR
  have HF := Lib.hid hf
  have HSU := Lib.hid (fun (W : World) (v : Value) (h : BRow W v [49, 50, 51, 52, 53, 54, 55, 56, 57]) (h2 : Fo W) => sum_any v _ W h h2)
  rw [sum9] at HSU
  have HO := Lib.hid (fun (W : World) (v : Value) (h : BRow W v [1, 2, 3]) (h2 : Fo W) => open_any v [1, 2, 3] W h h2 (by simp))
  clear hf
  go_enter Tryd.func7, Tryd.ntmps7
  go_wp2_with fail
  refine H1.out.mono ?_
  rintro e w1 ⟨v1, ⟨h1, rfl, ho1⟩ | ⟨h1, _⟩, hb1⟩
  · rw [show be (Int.toNat 2) (Int.toNat 258) = [1, 2] by decide] at ho1
    have HB1 := Lib.hid hb1
    obtain ⟨g1, c1, rfl⟩ := own_open ho1 (by decide)
    obtain ⟨x0, _⟩ := own_at ho1 rfl 0 (by decide)
    have hg1 := (ho1.lt g1 rfl).2
    have x0 : w1.cell? ⟨g1, 0, none⟩ = some (.int .u8 1) := x0
    have HX0 := Lib.hid x0
    clear ho1 hb1 h1 x0
    go_wp2_with fail
    refine (HR.out _ _ (brow_new (l := [1, 2, 3]) rfl (by simp [maxLen]) rfl)).mono ?_
    rintro e w2 ⟨rfl, rfl⟩
    go_wp2_with fail
    refine (HO.out _ _ (brow_new2 (l := [1, 2, 3]) rfl (by simp [maxLen]) rfl) (HF.out.below ((HB1.out.alloc HB1.out.size _).alloc (by have := HB1.out.size; simp; omega) _))).mono ?_
    rintro e w3 ⟨v3, ⟨m, hm, _⟩ | ⟨_, rfl, rfl⟩, hb4⟩
    · rw [open3] at hm; cases hm
    · have HB4 := Lib.hid (((HB1.out.alloc HB1.out.size _).alloc (by have := HB1.out.size; simp; omega) _).trans (hb4.mono (by have := HB1.out.size; simp; omega)))
      have HB41 := Lib.hid ((((Below.refl w1.heap.size w1).alloc (Nat.le_refl _) _).alloc (by simp) _).trans (hb4.mono (by simp; omega)))
      clear hb4
      have hcc := fun C => Lib.run_convert_bytes_const (P := Tryd.prog) w3 22 5 C 9 9 Tryd.underlying22 Tryd.underlying5
      go_wp2_with fail
      clear hcc
      refine (HSU.out _ _ (brow_lit (l := [49, 50, 51, 52, 53, 54, 55, 56, 57]) (heap_alloc_last w3 _) rfl (by simp [maxLen]) rfl) (HF.out.below (HB4.out.alloc HB4.out.size _))).mono ?_
      rintro e w5 ⟨rfl, hb5⟩
      have HB5 := Lib.hid ((HB4.out.alloc HB4.out.size _).trans (hb5.mono (by have := HB4.out.size; simp; omega)))
      have hx := ((((HB41.out.alloc HB41.out.size _).trans (hb5.mono (by have := HB41.out.size; simp; omega))).cell (p := ⟨g1, 0, none⟩) (by exact hg1)).trans HX0.out)
      clear hb5
      go_wp2_with fail
      go_ret
      exact ⟨rfl, HB5.out⟩
  · exact absurd fits258 h1
end Go.Proofs.YtbnkpbphahjomaaDoor
