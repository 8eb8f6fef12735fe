/- The document's examples that each law asks first: they come out right. -/
import Derived.Test.YtpbdbiconcmcfaaAtApply
namespace Go.Proofs.Ytpbdbiconcmcfaa
open Go.RowKit At

def La : List (ByteArray × ByteArray) := [(⟨#[98]⟩, ⟨#[49]⟩), (⟨#[105]⟩, ⟨#[49]⟩)]
def Lb : List (ByteArray × ByteArray) := [(⟨#[98]⟩, ⟨#[]⟩), (⟨#[117]⟩, ⟨#[49]⟩)]
theorem aw1 : applyR La Lb = [(⟨#[105]⟩, ⟨#[49]⟩), (⟨#[117]⟩, ⟨#[49]⟩)] ∧ applyE La Lb = 0 := by decide +kernel
theorem aw2 : followR false La Lb = [(⟨#[117]⟩, ⟨#[49]⟩)] ∧ followE La Lb = 0 := by decide +kernel
theorem aw3 : invertR La Lb = [(⟨#[98]⟩, ⟨#[49]⟩), (⟨#[117]⟩, ⟨#[]⟩)] ∧ invertE La Lb = 0 := by decide +kernel
theorem aw4 : rgtE Lb = 20 := by decide +kernel
theorem aw5 : chgE Lb = 0 := by decide +kernel

theorem lit2 (w : World) (x y : ByteArray × ByteArray) (t : TypeId) : AtRow (w.alloc (.cells #[.string x.1, .string x.2, .string y.1, .string y.2] t)) (.slice (some ⟨w.heap.size, 0, none⟩) 2 2) [x, y] := by
  refine ⟨_, 2, rfl, Nat.le_refl _, by decide, fun i hi => ?_⟩
  match i, hi with
  | 0, _ => exact ⟨w.heap.size, 0, rfl, by simp, by go_simp, by go_simp⟩
  | 1, _ => exact ⟨w.heap.size, 0, rfl, by simp, by go_simp, by go_simp⟩
theorem sizedL {l : List (ByteArray × ByteArray)} (h : (l.all fun x => decide (x.1.size ≤ 64) && decide (x.2.size ≤ 64)) = true) : Sized l := fun x hx => by
  have := List.all_eq_true.1 h x hx
  simp only [Bool.and_eq_true, decide_eq_true_iff] at this
  unfold maxLen
  omega

set_option maxRecDepth 100000 in
set_option maxHeartbeats 2000000 in
theorem awake_any (w : World) : Calls Try.prog 4 #[] w fun e w' => e = .returned (.bool true) ∧ Below w.heap.size w w' := by
  go_enter Try.func4, Try.ntmps4
  go_wp2_with fail
  have r1 : AtRow ((w.alloc (Obj.cells #[.string ⟨#[98]⟩, .string ⟨#[49]⟩, .string ⟨#[105]⟩, .string ⟨#[49]⟩] 33)).alloc (Obj.cells #[.string ⟨#[98]⟩, .string ⟨#[]⟩, .string ⟨#[117]⟩, .string ⟨#[49]⟩] 33)) (.slice (some ⟨w.heap.size, 0, none⟩) 2 2) La := (lit2 w (⟨#[98]⟩, ⟨#[49]⟩) (⟨#[105]⟩, ⟨#[49]⟩) 33).below ((Below.refl _ _).alloc (Nat.le_refl _) _)
  have r2 : AtRow ((w.alloc (Obj.cells #[.string ⟨#[98]⟩, .string ⟨#[49]⟩, .string ⟨#[105]⟩, .string ⟨#[49]⟩] 33)).alloc (Obj.cells #[.string ⟨#[98]⟩, .string ⟨#[]⟩, .string ⟨#[117]⟩, .string ⟨#[49]⟩] 33)) (.slice (some ⟨w.heap.size + 1, 0, none⟩) 2 2) Lb := by
    have := lit2 (w.alloc (Obj.cells #[.string ⟨#[98]⟩, .string ⟨#[49]⟩, .string ⟨#[105]⟩, .string ⟨#[49]⟩] 33)) (⟨#[98]⟩, ⟨#[]⟩) (⟨#[117]⟩, ⟨#[49]⟩) 33
    simp at this
    exact this
  have b0 : Below w.heap.size w ((w.alloc (Obj.cells #[.string ⟨#[98]⟩, .string ⟨#[49]⟩, .string ⟨#[105]⟩, .string ⟨#[49]⟩] 33)).alloc (Obj.cells #[.string ⟨#[98]⟩, .string ⟨#[]⟩, .string ⟨#[117]⟩, .string ⟨#[49]⟩] 33)) := ((Below.refl _ _).alloc (Nat.le_refl _) _).alloc (by simp) _
  have R1 := Lib.hid r1
  have R2 := Lib.hid r2
  have B0 := Lib.hid b0
  clear r1 r2 b0
  generalize ((w.alloc (Obj.cells #[.string ⟨#[98]⟩, .string ⟨#[49]⟩, .string ⟨#[105]⟩, .string ⟨#[49]⟩] 33)).alloc (Obj.cells #[.string ⟨#[98]⟩, .string ⟨#[]⟩, .string ⟨#[117]⟩, .string ⟨#[49]⟩] 33)) = W at *
  have sL : Sized La := sizedL (by decide)
  have sM : Sized Lb := sizedL (by decide)
  have SL := Lib.hid sL
  have SM := Lib.hid sM
  clear sL sM
  refine (applyD_any _ _ La Lb _ R1.out R2.out SL.out SM.out).mono ?_
  rw [aw1.1, aw1.2]
  rintro e w1 ⟨x, rfl, o1, b1⟩
  obtain ⟨g1, k1, rfl⟩ := ownsRow_open o1 (by decide)
  have l1 := (o1.lt g1 rfl).2
  have c1 : w1.cell? ⟨g1, 0, none⟩ = some (.string ⟨#[105]⟩) := o1.cellAt 0 (by decide)
  have c2 : w1.cell? ⟨g1, 2, none⟩ = some (.string ⟨#[117]⟩) := o1.cellAt 2 (by decide)
  have C1 := Lib.hid c1
  have C2 := Lib.hid c2
  have B1 := Lib.hid b1
  have s1 := b1.size
  clear o1 c1 c2 b1
  go_wp2_with fail
  refine (followD_any false _ _ La Lb _ (R1.out.below B1.out) (R2.out.below B1.out) SL.out SM.out).mono ?_
  rw [aw2.1, aw2.2]
  rintro e w2 ⟨x2, rfl, o2, b2⟩
  obtain ⟨a2, k2, rfl⟩ := own_slice o2
  have B2 := Lib.hid b2
  have s2 := b2.size
  clear o2 b2
  go_wp2_with fail
  have B02 := Lib.hid (B1.out.trans (B2.out.mono s1))
  refine (invertD_any _ _ La Lb _ (R1.out.below B02.out) (R2.out.below B02.out) SL.out SM.out).mono ?_
  rw [aw3.1, aw3.2]
  rintro e w3 ⟨x3, rfl, o3, b3⟩
  obtain ⟨g3, k3, rfl⟩ := ownsRow_open o3 (by decide)
  have l3 := (o3.lt g3 rfl).2
  have d1 : w3.cell? ⟨g3, 1, none⟩ = some (.string ⟨#[49]⟩) := o3.cellAt 1 (by decide)
  have s3 := b3.size
  have B13 := B2.out.trans (b3.mono s2)
  have e1 : w3.cell? ⟨g1, 0, none⟩ = some (.string ⟨#[105]⟩) := by rw [B13.cell (by exact l1)]; exact C1.out
  have e2 : w3.cell? ⟨g1, 2, none⟩ = some (.string ⟨#[117]⟩) := by rw [B13.cell (by exact l1)]; exact C2.out
  have B03 := Lib.hid (B02.out.trans (b3.mono (Nat.le_trans s1 s2)))
  clear o3 b3 B13
  go_wp2_with fail
  refine (rightD_any _ Lb _ (R2.out.below B03.out) SM.out).mono ?_
  rw [aw4]
  rintro e w4 ⟨rfl, b4⟩
  have B04 := Lib.hid (B03.out.trans (b4.mono B03.out.size))
  clear b4
  go_wp2_with fail
  refine (changeD_any _ Lb _ (R2.out.below B04.out) SM.out).mono ?_
  rw [aw5]
  rintro e w5 ⟨rfl, b5⟩
  have B05 := Lib.hid (B04.out.trans (b5.mono B04.out.size))
  clear b5
  go_wp2_with fail
  go_ret
  exact ⟨rfl, B0.out.trans (B05.out.mono B0.out.size)⟩
end Go.Proofs.Ytpbdbiconcmcfaa
