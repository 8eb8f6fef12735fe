/- The document's examples that each law asks first: they come out right. -/
import Derived.Test.YtpjblmhhcadcbaaDoorBehind
import Derived.Test.YtpjblmhhcadcbaaDoorLines
namespace Go.Proofs.YtpjblmhhcadcbaaDoor
open Go.RowKit Rn

theorem aw_count (w : World) : Calls Tryd.prog 10 #[.string ⟨#[104, 195, 169, 108, 108, 111]⟩] w fun e w' => e = .returned (.tuple #[.int .i64 5, .int .i64 0]) ∧ Below w.heap.size w w' := by
  have h := count_any ⟨#[104, 195, 169, 108, 108, 111]⟩ w (by decide)
  have e1 : cnt (⟨#[104, 195, 169, 108, 108, 111]⟩ : ByteArray).data.toList = 5 := by decide +kernel
  have e2 : er (⟨#[104, 195, 169, 108, 108, 111]⟩ : ByteArray).data.toList = 0 := by decide +kernel
  rw [e1, e2] at h
  exact h
theorem aw_bad (w : World) : Calls Tryd.prog 10 #[.string ⟨#[255]⟩] w fun e w' => e = .returned (.tuple #[.int .i64 0, .int .i64 10]) ∧ Below w.heap.size w w' := by
  have h := count_any ⟨#[255]⟩ w (by decide)
  have e1 : cnt (⟨#[255]⟩ : ByteArray).data.toList = 0 := by decide +kernel
  have e2 : er (⟨#[255]⟩ : ByteArray).data.toList = 10 := by decide +kernel
  rw [e1, e2] at h
  exact h
theorem aw_splice (w : World) : Calls Tryd.prog 16 #[.string ⟨#[97, 98, 99]⟩, .int .i64 1, .int .i64 1, .string ⟨#[120, 121]⟩] w fun e w' => e = .returned (.tuple #[.string ⟨#[97, 120, 121, 99]⟩, .int .i64 0]) ∧ Below w.heap.size w w' :=
  splice_ok [97, 98, 99] [120, 121] 1 1 w (by unfold allOk ok; decide) (by unfold allOk ok; decide) (by decide) (by decide) (by decide) (by decide)
theorem aw_behind (w : World) : Calls Tryd.prog 19 #[.string ⟨#[97, 98, 99, 97, 98]⟩, .string ⟨#[97, 98, 97, 98]⟩] w fun e w' => e = .returned (.tuple #[.int .i64 2, .int .i64 0]) ∧ Below w.heap.size w w' :=
  Behind_ok [97, 98, 99, 97, 98] [97, 98, 97, 98] w (by unfold allOk ok; decide) (by unfold allOk ok; decide) (by decide) (by decide)
def AwLines (w : World) (e : Ending) (w' : World) : Prop := ∃ b, e = .returned (.tuple #[.slice (some ⟨b, 0, none⟩) 3 3, .int .i64 0]) ∧ Below w.heap.size w w'
theorem aw_lines (m : Int) (w : World) (hm : w.cell? ⟨0, 0, none⟩ = some (.int .i64 m)) : Calls Tryd.prog 22 #[.string ⟨#[97, 10, 10, 98]⟩] w (AwLines w) := by
  refine (lines_ok ⟨#[97, 10, 10, 98]⟩ [97, 10, 10, 98] m w (by decide +kernel) (by decide) hm).mono ?_
  rintro e w' ⟨b, rfl, _, hb⟩
  have e1 : (lns (⟨#[97, 10, 10, 98]⟩ : ByteArray).data.toList).length = 3 := by decide +kernel
  exact ⟨b, by rw [e1], hb⟩

set_option maxHeartbeats 1000000 in
theorem awake_any (m : Int) (w : World) (hm : w.cell? ⟨0, 0, none⟩ = some (.int .i64 m)) :
    Calls Tryd.prog 9 #[] w fun e w' => e = .returned (.bool true) ∧ Below w.heap.size w w' := by
  have hg := World.block_lt_of_cell? _ _ hm
  have HM := Lib.hid hm
  clear hm
  go_enter Tryd.func9, Tryd.ntmps9
  go_wp2_with fail
  refine (aw_count _).mono ?_
  rintro e w1 ⟨rfl, b1⟩
  have s1 := b1.size
  go_wp2_with fail
  refine (aw_splice _).mono ?_
  rintro e w2 ⟨rfl, b2⟩
  have s2 := b2.size
  go_wp2_with fail
  refine (aw_behind _).mono ?_
  rintro e w3 ⟨rfl, b3⟩
  have s3 := b3.size
  go_wp2_with fail
  have b13 : Below w.heap.size w w3 := (b1.trans (b2.mono s1)).trans (b3.mono (by omega))
  refine (aw_lines m _ (by rw [b13.cell (by exact hg)]; exact HM.out)).mono ?_
  rintro e w4 ⟨b, rfl, b4⟩
  have s4 := b4.size
  go_wp2_with fail
  refine (aw_bad _).mono ?_
  rintro e w5 ⟨rfl, b5⟩
  go_wp2_with fail
  go_ret
  exact ⟨rfl, (b13.trans (b4.mono (by omega))).trans (b5.mono (by omega))⟩
end Go.Proofs.YtpjblmhhcadcbaaDoor
