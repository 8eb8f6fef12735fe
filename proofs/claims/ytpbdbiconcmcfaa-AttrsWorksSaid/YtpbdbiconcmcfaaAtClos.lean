/- The program's closures: the order of two attributes, and the four choices. -/
import Derived.Test.YtpbdbiconcmcfaaAtCheck
import Derived.Test.YtpbdbiconcmcfaaAtMerge
import Derived.Test.YtpbdbiconcmcfaaAtClone
namespace Go.Proofs.Ytpbdbiconcmcfaa
open Go.RowKit At

/-- A pointer to an attribute in memory, or none. -/
def PtrAt (w : World) (p : Value) (o : O) : Prop :=
  match o with
  | none => p = .pointer none
  | some z => ∃ b off, p = .pointer (some ⟨b, off, none⟩) ∧ b < w.heap.size ∧ w.cell? ⟨b, off, none⟩ = some (.string z.1) ∧ w.cell? ⟨b, off + 1, none⟩ = some (.string z.2)
theorem PtrAt.below {w w' : World} {p : Value} {o : O} (h : PtrAt w p o) (hb : Below w.heap.size w w') : PtrAt w' p o := by
  cases o with
  | none => exact h
  | some z =>
    obtain ⟨b, off, rfl, h1, h2, h3⟩ := h
    exact ⟨b, off, rfl, Nat.lt_of_lt_of_le h1 hb.size, by rw [hb.cell (by exact h1)]; exact h2, by rw [hb.cell (by exact h1)]; exact h3⟩
def ChOut (w : World) (o : O) (e : Ending) (w' : World) : Prop := ∃ p, e = .returned p ∧ PtrAt w' p o ∧ Below w.heap.size w w'

theorem emp_toList : emp.toList = [] := by rw [ByteArray.toList_eq]; rfl
theorem beq_empty {s : ByteArray} : (s = emp) ↔ s.toList = [] := ⟨fun h => by subst h; exact emp_toList, fun h => toList_ba (by rw [h, emp_toList])⟩

set_option maxHeartbeats 1000000 in
theorem order_any (x y : ByteArray × ByteArray) (w : World) :
    Calls Try.prog 33 #[.agg #[.string x.1, .string x.2], .agg #[.string y.1, .string y.2]] w fun e w' => e = .returned (.int .i64 (Lib.compareBytes x.1.data.toList y.1.data.toList)) ∧ Below w.heap.size w w' := by
  go_enter Try.func33, Try.ntmps33
  go_wp2_with fail
  refine (Try.strings_Compare _ _ _).mono ?_
  rintro e w1 ⟨rfl, rfl⟩
  go_wp2_with fail
  go_ret
  exact ⟨rfl, ((Below.refl _ _).alloc (Nat.le_refl _) _).alloc (by simp) _⟩

set_option maxHeartbeats 1000000 in
theorem chApply_any (x y : Value) (ox oy : O) (w : World) (hx : PtrAt w x ox) (hy : PtrAt w y oy) :
    Calls Try.prog 21 #[x, y] w (ChOut w (chApply ox oy)) := by
  cases oy with
  | none =>
    obtain rfl : y = .pointer none := hy
    have Hx := Lib.hid hx
    clear hx
    go_enter Try.func21, Try.ntmps21
    go_wp2_with fail
    go_ret
    exact ⟨_, rfl, Hx.out, Below.refl _ _⟩
  | some z =>
    have Hy := Lib.hid hy
    obtain ⟨b, off, rfl, h1, h2, h3⟩ := hy
    by_cases hz : z.2 = emp
    · have t0 : z.2.toList = [] := beq_empty.1 hz
      have t1 : z.2.toList.isEmpty = true := by rw [t0]; rfl
      have ho : chApply ox (some z) = none := by unfold chApply; simp only; rw [if_pos hz]
      have Ho := Lib.hid ho
      clear hz ho hx
      go_enter Try.func21, Try.ntmps21
      go_wp2_with fail
      go_ret
      refine ⟨_, rfl, ?_, Below.refl _ _⟩
      rw [Ho.out]; rfl
    · have t0 : (z.2.toList == []) = false := by rw [beq_eq_false_iff_ne]; exact fun e => hz (beq_empty.2 e)
      have t1 : z.2.toList.isEmpty = false := by cases h : z.2.toList with | nil => rw [h] at t0; cases t0 | cons _ _ => rfl
      have ho : chApply ox (some z) = some z := by unfold chApply; simp only; rw [if_neg hz]
      have Ho := Lib.hid ho
      clear hz ho hx
      go_enter Try.func21, Try.ntmps21
      go_wp2_with fail
      go_ret
      refine ⟨_, rfl, ?_, Below.refl _ _⟩
      rw [Ho.out]; exact Hy.out

set_option maxHeartbeats 1000000 in
theorem chCompose_any (x y : Value) (ox oy : O) (w : World) (hx : PtrAt w x ox) (hy : PtrAt w y oy) :
    Calls Try.prog 22 #[x, y] w (ChOut w (chCompose ox oy)) := by
  cases oy with
  | none =>
    obtain rfl : y = .pointer none := hy
    have Hx := Lib.hid hx
    clear hx
    go_enter Try.func22, Try.ntmps22
    go_wp2_with fail
    go_ret
    exact ⟨_, rfl, Hx.out, Below.refl _ _⟩
  | some z =>
    have Hy := Lib.hid hy
    obtain ⟨b, off, rfl, h1, h2, h3⟩ := hy
    clear hx
    go_enter Try.func22, Try.ntmps22
    go_wp2_with fail
    go_ret
    exact ⟨_, rfl, Hy.out, Below.refl _ _⟩

set_option maxHeartbeats 1000000 in
theorem chFollow_any (first : Bool) (c : Nat) (x y : Value) (ox oy : O) (w : World) (hc : w.cell? ⟨c, 0, none⟩ = some (.bool first)) (hx : PtrAt w x ox) (hy : PtrAt w y oy) :
    Calls Try.prog 23 #[x, y, .pointer (some ⟨c, 0, none⟩)] w (ChOut w (chFollow first ox oy)) := by
  have Hy := Lib.hid hy
  clear hy
  cases ox with
  | none =>
    obtain rfl : x = .pointer none := hx
    have ho : chFollow first none oy = oy := by unfold chFollow; rfl
    have Ho := Lib.hid ho
    clear ho
    go_enter Try.func23, Try.ntmps23
    go_wp2_with fail
    go_ret
    refine ⟨_, rfl, ?_, Below.refl _ _⟩
    rw [Ho.out]; exact Hy.out
  | some z =>
    obtain ⟨b, off, rfl, h1, h2, h3⟩ := hx
    cases first with
    | true =>
      go_enter Try.func23, Try.ntmps23
      go_wp2_with fail
      go_ret
      refine ⟨_, rfl, ?_, Below.refl _ _⟩
      exact Hy.out
    | false =>
      go_enter Try.func23, Try.ntmps23
      go_wp2_with fail
      go_ret
      refine ⟨_, rfl, ?_, Below.refl _ _⟩
      rfl

set_option maxHeartbeats 1000000 in
theorem chInvert_any (x y : Value) (ox oy : O) (w : World) (hx : PtrAt w x ox) (hy : PtrAt w y oy) :
    Calls Try.prog 24 #[x, y] w (ChOut w (chInvert ox oy)) := by
  cases oy with
  | none =>
    obtain rfl : y = .pointer none := hy
    clear hx
    go_enter Try.func24, Try.ntmps24
    go_wp2_with fail
    go_ret
    exact ⟨_, rfl, rfl, Below.refl _ _⟩
  | some z =>
    obtain ⟨b, off, rfl, h1, h2, h3⟩ := hy
    cases ox with
    | none =>
      obtain rfl : x = .pointer none := hx
      by_cases hz : emp = z.2
      · have t0 : ([] == z.2.toList) = true := by rw [beq_empty.1 hz.symm]; rfl
        have t1 : z.2.toList.isEmpty = true := by rw [beq_empty.1 hz.symm]; rfl
        have ho : chInvert none (some z) = none := by unfold chInvert; simp only [Option.getD_none]; rw [if_pos hz]
        have Ho := Lib.hid ho
        clear hz ho
        go_enter Try.func24, Try.ntmps24
        go_wp2_with fail
        go_quiet (fail)
        go_wp2_with fail
        go_ret
        refine ⟨_, rfl, ?_, below_drewN ((Below.refl _ _).alloc (Nat.le_refl _) _) _⟩
        rw [Ho.out]; rfl
      · have t0 : ([] == z.2.toList) = false := by rw [beq_eq_false_iff_ne]; exact fun e => hz (beq_empty.2 e.symm).symm
        have t1 : z.2.toList.isEmpty = false := by cases h : z.2.toList with | nil => rw [h] at t0; cases t0 | cons _ _ => rfl
        have ho : chInvert none (some z) = some (z.1, emp) := by unfold chInvert; simp only [Option.getD_none]; rw [if_neg hz]
        have Ho := Lib.hid ho
        clear hz ho
        go_enter Try.func24, Try.ntmps24
        go_wp2_with fail
        go_quiet (fail)
        go_wp2_with fail
        go_ret
        refine ⟨_, rfl, ?_, below_drewN ((Below.refl _ _).alloc (Nat.le_refl _) _) _⟩
        rw [Ho.out]
        exact ⟨w.heap.size, 0, rfl, by simp, by go_simp, by go_simp; rfl⟩
    | some u =>
      have Hx := Lib.hid hx
      obtain ⟨b', off', rfl, g1, g2, g3⟩ := hx
      by_cases hz : u.2 = z.2
      · have t0 : (u.2.toList == z.2.toList) = true := by rw [hz]; simp
        have ho : chInvert (some u) (some z) = none := by unfold chInvert; simp only [Option.getD_some]; rw [if_pos hz]
        have Ho := Lib.hid ho
        clear hz ho
        go_enter Try.func24, Try.ntmps24
        go_wp2_with fail
        go_quiet (fail)
        go_wp2_with fail
        go_ret
        refine ⟨_, rfl, ?_, below_drewN (Below.refl _ _) _⟩
        rw [Ho.out]; rfl
      · have t0 : (u.2.toList == z.2.toList) = false := by rw [beq_eq_false_iff_ne]; exact fun e => hz (toList_ba e)
        have ho : chInvert (some u) (some z) = some u := by unfold chInvert; simp only [Option.getD_some]; rw [if_neg hz]
        have Ho := Lib.hid ho
        clear hz ho
        go_enter Try.func24, Try.ntmps24
        go_wp2_with fail
        go_quiet (fail)
        go_wp2_with fail
        go_ret
        refine ⟨_, rfl, ?_, below_drewN (Below.refl _ _) _⟩
        rw [Ho.out]; exact Hx.out.below (below_drewN (Below.refl _ _) _)
end Go.Proofs.Ytpbdbiconcmcfaa
