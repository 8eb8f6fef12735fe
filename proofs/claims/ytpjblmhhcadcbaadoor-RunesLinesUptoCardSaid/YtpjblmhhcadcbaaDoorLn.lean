/- Plain lists: the lines of a list of bytes. -/
import Derived.Test.YtpjblmhhcadcbaaDoorRn
import Derived.Lib.SplitLaws
namespace Go.Proofs.YtpjblmhhcadcbaaDoor
namespace Rn

/-- The pieces between the bytes 10, the first one begun already. -/
def lnsA : List UInt8 → List UInt8 → List (List UInt8)
  | acc, [] => [acc]
  | acc, b :: r => if b = 10 then acc :: lnsA [] r else lnsA (acc ++ [b]) r
def lns (l : List UInt8) : List (List UInt8) := lnsA [] l

theorem lnsA_ne (acc l : List UInt8) : lnsA acc l ≠ [] := by
  induction l generalizing acc with
  | nil => simp [lnsA]
  | cons b r ih => unfold lnsA; split; simp; exact ih _
theorem lnsA_pos (acc l : List UInt8) : 1 ≤ (lnsA acc l).length := List.length_pos_iff.2 (lnsA_ne acc l)
theorem lnsA_len (acc l : List UInt8) : (lnsA acc l).length ≤ l.length + 1 := by
  induction l generalizing acc with
  | nil => simp [lnsA]
  | cons b r ih => unfold lnsA; split; have := ih []; simp; omega; have := ih (acc ++ [b]); simp; omega
theorem lnsA_nonl (acc l r : List UInt8) (h : (10 : UInt8) ∉ l) : lnsA acc (l ++ r) = lnsA (acc ++ l) r := by
  induction l generalizing acc with
  | nil => simp
  | cons b l ih =>
    rw [List.cons_append, lnsA, if_neg (fun e => h (by simp [e])), ih _ (fun e => h (by simp [e]))]
    simp
theorem lns_nonl (acc l : List UInt8) (h : (10 : UInt8) ∉ l) : lnsA acc l = [acc ++ l] := by
  have := lnsA_nonl acc l [] h
  rw [List.append_nil] at this
  rw [this]; rfl
theorem lnsA_cut (acc l r : List UInt8) : lnsA acc (l ++ 10 :: r) = lnsA acc l ++ lnsA [] r := by
  induction l generalizing acc with
  | nil => simp [lnsA]
  | cons b l ih =>
    rw [List.cons_append, lnsA, lnsA]
    split
    · rw [ih]; rfl
    · exact ih _

theorem lnsA_le (acc l : List UInt8) : ∀ x ∈ lnsA acc l, x.length ≤ acc.length + l.length := by
  induction l generalizing acc with
  | nil => intro x hx; simp [lnsA] at hx; subst hx; simp
  | cons b r ih =>
    intro x hx
    unfold lnsA at hx
    split at hx
    · rcases List.mem_cons.1 hx with rfl | hx
      · simp
      · have := ih [] x hx; simp at this ⊢; omega
    · have := ih (acc ++ [b]) x hx; simp at this ⊢; omega

/-- The place of the first byte 10. -/
theorem index_ten (l : List UInt8) : (Lib.index l [10] = -1 ∧ (10 : UInt8) ∉ l) ∨ ∃ a r, l = a ++ 10 :: r ∧ (10 : UInt8) ∉ a ∧ Lib.index l [10] = a.length := by
  induction l with
  | nil => left; simp [Lib.index]
  | cons b l ih =>
    by_cases hb : b = 10
    · subst hb
      right
      exact ⟨[], l, rfl, by simp, by simp [Lib.index, List.isPrefixOf]⟩
    · have hp : ([10] : List UInt8).isPrefixOf (b :: l) = false := by simp [List.isPrefixOf, Ne.symm hb]
      rcases ih with ⟨h1, h2⟩ | ⟨a, r, rfl, h2, h3⟩
      · left
        rw [Lib.index, hp]
        simp [h1, h2, Ne.symm hb]
      · right
        refine ⟨b :: a, r, rfl, by simp [h2, Ne.symm hb], ?_⟩
        rw [Lib.index, hp, h3]
        have : ((a.length : Int) == -1) = false := by simp
        rw [this]
        simp
theorem count_nonl (l : List UInt8) (h : (10 : UInt8) ∉ l) : Lib.count l [10] = 0 := by rw [Lib.count_one]; exact List.count_eq_zero_of_not_mem h
theorem splitK_ten (l : List UInt8) : Lib.splitK [10] 0 (Lib.count l [10]) l = lns l := by
  generalize hn : l.length = n
  induction n using Nat.strongRecOn generalizing l with
  | _ n ih =>
    rcases index_ten l with ⟨h1, h2⟩ | ⟨a, r, rfl, h2, h3⟩
    · rw [count_nonl l h2, lns, lns_nonl [] l h2]
      rfl
    · have hc : Lib.count (a ++ 10 :: r) [10] = Lib.count r [10] + 1 := by
        rw [Lib.count_one, Lib.count_one, List.count_append, List.count_eq_zero_of_not_mem h2, List.count_cons]; simp
      rw [hc, Lib.splitK, h3]
      have : ((a.length : Int) == -1) = false := by simp
      rw [this, if_neg (by simp)]
      have e : ((a.length : Int)).toNat = a.length := by omega
      rw [e, Nat.add_zero, List.take_left]
      have e2 : (a ++ 10 :: r).drop (a.length + ([10] : List UInt8).length) = r := by
        rw [← List.drop_drop, List.drop_left]; rfl
      rw [e2, ih r.length (by rw [← hn]; simp; omega) r rfl, lns, lns, lnsA_cut, lns_nonl [] a h2]
      rfl

/-- The lines as the program holds them. -/
def lnsB (l : List UInt8) : List ByteArray := (lns l).map fun x => ⟨x.toArray⟩
theorem lnsB_len (l : List UInt8) : (lnsB l).length = (lns l).length := by simp [lnsB]
theorem lnsB_le (s : ByteArray) (i : Nat) (h : i < (lnsB s.data.toList).length) : ((lnsB s.data.toList)[i]).size ≤ s.size := by
  have h2 : i < (lns s.data.toList).length := by rw [lnsB_len] at h; exact h
  have e : ((lnsB s.data.toList)[i]).size = ((lns s.data.toList)[i]).length := by simp [lnsB, ByteArray.size]
  rw [e]
  have := lnsA_le [] s.data.toList _ (List.getElem_mem h2)
  simpa using this
theorem splitB_ten (s : ByteArray) : Lib.splitB ⟨#[10]⟩ 0 (Lib.countB s ⟨#[10]⟩) s = lnsB s.data.toList := by
  have h := Lib.splitB_data ⟨#[10]⟩ 0 (Lib.countB s ⟨#[10]⟩) s
  have hc : Lib.countB s ⟨#[10]⟩ = Lib.count s.data.toList [10] := rfl
  rw [hc, show (⟨#[10]⟩ : ByteArray).data.toList = [10] from rfl, splitK_ten] at h
  rw [hc]
  unfold lnsB
  rw [← h, List.map_map]
  have : ((fun x : List UInt8 => (⟨x.toArray⟩ : ByteArray)) ∘ fun x : ByteArray => x.data.toList) = id := by
    funext x; cases x; simp
  rw [this, List.map_id]

/-- The lines, with a byte 10 between each two, are the text. -/
def joinL : List (List UInt8) → List UInt8
  | [] => []
  | [x] => x
  | x :: y :: r => x ++ 10 :: joinL (y :: r)
theorem joinL_lnsA (acc l : List UInt8) : joinL (lnsA acc l) = acc ++ l := by
  induction l generalizing acc with
  | nil => simp [lnsA, joinL]
  | cons b r ih =>
    unfold lnsA
    split
    · rename_i h
      match hr : lnsA [] r, lnsA_ne [] r with
      | x :: t, _ =>
        rw [joinL, ← hr, ih [], h]
        simp
    · rw [ih]; simp
theorem joinL_lns (l : List UInt8) : joinL (lns l) = l := by rw [lns, joinL_lnsA]; rfl
end Rn
end Go.Proofs.YtpjblmhhcadcbaaDoor
