/- runes.Lines: at every string; what is answered is a row of the call's own. -/
import Derived.Test.YtpjblmhhcadcbaaDoorCut
import Derived.Test.YtpjblmhhcadcbaaDoorLn
namespace Go.Proofs.YtpjblmhhcadcbaaDoor
open Go.RowKit Rn

theorem setCell_same {w : World} {b i : Nat} {c : Array Value} {t : TypeId} {f : Nat × Nat} {v : Value} (h : w.heap[b]? = some (.cells c t f)) (hv : c[i]? = some v) : (w.setCell ⟨b, i, none⟩ v).heap[b]? = some (.cells c t f) := by
  have hb : b < w.heap.size := (Array.getElem?_eq_some_iff.1 h).1
  simp only [World.setCell, Array.getElem?_modify, if_true, h, Option.map_some, Option.isSome_none, Bool.false_eq_true, if_false]
  congr 2
  apply Array.ext_getElem?
  intro j
  rw [Array.getElem?_setIfInBounds]
  split
  · rename_i hj; subst hj; rw [hv]; split; rfl; rename_i hn; exact absurd (Array.getElem?_eq_some_iff.1 hv).1 hn
  · rfl
theorem cell_of_block {w : World} {b : Nat} {c : Array Value} {t : TypeId} {f : Nat × Nat} (h : w.heap[b]? = some (.cells c t f)) (i : Nat) : w.cell? ⟨b, i, none⟩ = c[i]? := by simp [World.cell?, h]
theorem free_of_block {w : World} {b : Nat} {c : Array Value} {t : TypeId} (h : w.heap[b]? = some (.cells c t (0, 0))) (i : Nat) : w.frozen? ⟨b, i, none⟩ = false := by simp [World.frozen?, h]

set_option maxHeartbeats 400000 in
theorem lines_no (s : ByteArray) (w : World) (h : rd s.data.toList = none) (hs : s.size ≤ maxLen) :
    Calls Tryd.prog 22 #[.string s] w fun e w' => e = .returned (.tuple #[.slice none 0 0, .int .i64 10]) ∧ Below w.heap.size w w' := by
  have H := Lib.hid h; clear h
  go_enter Tryd.func22, Tryd.ntmps22
  go_wp2_with fail
  refine (count_any s _ hs).mono ?_
  rintro e w1 ⟨rfl, hb1⟩
  rw [cnt_none H.out, er_none H.out]
  go_wp2_with fail
  go_ret2
  exact ⟨rfl, hb1⟩

/-- What the lines of a text lie in. -/
def LinesIn (w : World) (l : List UInt8) (W : World) (b : Nat) : Prop := w.heap.size ≤ b ∧ W.heap[b]? = some (.cells ((lnsB l).map Value.string).toArray 9 (0, 0))
def LinesPost (w : World) (l : List UInt8) (e : Ending) (W : World) : Prop := ∃ b, e = .returned (.tuple #[.slice (some ⟨b, 0, none⟩) (lns l).length (lns l).length, .int .i64 0]) ∧ LinesIn w l W b ∧ Below w.heap.size w W

set_option maxHeartbeats 1000000 in
theorem lines_ok (s : ByteArray) (cs : List Nat) (m : Int) (w : World) (h : rd s.data.toList = some cs) (hs : s.size ≤ 100000) (hm : w.cell? ⟨0, 0, none⟩ = some (.int .i64 m)) :
    Calls Tryd.prog 22 #[.string s] w (LinesPost w s.data.toList) := by
  have H := Lib.hid h; clear h
  have hlen := lnsA_len [] s.data.toList
  have hll : s.data.toList.length = s.size := by simp
  rw [hll] at hlen
  have hpos := lnsA_pos [] s.data.toList
  change (lns s.data.toList).length ≤ s.size + 1 at hlen
  change 1 ≤ (lns s.data.toList).length at hpos
  have hg := World.block_lt_of_cell? _ _ hm
  go_enter Tryd.func22, Tryd.ntmps22
  go_wp2_with fail
  refine (count_any s _ (by unfold maxLen; omega)).mono ?_
  rintro e w1 ⟨rfl, hb1⟩
  have hs1 := hb1.size
  rw [cnt_some H.out, er_some H.out]
  go_wp2_with fail
  refine (Tryd.strings_Split s ⟨#[10]⟩ m _ (by omega) (by rw [hb1.cell (by exact hg)]; exact hm) (by decide)).mono ?_
  have hcb : Lib.countB s ⟨#[10]⟩ + 1 = (lns s.data.toList).length := by
    rw [← lnsB_len, ← splitB_ten, Lib.splitB_all ⟨#[10]⟩ (by decide) 0 _ s rfl]
  rw [hcb, splitB_ten]
  rintro e w2 ⟨rfl, rfl⟩
  obtain ⟨L, hL⟩ : ∃ L, L = lnsB s.data.toList := ⟨_, rfl⟩
  have hLn : L.length = (lns s.data.toList).length := by rw [hL, lnsB_len]
  rw [← hL]
  have HL := Lib.hid hL; have HLn := Lib.hid hLn; clear hL hcb hll hLn
  go_wp2_with fail
  have hle1 : (lns s.data.toList).length ≤ 100001 := by omega
  go_loopw [20] (fun v wr => ∃ k : Nat, v = .int .i64 (k : Int) ∧ k ≤ (lns s.data.toList).length ∧ wr.heap[w1.heap.size]? = some (.cells (L.map Value.string).toArray 9 (0, 0)) ∧ Below w.heap.size w wr) (fun v _ => (lns s.data.toList).length - (intOf v).toNat)
  case atStart => exact ⟨0, rfl, by omega, by show (w1.heap.push _)[w1.heap.size]? = _; simp, hb1.alloc hs1 _⟩
  case round =>
    obtain ⟨k, rfl, hk, hblk, hbw⟩ := hrel
    by_cases hlt : k < (lns s.data.toList).length
    · have hlt' : (k : Int) < ((lns s.data.toList).length : Int) := by omega
      have hkL : k < L.length := by rw [HLn.out]; exact hlt
      have hsz : L[k].size ≤ 100000 := by
        have := HL.out
        subst this
        exact Nat.le_trans (lnsB_le s k hkL) hs
      have hcell : wr.cell? ⟨w1.heap.size, k, none⟩ = some (.string L[k]) := by rw [cell_of_block hblk]; simp [hkL]
      have hbs : w1.heap.size < wr.heap.size := lt_of_block hblk
      have Hblk := Lib.hid hblk
      clear hblk
      go_wp2_with (go_at_call 26; refine (clone_any _ _ (by omega)).mono ?_)
      rintro e w2 ⟨rfl, hb2⟩
      have hblk2 : w2.heap[w1.heap.size]? = some (.cells (L.map Value.string).toArray 9 (0, 0)) := by rw [hb2.block _ hbs]; exact Hblk.out
      have hcell2 : w2.cell? ⟨w1.heap.size, k, none⟩ = some (.string L[k]) := by rw [cell_of_block hblk2]; simp [hkL]
      have hfr2 : w2.frozen? ⟨w1.heap.size, k, none⟩ = false := free_of_block hblk2 k
      have Hblk2 := Lib.hid hblk2
      clear hblk2
      go_wp2_with fail
      go_roundw
      case rel => exact ⟨k + 1, by go_num, by omega, setCell_same Hblk2.out (by simp [hkL]), (hbw.trans (hb2.mono (by have := hbw.size; omega))).setCell (by exact hs1) _⟩
      case measure => simp [intOf]; omega
    · have hkn : k = (lns s.data.toList).length := by omega
      subst hkn
      go_wp2_with fail
      go_ret2
      exact ⟨w1.heap.size, rfl, ⟨hs1, by rw [hblk, HL.out]⟩, hbw⟩
end Go.Proofs.YtpjblmhhcadcbaaDoor
