/- runes.Count: how many runes a text has, or the error that it is none: at every string, valid or not. -/
import Derived.Test.YthcpagpiphemgaaRn
import Derived.Test.YthcpagpiphemgaaShelf
import Derived.WalkKit
import Derived.Lib.OthersKept
import Derived.WalkSpells
import Derived.WalkLawsBesides
namespace Go.Proofs.Ythcpagpiphemgaa
open Go.RowKit Rn

def cnt (l : List UInt8) : Int := match rd l with | some cs => cs.length | none => 0
def er (l : List UInt8) : Int := match rd l with | some _ => 0 | none => 10
theorem cnt_some {l : List UInt8} {cs : List Nat} (h : rd l = some cs) : cnt l = cs.length := by unfold cnt; rw [h]
theorem er_some {l : List UInt8} {cs : List Nat} (h : rd l = some cs) : er l = 0 := by unfold er; rw [h]
theorem cnt_none {l : List UInt8} (h : rd l = none) : cnt l = 0 := by unfold cnt; rw [h]
theorem er_none {l : List UInt8} (h : rd l = none) : er l = 10 := by unfold er; rw [h]

/-- Twenty thousand runes and one more byte: no text. -/
theorem rd_long {l r : List UInt8} {done : List Nat} (hd : allOk done) (hn : done.length = 20000) (hl : l = txt done ++ r) (hr : r ≠ []) : rd l = none := by
  unfold rd
  rw [hl, runes_append done hd]
  cases h : runes r with
  | none => rfl
  | some cs =>
    have : cs ≠ [] := by
      rintro rfl
      exact hr (runes_some h).2
    have h1 : 1 ≤ cs.length := by
      cases cs with
      | nil => exact absurd rfl this
      | cons _ _ => simp
    simp [hn]
    omega
theorem rd_bad {l r : List UInt8} {done : List Nat} (hd : allOk done) (hl : l = txt done ++ r) (hr : r ≠ []) (hb : dec r = (65533, 1)) : rd l = none := by
  unfold rd
  rw [hl, runes_append done hd, runes_bad r hr hb]
  rfl
theorem rd_done {l : List UInt8} {done : List Nat} (hd : allOk done) (hn : done.length ≤ 20000) (hl : l = txt done) : rd l = some done := by
  rw [hl]; exact rd_txt done hd hn

theorem drop_ne {s : ByteArray} {pos : Nat} (h : pos < s.size) : s.data.toList.drop pos ≠ [] := by
  intro e
  have := congrArg List.length e
  simp at this
  have h2 : s.data.size = s.size := rfl
  omega

theorem step_good {s : ByteArray} {pos : Nat} {done : List Nat} (h : s.data.toList = txt done ++ s.data.toList.drop pos) (hd : allOk done) (hlt : pos < s.size) (hb : dec (s.data.toList.drop pos) ≠ (65533, 1)) :
    s.data.toList = txt (done ++ [(dec (s.data.toList.drop pos)).1]) ++ s.data.toList.drop (pos + (dec (s.data.toList.drop pos)).2) ∧ allOk (done ++ [(dec (s.data.toList.drop pos)).1]) := by
  rcases dec_cases _ (drop_ne hlt) with hb' | ⟨h1, _, h3⟩
  · exact absurd hb' hb
  · refine ⟨?_, fun c hc => ?_⟩
    · have e1 : txt [(dec (s.data.toList.drop pos)).1] = enc (dec (s.data.toList.drop pos)).1 := by simp [txt]
      rw [txt_append, e1, ← List.drop_drop, List.append_assoc, ← h3]
      exact h
    · rcases List.mem_append.1 hc with hc | hc
      · exact hd c hc
      · rw [List.mem_singleton] at hc; subst hc; exact h1
theorem take_all (s : ByteArray) (pos : Nat) : List.take (s.size - pos) (List.drop pos s.data.toList) = List.drop pos s.data.toList :=
  List.take_of_length_le (by simp)

set_option maxHeartbeats 400000 in
theorem count_any (s : ByteArray) (w : World) (hs : s.size ≤ maxLen) :
    Calls Try.prog 44 #[.string s] w fun e w' => e = .returned (.tuple #[.int .i64 (cnt s.data.toList), .int .i64 (er s.data.toList)]) ∧ Below w.heap.size w w' := by
  unfold maxLen at hs
  go_enter Try.func44, Try.ntmps44
  go_wp2
  go_loopw [4] (fun n wr => ∃ (done : List Nat) (pos : Nat), n = .int .i64 (done.length : Int) ∧ allOk done ∧ done.length ≤ 20000 ∧ s.data.toList = txt done ++ s.data.toList.drop pos ∧ pos ≤ s.size ∧ wr.heap[w.heap.size]? = some (.stringIter s pos) ∧ Below w.heap.size w wr) (fun _ wr => s.size - wr.iterPos w.heap.size)
  case atStart =>
    refine ⟨[], 0, rfl, fun _ h => (by cases h), by simp, by simp [txt_nil], by omega, World.iter_heap w s 0, (Below.refl _ w).alloc (Nat.le_refl _) _⟩
  case round =>
    obtain ⟨done, pos, rfl, hok, hn, hl, hp, hit, hbw⟩ := hrel
    by_cases hlt : pos < s.size
    · have hnx : ∀ ty, (Instr.next (.pointer (some ⟨w.heap.size, 0, none⟩)) true ty).run Try.prog wr = _ := fun ty => Lib.run_next_any_at wr w.heap.size s pos ty hit hlt
      have hne := drop_ne hlt
      have hde := decode_eq s pos
      have hwd : (Utf8.decode s pos).2 ≤ s.size - pos ∧ 1 ≤ (Utf8.decode s pos).2 := by
        rw [hde]
        rcases dec_cases _ hne with hb | ⟨_, h2, h3⟩
        · rw [hb]; simp; omega
        · have := congrArg List.length h3
          rw [List.length_append, ← h2] at this
          simp only [List.length_drop, Array.length_toList] at this
          have h2' := enc_pos (dec (s.data.toList.drop pos)).1
          have hsz : s.data.size = s.size := rfl
          omega
      have H : Hid (Utf8.decode s pos = dec (s.data.toList.drop pos)) := hde
      clear hde
      have H2 : Hid (s.data.toList = txt done ++ s.data.toList.drop pos) := hl
      clear hl
      go_wp2_with (first | (go_at_call 57; refine (Try.strings_HasPrefix _ _ _).mono ?_; rintro e w' ⟨rfl, rfl⟩))
      · have h20 : (done.length : Int) = 20000 := by assumption
        go_ret2
        have e := rd_long hok (by omega) H2.out hne
        rw [cnt_none e, er_none e]
        exact ⟨rfl, hbw.trans (Lib.below_iterAt (Below.refl _ _) (Nat.le_refl _) _ _)⟩
      · have hr : ((Utf8.decode s pos).1 : Int) = 65533 := by assumption
        have hq : ((done.length : Int) == 20000) = true ∨ (!Lib.hasPrefix (List.take (s.size - pos) (List.drop pos s.data.toList)) [239, 191, 189]) = true := by assumption
        go_ret2
        have hq2 : Lib.hasPrefix (List.drop pos s.data.toList) [239, 191, 189] = false := by
          rw [take_all] at hq
          rcases hq with hq | hq
          · exact absurd (by simpa using hq) (by assumption)
          · simpa using hq
        have e := rd_bad hok H2.out hne ((bad_iff _ hne).2 ⟨by rw [← H.out]; omega, hq2⟩)
        rw [cnt_none e, er_none e]
        exact ⟨rfl, hbw.trans (Lib.below_iterAt (Below.refl _ _) (Nat.le_refl _) _ _)⟩
      · have hq : ((done.length : Int) == 20000) = false ∧ (!Lib.hasPrefix (List.take (s.size - pos) (List.drop pos s.data.toList)) [239, 191, 189]) = false := by assumption
        have hnb : dec (s.data.toList.drop pos) ≠ (65533, 1) := by
          intro hb
          have := ((bad_iff _ hne).1 hb).2
          rw [take_all] at hq
          have q2 : Lib.hasPrefix (List.drop pos s.data.toList) [239, 191, 189] = true := by simpa using hq.2
          unfold Lib.hasPrefix at q2
          rw [this] at q2
          cases q2
        have hg := step_good H2.out hok hlt hnb
        rw [← H.out] at hg
        go_roundw
        case rel => exact ⟨_, _, by simp, hg.2, by simp; omega, hg.1, by omega, Lib.iterAt_heap _ _ _ _ _ hit, Lib.below_iterAt hbw (Nat.le_refl _) _ _⟩
        case measure => simp only [World.iterPos, Lib.iterAt_heap _ _ _ _ _ hit, hit]; omega
      · have hr : ¬ ((Utf8.decode s pos).1 : Int) = 65533 := by assumption
        have hnb : dec (s.data.toList.drop pos) ≠ (65533, 1) := by
          intro hb
          rw [H.out, hb] at hr
          exact hr rfl
        have hg := step_good H2.out hok hlt hnb
        rw [← H.out] at hg
        go_roundw
        case rel => exact ⟨_, _, by simp, hg.2, by simp; omega, hg.1, by omega, Lib.iterAt_heap _ _ _ _ _ hit, Lib.below_iterAt hbw (Nat.le_refl _) _ _⟩
        case measure => simp only [World.iterPos, Lib.iterAt_heap _ _ _ _ _ hit, hit]; omega
    · have hnx : ∀ ty, (Instr.next (.pointer (some ⟨w.heap.size, 0, none⟩)) true ty).run Try.prog wr = _ := fun ty => Lib.run_next_end_at wr w.heap.size s pos ty hit hlt
      have hend : rd s.data.toList = some done := rd_done hok hn (by
        rw [List.drop_eq_nil_of_le (by simp; have : s.data.size = s.size := rfl; omega), List.append_nil] at hl
        exact hl)
      have H := Lib.hid hend
      clear hend hl
      go_wp2_with fail
      go_ret2
      rw [cnt_some H.out, er_some H.out]
      exact ⟨rfl, hbw⟩
end Go.Proofs.Ythcpagpiphemgaa
