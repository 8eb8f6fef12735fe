/- Kept: were the attributes kept, and the mark behind them? -/
import Derived.Test.YtpbdbiconcmcfaaAtLent
import Derived.Test.YtpbdbiconcmcfaaAtRefSame
namespace Go.Proofs.Ytpbdbiconcmcfaa
open Go.RowKit At

theorem row_lent {w : World} {B g : Nat} {l : List (ByteArray × ByteArray)} (h : w.ownsRow B 33 2 (.slice (some ⟨g, 0, none⟩) (l.length + 1) (l.length + 1)) (l.length + 1) (flat (l ++ [mark]))) :
    AtRow w (.slice (some ⟨g, 0, none⟩) l.length (l.length + 1)) l := by
  have hlt := (h.lt g rfl).2
  have hm : l.length + 1 ≤ maxLen := by
    rcases h.2 with ⟨h0, _⟩ | ⟨g', cap, cur, h0, _, _, _, hm, _⟩
    · simp at h0
    · simp only [Value.slice.injEq] at h0
      omega
  refine ⟨_, l.length + 1, rfl, Nat.le_succ _, hm, fun i hi => ⟨g, 0, rfl, hlt, ?_, ?_⟩⟩
  · rw [Nat.zero_add, h.cellAt _ (by omega), flat_append, List.getElem?_append_left (by rw [flat_len]; omega), flat_at0 hi]
  · rw [Nat.zero_add, h.cellAt _ (by omega), flat_append, List.getElem?_append_left (by rw [flat_len]; omega), flat_at1 hi]
theorem mark_lent {w : World} {B g : Nat} {l : List (ByteArray × ByteArray)} (h : w.ownsRow B 33 2 (.slice (some ⟨g, 0, none⟩) (l.length + 1) (l.length + 1)) (l.length + 1) (flat (l ++ [mark]))) :
    w.cell? ⟨g, l.length * 2, none⟩ = some (.string ⟨#[109, 97, 114, 107]⟩) := by
  rw [h.cellAt _ (by omega), flat_append, List.getElem?_append_right (by rw [flat_len]; omega), flat_len, Nat.sub_self]
  rfl

def KeptOut (W : World) (g : Nat) (e : Ending) (w' : World) : Prop := e = .returned (.bool true) ∧ W.grownBy w' (some g)
set_option maxHeartbeats 4000000 in
theorem kept_any (v : Value) (B g : Nat) (l : List (ByteArray × ByteArray)) (w : World) (h : w.ownsRow B 33 2 (.slice (some ⟨g, 0, none⟩) (l.length + 1) (l.length + 1)) (l.length + 1) (flat (l ++ [mark]))) (hv : AtRow w v l) (hr : l.length ≤ 4398046511104) :
    Calls Try.prog 10 #[.slice (some ⟨g, 0, none⟩) l.length (l.length + 1), v] w (KeptOut w g) := by
  have H := Lib.hid h
  have hs : sameB l l = true := decide_eq_true rfl
  have Hs := Lib.hid (refSame_any _ v l l w (row_lent h) hv)
  rw [hs] at Hs
  have hmk := mark_lent h
  have hn' : l.length + 1 ≤ 9223372036854775807 := by omega
  clear h hv hs
  go_enter Try.func10, Try.ntmps10
  go_wp2_with fail
  refine Hs.out.mono ?_
  rintro e w1 ⟨rfl, m, rfl⟩
  go_wp2_with (refine wpList_sliced (.slice (some ⟨g, 0, none⟩) l.length (l.length + 1)) (.slice (some ⟨g, 0, none⟩) (l.length + 1) (l.length + 1)) rfl (slice_own _ _ _ _ (Nat.le_refl _) _) ?_)
  go_loopw [8] (fun i wr => ∃ (k : Nat) (ys : List Value), i = .int .i64 (k : Int) ∧ k ≤ l.length + 1 ∧ wr.ownsRow B 33 2 (.slice (some ⟨g, 0, none⟩) (l.length + 1) (l.length + 1)) (l.length + 1) ys ∧ w.grownBy wr (some g)) (fun i _ => l.length + 1 - (intOf i).toNat)
  case atStart => exact ⟨0, _, rfl, Nat.zero_le _, row_below H.out (below_drewN (Below.refl _ _) _), only_drewN (grown_refl _ _) _⟩
  case round =>
    obtain ⟨k, ys, rfl, hk, hown, hg⟩ := hrel
    by_cases hlt : k < l.length + 1
    · have hlt' : (k : Int) < (l.length : Int) + 1 := by omega
      obtain ⟨u1, c1⟩ := own_cell hown (j := k * 2) (by omega)
      obtain ⟨u2, c2⟩ := own_cell hown (j := k * 2 + 1) (by omega)
      have f1 : wr.frozen? ⟨g, k * 2, none⟩ = false := hown.frozenAt _
      have f2 : wr.frozen? ⟨g, k * 2 + 1, none⟩ = false := hown.frozenAt _
      obtain ⟨zs, hz⟩ := own_stored2 (j := k) hown (.string ⟨#[115, 112, 111, 105, 108, 116]⟩) (.string ⟨#[]⟩)
      have Hz := Lib.hid hz
      have Hg := Lib.hid (only_setCell (only_setCell hg (p := ⟨g, k * 2, none⟩) rfl (.string ⟨#[115, 112, 111, 105, 108, 116]⟩)) (p := ⟨g, k * 2 + 1, none⟩) rfl (.string ⟨#[]⟩))
      clear hown hg hz hmk
      go_wp2_with fail
      go_roundw
      case rel => exact ⟨k + 1, zs, by go_num, by omega, Hz.out, Hg.out⟩
      case measure => simp [intOf]; omega
    · have hkn : k = l.length + 1 := by omega
      subst hkn
      have Hg := Lib.hid hg
      have t1 : decide ((l.length : Int) + 1 < (l.length : Int) + 1) = false := decide_eq_false (by omega)
      clear hown hg hk hlt hmk
      go_wp2_with fail
      go_ret
      exact ⟨rfl, Hg.out⟩
end Go.Proofs.Ytpbdbiconcmcfaa
