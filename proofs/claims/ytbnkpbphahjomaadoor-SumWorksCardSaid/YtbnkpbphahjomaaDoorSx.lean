/- Seals opened: the document's own. -/
import Derived.Test.YtbnkpbphahjomaaDoorSq
namespace Go.Proofs.YtbnkpbphahjomaaDoor
open Go.RowKit Su

theorem BRow.drew {w : World} {v : Value} {l : List UInt8} (h : BRow w v l) : BRow w.drew v l := h.below ((Below.refl _ _).drew)
set_option maxRecDepth 100000 in
set_option maxHeartbeats 4000000 in
theorem refOpen_long (b off A cap : Nat) (l : List UInt8) (w : World) (h : BRow w (.slice (some ⟨b, off, none⟩) (A + 4) cap) l) (hA : l.length = A + 4) (hn : l.length ≤ 140737488355328) :
    Calls Tryd.prog 16 #[.slice (some ⟨b, off, none⟩) (A + 4) cap] w (OpenOut l w) := by
  obtain ⟨hrow, hc1, hc2, hb0, _⟩ := head_row h hA
  unfold maxLen at hc2
  have hH : ∀ W, (Instr.sliceAt 22 (.slice (some ⟨b, off, none⟩) (A + 4) cap) none (some (.int .i64 (A : Int))) none).run Tryd.prog W = .ok (.slice (some ⟨b, off, none⟩) A cap) W := fun W => by
    rw [run_head _ _ _ _ (by omega)]
    unfold sliced
    rw [if_neg (by omega)]
    simp [add_at]
  have hlen : (l.take A).length = A := by rw [List.length_take]; omega
  have HS := Lib.hid (fun W (hW : Below w.heap.size w W) => refSeal_any _ _ W (hrow.below hW) (by rw [hlen]; omega))
  have HR := Lib.hid h
  have HRO := Lib.hid hrow
  have hcb := conv_row h.drew
  have HLEN := Lib.hid hlen
  have ho : openB l = if sealed (l.take A) = l then some (l.take A) else none := by
    unfold openB
    rw [show l.length - 4 = A by omega]
    have hiff : l.drop A = le4 (sum (l.take A)) ↔ sealed (l.take A) = l := by
      unfold sealed
      constructor
      · intro e; rw [← e, List.take_append_drop]
      · intro e
        have e2 : l.take A ++ le4 (sum (l.take A)) = l.take A ++ l.drop A := by rw [e, List.take_append_drop]
        exact (List.append_cancel_left e2).symm
    by_cases hh : sealed (l.take A) = l
    · rw [if_pos ⟨by omega, hiff.2 hh⟩, if_pos hh]
    · rw [if_neg (fun h => hh (hiff.1 h.2)), if_neg hh]
  have HO := Lib.hid ho
  have hbq := tx_beq (sealed (l.take A)) l
  have HEM := Lib.hid fun W => own_empty W
  clear hrow h hlen ho
  by_cases hh : sealed (l.take A) = l
  · rw [decide_eq_true hh] at hbq
    have HY := Lib.hid (show openB l = some (l.take A) by rw [HO.out, if_pos hh])
    obtain ⟨sl, hsl⟩ : ∃ s, s = sealed (l.take A) := ⟨_, rfl⟩
    rw [← hsl] at HS hbq
    clear hh hsl
    go_enter Tryd.func16, Tryd.ntmps16
    go_wp2_with fail
    go_region_with (first | (go_at_call 19; refine (HS.out _ (below_drewN (Below.refl w.heap.size w) 1)).mono ?_; rintro e w1 ⟨v1, rfl, ho1, hb1⟩; have HB1 := Lib.hid ((below_drewN (Below.refl w.heap.size w) 1).trans hb1); have hcb1 := conv_row (HR.out.below HB1.out); have hca1 := conv_row ho1.row; clear ho1 hb1))
    all_goals
      have HX := Lib.hid (HB1.out.alloc HB1.out.size (.cells #[] 5))
      go_wp2_with (refine wpList_append_bytes rfl _ _ rfl w1.heap.size (.slice (some ⟨w1.heap.size, 0, none⟩) 0 0) (.slice (some ⟨b, off, none⟩) A cap) [] (l.take A) rfl rfl (HEM.out w1) (HRO.out.below HX.out) (by simp; omega) (by simp) ?_; intro u w2 own2 gr2; rw [List.nil_append] at own2; have HO2 := Lib.hid own2; have HB2 := Lib.hid (HX.out.grown gr2 (by have := HB1.out.size; simp; omega) (fun k hk => Nat.le_trans HB1.out.size ((HEM.out w1).lt k hk).1)); clear own2 gr2)
      go_ret2
      exact ⟨_, .inl ⟨_, HY.out, rfl, own_low HO2.out HB1.out.size⟩, HB2.out⟩
  · rw [decide_eq_false hh] at hbq
    have HY := Lib.hid (show openB l = none by rw [HO.out, if_neg hh])
    obtain ⟨sl, hsl⟩ : ∃ s, s = sealed (l.take A) := ⟨_, rfl⟩
    rw [← hsl] at HS hbq
    clear hh hsl
    go_enter Tryd.func16, Tryd.ntmps16
    go_wp2_with fail
    go_region_with (first | (go_at_call 19; refine (HS.out _ (below_drewN (Below.refl w.heap.size w) 1)).mono ?_; rintro e w1 ⟨v1, rfl, ho1, hb1⟩; have HB1 := Lib.hid ((below_drewN (Below.refl w.heap.size w) 1).trans hb1); have hcb1 := conv_row (HR.out.below HB1.out); have hca1 := conv_row ho1.row; clear ho1 hb1))
    all_goals
      go_wp2_with fail
      go_ret2
      exact ⟨_, .inr ⟨HY.out, rfl, rfl⟩, HB1.out⟩
theorem refOpen_any (v : Value) (l : List UInt8) (w : World) (h : BRow w v l) (hn : l.length ≤ 140737488355328) :
    Calls Tryd.prog 16 #[v] w (OpenOut l w) := by
  by_cases h4 : l.length < 4
  · obtain ⟨a, cap, rfl⟩ : ∃ a c, v = .slice a l.length c := by obtain ⟨a, c, h, _⟩ := h; exact ⟨a, c, h⟩
    have HN := Lib.hid (show openB l = none by unfold openB; rw [if_neg (fun h => by omega)])
    have d : (l.length : Int) < 4 := by omega
    clear h
    go_enter Tryd.func16, Tryd.ntmps16
    go_wp2_with fail
    go_ret2
    exact ⟨_, .inr ⟨HN.out, rfl, rfl⟩, Below.refl _ _⟩
  · obtain ⟨A, hA⟩ : ∃ A, l.length = A + 4 := ⟨l.length - 4, by omega⟩
    obtain ⟨a, cap, rfl, h1, h2, h3, h5⟩ := id h
    obtain ⟨b, off, rfl, _⟩ := h5 0 (by omega)
    rw [hA] at h ⊢
    exact refOpen_long b off A cap l w h hA hn
end Go.Proofs.YtbnkpbphahjomaaDoor
