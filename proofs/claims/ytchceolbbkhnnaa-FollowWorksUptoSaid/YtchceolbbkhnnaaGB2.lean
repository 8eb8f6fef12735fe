import Derived.Test.YtchceolbbkhnnaaGB1
namespace Go.Proofs.Ytchceolbbkhnnaa
open Go.RowKit At
open Lib (hid)
set_option maxRecDepth 100000 in
set_option maxHeartbeats 16000000 in
theorem merge_any (F : FuncId) (C : Array Value) (ch : O → O → O) (v u : Value) (a b : List (ByteArray × ByteArray)) (w : World) (hF : Chooses F C ch w) (hv : AtRow w v a) (hu : AtRow w u b) (la : a.length ≤ 8) (lb : b.length ≤ 8) :
 Calls Try.prog 95 #[v, u, .func (.func 96) #[] #[], .func (.func F) #[] C] w (MergeOut w (mergeL ch a b)) := by
 have Hv := hid hv; have Hu := hid hu; have HF := hid hF; have hcf := hF.enters; clear hv hu hF; go_enter Try.func95, Try.ntmps95
 go_wp2_with fail
 go_loopg [0, 1, 9] (a.length + b.length) (fun gk v1 u1 o wr => ∃ (l m done : List (ByteArray × ByteArray)), l.length + m.length ≤ gk ∧ done.length + (l.length + m.length) ≤ 16 ∧ AtRow w v1 l ∧ AtRow w u1 m ∧ mergeL ch a b = done ++ mergeL ch l m ∧ wr.ownsRow w.heap.size 81 2 o done.length (flat done) ∧ Below w.heap.size w wr)
 case atStart => exact ⟨a, b, [], Nat.le_refl _, by simp; omega, Hv.out, Hu.out, rfl, World.ownsRow_nil _ _ _ _, Below.refl _ _⟩
 case round =>
  obtain ⟨l, m, done, hgk, hd16, hrl, hrm, hmm, hown, hb⟩ := hrel; have Hmm := hid hmm; have Hown := hid hown; have Hb := hid hb; have Hle := hid (And.intro hgk hd16); clear hmm hown hgk hd16 la lb; cases l with
  | nil =>
    cases m with
    | nil =>
      obtain ⟨a1, cap1, rfl⟩ := hrl.open0; obtain ⟨a2, cap2, rfl⟩ := hrm.open0; have hR : mergeL ch a b = done := by rw [Hmm.out, mergeL, List.append_nil]
      have HR := hid hR; clear hrl hrm hR hb hcf; go_wp2_with fail
      go_ret
      rw [HR.out]; exact ⟨_, rfl, Hown.out, Hb.out⟩
    | cons y s =>
      obtain ⟨a1, cap1, rfl⟩ := hrl.open0; have Hrl := hid hrl; clear hrl; obtain ⟨b2, off2, cap2, rfl, c2, d2, lt2, p2, q2⟩ := hrm.open; obtain ⟨v2, sl2, hr2⟩ := tail_run hrm; have Hrow2 := hid hrm; have Htail2 := hid hr2; have P2 := hid (And.intro p2 q2); have e2 : wr.cell? ⟨b2, off2, none⟩ = some (.string y.1) := by rw [hb.cell (by exact lt2)]; exact p2
      have f2 : wr.cell? ⟨b2, off2 + 1, none⟩ = some (.string y.2) := by rw [hb.cell (by exact lt2)]; exact q2
      have z2 : (0 : Int) < ((s.length + 1 : Nat) : Int) := by omega
      have n2 : ((s.length : Int) + 1 == 0) = false := by rw [beq_eq_false_iff_ne]; omega
      clear hrm hr2 p2 q2; have hstep : mergeL ch a b = done ++ ((ch none (some y)).toList ++ mergeL ch [] s) := by rw [Hmm.out, mergeL]
      have Hstep := hid hstep; clear hstep hb; go_wp2_with fail
      go_quiet (fail)
      go_wp2_with fail
      go_quiet (fail)
      go_wp2_with (first | (refine wpList_tail (.slice (some ⟨b2, off2, none⟩) (s.length + 1) cap2) v2 rfl (sl2 _) ?_))
      have BW := fun n => Hb.out.trans ((below_drewN (Below.refl wr.heap.size wr) n).mono Hb.out.size); refine (HF.out.does _ _ none (some y) _ (BW _) rfl (ptr_of (BW _) lt2 P2.out)).mono ?_; clear BW; rintro e w3 ⟨p, rfl, hp, hb3⟩; have B3 := (below_drewN (Below.refl wr.heap.size wr) _).trans (hb3.mono (Nat.le_refl _)); have B03 := Hb.out.trans (B3.mono Hb.out.size); have own3 := row_below Hown.out B3; have Hown3 := hid own3; have HB03 := hid B03; clear hb3 B3 B03 own3 Hown; cases hch : ch none (some y) with
      | none =>
        rw [hch] at hp; obtain rfl : p = .pointer none := hp; have hn : mergeL ch a b = done ++ mergeL ch [] s := by rw [Hstep.out, hch]; rfl
        have Hn := hid hn; clear hn hch Hstep; go_wp2_with fail
        go_roundg (gk - 1)
        case measure => have := Hle.out.1; simp at this; omega
        case rel => exact ⟨[], s, done, by have := Hle.out.1; simp at this ⊢; omega, by have := Hle.out.2; simp at this ⊢; omega, Hrl.out, Htail2.out, Hn.out, Hown3.out, HB03.out⟩
      | some z =>
        rw [hch] at hp; obtain ⟨b3, off3, rfl, lt3, e3, f3⟩ := hp; have hn : mergeL ch a b = (done ++ [z]) ++ mergeL ch [] s := by rw [Hstep.out, hch, List.append_assoc]; rfl
        have Hn := hid hn; clear hn hch Hstep; obtain ⟨i0, hi, hz0, hz1, hz2⟩ := info_parts infoAttr; have hown := Hown3.out; go_wp2_with (first | (at_builtin; refine wpList_append_own _ rfl _ _ 38 rfl w.heap.size 81 i0 (.agg #[.string ⟨#[]⟩, .string ⟨#[]⟩]) 2 32 Try.underlying38 hi hz0 hz1 hz2 rfl (by decide) _ _ _ rfl (hown.alloc _) ⟨w3.heap.size, 0, none⟩ 1 1 [.string z.1, .string z.2] rfl rfl ?_ ?_ ?_ ?_ ?_ ?_))
        all_goals
         first
          | rfl
          | (intro u hu; simp at hu; rcases hu with rfl | rfl <;> rfl)
          | (have := Hle.out.2; simp at this; unfold maxLen; omega)
          | (have := Hle.out.2; simp at this; omega)
          | (have := HB03.out.size; simp; omega)
          | exact new_at2 _ _ _ _
          | skip
        intro v' w4 hown' hgrow _; have B04 := (HB03.out.alloc HB03.out.size _).grown hgrow (by have := HB03.out.size; simp; omega) (fun j hj => (hown.lt j hj).1); have HB04 := hid B04; rw [← flat_snoc] at hown'; have Hown' := hid hown'; clear hown hown' hgrow hi hz0 hz1 hz2 B04 e3 f3; go_wp2_with fail
        go_roundg (gk - 1)
        case measure => have := Hle.out.1; simp at this; omega
        case rel => exact ⟨[], s, done ++ [z], by have := Hle.out.1; simp at this ⊢; omega, by have := Hle.out.2; simp at this ⊢; omega, Hrl.out, Htail2.out, Hn.out, by rw [List.length_append]; exact Hown'.out, HB04.out⟩
  | cons x r =>
    cases m with
    | nil =>
      obtain ⟨a2, cap2, rfl⟩ := hrm.open0; have Hrm := hid hrm; clear hrm; obtain ⟨b1, off1, cap1, rfl, c1, d1, lt1, p1, q1⟩ := hrl.open; obtain ⟨v1, sl1, hr1⟩ := tail_run hrl; have Hrow1 := hid hrl; have Htail1 := hid hr1; have P1 := hid (And.intro p1 q1); have e1 : wr.cell? ⟨b1, off1, none⟩ = some (.string x.1) := by rw [hb.cell (by exact lt1)]; exact p1
      have f1 : wr.cell? ⟨b1, off1 + 1, none⟩ = some (.string x.2) := by rw [hb.cell (by exact lt1)]; exact q1
      have z1 : (0 : Int) < ((r.length + 1 : Nat) : Int) := by omega
      have n1 : ((r.length : Int) + 1 == 0) = false := by rw [beq_eq_false_iff_ne]; omega
      clear hrl hr1 p1 q1; have hstep : mergeL ch a b = done ++ ((ch (some x) none).toList ++ mergeL ch r []) := by rw [Hmm.out, mergeL]
      have Hstep := hid hstep; clear hstep hb; go_wp2_with fail
      go_quiet (fail)
      go_wp2_with fail
      go_quiet (fail)
      go_wp2_with (first | (refine wpList_tail (.slice (some ⟨b1, off1, none⟩) (r.length + 1) cap1) v1 rfl (sl1 _) ?_))
      have BW := fun n => Hb.out.trans ((below_drewN (Below.refl wr.heap.size wr) n).mono Hb.out.size); refine (HF.out.does _ _ (some x) none _ (BW _) (ptr_of (BW _) lt1 P1.out) rfl).mono ?_; clear BW; rintro e w3 ⟨p, rfl, hp, hb3⟩; have B3 := (below_drewN (Below.refl wr.heap.size wr) _).trans (hb3.mono (Nat.le_refl _)); have B03 := Hb.out.trans (B3.mono Hb.out.size); have own3 := row_below Hown.out B3; have Hown3 := hid own3; have HB03 := hid B03; clear hb3 B3 B03 own3 Hown; cases hch : ch (some x) none with
      | none =>
        rw [hch] at hp; obtain rfl : p = .pointer none := hp; have hn : mergeL ch a b = done ++ mergeL ch r [] := by rw [Hstep.out, hch]; rfl
        have Hn := hid hn; clear hn hch Hstep; go_wp2_with fail
        go_roundg (gk - 1)
        case measure => have := Hle.out.1; simp at this; omega
        case rel => exact ⟨r, [], done, by have := Hle.out.1; simp at this ⊢; omega, by have := Hle.out.2; simp at this ⊢; omega, Htail1.out, Hrm.out, Hn.out, Hown3.out, HB03.out⟩
      | some z =>
        rw [hch] at hp; obtain ⟨b3, off3, rfl, lt3, e3, f3⟩ := hp; have hn : mergeL ch a b = (done ++ [z]) ++ mergeL ch r [] := by rw [Hstep.out, hch, List.append_assoc]; rfl
        have Hn := hid hn; clear hn hch Hstep; obtain ⟨i0, hi, hz0, hz1, hz2⟩ := info_parts infoAttr; have hown := Hown3.out; go_wp2_with (first | (at_builtin; refine wpList_append_own _ rfl _ _ 38 rfl w.heap.size 81 i0 (.agg #[.string ⟨#[]⟩, .string ⟨#[]⟩]) 2 32 Try.underlying38 hi hz0 hz1 hz2 rfl (by decide) _ _ _ rfl (hown.alloc _) ⟨w3.heap.size, 0, none⟩ 1 1 [.string z.1, .string z.2] rfl rfl ?_ ?_ ?_ ?_ ?_ ?_))
        all_goals
         first
          | rfl
          | (intro u hu; simp at hu; rcases hu with rfl | rfl <;> rfl)
          | (have := Hle.out.2; simp at this; unfold maxLen; omega)
          | (have := Hle.out.2; simp at this; omega)
          | (have := HB03.out.size; simp; omega)
          | exact new_at2 _ _ _ _
          | skip
        intro v' w4 hown' hgrow _; have B04 := (HB03.out.alloc HB03.out.size _).grown hgrow (by have := HB03.out.size; simp; omega) (fun j hj => (hown.lt j hj).1); have HB04 := hid B04; rw [← flat_snoc] at hown'; have Hown' := hid hown'; clear hown hown' hgrow hi hz0 hz1 hz2 B04 e3 f3; go_wp2_with fail
        go_roundg (gk - 1)
        case measure => have := Hle.out.1; simp at this; omega
        case rel => exact ⟨r, [], done ++ [z], by have := Hle.out.1; simp at this ⊢; omega, by have := Hle.out.2; simp at this ⊢; omega, Htail1.out, Hrm.out, Hn.out, by rw [List.length_append]; exact Hown'.out, HB04.out⟩
    | cons y s =>
      obtain ⟨b1, off1, cap1, rfl, c1, d1, lt1, p1, q1⟩ := hrl.open; obtain ⟨v1, sl1, hr1⟩ := tail_run hrl; have Hrow1 := hid hrl; have Htail1 := hid hr1; have P1 := hid (And.intro p1 q1); have e1 : wr.cell? ⟨b1, off1, none⟩ = some (.string x.1) := by rw [hb.cell (by exact lt1)]; exact p1
      have f1 : wr.cell? ⟨b1, off1 + 1, none⟩ = some (.string x.2) := by rw [hb.cell (by exact lt1)]; exact q1
      have z1 : (0 : Int) < ((r.length + 1 : Nat) : Int) := by omega
      have n1 : ((r.length : Int) + 1 == 0) = false := by rw [beq_eq_false_iff_ne]; omega
      clear hrl hr1 p1 q1; obtain ⟨b2, off2, cap2, rfl, c2, d2, lt2, p2, q2⟩ := hrm.open; obtain ⟨v2, sl2, hr2⟩ := tail_run hrm; have Hrow2 := hid hrm; have Htail2 := hid hr2; have P2 := hid (And.intro p2 q2); have e2 : wr.cell? ⟨b2, off2, none⟩ = some (.string y.1) := by rw [hb.cell (by exact lt2)]; exact p2
      have f2 : wr.cell? ⟨b2, off2 + 1, none⟩ = some (.string y.2) := by rw [hb.cell (by exact lt2)]; exact q2
      have z2 : (0 : Int) < ((s.length + 1 : Nat) : Int) := by omega
      have n2 : ((s.length : Int) + 1 == 0) = false := by rw [beq_eq_false_iff_ne]; omega
      clear hrm hr2 p2 q2
      by_cases hlt : ltB x.1 y.1 = true
      ·have hc : Lib.compareBytes x.1.data.toList y.1.data.toList = -1 := by rw [cmpB, if_pos hlt]
       have hstep : mergeL ch a b = done ++ ((ch (some x) none).toList ++ mergeL ch r (y :: s)) := by rw [Hmm.out, mergeL, if_pos hlt]
       have Hstep := hid hstep; have Hc := hid hc; clear hstep hb hc; go_wp2_with fail
       go_still_tail 15, (by kernel_rfl)
       change wpList _ _ _ _ _ wr.drew; go_wp2_with fail
       refine (order_at x y _ Hc.out _).mono ?_; rintro e w1 ⟨rfl, hb1⟩; have B1 := of_drew hb1; have B01 := Hb.out.trans (B1.mono Hb.out.size); have HB1 := hid B1; have e1' : w1.cell? ⟨b1, off1, none⟩ = some (.string x.1) := by rw [B01.cell (by exact lt1)]; exact P1.out.1
       have f1' : w1.cell? ⟨b1, off1 + 1, none⟩ = some (.string x.2) := by rw [B01.cell (by exact lt1)]; exact P1.out.2
       have e2' : w1.cell? ⟨b2, off2, none⟩ = some (.string y.1) := by rw [B01.cell (by exact lt2)]; exact P2.out.1
       have f2' : w1.cell? ⟨b2, off2 + 1, none⟩ = some (.string y.2) := by rw [B01.cell (by exact lt2)]; exact P2.out.2
       clear hb1 B1 B01 e1 f1 e2 f2; go_wp2_with fail
       go_still_tail 15, (by kernel_rfl)
       change wpList _ _ _ _ _ w1.drew; go_wp2_with fail
       refine (order_at x y _ Hc.out _).mono ?_; rintro e w2 ⟨rfl, hb2⟩; have B2 := HB1.out.trans ((of_drew hb2).mono HB1.out.size); have HB2 := hid B2; clear hb2 B2 e1' f1' e2' f2'; go_wp2_with (first | (refine wpList_tail (.slice (some ⟨b1, off1, none⟩) (r.length + 1) cap1) v1 rfl (sl1 _) ?_))
       have BW := Hb.out.trans (HB2.out.mono Hb.out.size); refine (HF.out.does _ _ (some x) none _ BW (ptr_of BW lt1 P1.out) rfl).mono ?_; clear BW; rintro e w3 ⟨p, rfl, hp, hb3⟩; have B3 := HB2.out.trans (hb3.mono HB2.out.size); have B03 := Hb.out.trans (B3.mono Hb.out.size); have own3 := row_below Hown.out B3; have Hown3 := hid own3; have HB03 := hid B03; clear hb3 B3 B03 own3 Hown; cases hch : ch (some x) none with
       | none =>
         rw [hch] at hp; obtain rfl : p = .pointer none := hp; have hn : mergeL ch a b = done ++ mergeL ch r (y :: s) := by rw [Hstep.out, hch]; rfl
         have Hn := hid hn; clear hn hch Hstep; go_wp2_with fail
         go_roundg (gk - 1)
         case measure => have := Hle.out.1; simp at this; omega
         case rel => exact ⟨r, (y :: s), done, by have := Hle.out.1; simp at this ⊢; omega, by have := Hle.out.2; simp at this ⊢; omega, Htail1.out, Hrow2.out, Hn.out, Hown3.out, HB03.out⟩
       | some z =>
         rw [hch] at hp; obtain ⟨b3, off3, rfl, lt3, e3, f3⟩ := hp; have hn : mergeL ch a b = (done ++ [z]) ++ mergeL ch r (y :: s) := by rw [Hstep.out, hch, List.append_assoc]; rfl
         have Hn := hid hn; clear hn hch Hstep; obtain ⟨i0, hi, hz0, hz1, hz2⟩ := info_parts infoAttr; have hown := Hown3.out; go_wp2_with (first | (at_builtin; refine wpList_append_own _ rfl _ _ 38 rfl w.heap.size 81 i0 (.agg #[.string ⟨#[]⟩, .string ⟨#[]⟩]) 2 32 Try.underlying38 hi hz0 hz1 hz2 rfl (by decide) _ _ _ rfl (hown.alloc _) ⟨w3.heap.size, 0, none⟩ 1 1 [.string z.1, .string z.2] rfl rfl ?_ ?_ ?_ ?_ ?_ ?_))
         all_goals
          first
           | rfl
           | (intro u hu; simp at hu; rcases hu with rfl | rfl <;> rfl)
           | (have := Hle.out.2; simp at this; unfold maxLen; omega)
           | (have := Hle.out.2; simp at this; omega)
           | (have := HB03.out.size; simp; omega)
           | exact new_at2 _ _ _ _
           | skip
         intro v' w4 hown' hgrow _; have B04 := (HB03.out.alloc HB03.out.size _).grown hgrow (by have := HB03.out.size; simp; omega) (fun j hj => (hown.lt j hj).1); have HB04 := hid B04; rw [← flat_snoc] at hown'; have Hown' := hid hown'; clear hown hown' hgrow hi hz0 hz1 hz2 B04 e3 f3; go_wp2_with fail
         go_roundg (gk - 1)
         case measure => have := Hle.out.1; simp at this; omega
         case rel => exact ⟨r, (y :: s), done ++ [z], by have := Hle.out.1; simp at this ⊢; omega, by have := Hle.out.2; simp at this ⊢; omega, Htail1.out, Hrow2.out, Hn.out, by rw [List.length_append]; exact Hown'.out, HB04.out⟩
      ·by_cases hgt : ltB y.1 x.1 = true
       ·have hc : Lib.compareBytes x.1.data.toList y.1.data.toList = 1 := by rw [cmpB, if_neg hlt, if_pos hgt]
        have hstep : mergeL ch a b = done ++ ((ch none (some y)).toList ++ mergeL ch (x :: r) s) := by rw [Hmm.out, mergeL, if_neg hlt, if_pos hgt]
        have Hstep := hid hstep; have Hc := hid hc; clear hstep hb hc; go_wp2_with fail
        go_still_tail 15, (by kernel_rfl)
        change wpList _ _ _ _ _ wr.drew; go_wp2_with fail
        refine (order_at x y _ Hc.out _).mono ?_; rintro e w1 ⟨rfl, hb1⟩; have B1 := of_drew hb1; have B01 := Hb.out.trans (B1.mono Hb.out.size); have HB1 := hid B1; have e1' : w1.cell? ⟨b1, off1, none⟩ = some (.string x.1) := by rw [B01.cell (by exact lt1)]; exact P1.out.1
        have f1' : w1.cell? ⟨b1, off1 + 1, none⟩ = some (.string x.2) := by rw [B01.cell (by exact lt1)]; exact P1.out.2
        have e2' : w1.cell? ⟨b2, off2, none⟩ = some (.string y.1) := by rw [B01.cell (by exact lt2)]; exact P2.out.1
        have f2' : w1.cell? ⟨b2, off2 + 1, none⟩ = some (.string y.2) := by rw [B01.cell (by exact lt2)]; exact P2.out.2
        clear hb1 B1 B01 e1 f1 e2 f2; go_wp2_with fail
        go_still_tail 15, (by kernel_rfl)
        change wpList _ _ _ _ _ w1.drew; go_wp2_with fail
        refine (order_at x y _ Hc.out _).mono ?_; rintro e w2 ⟨rfl, hb2⟩; have B2 := HB1.out.trans ((of_drew hb2).mono HB1.out.size); have HB2 := hid B2; clear hb2 B2 e1' f1' e2' f2'; go_wp2_with (first | (refine wpList_tail (.slice (some ⟨b2, off2, none⟩) (s.length + 1) cap2) v2 rfl (sl2 _) ?_))
        have BW := Hb.out.trans (HB2.out.mono Hb.out.size); refine (HF.out.does _ _ none (some y) _ BW rfl (ptr_of BW lt2 P2.out)).mono ?_; clear BW; rintro e w3 ⟨p, rfl, hp, hb3⟩; have B3 := HB2.out.trans (hb3.mono HB2.out.size); have B03 := Hb.out.trans (B3.mono Hb.out.size); have own3 := row_below Hown.out B3; have Hown3 := hid own3; have HB03 := hid B03; clear hb3 B3 B03 own3 Hown; cases hch : ch none (some y) with
        | none =>
          rw [hch] at hp; obtain rfl : p = .pointer none := hp; have hn : mergeL ch a b = done ++ mergeL ch (x :: r) s := by rw [Hstep.out, hch]; rfl
          have Hn := hid hn; clear hn hch Hstep; go_wp2_with fail
          go_roundg (gk - 1)
          case measure => have := Hle.out.1; simp at this; omega
          case rel => exact ⟨(x :: r), s, done, by have := Hle.out.1; simp at this ⊢; omega, by have := Hle.out.2; simp at this ⊢; omega, Hrow1.out, Htail2.out, Hn.out, Hown3.out, HB03.out⟩
        | some z =>
          rw [hch] at hp; obtain ⟨b3, off3, rfl, lt3, e3, f3⟩ := hp; have hn : mergeL ch a b = (done ++ [z]) ++ mergeL ch (x :: r) s := by rw [Hstep.out, hch, List.append_assoc]; rfl
          have Hn := hid hn; clear hn hch Hstep; obtain ⟨i0, hi, hz0, hz1, hz2⟩ := info_parts infoAttr; have hown := Hown3.out; go_wp2_with (first | (at_builtin; refine wpList_append_own _ rfl _ _ 38 rfl w.heap.size 81 i0 (.agg #[.string ⟨#[]⟩, .string ⟨#[]⟩]) 2 32 Try.underlying38 hi hz0 hz1 hz2 rfl (by decide) _ _ _ rfl (hown.alloc _) ⟨w3.heap.size, 0, none⟩ 1 1 [.string z.1, .string z.2] rfl rfl ?_ ?_ ?_ ?_ ?_ ?_))
          all_goals
           first
            | rfl
            | (intro u hu; simp at hu; rcases hu with rfl | rfl <;> rfl)
            | (have := Hle.out.2; simp at this; unfold maxLen; omega)
            | (have := Hle.out.2; simp at this; omega)
            | (have := HB03.out.size; simp; omega)
            | exact new_at2 _ _ _ _
            | skip
          intro v' w4 hown' hgrow _; have B04 := (HB03.out.alloc HB03.out.size _).grown hgrow (by have := HB03.out.size; simp; omega) (fun j hj => (hown.lt j hj).1); have HB04 := hid B04; rw [← flat_snoc] at hown'; have Hown' := hid hown'; clear hown hown' hgrow hi hz0 hz1 hz2 B04 e3 f3; go_wp2_with fail
          go_roundg (gk - 1)
          case measure => have := Hle.out.1; simp at this; omega
          case rel => exact ⟨(x :: r), s, done ++ [z], by have := Hle.out.1; simp at this ⊢; omega, by have := Hle.out.2; simp at this ⊢; omega, Hrow1.out, Htail2.out, Hn.out, by rw [List.length_append]; exact Hown'.out, HB04.out⟩
       ·have hc : Lib.compareBytes x.1.data.toList y.1.data.toList = 0 := by rw [cmpB, if_neg hlt, if_neg hgt]
        have hstep : mergeL ch a b = done ++ ((ch (some x) (some y)).toList ++ mergeL ch r s) := by rw [Hmm.out, mergeL, if_neg hlt, if_neg hgt]
        have Hstep := hid hstep; have Hc := hid hc; clear hstep hb hc; go_wp2_with fail
        go_still_tail 15, (by kernel_rfl)
        change wpList _ _ _ _ _ wr.drew; go_wp2_with fail
        refine (order_at x y _ Hc.out _).mono ?_; rintro e w1 ⟨rfl, hb1⟩; have B1 := of_drew hb1; have B01 := Hb.out.trans (B1.mono Hb.out.size); have HB1 := hid B1; have e1' : w1.cell? ⟨b1, off1, none⟩ = some (.string x.1) := by rw [B01.cell (by exact lt1)]; exact P1.out.1
        have f1' : w1.cell? ⟨b1, off1 + 1, none⟩ = some (.string x.2) := by rw [B01.cell (by exact lt1)]; exact P1.out.2
        have e2' : w1.cell? ⟨b2, off2, none⟩ = some (.string y.1) := by rw [B01.cell (by exact lt2)]; exact P2.out.1
        have f2' : w1.cell? ⟨b2, off2 + 1, none⟩ = some (.string y.2) := by rw [B01.cell (by exact lt2)]; exact P2.out.2
        clear hb1 B1 B01 e1 f1 e2 f2; go_wp2_with fail
        go_still_tail 15, (by kernel_rfl)
        change wpList _ _ _ _ _ w1.drew; go_wp2_with fail
        refine (order_at x y _ Hc.out _).mono ?_; rintro e w2 ⟨rfl, hb2⟩; have B2 := HB1.out.trans ((of_drew hb2).mono HB1.out.size); have HB2 := hid B2; clear hb2 B2 e1' f1' e2' f2'; go_wp2_with (first | (refine wpList_tail (.slice (some ⟨b1, off1, none⟩) (r.length + 1) cap1) v1 rfl (sl1 _) ?_) | (refine wpList_tail (.slice (some ⟨b2, off2, none⟩) (s.length + 1) cap2) v2 rfl (sl2 _) ?_))
        have BW := Hb.out.trans (HB2.out.mono Hb.out.size); refine (HF.out.does _ _ (some x) (some y) _ BW (ptr_of BW lt1 P1.out) (ptr_of BW lt2 P2.out)).mono ?_; clear BW; rintro e w3 ⟨p, rfl, hp, hb3⟩; have B3 := HB2.out.trans (hb3.mono HB2.out.size); have B03 := Hb.out.trans (B3.mono Hb.out.size); have own3 := row_below Hown.out B3; have Hown3 := hid own3; have HB03 := hid B03; clear hb3 B3 B03 own3 Hown; cases hch : ch (some x) (some y) with
        | none =>
          rw [hch] at hp; obtain rfl : p = .pointer none := hp; have hn : mergeL ch a b = done ++ mergeL ch r s := by rw [Hstep.out, hch]; rfl
          have Hn := hid hn; clear hn hch Hstep; go_wp2_with fail
          go_roundg (gk - 1)
          case measure => have := Hle.out.1; simp at this; omega
          case rel => exact ⟨r, s, done, by have := Hle.out.1; simp at this ⊢; omega, by have := Hle.out.2; simp at this ⊢; omega, Htail1.out, Htail2.out, Hn.out, Hown3.out, HB03.out⟩
        | some z =>
          rw [hch] at hp; obtain ⟨b3, off3, rfl, lt3, e3, f3⟩ := hp; have hn : mergeL ch a b = (done ++ [z]) ++ mergeL ch r s := by rw [Hstep.out, hch, List.append_assoc]; rfl
          have Hn := hid hn; clear hn hch Hstep; obtain ⟨i0, hi, hz0, hz1, hz2⟩ := info_parts infoAttr; have hown := Hown3.out; go_wp2_with (first | (at_builtin; refine wpList_append_own _ rfl _ _ 38 rfl w.heap.size 81 i0 (.agg #[.string ⟨#[]⟩, .string ⟨#[]⟩]) 2 32 Try.underlying38 hi hz0 hz1 hz2 rfl (by decide) _ _ _ rfl (hown.alloc _) ⟨w3.heap.size, 0, none⟩ 1 1 [.string z.1, .string z.2] rfl rfl ?_ ?_ ?_ ?_ ?_ ?_))
          all_goals
           first
            | rfl
            | (intro u hu; simp at hu; rcases hu with rfl | rfl <;> rfl)
            | (have := Hle.out.2; simp at this; unfold maxLen; omega)
            | (have := Hle.out.2; simp at this; omega)
            | (have := HB03.out.size; simp; omega)
            | exact new_at2 _ _ _ _
            | skip
          intro v' w4 hown' hgrow _; have B04 := (HB03.out.alloc HB03.out.size _).grown hgrow (by have := HB03.out.size; simp; omega) (fun j hj => (hown.lt j hj).1); have HB04 := hid B04; rw [← flat_snoc] at hown'; have Hown' := hid hown'; clear hown hown' hgrow hi hz0 hz1 hz2 B04 e3 f3; go_wp2_with fail
          go_roundg (gk - 1)
          case measure => have := Hle.out.1; simp at this; omega
          case rel => exact ⟨r, s, done ++ [z], by have := Hle.out.1; simp at this ⊢; omega, by have := Hle.out.2; simp at this ⊢; omega, Htail1.out, Htail2.out, Hn.out, by rw [List.length_append]; exact Hown'.out, HB04.out⟩
end Go.Proofs.Ytchceolbbkhnnaa
