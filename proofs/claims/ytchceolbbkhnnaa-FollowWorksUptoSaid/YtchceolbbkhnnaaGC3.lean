import Derived.Test.YtchceolbbkhnnaaGC2
namespace Go.Proofs.Ytchceolbbkhnnaa
open Go.RowKit Ch
open Lib (hid)
theorem own_front {w : World} {B gg cap : Nat} {fr : List (OpD × Value)} {p : OpD × Value} (h : w.ownsRow B 40 4 (.slice (some ⟨gg, 0, none⟩) (fr.length + 1) cap) (fr.length + 1) (flatO (fr ++ [p]))) :
 w.ownsRow B 40 4 (.slice (some ⟨gg, 0, none⟩) fr.length cap) fr.length (flatO fr) := by
 rcases h.2 with ⟨h', _⟩ | ⟨g', cap', cur, h', hb, hg, hn, hm, hc, ht⟩
 ·simp at h'
 ·simp only [Value.slice.injEq, Option.some.injEq, Addr.mk.injEq, and_true, true_and] at h'
  obtain ⟨rfl, rfl⟩ := h'; refine ⟨flatO_len _, .inr ⟨gg, cap, cur, rfl, hb, hg, by omega, hm, hc, ?_⟩⟩; have h2 := congrArg (List.take (fr.length * 4)) ht; rw [List.take_take, flatO_snoc, List.take_append_of_le_length (by rw [flatO_len]; omega), List.take_of_length_le (l := flatO fr) (by rw [flatO_len]; omega)] at h2; rw [← h2]
  congr 1
  omega
theorem slice_ops (g n cap k : Nat) (hk : k ≤ cap) (W : World) : (Instr.sliceAt 22 (.slice (some ⟨g, 0, none⟩) n cap) none (some (.int .i64 (k : Int))) none).run Try.prog W = .ok (.slice (some ⟨g, 0, none⟩) k cap) W := by
 have he : Try.prog.elem 22 = 40 := by kernel_rfl
 have hu : Try.prog.underlying 22 = some (.slice (Try.prog.elem 22)) := by kernel_rfl
 rw [run_sliceAt_slice W _ _ _ _ _ hu, run_slice_h W _ _ _ _ hu .i64 _ (by omega) (by omega), he, Try.sizeOf40, Int.toNat_natCast]; have e : sliced (some ⟨g, 0, none⟩) 0 k cap 4 = .slice (some ⟨g, 0, none⟩) k cap := by
  unfold sliced; split <;> simp [Addr.add]
 rw [← e]; rfl
theorem map_snoc {ps : List (OpD × Value)} {l : List OpD} {x : OpD} (h : ps.map (·.1) = l ++ [x]) : ∃ fr xv, ps = fr ++ [(x, xv)] ∧ fr.map (·.1) = l := by
 obtain ⟨a, b, rfl, h1, h2⟩ := List.map_eq_append_iff.1 h; cases b with
 | nil => simp at h2
 | cons p b =>
   simp only [List.map_cons, List.cons.injEq, List.map_eq_nil_iff] at h2; obtain ⟨rfl, rfl⟩ := h2; exact ⟨a, p.2, rfl, h1⟩
def EndOut (w : World) (B : Nat) (s : List OpD × Int) (e : Ending) (w' : World) : Prop := ∃ v, e = .returned v ∧ OwnOps w' B v (trim (flush s)).reverse ∧ Keep B TS w w'
set_option maxHeartbeats 4000000 in
set_option maxRecDepth 100000 in
theorem end_any (B b : Nat) (ov : Value) (s : List OpD × Int) (w : World) (h : NSt w B b ov s.1 s.2) (hB : B ≤ b) (hg : 0 ≤ s.2) (hf : Fits s.1 (delO s.2)) (hl : (flush s).length ≤ 1000000) :
 Calls Try.prog 54 #[.pointer (some ⟨b, 0, none⟩)] w (EndOut w B s) := by
 obtain ⟨l, g⟩ := s; have HD := hid (deleted_any B b ov l g w h hB hg hf); have HL := hid hl; clear h hg hf hl; cases hfl : flush (l, g) with
 | nil =>
   have HR := hid (show (trim (flush (l, g))).reverse = [] by rw [hfl]; rfl); have HFL := hid hfl; clear hfl; go_enter Try.func54, Try.ntmps54
   go_wp2_with fail
   refine HD.out.mono ?_; rintro e wA ⟨rfl, ovA, NA, KA⟩; have HNA := hid NA; have HKA := hid KA; clear NA KA; go_wp2_with fail
   refine (finish_any B b ovA _ 0 _ HNA.out hB (by have := HL.out; omega)).mono ?_; rintro e wF ⟨rfl, F1, KF⟩; obtain ⟨ps, ad, bv, hN, _, hP, _, hps⟩ := F1; rw [HFL.out] at hps; have h0 : ps = [] := List.map_eq_nil_iff.1 hps; subst h0; obtain ⟨oa, oc, rfl⟩ := own_slice hP.1; have k0 : wF.cell? ⟨b, 0, none⟩ = some (.slice oa 0 oc) := hN.cells.1; have HP := hid hP; have HK := hid (HKA.out.keep.trans KF.keep); clear hN hP hps KF; go_wp2_with fail
   go_ret
   exact ⟨_, rfl, by rw [HR.out]; exact ⟨[], rfl, HP.out⟩, HK.out⟩
 | cons x r =>
   have HFL := hid hfl; clear hfl
   by_cases hk : x.kind = 1
   ·have t1 : (x.kind == 1) = true := by rw [hk]; rfl
    by_cases ha : x.attrs.length = 0
    ·have a1 : ((x.attrs.length : Int) == 0) = true := by rw [ha]; rfl
     have a2 : (x.attrs.length == 0) = true := by rw [ha]; rfl
     have HR := hid (show (trim (flush (l, g))).reverse = r.reverse by rw [HFL.out, trim, if_pos ⟨hk, ha⟩]); clear hk ha; go_enter Try.func54, Try.ntmps54
     go_wp2_with fail
     refine HD.out.mono ?_; rintro e wA ⟨rfl, ovA, NA, KA⟩; have HNA := hid NA; have HKA := hid KA; clear NA KA; go_wp2_with fail
     refine (finish_any B b ovA _ 0 _ HNA.out hB (by have := HL.out; omega)).mono ?_; rintro e wF ⟨rfl, F1, KF⟩; obtain ⟨ps, ad, bv, hN, _, hP, _, hps⟩ := F1; rw [HFL.out] at hps; have HPS := hid hps; obtain ⟨fr, xv, rfl, hfr⟩ := map_snoc (hps.trans List.reverse_cons); obtain ⟨gg, cap, hov⟩ := ownsRow_open hP.len (Nat.succ_pos _); subst hov; obtain ⟨xa, xc, hxv⟩ : ∃ a c, xv = .slice a x.attrs.length c := own_slice (hP.2 (x, xv) (by simp)); subst hxv; obtain ⟨q0, q1, q2, q3⟩ := last_cells hP.len; have k0 : wF.cell? ⟨b, 0, none⟩ = some (.slice (some ⟨gg, 0, none⟩) (fr.length + 1) cap) := hN.cells.1; have hm : fr.length ≤ 1000000 := by
      have h1 := congrArg List.length hfr; rw [List.length_map, List.length_reverse] at h1; have h2 := HL.out; rw [HFL.out, List.length_cons] at h2; omega
     have hcap : fr.length ≤ cap := by
      rcases hP.len.2 with ⟨h', _⟩ | ⟨g', cap', cur, h', _, _, hn, _⟩
      ·simp at h'
      ·simp only [Value.slice.injEq] at h'
       omega
     have HCAP := hid hcap; have i1 : (0 : Int) ≤ (fr.length : Int) := by omega
     have i2 : (fr.length : Int) < (fr.length : Int) + 1 := by omega
     have i3 : decide ((0 : Int) ≤ (fr.length : Int)) = true := decide_eq_true (by omega); have HP := hid hP; have HFR := hid hfr; have HK := hid (HKA.out.keep.trans KF.keep); clear hN hP hps KF hfr q1 q2 hcap; go_wp2_with (refine wpList_sliced (.slice (some ⟨gg, 0, none⟩) (fr.length + 1) cap) (.slice (some ⟨gg, 0, none⟩) fr.length cap) rfl (slice_ops _ _ _ _ HCAP.out _) ?_)
     go_ret
     exact ⟨_, rfl, by rw [HR.out]; exact ⟨fr, HFR.out, own_front HP.out.len, fun p hp => HP.out.2 p (List.mem_append_left _ hp)⟩, HK.out⟩
    ·have a1 : ((x.attrs.length : Int) == 0) = false := by rw [beq_eq_false_iff_ne]; omega
     have a2 : (x.attrs.length == 0) = false := by rw [beq_eq_false_iff_ne]; omega
     have HR := hid (show (trim (flush (l, g))).reverse = (x :: r).reverse by rw [HFL.out, trim, if_neg fun h => ha h.2]); clear hk ha; go_enter Try.func54, Try.ntmps54
     go_wp2_with fail
     refine HD.out.mono ?_; rintro e wA ⟨rfl, ovA, NA, KA⟩; have HNA := hid NA; have HKA := hid KA; clear NA KA; go_wp2_with fail
     refine (finish_any B b ovA _ 0 _ HNA.out hB (by have := HL.out; omega)).mono ?_; rintro e wF ⟨rfl, F1, KF⟩; obtain ⟨ps, ad, bv, hN, _, hP, _, hps⟩ := F1; rw [HFL.out] at hps; have HPS := hid hps; obtain ⟨fr, xv, rfl, hfr⟩ := map_snoc (hps.trans List.reverse_cons); obtain ⟨gg, cap, hov⟩ := ownsRow_open hP.len (Nat.succ_pos _); subst hov; obtain ⟨xa, xc, hxv⟩ : ∃ a c, xv = .slice a x.attrs.length c := own_slice (hP.2 (x, xv) (by simp)); subst hxv; obtain ⟨q0, q1, q2, q3⟩ := last_cells hP.len; have k0 : wF.cell? ⟨b, 0, none⟩ = some (.slice (some ⟨gg, 0, none⟩) (fr.length + 1) cap) := hN.cells.1; have hm : fr.length ≤ 1000000 := by
      have h1 := congrArg List.length hfr; rw [List.length_map, List.length_reverse] at h1; have h2 := HL.out; rw [HFL.out, List.length_cons] at h2; omega
     have hcap : fr.length ≤ cap := by
      rcases hP.len.2 with ⟨h', _⟩ | ⟨g', cap', cur, h', _, _, hn, _⟩
      ·simp at h'
      ·simp only [Value.slice.injEq] at h'
       omega
     have HCAP := hid hcap; have i1 : (0 : Int) ≤ (fr.length : Int) := by omega
     have i2 : (fr.length : Int) < (fr.length : Int) + 1 := by omega
     have i3 : decide ((0 : Int) ≤ (fr.length : Int)) = true := decide_eq_true (by omega); have HP := hid hP; have HFR := hid hfr; have HK := hid (HKA.out.keep.trans KF.keep); clear hN hP hps KF hfr q1 q2 hcap; go_wp2_with fail
     go_ret
     exact ⟨_, rfl, by rw [HR.out]; exact ⟨_, HPS.out, HP.out⟩, HK.out⟩
   ·have t1 : (x.kind == 1) = false := by rw [beq_eq_false_iff_ne]; exact hk
    have HR := hid (show (trim (flush (l, g))).reverse = (x :: r).reverse by rw [HFL.out, trim, if_neg fun h => hk h.1]); clear hk; go_enter Try.func54, Try.ntmps54
    go_wp2_with fail
    refine HD.out.mono ?_; rintro e wA ⟨rfl, ovA, NA, KA⟩; have HNA := hid NA; have HKA := hid KA; clear NA KA; go_wp2_with fail
    refine (finish_any B b ovA _ 0 _ HNA.out hB (by have := HL.out; omega)).mono ?_; rintro e wF ⟨rfl, F1, KF⟩; obtain ⟨ps, ad, bv, hN, _, hP, _, hps⟩ := F1; rw [HFL.out] at hps; have HPS := hid hps; obtain ⟨fr, xv, rfl, hfr⟩ := map_snoc (hps.trans List.reverse_cons); obtain ⟨gg, cap, hov⟩ := ownsRow_open hP.len (Nat.succ_pos _); subst hov; obtain ⟨xa, xc, hxv⟩ : ∃ a c, xv = .slice a x.attrs.length c := own_slice (hP.2 (x, xv) (by simp)); subst hxv; obtain ⟨q0, q1, q2, q3⟩ := last_cells hP.len; have k0 : wF.cell? ⟨b, 0, none⟩ = some (.slice (some ⟨gg, 0, none⟩) (fr.length + 1) cap) := hN.cells.1; have hm : fr.length ≤ 1000000 := by
     have h1 := congrArg List.length hfr; rw [List.length_map, List.length_reverse] at h1; have h2 := HL.out; rw [HFL.out, List.length_cons] at h2; omega
    have hcap : fr.length ≤ cap := by
     rcases hP.len.2 with ⟨h', _⟩ | ⟨g', cap', cur, h', _, _, hn, _⟩
     ·simp at h'
     ·simp only [Value.slice.injEq] at h'
      omega
    have HCAP := hid hcap; have i1 : (0 : Int) ≤ (fr.length : Int) := by omega
    have i2 : (fr.length : Int) < (fr.length : Int) + 1 := by omega
    have i3 : decide ((0 : Int) ≤ (fr.length : Int)) = true := decide_eq_true (by omega); have HP := hid hP; have HFR := hid hfr; have HK := hid (HKA.out.keep.trans KF.keep); clear hN hP hps KF hfr q1 q2 hcap; go_wp2_with fail
    go_ret
    exact ⟨_, rfl, by rw [HR.out]; exact ⟨_, HPS.out, HP.out⟩, HK.out⟩
end Go.Proofs.Ytchceolbbkhnnaa
