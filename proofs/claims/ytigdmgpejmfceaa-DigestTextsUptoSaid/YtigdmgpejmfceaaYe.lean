/- Bytes in base 64: the program's Encode. -/
import Derived.Test.YtigdmgpejmfceaaYk
import Derived.Test.YtigdmgpejmfceaaYd
import Derived.RangeFuncLeaves
namespace Go.Proofs.Ytigdmgpejmfceaa
open Go.RowKit Go.Shelf Su Yg
attribute [local go_sem] Oper.semAt_some

theorem enc_append (l m : List UInt8) (h : l.length % 3 = 0) : enc (l ++ m) = enc l ++ enc m := by
  induction l using enc.induct with
  | case1 x y z l ih =>
    rw [List.cons_append, List.cons_append, List.cons_append, enc, enc, ih (by simp only [List.length_cons] at h; omega), List.append_assoc]
  | case2 => rfl
  | case3 x => simp at h
  | case4 x y => simp at h
theorem enc_one (c : List UInt8) (h1 : 1 ≤ c.length) (h3 : c.length ≤ 3) : enc c = signs4 c := by
  rcases c with _ | ⟨x, _ | ⟨y, _ | ⟨z, _ | ⟨t, l⟩⟩⟩⟩
  · exact absurd h1 (by simp)
  · rw [enc]
  · rw [enc]
  · rw [enc, enc, List.append_nil]
  · exact absurd h3 (by simp)
theorem enc_take (l : List UInt8) (k : Nat) (h : k * 3 < l.length) : enc (l.take ((k + 1) * 3)) = enc (l.take (k * 3)) ++ signs4 (chB l 3 k) := by
  have hc := chB_len l 3 k
  obtain ⟨h1, h2, _⟩ := chL_of (L := l.length) (n := 3) (k := k) h (by omega)
  have e : l.take ((k + 1) * 3) = l.take (k * 3) ++ chB l 3 k := by
    unfold chB
    rw [← List.take_add, show (k + 1) * 3 = k * 3 + 3 by omega]
  have e1 := enc_one (chB l 3 k) (by omega) (by omega)
  rw [e, enc_append _ _ (by rw [List.length_take, Nat.min_eq_left (by omega)]; omega), e1]
/-- Make a row of bytes that is empty, with room. -/
theorem made_own (w : World) (n : Nat) (hn : n ≤ 281474976710656) : ∃ W', (Instr.makeSlice 22 (.int .i64 0) (.int .i64 (n : Int))).run Try.prog w = .ok (.slice (some ⟨w.heap.size, 0, none⟩) 0 n) W' ∧ OwnU W' w.heap.size (.slice (some ⟨w.heap.size, 0, none⟩) 0 n) [] ∧ Below w.heap.size w W' := by
  obtain ⟨i0, hi, hz0, hz1, hz2⟩ := info_parts infoByte
  obtain ⟨W', a1, a2, a3⟩ := run_make_own (P := Try.prog) (w := w) w.heap.size 22 5 i0 (.int .u8 0) 1 Try.underlying22 hi hz0 hz1 .i64 .i64 n (by rw [hz2]; omega) (by unfold maxLen; omega) (Nat.le_refl _)
  exact ⟨W', a1, a2, (Below.refl w.heap.size w).grown a3 (Nat.le_refl _) (fun k hk => by cases hk)⟩

set_option maxRecDepth 100000 in
set_option maxHeartbeats 4000000 in
theorem encode_any (v : Value) (l : List UInt8) (w : World) (h : BRow w v l) (hn : l.length * 2 + 64 ≤ 140737488355328) :
    Calls Try.prog 17 #[v] w fun e w' => e = .returned (.string (txB (enc l))) ∧ Below w.heap.size w w' := by
  have HV := Lib.hid h
  obtain ⟨a, cap, rfl, g2, g3, _⟩ := h
  unfold maxLen at g3
  refine (callsIn_wide (n := 0)).1 (callsIn_of_wp_marks Try.func17 rfl trivial ?_ rfl)
  simp only [Try.ntmps17, List.size_toArray, List.length_cons, List.length_nil, Nat.reduceAdd, Nat.reduceSub, Array.replicate_succ, Array.replicate_zero, List.push_toArray, List.append_toArray, List.nil_append, List.cons_append]
  have hmk := made_own w ((l.length + 2) / 3 * 4) (by omega)
  obtain ⟨W1, hr1, ho1, hb1⟩ := hmk
  have hr1 : (Instr.makeSlice 22 (.int .i64 0) (.int .i64 (((l.length : Int) + 2) / 3 * 4))).run Try.prog w = .ok (.slice (some ⟨w.heap.size, 0, none⟩) 0 ((l.length + 2) / 3 * 4)) W1 := hr1
  have HO1 := Lib.hid ho1
  have HB1 := Lib.hid hb1
  have s1 := hb1.size
  generalize (l.length + 2) / 3 * 4 = room at hr1 HO1
  clear ho1 hb1
  gi_wp2
  refine ⟨trivial, rfl, (callsIn_wide.2 (chunk_any a l.length cap 3 _ (by omega) (by omega))).mono ?_⟩
  rintro e w2 ⟨rfl, rfl⟩
  simp only [World.size_alloc]
  obtain ⟨Y, hY⟩ : ∃ Y, Y = ((W1.alloc (.cells #[.slice (some ⟨w.heap.size, 0, none⟩) 0 room] 22)).alloc (.cells #[.slice a l.length cap] 22)).alloc (.cells #[.int .i64 ((3 : Nat) : Int)] 3) := ⟨_, rfl⟩
  rw [← hY]
  have sY : Y.heap.size = W1.heap.size + 3 := by rw [hY]; simp
  have BY : Below W1.heap.size W1 Y := by rw [hY]; exact (((Below.refl _ W1).alloc (Nat.le_refl _) _).alloc (by simp) _).alloc (by simp; omega) _
  have b0 : Boxed Y W1.heap.size 22 (.slice (some ⟨w.heap.size, 0, none⟩) 0 room) := by
    rw [hY]
    exact ((Boxed.new W1 22 _).alloc _).alloc _
  have b1 : Boxed Y (W1.heap.size + 1) 22 (.slice a l.length cap) := by
    rw [hY]
    have := (Boxed.new (W1.alloc (.cells #[.slice (some ⟨w.heap.size, 0, none⟩) 0 room] 22)) 22 (.slice a l.length cap)).alloc (.cells #[.int .i64 ((3 : Nat) : Int)] 3)
    simpa only [World.size_alloc] using this
  have b2 : Boxed Y (W1.heap.size + 1 + 1) 3 (.int .i64 ((3 : Nat) : Int)) := by
    rw [hY]
    have := Boxed.new ((W1.alloc (.cells #[.slice (some ⟨w.heap.size, 0, none⟩) 0 room] 22)).alloc (.cells #[.slice a l.length cap] 22)) 3 (.int .i64 ((3 : Nat) : Int))
    simpa only [World.size_alloc] using this
  have HBY := Lib.hid (HB1.out.trans (BY.mono s1))
  have HBX := Lib.hid (And.intro b1 b2)
  have HST := Lib.hid (show CkSt w.heap.size w W1.heap.size (W1.heap.size + 1) (W1.heap.size + 1 + 1) (.slice a l.length cap) (.int .i64 ((3 : Nat) : Int)) (enc (l.take (0 * 3))) Y from ⟨⟨HBY.out, _, b0, by rw [Nat.zero_mul, List.take_zero, enc]; exact HO1.out.below BY⟩, b1, b2⟩)
  clear hY BY b0 b1 b2 HO1 HB1 hr1
  generalize W1.heap.size = ob at *
  have HCL := Lib.hid (chunks_len a l.length 3)
  have HAT := Lib.hid (chunks_at a l.length 3)
  have HCN := Lib.hid (fun k => cnt_lt (L := l.length) (n := 3) (k := k) (by omega))
  gi_wp2
  refine range_it (chunk_iter w.heap.size (ob + 1) (ob + 1 + 1) a l.length cap 3 TB (Kb (ob + 1) (ob + 1 + 1)) (fun _ _ => True) (by omega) (by omega) (by omega) g2 (fun h => h.box)) rfl (enters_of Try.func33 (by kernel_rfl) rfl) (fun _ => rfl) (by omega) ?hS Kb.trans Kb.put
    (fun k W' => CkSt w.heap.size w ob (ob + 1) (ob + 1 + 1) (.slice a l.length cap) (.int .i64 ((3 : Nat) : Int)) (enc (l.take (k * 3))) W') (fun c k W' => False)
    (fun _ _ _ h hs => h.step hs) (fun _ _ _ _ h hs => h) (fun _ _ _ _ _ => trivial) HST.out ?rnd ?done ?stop (fun _ _ _ _ => trivial)
  case hS =>
    intro W hb
    exact ⟨(hb.block _ (Array.getElem?_eq_some_iff.1 HBX.out.1).1).trans HBX.out.1, (hb.block _ (Array.getElem?_eq_some_iff.1 HBX.out.2).1).trans HBX.out.2⟩
  case stop =>
    rintro D c k W hle hk hx hD
    exact hx.elim
  case rnd =>
    rintro l' k hk W2 hle hI
    rw [HAT.out k hk]
    rw [HCL.out, HCN.out] at hk
    have HI := Lib.hid hI
    obtain ⟨a', hv⟩ := chV_shape a l.length 3 k
    have HR := Lib.hid (fun W (hb : Below w.heap.size w W) => hv ▸ chV_row (HV.out.below hb) 3 k (by omega) hk)
    rw [hv]
    obtain ⟨c1, c2, c3⟩ := chL_of (L := l.length) (n := 3) (k := k) hk (by omega)
    have HCB := Lib.hid (chB_len l 3 k)
    have HTK := Lib.hid (enc_take l k hk)
    have HLN := Lib.hid (enc_len (l.take (k * 3)))
    generalize chL l.length 3 k = c at *
    generalize chB l 3 k = cb at *
    clear hv hI
    gi_wp2
    refine ⟨Rnd.refl _ _ _ _, Kb.refl _ _ _, HI.out, fun W4 hs hsz4 ⟨r4, hr4⟩ => ?_⟩
    have HI4 := Lib.hid (HI.out.step (hs.more (own' := []) (fun _ h => h) (fun _ _ h => h) (Nat.le_refl _)))
    clear hs hr4 HI
    gi_wp2
    refine ⟨trivial, rfl, CallsIn.inRound _ ((callsIn_wide.2 (signs_any (.slice a' c c) cb W4 (HR.out W4 HI4.out.st.below) (by rw [HCB.out]; exact c1) (by rw [HCB.out]; omega))).mono ?_)⟩
    rintro e w5 ⟨rfl, hb5⟩
    have hB4 := HI4.out.st.below.size
    have HI5 := Lib.hid (HI4.out.belowS hB4 hb5)
    have HB5 := Lib.hid hb5
    have hlen : (enc (l.take (k * 3))).length + 4 ≤ 140737488355328 := by
      rw [HLN.out, List.length_take, Nat.min_eq_left (by omega)]; omega
    have HLE := Lib.hid hlen
    obtain ⟨x0, x1, x2, x3, hx⟩ : ∃ x0 x1 x2 x3, signs4 cb = [x0, x1, x2, x3] := ⟨_, _, _, _, rfl⟩
    rw [hx] at HTK ⊢
    rw [show (Lib.byteCells [x0, x1, x2, x3]).toArray = #[.int .u8 (x0.toNat : Int), .int .u8 (x1.toNat : Int), .int .u8 (x2.toNat : Int), .int .u8 (x3.toNat : Int)] from rfl]
    obtain ⟨ov, ho1, ho2⟩ := HI5.out.out
    obtain ⟨W6, hW6⟩ : ∃ W6, W6 = (w5.alloc (.cells #[.int .u8 (x0.toNat : Int), .int .u8 (x1.toNat : Int), .int .u8 (x2.toNat : Int), .int .u8 (x3.toNat : Int)] 46)) := ⟨_, rfl⟩
    have b6 : Below w5.heap.size w5 W6 := by rw [hW6]; exact (Below.refl _ _).alloc (Nat.le_refl _) _
    have hB5 : w.heap.size ≤ w5.heap.size := HI5.out.st.below.size
    obtain ⟨u7, w7, hr7, ho7, hg7⟩ := run_append_bytes (w := W6.drew) 22 w.heap.size ov (.slice (some ⟨w5.heap.size, 0, none⟩) 4 4) (enc (l.take (k * 3))) [x0, x1, x2, x3] (ho2.below (b6.drew)) (brow_blk (l := [x0, x1, x2, x3]) (by rw [hW6]; exact heap_alloc_last w5 _) rfl (by simp [maxLen]) rfl) (by simpa using hlen) (by rw [hW6]; simp; omega)
    have hbx7 : Boxed w7 ob 22 ov := (hg7.block _ (by have := ho1.lt; have := b6.size; show ob < W6.heap.size; omega) (fun e => ho2.noBox ho1 (by decide) _ e.symm rfl)).trans ((b6.drew.block _ ho1.lt).trans ho1)
    obtain ⟨oa, on, oc, rfl⟩ := ho2.shapeW
    obtain ⟨ua, un, uc, rfl⟩ := ho7.shapeW
    have q0 := ho1.cell
    have ql := ho1.lt
    have q7 := hbx7.cell
    have f7 := hbx7.frozen
    have HF := Lib.hid (And.intro ho1 (And.intro ho2 (And.intro ho7 (And.intro hg7 (And.intro hbx7 b6)))))
    clear hb5 hx hlen ho1 ho2 ho7 hg7 hbx7 b6
    subst hW6
    gi_wp2
    refine wpIn_region_any (by kernel_rfl) ?_
    change wpAnyIn _ _ _ _ _ _ _ _ _ (World.drew _)
    refine wpAnyIn_ready (rs := [0, 1]) (by kernel_rfl) (by simp) ?_
    refine AllReadyIn.cons rfl (fun K hK => ?_) (AllReadyIn.cons rfl (fun K hK => ?_) AllReadyIn.nil)
    · go_simp
      refine hK _ _ ?_
      clear hK K
      refine wpAnyIn_ready (rs := [1]) (by kernel_rfl) (by simp) ?_
      refine AllReadyIn.cons rfl (fun K hK => ?_) AllReadyIn.nil
      go_simp
      refine hK _ _ ?_
      clear hK K
      refine wpAnyIn_ready (rs := [2]) (by kernel_rfl) (by simp) ?_
      refine AllReadyIn.cons rfl (fun K hK => ?_) AllReadyIn.nil
      refine in_append rfl _ _ 22 22 rfl _ _ _ _ rfl rfl hr7 ?_
      refine hK _ _ ?_
      clear hK K
      refine wpAnyIn_ready (rs := [3]) (by kernel_rfl) (by simp) ?_
      refine AllReadyIn.cons rfl (fun K hK => ?_) AllReadyIn.nil
      go_simp
      refine hK _ _ ?_
      clear hK K
      refine wpAnyIn_done (by kernel_rfl) ?_ _
      gi_wp2
      have HEND := ck_end (N := Y.heap.size) HI4.out hB4 s1 (by omega) (by omega) (HB5.out.trans ((HF.out.2.2.2.2.2.drew).mono HB5.out.size)) (Below.block (HF.out.2.2.2.2.2.drew) _ ql |>.trans HF.out.1) (HF.out.2.1.below HF.out.2.2.2.2.2.drew) HF.out.2.2.2.1 HF.out.2.2.1
      rw [← HTK.out] at HEND
      exact HEND
    · go_simp
      refine hK _ _ ?_
      clear hK K
      refine wpAnyIn_ready (rs := [0]) (by kernel_rfl) (by simp) ?_
      refine AllReadyIn.cons rfl (fun K hK => ?_) AllReadyIn.nil
      go_simp
      refine hK _ _ ?_
      clear hK K
      refine wpAnyIn_ready (rs := [2]) (by kernel_rfl) (by simp) ?_
      refine AllReadyIn.cons rfl (fun K hK => ?_) AllReadyIn.nil
      refine in_append rfl _ _ 22 22 rfl _ _ _ _ rfl rfl hr7 ?_
      refine hK _ _ ?_
      clear hK K
      refine wpAnyIn_ready (rs := [3]) (by kernel_rfl) (by simp) ?_
      refine AllReadyIn.cons rfl (fun K hK => ?_) AllReadyIn.nil
      go_simp
      refine hK _ _ ?_
      clear hK K
      refine wpAnyIn_done (by kernel_rfl) ?_ _
      gi_wp2
      have HEND := ck_end (N := Y.heap.size) HI4.out hB4 s1 (by omega) (by omega) (HB5.out.trans ((HF.out.2.2.2.2.2.drew).mono HB5.out.size)) (Below.block (HF.out.2.2.2.2.2.drew) _ ql |>.trans HF.out.1) (HF.out.2.1.below HF.out.2.2.2.2.2.drew) HF.out.2.2.2.1 HF.out.2.2.1
      rw [← HTK.out] at HEND
      exact HEND
  case done =>
    rintro D W hle hI _ hD
    obtain ⟨v, h1, h2⟩ := hI.out
    have hfin : enc (l.take (((List.range (cnt l.length 3)).map (chV a l.length 3)).length * 3)) = enc l := by
      rw [HCL.out]
      have h0 := HCN.out (cnt l.length 3)
      rw [List.take_of_length_le (by omega)]
    rw [hfin] at h2
    have hcv := conv_row h2.row
    have HBW := Lib.hid hI.st.below
    obtain ⟨va, vn, vc, rfl⟩ := h2.shapeW
    have q0 := h1.cell
    have HD := Lib.hid hD
    have hlt : ob < W.heap.size := h1.lt
    obtain ⟨E, hE⟩ : ∃ E, E = enc l := ⟨_, rfl⟩
    rw [← hE] at hcv
    have HE := Lib.hid hE
    clear h1 h2 hI hD hfin hE
    gi_wp2
    refine ⟨by simp, .inl ⟨_, _, rfl, run_takeDeferred HD.out, ?_⟩⟩
    refine ⟨_, results_tmp rfl _ _ _, ?_⟩
    exact ⟨by rw [← HE.out]; rfl, HBW.out.trans (below_put (by omega) HD.out)⟩
end Go.Proofs.Ytigdmgpejmfceaa
