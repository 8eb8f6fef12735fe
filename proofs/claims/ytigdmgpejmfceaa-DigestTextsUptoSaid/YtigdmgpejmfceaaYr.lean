/- Tags: the program's tagOf, Tag, Right. -/
import Derived.Test.YtigdmgpejmfceaaYq
namespace Go.Proofs.Ytigdmgpejmfceaa
open Go.RowKit Su Yh
attribute [local go_sem] Oper.semAt_some

set_option maxRecDepth 100000 in
set_option maxHeartbeats 4000000 in
theorem concat2 (sb : Nat) (v1 v2 : Value) (l m : List UInt8) (w : World) (hlt : sb < w.heap.size) (c0 : w.cell? ⟨sb, 0, none⟩ = some v1) (c1 : w.cell? ⟨sb, 1, none⟩ = some v2) (h1 : BRow w v1 l) (h2 : BRow w v2 m) (hm : 1 ≤ l.length + m.length) (hn : l.length + m.length ≤ 140737488355328) :
    Calls Try.prog 30 #[.slice (some ⟨sb, 0, none⟩) 2 2] w fun e w' => ∃ v, e = .returned v ∧ OwnU w' w.heap.size v (l ++ m) ∧ Below w.heap.size w w' := by
  obtain ⟨a1, k1, rfl⟩ : ∃ a c, v1 = .slice a l.length c := by obtain ⟨a, c, h, _⟩ := h1; exact ⟨a, c, h⟩
  obtain ⟨a2, k2, rfl⟩ : ∃ a c, v2 = .slice a m.length c := by obtain ⟨a, c, h, _⟩ := h2; exact ⟨a, c, h⟩
  have H1 := Lib.hid h1
  have H2 := Lib.hid h2
  have hg := grow_any (l.length + m.length) w (by omega) (by omega)
  rw [Int.natCast_add] at hg
  have HG := Lib.hid hg
  have e1 : wrap64 (l.length : Int) = (l.length : Int) := IntWalk.wrap64_in _ (by omega)
  have e2 : wrap64 ((l.length : Int) + (m.length : Int)) = ((l.length + m.length : Nat) : Int) := by rw [IntWalk.wrap64_in _ (by omega)]; omega
  have e3 : decide ((l.length : Int) < 0) = false := decide_eq_false (by omega)
  have e4 : decide (((l.length + m.length : Nat) : Int) < 0) = false := decide_eq_false (by omega)
  clear h1 h2 hg
  go_enter Try.func30, Try.ntmps30
  go_wp2_with fail
  refine wp_loop_rounds 3 ?_
  rw [rounds_succ]
  go_wp2_with fail
  rw [rounds_succ]
  go_wp2_with fail
  rw [rounds_succ]
  go_wp2_with fail
  refine HG.out.mono ?_
  rintro e w1 ⟨g, cap, rfl, hown, hb⟩
  have hs1 := hb.size
  have d0 : w1.cell? ⟨sb, 0, none⟩ = some (.slice a1 l.length k1) := (hb.cell (by exact hlt)).trans c0
  have d1 : w1.cell? ⟨sb, 1, none⟩ = some (.slice a2 m.length k2) := (hb.cell (by exact hlt)).trans c1
  have HO := Lib.hid hown
  have HB := Lib.hid hb
  clear hown hb c0 c1
  go_wp2_with fail
  refine wp_loop_rounds 3 ?_
  rw [rounds_succ]
  go_wp2_with (refine wpList_append_bytes rfl _ _ rfl w.heap.size (.slice (some ⟨g, 0, none⟩) 0 cap) (.slice a1 l.length k1) [] l rfl rfl HO.out (H1.out.below HB.out) (by simp; omega) hs1 ?_; intro u w2 own2 gr2; rw [List.nil_append] at own2; obtain ⟨ua, uc, rfl⟩ := own2.shape; have hb2 : Below w.heap.size w w2 := HB.out.grown gr2 hs1 (fun k hk => (HO.out.lt k hk).1); have hlt1 : sb < w1.heap.size := Nat.lt_of_lt_of_le hlt hs1; have f1 : w2.cell? ⟨sb, 1, none⟩ = some (.slice a2 m.length k2) := gr2.cell d1 (fun e => by have := (HO.out.lt sb e.symm).1; omega); have HO2 := Lib.hid own2; have HB2 := Lib.hid hb2; have hs2 := hb2.size; clear own2 hb2 gr2)
  rw [rounds_succ]
  go_wp2_with (refine wpList_append_bytes rfl _ _ rfl w.heap.size (.slice ua l.length uc) (.slice a2 m.length k2) l m rfl rfl HO2.out (H2.out.below HB2.out) (by omega) hs2 ?_; intro u3 w3 own3 gr3; obtain ⟨ua3, uc3, rfl⟩ := own3.shape; have HB3 := Lib.hid (HB2.out.grown gr3 hs2 (fun k hk => (HO2.out.lt k hk).1)); have HO3 := Lib.hid own3; clear own3 gr3)
  rw [rounds_succ]
  go_wp2_with fail
  go_ret
  have h := HO3.out
  rw [List.length_append] at h
  exact ⟨_, rfl, h, HB3.out⟩

theorem cells_laid (w : World) (b : Nat) (cur : Array Value) (t : TypeId) (l : List UInt8) (h : w.heap[b]? = some (.cells cur t (0, 0))) (hl : l.length = cur.size) : (storeCells ⟨b, 0, none⟩ (Lib.byteCells l)).run Try.prog w = .ok () (w.setRow b (Lib.byteCells l).toArray) := by
  have e : (Lib.byteCells l).length = cur.toList.length := by simp [Lib.byteCells, hl]
  rw [run_storeCells_at (P := Try.prog) b 0 t (Lib.byteCells l) 0 cur w h (by rw [Nat.add_zero, Nat.zero_add, e]; simp) (fun v hv => byteCells_one l v hv)]
  rw [Nat.zero_add, List.take_zero, List.nil_append, List.drop_eq_nil_of_le (by omega), List.append_nil]
/-- Below in two steps. -/
theorem below_trans {w w1 w2 : World} (h : Below w.heap.size w w1) (h2 : Below w1.heap.size w1 w2) : Below w.heap.size w w2 := h.trans (h2.mono h.size)
set_option maxRecDepth 100000 in
set_option maxHeartbeats 8000000 in
theorem tagOf_any (vk v : Value) (k l : List UInt8) (w : World) (hk : BRow w vk k) (h : BRow w v l) (hkn : k.length ≤ 140737488355328) (hn : 64 + l.length ≤ 140737488355328) :
    Calls Try.prog 24 #[vk, v] w fun e w' => e = .returned (.agg (Lib.byteCells (tag k l)).toArray) ∧ Below w.heap.size w w' := by
  have HK := Lib.hid hk
  have HV := Lib.hid h
  obtain ⟨ka, kc, rfl⟩ : ∃ a c, vk = .slice a k.length c := by obtain ⟨a, c, h, _⟩ := hk; exact ⟨a, c, h⟩
  obtain ⟨a, cap, rfl⟩ : ∃ a c, v = .slice a l.length c := by obtain ⟨a, c, h, _⟩ := h; exact ⟨a, c, h⟩
  have hz := zero20
  have HM := Lib.hid (fun (x : UInt8) (W : World) (hW : Below w.heap.size w W) => masked_any _ k x W (HK.out.below hW) hkn)
  have HM54 := Lib.hid (fun (W : World) (hW : Below w.heap.size w W) => HM.out 54 W hW)
  have HM92 := Lib.hid (fun (W : World) (hW : Below w.heap.size w W) => HM.out 92 W hW)
  rw [show (((54 : UInt8).toNat : Nat) : Int) = 54 from rfl] at HM54
  rw [show (((92 : UInt8).toNat : Nat) : Int) = 92 from rfl] at HM92
  have HL54 := Lib.hid (mask_len k 54)
  have HL92 := Lib.hid (mask_len k 92)
  have HTG := Lib.hid (show tag k l = sha (mask k 92 ++ sha (mask k 54 ++ l)) from rfl)
  obtain ⟨T, hT⟩ : ∃ T, T = tag k l := ⟨_, rfl⟩
  have HTL := Lib.hid (show T.length = 20 by rw [hT]; exact tag_len k l)
  rw [← hT] at HTG ⊢
  clear h hk hT HM
  go_enter Try.func24, Try.ntmps24
  go_wp2_with fail
  have HB0 := Lib.hid ((Below.refl w.heap.size w).alloc (Nat.le_refl _) (.cells (arrB [] 20) 35))
  refine (HM54.out _ HB0.out).mono ?_
  rintro e w1 ⟨u1, rfl, hr1, hb1⟩
  have hB1 : Below w.heap.size w w1 := below_trans HB0.out hb1
  have hz1 : w1.heap[w.heap.size]? = some (.cells (arrB [] 20) 35 (0, 0)) := (hb1.block _ (by simp)).trans (heap_alloc_last w _)
  obtain ⟨ua, un, uc, rfl, hun⟩ : ∃ a n c, u1 = .slice a n c ∧ n = (mask k 54).length := by obtain ⟨a, c, h, _⟩ := hr1; exact ⟨a, _, c, h, rfl⟩
  have HR1 := Lib.hid hr1
  have HB1 := Lib.hid hB1
  have HZ1 := Lib.hid hz1
  clear hr1 hb1 hB1 hz1 hun
  go_wp2_with fail
  have HBA := Lib.hid (fun (cs : Array Value) => (Below.refl w1.heap.size w1).alloc (Nat.le_refl _) (.cells cs 22))
  refine (concat2 w1.heap.size (.slice ua un uc) (.slice a l.length cap) (mask k 54) l (w1.alloc (.cells #[.slice ua un uc, .slice a l.length cap] 22)) (by simp) (by simp) (by simp) (HR1.out.below (HBA.out _)) (HV.out.below (below_trans HB1.out (HBA.out _))) (by rw [HL54.out]; omega) (by rw [HL54.out]; omega)).mono ?_
  rintro e w2 ⟨u2, rfl, ho2, hb2⟩
  have hb12 : Below w1.heap.size w1 w2 := below_trans (HBA.out _) hb2
  have hB2 : Below w.heap.size w w2 := below_trans HB1.out hb12
  have hz2 := (hb12.block _ (Array.getElem?_eq_some_iff.1 HZ1.out).1).trans HZ1.out
  have hr2 := ho2.row
  obtain ⟨va, vn, vc, rfl⟩ := ho2.shapeW
  have HR2 := Lib.hid hr2
  have HB2 := Lib.hid hB2
  have HZ2 := Lib.hid hz2
  clear HR1 HB1 HZ1 HBA hz2 hr2 hb2 hb12 hB2 ho2
  go_wp2_with fail
  refine (digestOf_any _ _ w2 HR2.out (by rw [List.length_append, HL54.out]; omega)).mono ?_
  rintro e w3 ⟨rfl, hb3⟩
  have hB3 : Below w.heap.size w w3 := below_trans HB2.out hb3
  have hz3 := (hb3.block _ (Array.getElem?_eq_some_iff.1 HZ2.out).1).trans HZ2.out
  have HTG2 := HTG
  have HLS := Lib.hid (sha_len (mask k 54 ++ l))
  unfold shaA
  generalize hI : sha (mask k 54 ++ l) = I at *
  have hst := store20 w3 I HLS.out
  have hB4 : Below w.heap.size w (w3.alloc (.cells (Lib.byteCells I).toArray 35)) := hB3.alloc hB3.size _
  have hz4 : (w3.alloc (.cells (Lib.byteCells I).toArray 35)).heap[w.heap.size]? = some (.cells (arrB [] 20) 35 (0, 0)) := by
    rw [Below.heap_alloc _ _ _ (Array.getElem?_eq_some_iff.1 hz3).1]; exact hz3
  have hi4 := heap_alloc_last w3 (.cells (Lib.byteCells I).toArray 35)
  have HB4 := Lib.hid hB4
  have HZ4 := Lib.hid hz4
  have HI4 := Lib.hid hi4
  have hs3 := hB3.size
  clear HB2 HZ2 HR2 hb3 hB3 hz3 hB4 hz4 hi4 hI HTG2
  go_wp2_with (refine wpList_stores rfl 35 _ _ rfl _ _ rfl rfl hst ?_; clear hst)
  obtain ⟨W4, hW4⟩ : ∃ W4, W4 = w3.alloc (.cells (Lib.byteCells I).toArray 35) := ⟨_, rfl⟩
  have hs4 : W4.heap.size = w3.heap.size + 1 := by rw [hW4]; simp
  obtain ⟨g, hg⟩ : ∃ g, g = w3.heap.size := ⟨_, rfl⟩
  rw [← hW4] at HB4 HZ4 HI4 ⊢
  rw [← hg] at HI4 hs3 hs4 ⊢
  clear hW4 hg
  have HRI := Lib.hid (brow_blk (k := 20) HI4.out HLS.out.symm (by rw [HLS.out]; simp [maxLen]) rfl)
  have HBD := Lib.hid (show Below w.heap.size w W4.drew from HB4.out.drew)
  have HDS := Lib.hid (show W4.drew.heap.size = g + 1 from hs4)
  have HDZ := Lib.hid (show W4.drew.heap[w.heap.size]? = _ from HZ4.out)
  have HDI := Lib.hid (show W4.drew.heap[g]? = _ from HI4.out)
  have HMM := Lib.hid (HM92.out W4.drew HBD.out)
  have HCC := Lib.hid (fun (sb : Nat) (v1 v2 : Value) (W : World) (a1 : sb < W.heap.size) (a2 : W.cell? ⟨sb, 0, none⟩ = some v1) (a3 : W.cell? ⟨sb, 1, none⟩ = some v2) (a4 : BRow W v1 (mask k 92)) (a5 : BRow W v2 I) => concat2 sb v1 v2 (mask k 92) I W a1 a2 a3 a4 a5 (by rw [HL92.out]; omega) (by rw [HL92.out, HLS.out]; omega))
  have HDG := Lib.hid (fun (v : Value) (W : World) (a : BRow W v (mask k 92 ++ I)) => digestOf_any v _ W a (by rw [List.length_append, HL92.out, HLS.out]; omega))
  unfold shaA at HDG
  rw [← HTG.out] at HDG
  have htl : (Lib.byteCells T).length = 20 := by rw [Lib.byteCells, List.length_map]; exact HTL.out
  have HRJ := Lib.hid (fun (X : World) (hX : Below W4.drew.heap.size W4.drew X) => HRI.out.below (show Below W4.heap.size W4 X from ⟨hX.os, hX.tape, hX.output, hX.size, hX.block⟩))
  refine wp_region_noPanic ?_
  go_region_with (first
    | (go_at_call 32; refine HMM.out.mono ?_; rintro e w5 ⟨u5, rfl, hr5, hb5⟩; obtain ⟨ma, mn, mc, rfl⟩ : ∃ a n c, u5 = .slice a n c := (by obtain ⟨a, c, h, _⟩ := hr5; exact ⟨a, _, c, h⟩); have HR5 := Lib.hid hr5; have HB5 := Lib.hid hb5; clear hr5 hb5)
    | (go_at_call 30; refine (HCC.out w5.heap.size (.slice ma mn mc) (.slice (some ⟨g, 0, none⟩) 20 20) (w5.alloc (.cells #[.slice ma mn mc, .slice (some ⟨g, 0, none⟩) 20 20] 22)) (by simp) (by simp) (by simp) (HR5.out.below ((Below.refl _ _).alloc (Nat.le_refl _) _)) (HRJ.out _ (below_trans HB5.out ((Below.refl _ _).alloc (Nat.le_refl _) _)))).mono ?_; rintro e w6 ⟨u6, rfl, ho6, hb6⟩; have hr6 := ho6.row; obtain ⟨na, nn, nc, rfl⟩ := ho6.shapeW; have HR6 := Lib.hid hr6; have HB6 := Lib.hid (below_trans HB5.out (below_trans ((Below.refl _ _).alloc (Nat.le_refl _) _) hb6)); clear ho6 hb6 hr6)
    | (go_at_call 23; refine (HDG.out _ w6 HR6.out).mono ?_; rintro e w7 ⟨rfl, hb7⟩; have HB7 := Lib.hid (below_trans HBD.out (below_trans HB6.out hb7)); have hz7 := (hb7.block _ (Array.getElem?_eq_some_iff.1 (((below_trans (Below.refl _ _) HB6.out).block w.heap.size (by rw [HDS.out]; omega)).trans HDZ.out)).1).trans (((below_trans (Below.refl _ _) HB6.out).block w.heap.size (by rw [HDS.out]; omega)).trans HDZ.out); clear hb7; have hst7 := cells_laid w7 w.heap.size (arrB [] 20) 35 T hz7 (by rw [HTL.out, arrB_size _ _ (by simp)]); have HZ7 := Lib.hid hz7; clear hz7)
)
  clear hst7 htl
  refine NoPanic.normal ?_
  go_wp2_with fail
  refine bodyPost_ret (v := .agg (Lib.byteCells T).toArray) (results_cell_row rfl _ _ w.heap.size 35 _ (0, 0) _ rfl (setRow_heap _ _ _ _ 35 (0, 0) HZ7.out) Try.underlying35 rfl (by rw [bytes_size, HTL.out]; exact size20)) rfl ⟨rfl, below_setRow HB7.out (Nat.le_refl _) _⟩

set_option maxRecDepth 100000 in
set_option maxHeartbeats 4000000 in
theorem tag_any (vk v : Value) (k l : List UInt8) (w : World) (hk : BRow w vk k) (h : BRow w v l) (hkn : k.length ≤ 140737488355328) (hn : 64 + l.length ≤ 140737488355328) :
    Calls Try.prog 10 #[vk, v] w fun e w' => ∃ u, e = .returned u ∧ Row20 w' w.heap.size u (tag k l) ∧ Below w.heap.size w w' := by
  have HD := Lib.hid (tagOf_any vk v k l w hk h hkn hn)
  obtain ⟨ka, kc, rfl⟩ : ∃ a c, vk = .slice a k.length c := by obtain ⟨a, c, h, _⟩ := hk; exact ⟨a, c, h⟩
  obtain ⟨a, cap, rfl⟩ : ∃ a c, v = .slice a l.length c := by obtain ⟨a, c, h, _⟩ := h; exact ⟨a, c, h⟩
  have hz := zero20
  have HL := Lib.hid (tag_len k l)
  generalize tag k l = s at *
  clear h hk
  go_enter Try.func10, Try.ntmps10
  go_wp2_with fail
  refine HD.out.mono ?_
  rintro e w1 ⟨rfl, hb⟩
  have hst := store20 w1 s HL.out
  have HB := Lib.hid hb
  have HLA := Lib.hid (heap_alloc_last w1 (.cells (Lib.byteCells s).toArray 35))
  have HS := Lib.hid (show (w1.alloc (.cells (Lib.byteCells s).toArray 35)).heap[w1.heap.size]? = some (.cells (Lib.byteCells s).toArray 35 (0, 0)) from HLA.out)
  have hsz := hb.size
  clear hb HLA
  go_wp2_with (refine wpList_stores rfl 35 _ _ rfl _ _ rfl rfl hst ?_; clear hst)
  go_ret
  exact ⟨_, rfl, ⟨_, rfl, hsz, HS.out, HL.out⟩, HB.out.alloc HB.out.size _⟩
end Go.Proofs.Ytigdmgpejmfceaa
