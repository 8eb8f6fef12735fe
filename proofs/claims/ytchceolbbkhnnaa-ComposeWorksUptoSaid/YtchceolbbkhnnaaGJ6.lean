/- Texts of this seat, put together: CwW. -/
import Derived.Test.YtchceolbbkhnnaaGJ5
import Derived.Test.YtchceolbbkhnnaaGM7
/- The law. -/
namespace Go.Proofs.Ytchceolbbkhnnaa
open Go.RowKit Ch
open Lib (hid)

theorem chs_take {w : World} {v : Value} {L : List (Int × List OpD)} (h : ChsRow w v L) (hl : 8 < L.length) : ∃ a c, v = .slice a L.length c ∧ (∀ W, (Instr.sliceAt 25 v none (some (.int .i64 8)) none).run Try.prog W = .ok (.slice a 8 c) W) ∧ ChsRow w (.slice a 8 c) (L.take 8) := by
 obtain ⟨a, c, rfl, h1, h2, h3⟩ := h
 have he : Try.prog.elem 25 = 24 := by kernel_rfl
 have hu : Try.prog.underlying 25 = some (.slice (Try.prog.elem 25)) := by kernel_rfl
 have ht : (L.take 8).length = 8 := by rw [List.length_take]; omega
 refine ⟨a, c, rfl, fun W => ?_, a, c, by rw [ht], by rw [ht]; omega, h2, fun i hi => ?_⟩
 ·rw [run_sliceAt_slice W _ _ _ _ _ hu, run_slice_h W _ _ _ _ hu .i64 _ (by omega) (by omega), he, Try.sizeOf24]
  show Result.ok (sliced a 0 (Int.toNat 8) c 2) W = _
  unfold sliced
  have hc : ¬ c = 0 := by omega
  rw [if_neg hc]
  cases a with
  | none => rfl
  | some a => simp [Addr.add]
 ·rw [ht] at hi
  obtain ⟨b, off, u, e, hb, x0, x1, x2⟩ := h3 i (by omega)
  exact ⟨b, off, u, e, hb, by rw [List.getElem_take]; exact x0, x1, by rw [List.getElem_take]; exact x2⟩

set_option maxRecDepth 100000 in
set_option maxHeartbeats 16000000 in
theorem cworks_walk (f : Int) (va : Value) (A : List OpD) (g : Int) (vb : Value) (C : List OpD) (lv : Value) (L : List (Int × List OpD)) (w : World) (hva : OpRow w va A) (hza : SmallO A) (hvb : OpRow w vb C) (hzb : SmallO C) (hlv : ChsRow w lv L) (hzl : ∀ c ∈ L, SmallO c.2) :
 Calls Try.prog 3 #[chAgg f va, chAgg g vb, lv] w (OutB w true) := by
 have HVA := hid hva
 have HVB := hid hvb
 have HVL := hid hlv
 have HZA := hid hza
 have HZB := hid hzb
 have HTK := hid (fun h => chs_take hlv h)
 obtain ⟨aa, ac, rfl⟩ := hva.shape
 obtain ⟨ba, bc, rfl⟩ := hvb.shape
 obtain ⟨la, lc, rfl⟩ : ∃ a c, lv = .slice a L.length c := by obtain ⟨a, c, h, _⟩ := hlv; exact ⟨a, c, h⟩
 have hln : L.length ≤ 9223372036854775807 := by obtain ⟨_, _, _, h1, h2, _⟩ := hlv; exact Nat.le_trans h1 h2
 obtain ⟨F, hF⟩ : ∃ F, F = if cmpE f g A C = 0 then f else 0 := ⟨_, rfl⟩
 obtain ⟨E, hE⟩ : ∃ E, E = cmpE f g A C := ⟨_, rfl⟩
 obtain ⟨R, hR⟩ : ∃ R, R = cmpR f g A C := ⟨_, rfl⟩
 have HRS := hid (show SmallO R by rw [hR]; exact cmpR_small _ _ _ _)
 have HCO := hid (fun (W : World) (x y : Value) (hx : OpRow W x A) (hy : OpRow W y C) => cmpO (f := f) (g := g) hx (small_sized hza) hy (small_sized hzb))
 have HCR := hid (fun (W : World) (x y : Value) (hx : OpRow W x A) (hy : OpRow W y C) => refCompose6_any f x A g y C W hx (small_sized hza) hy (small_sized hzb) (small_t hza) (small_t hzb))
 rw [← hF, ← hE, ← hR] at HCO HCR
 obtain ⟨M, hM⟩ : ∃ M, M = L.take 8 := ⟨_, rfl⟩
 obtain ⟨AE, AF, AR, hfin⟩ : ∃ E0 F0 R0, allF f M = (E0, F0, R0) := ⟨_, _, _, rfl⟩
 have hzm : ∀ c ∈ M, SmallO c.2 := fun c hc => hzl c (by rw [hM] at hc; exact List.mem_of_mem_take hc)
 have HCA := hid (fun (W : World) (x : Value) (hx : ChsRow W x M) => all_any f x M W hx (fun c hc => small_sized (hzm c hc)))
 have HCAR := hid (fun (W : World) (x : Value) (hx : ChsRow W x M) => refAll6_any f x M W hx (fun c hc => small_sized (hzm c hc)) (fun c hc => small_t (hzm c hc)))
 rw [hfin] at HCA HCAR
 have HM := hid hM
 clear hfin hM hzm hF hE hR hva hvb hza hzb hlv hzl
 obtain ⟨W, hW⟩ : ∃ W, W = (w.alloc (.cells #[.int .i64 f, .slice aa A.length ac] 24)).alloc (.cells #[.int .i64 g, .slice ba C.length bc] 24) := ⟨_, rfl⟩
 obtain ⟨h0, h1, bW⟩ := box2 w (.cells #[.int .i64 f, .slice aa A.length ac] 24) (.cells #[.int .i64 g, .slice ba C.length bc] 24)
 rw [← hW] at h0 h1 bW
 have BW := hid bW
 have KW := hid (show Boxes W [(w.heap.size, #[.int .i64 f, .slice aa A.length ac]), (w.heap.size + 1, #[.int .i64 g, .slice ba C.length bc])] from fun x hx => by
  simp only [List.mem_cons, List.not_mem_nil, or_false] at hx
  rcases hx with rfl | rfl
  ·exact h0
  ·exact h1)
 have s_W : w.heap.size + 2 ≤ W.heap.size := by rw [hW]; simp
 have HW := hid hW
 have HAW := hid (awake6_any W)
 clear hW h0 h1 bW
 go_enter Try.func3, Try.ntmps3
 go_wp2_with fail
 rw [← HW.out]
 refine HAW.out.mono ?_
 rintro e w1 ⟨rfl, hb⟩
 have Bw1 := hid (BW.out.trans (hb.mono BW.out.size))
 have Kw1 := hid (KW.out.below hb)
 have s_w1 : W.heap.size ≤ w1.heap.size := hb.size
 clear KW
 clear hb
 obtain ⟨l00, l01, l02⟩ := Kw1.out.at (b := w.heap.size) (u := .int .i64 f) (v := .slice aa A.length ac) (by simp)
 have HN := hid (lentC_any f (.slice aa A.length ac) A w1 (HVA.out.below Bw1.out) HZA.out)
 go_wp2_with fail
 refine HN.out.mono ?_
 clear HN
 clear l00 l01 l02
 intro e w2 hh
 obtain ⟨gx, cx, psx, rfl, hps, hL, hb, hgE, haE⟩ := hh.shapeW
 have HPSx := hid hps
 have HGEx := hid hgE
 have HAEx := hid haE
 have Lx_w2 := hid hL
 clear hh hps hL hgE haE
 have Bw2 := hid (Bw1.out.trans (hb.mono Bw1.out.size))
 have Kw2 := hid (Kw1.out.below hb)
 have s_w2 : w1.heap.size ≤ w2.heap.size := hb.size
 clear Kw1
 clear hb
 obtain ⟨X2, hX2⟩ : ∃ X, X = w2.alloc (.cells #[.int .i64 f, .slice (some ⟨gx, 0, none⟩) A.length cx] 24) := ⟨_, rfl⟩
 have bx := show Below w2.heap.size w2 X2 by rw [hX2]; exact below_box _ _
 have KX2 := hid (show Boxes X2 [(w.heap.size, #[.int .i64 f, .slice aa A.length ac]), (w.heap.size + 1, #[.int .i64 g, .slice ba C.length bc]), (w2.heap.size, #[.int .i64 f, .slice (some ⟨gx, 0, none⟩) A.length cx])] by rw [hX2]; exact Kw2.out.more _)
 have BX2 := hid (Bw2.out.trans (bx.mono Bw2.out.size))
 have Lx_X2 := hid (Lx_w2.out.below bx)
 have s_X2 : w2.heap.size + 1 = X2.heap.size := by rw [hX2]; simp
 have HX2 := hid hX2
 have SX2 := hid s_X2
 clear hX2 bx s_X2
 have s_X2 := Nat.le_of_eq SX2.out
 clear Lx_w2
 obtain ⟨l00, l01, l02⟩ := Kw2.out.at (b := w.heap.size + 1) (u := .int .i64 g) (v := .slice ba C.length bc) (by simp)
 have HN := hid (lentC_any g (.slice ba C.length bc) C X2 (HVB.out.below BX2.out) HZB.out)
 go_wp2_with fail
 rw [← HX2.out]
 refine HN.out.mono ?_
 clear HN
 clear l00 l01 l02
 intro e w3 hh
 obtain ⟨gy, cy, psy, rfl, hps, hL, hb, hgE, haE⟩ := hh.shapeW
 have HPSy := hid hps
 have HGEy := hid hgE
 have HAEy := hid haE
 have Ly_w3 := hid hL
 clear hh hps hL hgE haE
 have Bw3 := hid (BX2.out.trans (hb.mono BX2.out.size))
 have Kw3 := hid (KX2.out.below hb)
 have Lx_w3 := hid (Lx_X2.out.below hb)
 have s_w3 : X2.heap.size ≤ w3.heap.size := hb.size
 clear Lx_X2
 clear KX2
 clear Kw2
 clear hb
 obtain ⟨X3, hX3⟩ : ∃ X, X = w3.alloc (.cells #[.int .i64 g, .slice (some ⟨gy, 0, none⟩) C.length cy] 24) := ⟨_, rfl⟩
 have bx := show Below w3.heap.size w3 X3 by rw [hX3]; exact below_box _ _
 have KX3 := hid (show Boxes X3 [(w.heap.size, #[.int .i64 f, .slice aa A.length ac]), (w.heap.size + 1, #[.int .i64 g, .slice ba C.length bc]), (w2.heap.size, #[.int .i64 f, .slice (some ⟨gx, 0, none⟩) A.length cx]), (w3.heap.size, #[.int .i64 g, .slice (some ⟨gy, 0, none⟩) C.length cy])] by rw [hX3]; exact Kw3.out.more _)
 have BX3 := hid (Bw3.out.trans (bx.mono Bw3.out.size))
 have Lx_X3 := hid (Lx_w3.out.below bx)
 have Ly_X3 := hid (Ly_w3.out.below bx)
 have s_X3 : w3.heap.size + 1 = X3.heap.size := by rw [hX3]; simp
 have HX3 := hid hX3
 have SX3 := hid s_X3
 clear hX3 bx s_X3
 have s_X3 := Nat.le_of_eq SX3.out
 clear Lx_w3
 clear Ly_w3
 obtain ⟨l00, l01, l02⟩ := Kw3.out.at (b := w2.heap.size) (u := .int .i64 f) (v := .slice (some ⟨gx, 0, none⟩) A.length cx) (by simp)
 have HN := hid (HCO.out X3 _ _ (Lx_X3.out.opsE HPSx.out) (Ly_X3.out.opsE HPSy.out))
 go_wp2_with fail
 rw [← HX3.out]
 refine HN.out.mono ?_
 clear HN
 clear l00 l01 l02
 intro e w4 hh
 obtain ⟨ac1, nc1, kc1, rfl, hO, hb⟩ := hh.shapeW
 have Uc_w4 := hid hO
 clear hh hO
 have Bw4 := hid (BX3.out.trans (hb.mono BX3.out.size))
 have Kw4 := hid (KX3.out.below hb)
 have Lx_w4 := hid (Lx_X3.out.below hb)
 have Ly_w4 := hid (Ly_X3.out.below hb)
 have s_w4 : X3.heap.size ≤ w4.heap.size := hb.size
 clear Lx_X3
 clear Ly_X3
 clear KX3
 clear Kw3
 clear hb
 obtain ⟨X4, hX4⟩ : ∃ X, X = w4.alloc (.cells #[.int .i64 F, .slice ac1 nc1 kc1] 24) := ⟨_, rfl⟩
 have bx := show Below w4.heap.size w4 X4 by rw [hX4]; exact below_box _ _
 have KX4 := hid (show Boxes X4 [(w.heap.size, #[.int .i64 f, .slice aa A.length ac]), (w.heap.size + 1, #[.int .i64 g, .slice ba C.length bc]), (w2.heap.size, #[.int .i64 f, .slice (some ⟨gx, 0, none⟩) A.length cx]), (w3.heap.size, #[.int .i64 g, .slice (some ⟨gy, 0, none⟩) C.length cy]), (w4.heap.size, #[.int .i64 F, .slice ac1 nc1 kc1])] by rw [hX4]; exact Kw4.out.more _)
 have BX4 := hid (Bw4.out.trans (bx.mono Bw4.out.size))
 have Uc_X4 := hid (Uc_w4.out.below bx)
 have Lx_X4 := hid (Lx_w4.out.below bx)
 have Ly_X4 := hid (Ly_w4.out.below bx)
 have s_X4 : w4.heap.size + 1 = X4.heap.size := by rw [hX4]; simp
 have HX4 := hid hX4
 have SX4 := hid s_X4
 clear hX4 bx s_X4
 have s_X4 := Nat.le_of_eq SX4.out
 clear Uc_w4
 clear Lx_w4
 clear Ly_w4
 obtain ⟨l00, l01, l02⟩ := Kw4.out.at (b := w2.heap.size) (u := .int .i64 f) (v := .slice (some ⟨gx, 0, none⟩) A.length cx) (by simp)
 obtain ⟨l10, l11, l12⟩ := Kw4.out.at (b := w.heap.size) (u := .int .i64 f) (v := .slice aa A.length ac) (by simp)
 have HN := hid (keptC_any f (.slice aa A.length ac) A w1.heap.size w2.heap.size gx cx psx w X4 Lx_X4.out HPSx.out HVA.out BX4.out (by omega) HZA.out HGEx.out HAEx.out (by omega))
 go_wp2_with fail
 rw [← HX4.out]
 refine HN.out.mono ?_
 clear HN
 clear l00 l01 l02 l10 l11 l12
 clear Lx_X4
 rintro e w5 ⟨rfl, hS⟩
 have Bw5 := hid (BX4.out.trans (hS.below.mono (by omega)))
 have Kw5 := hid (KX4.out.span hS (by
  intro x hx
  simp only [List.mem_cons, List.not_mem_nil, or_false] at hx
  rcases hx with rfl | rfl | rfl | rfl | rfl <;> (simp only; omega)))
 have Uc_w5 := hid (Uc_X4.out.span hS (by omega))
 have Ly_w5 := hid (Ly_X4.out.span hS (by omega))
 have s_w5 : X4.heap.size ≤ w5.heap.size := hS.below.size
 clear Uc_X4
 clear Ly_X4
 clear KX4
 clear Kw4
 clear hS
 obtain ⟨l00, l01, l02⟩ := Kw5.out.at (b := w3.heap.size) (u := .int .i64 g) (v := .slice (some ⟨gy, 0, none⟩) C.length cy) (by simp)
 obtain ⟨l10, l11, l12⟩ := Kw5.out.at (b := w.heap.size + 1) (u := .int .i64 g) (v := .slice ba C.length bc) (by simp)
 have HN := hid (keptC_any g (.slice ba C.length bc) C X2.heap.size w3.heap.size gy cy psy w w5 Ly_w5.out HPSy.out HVB.out Bw5.out (by omega) HZB.out HGEy.out HAEy.out (by omega))
 go_wp2_with fail
 refine HN.out.mono ?_
 clear HN
 clear l00 l01 l02 l10 l11 l12
 clear Ly_w5
 rintro e w6 ⟨rfl, hS⟩
 have Bw6 := hid (Bw5.out.trans (hS.below.mono (by omega)))
 have Kw6 := hid (Kw5.out.span hS (by
  intro x hx
  simp only [List.mem_cons, List.not_mem_nil, or_false] at hx
  rcases hx with rfl | rfl | rfl | rfl | rfl <;> (simp only; omega)))
 have Uc_w6 := hid (Uc_w5.out.span hS (by omega))
 have s_w6 : w5.heap.size ≤ w6.heap.size := hS.below.size
 clear Uc_w5
 clear Kw5
 clear hS
 obtain ⟨l00, l01, l02⟩ := Kw6.out.at (b := w.heap.size) (u := .int .i64 f) (v := .slice aa A.length ac) (by simp)
 obtain ⟨l10, l11, l12⟩ := Kw6.out.at (b := w.heap.size + 1) (u := .int .i64 g) (v := .slice ba C.length bc) (by simp)
 have HN := hid (HCR.out w6 _ _ (HVA.out.below Bw6.out) (HVB.out.below Bw6.out))
 go_wp2_with fail
 refine HN.out.mono ?_
 clear HN
 clear l00 l01 l02 l10 l11 l12
 intro e w7 hh
 obtain ⟨ar1, nr1, kr1, rfl, hO, hb⟩ := hh.shapeW
 have Ur_w7 := hid hO
 clear hh hO
 have Bw7 := hid (Bw6.out.trans (hb.mono Bw6.out.size))
 have Kw7 := hid (Kw6.out.below hb)
 have Uc_w7 := hid (Uc_w6.out.below hb)
 have s_w7 : w6.heap.size ≤ w7.heap.size := hb.size
 clear Uc_w6
 clear Kw6
 clear hb
 obtain ⟨X7, hX7⟩ : ∃ X, X = w7.alloc (.cells #[.int .i64 F, .slice ar1 nr1 kr1] 24) := ⟨_, rfl⟩
 have bx := show Below w7.heap.size w7 X7 by rw [hX7]; exact below_box _ _
 have KX7 := hid (show Boxes X7 [(w.heap.size, #[.int .i64 f, .slice aa A.length ac]), (w.heap.size + 1, #[.int .i64 g, .slice ba C.length bc]), (w2.heap.size, #[.int .i64 f, .slice (some ⟨gx, 0, none⟩) A.length cx]), (w3.heap.size, #[.int .i64 g, .slice (some ⟨gy, 0, none⟩) C.length cy]), (w4.heap.size, #[.int .i64 F, .slice ac1 nc1 kc1]), (w7.heap.size, #[.int .i64 F, .slice ar1 nr1 kr1])] by rw [hX7]; exact Kw7.out.more _)
 have BX7 := hid (Bw7.out.trans (bx.mono Bw7.out.size))
 have Uc_X7 := hid (Uc_w7.out.below bx)
 have Ur_X7 := hid (Ur_w7.out.below bx)
 have s_X7 : w7.heap.size + 1 = X7.heap.size := by rw [hX7]; simp
 have HX7 := hid hX7
 have SX7 := hid s_X7
 clear hX7 bx s_X7
 have s_X7 := Nat.le_of_eq SX7.out
 clear Uc_w7
 clear Ur_w7
 obtain ⟨l00, l01, l02⟩ := Kw7.out.at (b := w4.heap.size) (u := .int .i64 F) (v := .slice ac1 nc1 kc1) (by simp)
 have HN := hid (refSame_yes F (.slice ac1 nc1 kc1) (.slice ar1 nr1 kr1) R X7 Uc_X7.out.row Ur_X7.out.row)
 go_wp2_with fail
 rw [← HX7.out]
 refine HN.out.mono ?_
 clear HN
 clear l00 l01 l02
 rintro e w8 ⟨rfl, hb⟩
 have Bw8 := hid (BX7.out.trans (hb.mono BX7.out.size))
 have Kw8 := hid (KX7.out.below hb)
 have Uc_w8 := hid (Uc_X7.out.below hb)
 have Ur_w8 := hid (Ur_X7.out.below hb)
 have s_w8 : X7.heap.size ≤ w8.heap.size := hb.size
 clear Uc_X7
 clear Ur_X7
 clear KX7
 clear Kw7
 clear hb
 obtain ⟨l00, l01, l02⟩ := Kw8.out.at (b := w4.heap.size) (u := .int .i64 F) (v := .slice ac1 nc1 kc1) (by simp)
 have HN := hid (spoilU_any F (.slice ac1 nc1 kc1) X3.heap.size w4.heap.size R w8 Uc_w8.out HRS.out (by omega) (by omega))
 go_wp2_with fail
 refine HN.out.mono ?_
 clear HN
 clear l00 l01 l02
 clear Uc_w8
 rintro e w9 ⟨N, rfl, hN1, hN2, hS⟩
 have Bw9 := hid (Bw8.out.trans (hS.below.mono (by omega)))
 have Kw9 := hid (Kw8.out.span hS (by
  intro x hx
  simp only [List.mem_cons, List.not_mem_nil, or_false] at hx
  rcases hx with rfl | rfl | rfl | rfl | rfl | rfl <;> (simp only; omega)))
 have Ur_w9 := hid (Ur_w8.out.span hS (by omega))
 have s_w9 : w8.heap.size ≤ w9.heap.size := hS.below.size
 clear Ur_w8
 clear Kw8
 clear hS
 obtain ⟨l00, l01, l02⟩ := Kw9.out.at (b := w.heap.size) (u := .int .i64 f) (v := .slice aa A.length ac) (by simp)
 obtain ⟨l10, l11, l12⟩ := Kw9.out.at (b := w.heap.size + 1) (u := .int .i64 g) (v := .slice ba C.length bc) (by simp)
 have HN := hid (HCO.out w9 _ _ (HVA.out.below Bw9.out) (HVB.out.below Bw9.out))
 go_wp2_with fail
 refine HN.out.mono ?_
 clear HN
 clear l00 l01 l02 l10 l11 l12
 intro e w10 hh
 obtain ⟨ad1, nd1, kd1, rfl, hO, hb⟩ := hh.shapeW
 have Ud_w10 := hid hO
 clear hh hO
 have Bw10 := hid (Bw9.out.trans (hb.mono Bw9.out.size))
 have Kw10 := hid (Kw9.out.below hb)
 have Ur_w10 := hid (Ur_w9.out.below hb)
 have s_w10 : w9.heap.size ≤ w10.heap.size := hb.size
 clear Ur_w9
 clear Kw9
 clear hb
 obtain ⟨X10, hX10⟩ : ∃ X, X = w10.alloc (.cells #[.int .i64 F, .slice ad1 nd1 kd1] 24) := ⟨_, rfl⟩
 have bx := show Below w10.heap.size w10 X10 by rw [hX10]; exact below_box _ _
 have KX10 := hid (show Boxes X10 [(w.heap.size, #[.int .i64 f, .slice aa A.length ac]), (w.heap.size + 1, #[.int .i64 g, .slice ba C.length bc]), (w2.heap.size, #[.int .i64 f, .slice (some ⟨gx, 0, none⟩) A.length cx]), (w3.heap.size, #[.int .i64 g, .slice (some ⟨gy, 0, none⟩) C.length cy]), (w4.heap.size, #[.int .i64 F, .slice ac1 nc1 kc1]), (w7.heap.size, #[.int .i64 F, .slice ar1 nr1 kr1]), (w10.heap.size, #[.int .i64 F, .slice ad1 nd1 kd1])] by rw [hX10]; exact Kw10.out.more _)
 have BX10 := hid (Bw10.out.trans (bx.mono Bw10.out.size))
 have Ur_X10 := hid (Ur_w10.out.below bx)
 have Ud_X10 := hid (Ud_w10.out.below bx)
 have s_X10 : w10.heap.size + 1 = X10.heap.size := by rw [hX10]; simp
 have HX10 := hid hX10
 have SX10 := hid s_X10
 clear hX10 bx s_X10
 have s_X10 := Nat.le_of_eq SX10.out
 clear Ur_w10
 clear Ud_w10
 obtain ⟨l10, l11, l12⟩ := Kw10.out.at (b := w7.heap.size) (u := .int .i64 F) (v := .slice ar1 nr1 kr1) (by simp)
 have HN := hid (refSame_yes F (.slice ad1 nd1 kd1) (.slice ar1 nr1 kr1) R X10 Ud_X10.out.row Ur_X10.out.row)
 go_wp2_with fail
 rw [← HX10.out]
 refine HN.out.mono ?_
 clear HN
 clear l10 l11 l12
 rintro e w11 ⟨rfl, hb⟩
 have Bw11 := hid (BX10.out.trans (hb.mono BX10.out.size))
 have Kw11 := hid (KX10.out.below hb)
 have Ur_w11 := hid (Ur_X10.out.below hb)
 have Ud_w11 := hid (Ud_X10.out.below hb)
 have s_w11 : X10.heap.size ≤ w11.heap.size := hb.size
 clear Ur_X10
 clear Ud_X10
 clear KX10
 clear Kw10
 clear hb
 by_cases h8 : 8 < L.length
 ·have h8' : (8 : Int) < (L.length : Int) := by omega
  obtain ⟨ta, tc, he, hrun, hrow⟩ := HTK.out h8
  simp only [Value.slice.injEq, true_and] at he
  obtain ⟨rfl, rfl⟩ := he
  have HML := hid (show ChsRow w (.slice la 8 lc) M by rw [HM.out]; exact hrow)
  have hrn := hrun
  have B11x := Bw11
  clear hrow hrun
  obtain ⟨l00, l01, l02⟩ := Kw11.out.at (b := w.heap.size) (u := .int .i64 f) (v := .slice aa A.length ac) (by simp)
  have HN := hid (HCA.out w11 _ (HML.out.below B11x.out))
  go_wp2_with fail
  refine HN.out.mono ?_
  clear HN
  clear l00 l01 l02
  intro e w12 hh
  obtain ⟨ap1, np1, kp1, rfl, hO, hb⟩ := hh.shapeW
  have Up_w12 := hid hO
  clear hh hO
  have Bw12 := hid (Bw11.out.trans (hb.mono Bw11.out.size))
  have Kw12 := hid (Kw11.out.below hb)
  have Ur_w12 := hid (Ur_w11.out.below hb)
  have Ud_w12 := hid (Ud_w11.out.below hb)
  have s_w12 : w11.heap.size ≤ w12.heap.size := hb.size
  clear Ur_w11
  clear Ud_w11
  clear Kw11
  clear hb
  obtain ⟨X12, hX12⟩ : ∃ X, X = w12.alloc (.cells #[.int .i64 AF, .slice ap1 np1 kp1] 24) := ⟨_, rfl⟩
  have bx := show Below w12.heap.size w12 X12 by rw [hX12]; exact below_box _ _
  have KX12 := hid (show Boxes X12 [(w.heap.size, #[.int .i64 f, .slice aa A.length ac]), (w.heap.size + 1, #[.int .i64 g, .slice ba C.length bc]), (w2.heap.size, #[.int .i64 f, .slice (some ⟨gx, 0, none⟩) A.length cx]), (w3.heap.size, #[.int .i64 g, .slice (some ⟨gy, 0, none⟩) C.length cy]), (w4.heap.size, #[.int .i64 F, .slice ac1 nc1 kc1]), (w7.heap.size, #[.int .i64 F, .slice ar1 nr1 kr1]), (w10.heap.size, #[.int .i64 F, .slice ad1 nd1 kd1]), (w12.heap.size, #[.int .i64 AF, .slice ap1 np1 kp1])] by rw [hX12]; exact Kw12.out.more _)
  have BX12 := hid (Bw12.out.trans (bx.mono Bw12.out.size))
  have Ur_X12 := hid (Ur_w12.out.below bx)
  have Ud_X12 := hid (Ud_w12.out.below bx)
  have Up_X12 := hid (Up_w12.out.below bx)
  have s_X12 : w12.heap.size + 1 = X12.heap.size := by rw [hX12]; simp
  have HX12 := hid hX12
  have SX12 := hid s_X12
  clear hX12 bx s_X12
  have s_X12 := Nat.le_of_eq SX12.out
  clear Ur_w12
  clear Ud_w12
  clear Up_w12
  obtain ⟨l00, l01, l02⟩ := Kw12.out.at (b := w.heap.size) (u := .int .i64 f) (v := .slice aa A.length ac) (by simp)
  have HN := hid (HCAR.out X12 _ (HML.out.below BX12.out))
  go_wp2_with fail
  rw [← HX12.out]
  refine HN.out.mono ?_
  clear HN
  clear l00 l01 l02
  intro e w13 hh
  obtain ⟨aq1, nq1, kq1, rfl, hO, hb⟩ := hh.shapeW
  have Uq_w13 := hid hO
  clear hh hO
  have Bw13 := hid (BX12.out.trans (hb.mono BX12.out.size))
  have Kw13 := hid (KX12.out.below hb)
  have Ur_w13 := hid (Ur_X12.out.below hb)
  have Ud_w13 := hid (Ud_X12.out.below hb)
  have Up_w13 := hid (Up_X12.out.below hb)
  have s_w13 : X12.heap.size ≤ w13.heap.size := hb.size
  clear Ur_X12
  clear Ud_X12
  clear Up_X12
  clear KX12
  clear Kw12
  clear hb
  obtain ⟨X13, hX13⟩ : ∃ X, X = w13.alloc (.cells #[.int .i64 AF, .slice aq1 nq1 kq1] 24) := ⟨_, rfl⟩
  have bx := show Below w13.heap.size w13 X13 by rw [hX13]; exact below_box _ _
  have KX13 := hid (show Boxes X13 [(w.heap.size, #[.int .i64 f, .slice aa A.length ac]), (w.heap.size + 1, #[.int .i64 g, .slice ba C.length bc]), (w2.heap.size, #[.int .i64 f, .slice (some ⟨gx, 0, none⟩) A.length cx]), (w3.heap.size, #[.int .i64 g, .slice (some ⟨gy, 0, none⟩) C.length cy]), (w4.heap.size, #[.int .i64 F, .slice ac1 nc1 kc1]), (w7.heap.size, #[.int .i64 F, .slice ar1 nr1 kr1]), (w10.heap.size, #[.int .i64 F, .slice ad1 nd1 kd1]), (w12.heap.size, #[.int .i64 AF, .slice ap1 np1 kp1]), (w13.heap.size, #[.int .i64 AF, .slice aq1 nq1 kq1])] by rw [hX13]; exact Kw13.out.more _)
  have BX13 := hid (Bw13.out.trans (bx.mono Bw13.out.size))
  have Ur_X13 := hid (Ur_w13.out.below bx)
  have Ud_X13 := hid (Ud_w13.out.below bx)
  have Up_X13 := hid (Up_w13.out.below bx)
  have Uq_X13 := hid (Uq_w13.out.below bx)
  have s_X13 : w13.heap.size + 1 = X13.heap.size := by rw [hX13]; simp
  have HX13 := hid hX13
  have SX13 := hid s_X13
  clear hX13 bx s_X13
  have s_X13 := Nat.le_of_eq SX13.out
  clear Ur_w13
  clear Ud_w13
  clear Up_w13
  clear Uq_w13
  obtain ⟨l00, l01, l02⟩ := Kw13.out.at (b := w12.heap.size) (u := .int .i64 AF) (v := .slice ap1 np1 kp1) (by simp)
  have HN := hid (refSame_yes AF (.slice ap1 np1 kp1) (.slice aq1 nq1 kq1) AR X13 Up_X13.out.row Uq_X13.out.row)
  go_wp2_with fail
  rw [← HX13.out]
  refine HN.out.mono ?_
  clear HN
  clear l00 l01 l02
  rintro e w14 ⟨rfl, hb⟩
  have Bw14 := hid (BX13.out.trans (hb.mono BX13.out.size))
  have Kw14 := hid (KX13.out.below hb)
  have Ur_w14 := hid (Ur_X13.out.below hb)
  have Ud_w14 := hid (Ud_X13.out.below hb)
  have Up_w14 := hid (Up_X13.out.below hb)
  have Uq_w14 := hid (Uq_X13.out.below hb)
  have s_w14 : X13.heap.size ≤ w14.heap.size := hb.size
  clear Ur_X13
  clear Ud_X13
  clear Up_X13
  clear Uq_X13
  clear KX13
  clear Kw13
  clear hb
  have HFB := Bw14
  have t1 : decide ((1 : Int) ≤ N) = true := decide_eq_true hN1
  have t2 : (E == E) = true := by simp
  have t3 : (AE == AE) = true := by simp
  clear hN1 hN2 hln s_W s_w1 s_w2 s_X2 s_w3 s_X3 s_w4 s_X4 s_w5 s_w6 s_w7 s_X7 s_w8 s_w9 s_w10 s_X10 s_w11 s_w12 s_X12 s_w13 s_X13 s_w14
  go_wp2_with fail
  go_ret
  exact ⟨rfl, HFB.out⟩
 ·have h8' : ¬ (8 : Int) < (L.length : Int) := by omega
  have HML := hid (show ChsRow w (.slice la L.length lc) M by rw [HM.out, List.take_of_length_le (by omega)]; exact HVL.out)
  have B11x := Bw11
  obtain ⟨l00, l01, l02⟩ := Kw11.out.at (b := w.heap.size) (u := .int .i64 f) (v := .slice aa A.length ac) (by simp)
  have HN := hid (HCA.out w11 _ (HML.out.below B11x.out))
  go_wp2_with fail
  refine HN.out.mono ?_
  clear HN
  clear l00 l01 l02
  intro e w12 hh
  obtain ⟨ap1, np1, kp1, rfl, hO, hb⟩ := hh.shapeW
  have Up_w12 := hid hO
  clear hh hO
  have Bw12 := hid (Bw11.out.trans (hb.mono Bw11.out.size))
  have Kw12 := hid (Kw11.out.below hb)
  have Ur_w12 := hid (Ur_w11.out.below hb)
  have Ud_w12 := hid (Ud_w11.out.below hb)
  have s_w12 : w11.heap.size ≤ w12.heap.size := hb.size
  clear Ur_w11
  clear Ud_w11
  clear Kw11
  clear hb
  obtain ⟨X12, hX12⟩ : ∃ X, X = w12.alloc (.cells #[.int .i64 AF, .slice ap1 np1 kp1] 24) := ⟨_, rfl⟩
  have bx := show Below w12.heap.size w12 X12 by rw [hX12]; exact below_box _ _
  have KX12 := hid (show Boxes X12 [(w.heap.size, #[.int .i64 f, .slice aa A.length ac]), (w.heap.size + 1, #[.int .i64 g, .slice ba C.length bc]), (w2.heap.size, #[.int .i64 f, .slice (some ⟨gx, 0, none⟩) A.length cx]), (w3.heap.size, #[.int .i64 g, .slice (some ⟨gy, 0, none⟩) C.length cy]), (w4.heap.size, #[.int .i64 F, .slice ac1 nc1 kc1]), (w7.heap.size, #[.int .i64 F, .slice ar1 nr1 kr1]), (w10.heap.size, #[.int .i64 F, .slice ad1 nd1 kd1]), (w12.heap.size, #[.int .i64 AF, .slice ap1 np1 kp1])] by rw [hX12]; exact Kw12.out.more _)
  have BX12 := hid (Bw12.out.trans (bx.mono Bw12.out.size))
  have Ur_X12 := hid (Ur_w12.out.below bx)
  have Ud_X12 := hid (Ud_w12.out.below bx)
  have Up_X12 := hid (Up_w12.out.below bx)
  have s_X12 : w12.heap.size + 1 = X12.heap.size := by rw [hX12]; simp
  have HX12 := hid hX12
  have SX12 := hid s_X12
  clear hX12 bx s_X12
  have s_X12 := Nat.le_of_eq SX12.out
  clear Ur_w12
  clear Ud_w12
  clear Up_w12
  obtain ⟨l00, l01, l02⟩ := Kw12.out.at (b := w.heap.size) (u := .int .i64 f) (v := .slice aa A.length ac) (by simp)
  have HN := hid (HCAR.out X12 _ (HML.out.below BX12.out))
  go_wp2_with fail
  rw [← HX12.out]
  refine HN.out.mono ?_
  clear HN
  clear l00 l01 l02
  intro e w13 hh
  obtain ⟨aq1, nq1, kq1, rfl, hO, hb⟩ := hh.shapeW
  have Uq_w13 := hid hO
  clear hh hO
  have Bw13 := hid (BX12.out.trans (hb.mono BX12.out.size))
  have Kw13 := hid (KX12.out.below hb)
  have Ur_w13 := hid (Ur_X12.out.below hb)
  have Ud_w13 := hid (Ud_X12.out.below hb)
  have Up_w13 := hid (Up_X12.out.below hb)
  have s_w13 : X12.heap.size ≤ w13.heap.size := hb.size
  clear Ur_X12
  clear Ud_X12
  clear Up_X12
  clear KX12
  clear Kw12
  clear hb
  obtain ⟨X13, hX13⟩ : ∃ X, X = w13.alloc (.cells #[.int .i64 AF, .slice aq1 nq1 kq1] 24) := ⟨_, rfl⟩
  have bx := show Below w13.heap.size w13 X13 by rw [hX13]; exact below_box _ _
  have KX13 := hid (show Boxes X13 [(w.heap.size, #[.int .i64 f, .slice aa A.length ac]), (w.heap.size + 1, #[.int .i64 g, .slice ba C.length bc]), (w2.heap.size, #[.int .i64 f, .slice (some ⟨gx, 0, none⟩) A.length cx]), (w3.heap.size, #[.int .i64 g, .slice (some ⟨gy, 0, none⟩) C.length cy]), (w4.heap.size, #[.int .i64 F, .slice ac1 nc1 kc1]), (w7.heap.size, #[.int .i64 F, .slice ar1 nr1 kr1]), (w10.heap.size, #[.int .i64 F, .slice ad1 nd1 kd1]), (w12.heap.size, #[.int .i64 AF, .slice ap1 np1 kp1]), (w13.heap.size, #[.int .i64 AF, .slice aq1 nq1 kq1])] by rw [hX13]; exact Kw13.out.more _)
  have BX13 := hid (Bw13.out.trans (bx.mono Bw13.out.size))
  have Ur_X13 := hid (Ur_w13.out.below bx)
  have Ud_X13 := hid (Ud_w13.out.below bx)
  have Up_X13 := hid (Up_w13.out.below bx)
  have Uq_X13 := hid (Uq_w13.out.below bx)
  have s_X13 : w13.heap.size + 1 = X13.heap.size := by rw [hX13]; simp
  have HX13 := hid hX13
  have SX13 := hid s_X13
  clear hX13 bx s_X13
  have s_X13 := Nat.le_of_eq SX13.out
  clear Ur_w13
  clear Ud_w13
  clear Up_w13
  clear Uq_w13
  obtain ⟨l00, l01, l02⟩ := Kw13.out.at (b := w12.heap.size) (u := .int .i64 AF) (v := .slice ap1 np1 kp1) (by simp)
  have HN := hid (refSame_yes AF (.slice ap1 np1 kp1) (.slice aq1 nq1 kq1) AR X13 Up_X13.out.row Uq_X13.out.row)
  go_wp2_with fail
  rw [← HX13.out]
  refine HN.out.mono ?_
  clear HN
  clear l00 l01 l02
  rintro e w14 ⟨rfl, hb⟩
  have Bw14 := hid (BX13.out.trans (hb.mono BX13.out.size))
  have Kw14 := hid (KX13.out.below hb)
  have Ur_w14 := hid (Ur_X13.out.below hb)
  have Ud_w14 := hid (Ud_X13.out.below hb)
  have Up_w14 := hid (Up_X13.out.below hb)
  have Uq_w14 := hid (Uq_X13.out.below hb)
  have s_w14 : X13.heap.size ≤ w14.heap.size := hb.size
  clear Ur_X13
  clear Ud_X13
  clear Up_X13
  clear Uq_X13
  clear KX13
  clear Kw13
  clear hb
  have HFB := Bw14
  have t1 : decide ((1 : Int) ≤ N) = true := decide_eq_true hN1
  have t2 : (E == E) = true := by simp
  have t3 : (AE == AE) = true := by simp
  clear hN1 hN2 hln s_W s_w1 s_w2 s_X2 s_w3 s_X3 s_w4 s_X4 s_w5 s_w6 s_w7 s_X7 s_w8 s_w9 s_w10 s_X10 s_w11 s_w12 s_X12 s_w13 s_X13 s_w14
  go_wp2_with fail
  go_ret
  exact ⟨rfl, HFB.out⟩
end Go.Proofs.Ytchceolbbkhnnaa
