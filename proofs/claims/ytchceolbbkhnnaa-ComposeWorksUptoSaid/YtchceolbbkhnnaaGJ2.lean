/- Texts of this seat, put together: Jo. -/
import Derived.Test.YtchceolbbkhnnaaGJ1
import Derived.Test.YtchceolbbkhnnaaGR2
/- The document's own Joined, walked. -/
namespace Go.Proofs.Ytchceolbbkhnnaa
open Go.RowKit Rn Ch

def JoOut (w : World) (f : Int) (ops : List OpD) (e : Ending) (w' : World) : Prop :=
 Below w.heap.size w w' ∧ ((2000 < (norm ops).length ∧ e = .returned (.tuple #[chAgg 0 (.slice none 0 0), .int .i64 2])) ∨ ((norm ops).length ≤ 2000 ∧ ∃ u, e = .returned (.tuple #[chAgg f u, .int .i64 0]) ∧ OwnOps w' w.heap.size u (norm ops)))
theorem trim_rev8 {P : List PA} {l : List OpD} (h : P.map (·.1) = l.reverse) : (trim l).reverse = fsts (trimF P) := by
 rcases nil_or_snoc P with rfl | ⟨c, ⟨x, xv⟩, rfl⟩
 ·rw [map_nil8 rfl h]; rfl
 ·have e := map_snoc8 h
  rw [e, trim, trimF_snoc]
  split
  ·rw [List.reverse_reverse]; rfl
  ·rw [List.reverse_cons, List.reverse_reverse, fsts_append]; rfl
theorem jbox {w : World} {f : Int} : ((w.alloc (.cells #[.int .i64 0, .slice none 0 0] 24)).alloc (.cells #[.int .i64 f, .slice none 0 0] 24)).heap[w.heap.size]? = some (.cells #[.int .i64 0, .slice none 0 0] 24 (0, 0)) ∧ ((w.alloc (.cells #[.int .i64 0, .slice none 0 0] 24)).alloc (.cells #[.int .i64 f, .slice none 0 0] 24)).heap[w.heap.size + 1]? = some (.cells #[.int .i64 f, .slice none 0 0] 24 (0, 0)) ∧ Below w.heap.size w ((w.alloc (.cells #[.int .i64 0, .slice none 0 0] 24)).alloc (.cells #[.int .i64 f, .slice none 0 0] 24)) := by
 refine ⟨(Below.heap_alloc _ _ _ (by simp)).trans (heap_new _ _), ?_, ((Below.refl _ _).alloc (Nat.le_refl _) _).alloc (by simp) _⟩
 have := heap_new (w.alloc (.cells #[.int .i64 0, .slice none 0 0] 24)) (.cells #[.int .i64 f, .slice none 0 0] 24)
 rwa [World.size_alloc] at this
set_option maxRecDepth 100000 in
set_option maxHeartbeats 16000000 in
theorem refJoined_any (f : Int) (v : Value) (ops : List OpD) (w : World) (hv : OpRow w v ops) (hE : allE ops) (hvo : ∀ o ∈ ops, VOp o) (hlen : ops.length ≤ 200000) :
 Calls Try.prog 34 #[.int .i64 f, v] w (JoOut w f ops) := by
 obtain ⟨aa, acap, rfl, v1, v2, v3⟩ := hv
 have V3 := Lib.hid v3
 have hn9 : ops.length ≤ 9223372036854775807 := Nat.le_trans v1 v2
 have HE := Lib.hid hE
 have HVO := Lib.hid hvo
 obtain ⟨W, hW⟩ : ∃ W, W = (w.alloc (.cells #[.int .i64 0, .slice none 0 0] 24)).alloc (.cells #[.int .i64 f, .slice none 0 0] 24) := ⟨_, rfl⟩
 have J0 := Lib.hid (show JS w W f [] none 0 by rw [hW]; exact ⟨⟨World.ownsRow_nil _ _ _ _, fun q hq => (by cases hq)⟩, jbox.2.1, jbox.1, jbox.2.2⟩)
 have HW := Lib.hid hW
 clear hW hE hvo v1 v2 v3
 go_enter Try.func34, Try.ntmps34
 go_wp2_with fail
 rw [← HW.out]
 go_loopw [7, 8] (fun g i wr => ∃ (k : Nat) (ps : List PA) (oa : Option Addr) (oc : Nat), g = .int .i64 (fold (ops.take k)).2 ∧ i = .int .i64 (k : Int) ∧ k ≤ ops.length ∧ ps.map (·.1) = (fold (ops.take k)).1.reverse ∧ JS w wr f ps oa oc) (fun _ i _ => ops.length + 1 - (intOf i).toNat)
 case atStart => exact ⟨0, [], none, 0, rfl, rfl, Nat.zero_le _, rfl, J0.out⟩
 case round =>
  obtain ⟨k, ps, oa, oc, rfl, rfl, hk, hps, hJ⟩ := hrel
  have hsm := fold_sm HVO.out k hk
  have hst := take_St HE.out k
  have hpl : ps.length ≤ 400000 := by
   have h1 := congrArg List.length hps
   have h2 := hsm.len
   rw [List.length_map, List.length_reverse] at h1
   omega
  have hHS := hJ.below.size
  obtain ⟨b0, b1, _, f1⟩ := cells2 hJ.out
  have hob := lt_of_heap hJ.out
  have HJ := Lib.hid hJ
  have HST := Lib.hid hst
  have HSM := Lib.hid hsm
  have HPS := Lib.hid hps
  by_cases hlt : k < ops.length
  ·have hlt' : (k : Int) < (ops.length : Int) := by omega
   have hle' : (k : Int) ≤ (ops.length : Int) := by omega
   have hne' : ((k : Int) == (ops.length : Int)) = false := by rw [beq_eq_false_iff_ne]; omega
   obtain ⟨b, off, rfl, hbl, av, r0, hpr, x0, x1, x2, x3⟩ := V3.out k hlt
   have hop := HE.out _ (List.getElem_mem hlt)
   have hvo := HVO.out _ (List.getElem_mem hlt)
   have HF := Lib.hid (fold_succ hlt)
   obtain ⟨s, hs⟩ : ∃ s, s = fold (ops.take k) := ⟨_, rfl⟩
   rw [← hs] at HST HSM HPS HF ⊢
   obtain ⟨l, g⟩ := s
   simp only at HPS ⊢
   obtain ⟨o, ho⟩ : ∃ o, o = ops[k] := ⟨_, rfl⟩
   rw [← ho] at r0 x0 x1 x2 hop hvo HF
   obtain ⟨ar, cr, rfl⟩ := r0.shape
   have g0 : 0 ≤ g := HSM.out.g0
   have g1 : g ≤ 4000000000 := by
    have h1 := HSM.out.ft
    have h2 := tot_nonneg8 HSM.out.all
    simp only at h1 h2
    omega
   have n0 := hvo.n0
   have n1 := hvo.n1
   have y0 : wr.cell? ⟨b, off + k * 4, none⟩ = some (.int .i64 o.kind) := (hJ.below.cell (by exact hbl)).trans x0
   have y1 : wr.cell? ⟨b, off + k * 4 + 1, none⟩ = some (.int .i64 o.n) := (hJ.below.cell (by exact hbl)).trans x1
   have y2 : wr.cell? ⟨b, off + k * 4 + 2, none⟩ = some (.string o.text) := (hJ.below.cell (by exact hbl)).trans x2
   have y3 : wr.cell? ⟨b, off + k * 4 + 3, none⟩ = some (.slice ar o.attrs.length cr) := (hJ.below.cell (by exact hbl)).trans x3
   have HY := Lib.hid (fun X (hX : Below w.heap.size w X) => And.intro ((hX.cell (p := ⟨b, off + k * 4, none⟩) (by exact hbl)).trans x0) (And.intro ((hX.cell (p := ⟨b, off + k * 4 + 1, none⟩) (by exact hbl)).trans x1) (And.intro ((hX.cell (p := ⟨b, off + k * 4 + 2, none⟩) (by exact hbl)).trans x2) ((hX.cell (p := ⟨b, off + k * 4 + 3, none⟩) (by exact hbl)).trans x3))))
   have HR0 := Lib.hid r0
   have HPR := Lib.hid hpr
   have HOP := Lib.hid hop
   have HVO1 := Lib.hid hvo
   clear hs ho x0 x1 x2 x3 hJ hst hsm hps r0 hpr hop hvo
   by_cases hk3 : o.kind = 3
   ·have k3 : (o.kind == 3) = true := by rw [hk3]; rfl
    have k1 : (o.kind == 1) = false := by rw [hk3]; rfl
    have hw1 : IntKind.i64.wrap (g + o.n) = g + o.n := IntWalk.i64_in _ (by omega)
    have HA := Lib.hid (show fold (ops.take (k + 1)) = (l, g + o.n) by rw [HF.out, add_flushK, if_pos hk3])
    clear hk3
    by_cases hg : 0 < g
    ·go_wp2_with fail
     go_roundw
     case rel => exact ⟨k + 1, ps, oa, oc, by rw [HA.out], by go_num, by omega, by rw [HA.out]; exact HPS.out, HJ.out⟩
     case measure => simp [intOf]; omega
    ·go_wp2_with fail
     go_roundw
     case rel => exact ⟨k + 1, ps, oa, oc, by rw [HA.out], by go_num, by omega, by rw [HA.out]; exact HPS.out, HJ.out⟩
     case measure => simp [intOf]; omega
   ·have k3 : (o.kind == 3) = false := by rw [beq_eq_false_iff_ne]; exact hk3
    by_cases hk1 : o.kind = 1
    ·have k1 : (o.kind == 1) = true := by rw [hk1]; rfl
     by_cases hg : 0 < g
     ·have HA := Lib.hid (show fold (ops.take (k + 1)) = (o :: delO g :: l, 0) by
       rw [HF.out, add_flushK, if_neg hk3]
       unfold flushK
       rw [if_pos hk1, flush_push HST.out hg, put_fresh]
       intro x r e hx
       injection e with e1 e2
       subst e1
       have h3 : (3 : Int) = o.kind := hx.1
       omega)
      have k13 : ((3 : Int) == o.kind) = false := by rw [beq_eq_false_iff_ne]; omega
      clear hk1 hk3
      go_upto_region 8 with (first | (at_builtin; refine wpList_app_op rfl (.tmp 37) (.tmp 40) rfl w.heap.size (.slice oa ps.length oc) ps rfl ((HJ.out.grow (below_box wr (.cells #[.int .i64 3, .int .i64 g, .string ⟨#[]⟩, .slice none 0 0] 40))).own) (delO g, .slice none 0 0) ⟨wr.heap.size, 0, none⟩ 1 rfl (new_at4 _ _ _ _ _ _) (World.ownsRow_nil _ _ _ _) (by omega) (by have := HJ.out.below.size; simp only [World.size_alloc]; omega) ?_; intro v' wC PC KC; obtain ⟨p2, hp2⟩ : ∃ p2, p2 = ps ++ [(delO g, Value.slice none 0 0)] := ⟨_, rfl⟩; rw [← hp2] at PC; obtain ⟨oa', oc', rfl⟩ := own_slice PC.1; have JA := Lib.hid (HJ.out.grow (below_box wr (.cells #[.int .i64 3, .int .i64 g, .string ⟨#[]⟩, .slice none 0 0] 40))); have xC := KC.keep.kept _ _ _ _ JA.out.out (by decide); obtain ⟨s0, s1, _, s3⟩ := cells2 xC; have hbC := lt_of_heap xC; have HPC := Lib.hid PC; have HKC := Lib.hid KC; have HP2 := Lib.hid hp2; clear PC KC xC hp2))
      obtain ⟨w5, hw5⟩ : ∃ w5, w5 = wC.setCell ⟨w.heap.size + 1, 1, none⟩ (.slice oa' p2.length oc') := ⟨_, rfl⟩
      rw [← hw5]
      have J5 := Lib.hid (show JS w w5 f p2 oa' oc' by rw [hw5]; exact JA.out.keep HKC.out HPC.out)
      clear hw5 s0 s1 s3 hbC b0 b1 f1 hob y0 y1 y2 y3 hHS
      obtain ⟨b0, b1, _, f1⟩ := cells2 J5.out.out
      have hob := lt_of_heap J5.out.out
      have hHS := J5.out.below.size
      obtain ⟨y0, y1, y2, y3⟩ := HY.out w5 J5.out.below
      have hpl2 : p2.length = ps.length + 1 := by rw [HP2.out, List.length_append, List.length_singleton]
      have hP5 := J5.out.own
      rw [HP2.out, List.length_append, List.length_singleton] at hP5
      obtain ⟨gg, cap, hgv⟩ := ownsRow_open hP5.len (Nat.succ_pos _)
      injection hgv with e1 _ e3
      subst e1
      subst e3
      obtain ⟨c0', _, _, c3'⟩ := last_cells hP5.len
      have c0 : w5.cell? ⟨gg, ps.length * 4, none⟩ = some (.int .i64 3) := c0'
      clear c0' c3'
      rw [hpl2] at b1
      have hw9 : IntKind.i64.wrap ((ps.length : Int) + 1 - 1) = (ps.length : Int) := by rw [show (ps.length : Int) + 1 - 1 = (ps.length : Int) by omega]; exact IntWalk.i64_in _ (by omega)
      have i1 : (0 : Int) ≤ (ps.length : Int) := by omega
      have i2 : (ps.length : Int) < (ps.length : Int) + 1 := by omega
      have i3 : decide ((0 : Int) ≤ (ps.length : Int)) = true := decide_eq_true i1
      clear hP5
      go_wp2_with fail
      go_quiet (fail)
      obtain ⟨wq, hwq⟩ : ∃ wq, wq = w5.drewN nq := ⟨_, rfl⟩
      rw [← hwq]
      have Jq := Lib.hid (show JS w wq f p2 _ _ by rw [hwq]; exact J5.out.drew nq)
      clear hwq b0 b1 f1 hob y0 y1 y2 y3 hHS
      have hplb : p2.length ≤ 400001 := by omega
      have HPL2 := Lib.hid hpl2
      clear hpl2 c0 hw9 i1 i2 i3
      obtain ⟨b0, b1, _, f1⟩ := cells2 Jq.out.out
      have hob := lt_of_heap Jq.out.out
      have hHS := Jq.out.below.size
      obtain ⟨y0, y1, y2, y3⟩ := HY.out wq Jq.out.below
      have BX1 := Lib.hid (((Below.refl wq.heap.size wq).alloc (Nat.le_refl _) (.cells #[.int .i64 o.kind, .int .i64 o.n, .string o.text, .slice ar o.attrs.length cr] 40)).alloc (by simp) (.cells #[] 81))
      have BX2 := Lib.hid (Jq.out.below.trans (BX1.out.mono Jq.out.below.size))
      have XA := Lib.hid (show ((wq.alloc (.cells #[.int .i64 o.kind, .int .i64 o.n, .string o.text, .slice ar o.attrs.length cr] 40)).alloc (.cells #[] 81)).heap[wq.heap.size]? = some (.cells #[.int .i64 o.kind, .int .i64 o.n, .string o.text, .slice ar o.attrs.length cr] 40 (0, 0)) from (Below.heap_alloc _ _ _ (by simp)).trans (heap_new _ _))
      have O0 := Lib.hid (show ((wq.alloc (.cells #[.int .i64 o.kind, .int .i64 o.n, .string o.text, .slice ar o.attrs.length cr] 40)).alloc (.cells #[] 81)).ownsRow w.heap.size 81 2 (.slice (some ⟨wq.heap.size + 1, 0, none⟩) 0 0) 0 [] from by
       have := World.ownsRow_lit (e := 81) (size := 2) (wq.alloc (.cells #[.int .i64 o.kind, .int .i64 o.n, .string o.text, .slice ar o.attrs.length cr] 40)) #[] 0 (Nat.le_refl _) (Nat.zero_le _) rfl
       rw [World.size_alloc] at this
       exact own_base this (by omega))
      go_upto_region 18 with (first | (at_builtin; refine wpList_append_row rfl (.tmp 132) (.tmp 134) rfl w.heap.size (.slice (some ⟨wq.heap.size + 1, 0, none⟩) 0 0) (.slice ar o.attrs.length cr) 0 [] o.attrs rfl rfl O0.out (HR0.out.below BX2.out) HPR.out o.attrs.length (flat o.attrs) (Nat.zero_add _) rfl (Nat.le_trans (attrs8 HOP.out) (by decide)) (by have := Jq.out.below.size; simp only [World.size_alloc]; omega) ?_; intro u1 w1 o1 g1'; obtain ⟨ua, uc, rfl⟩ := own_slice o1; have O1 := Lib.hid o1; have B1' := Lib.hid (BX1.out.grown g1' BX1.out.size (fun j hj => by have hj2 : wq.heap.size + 1 = j := (by simpa [Value.ownBlock] using hj); omega)); have XB := Lib.hid ((g1'.block wq.heap.size (by simp; omega) (by simp [Value.ownBlock])).trans XA.out); have J1 := Lib.hid (Jq.out.grow B1'.out); obtain ⟨z0, z1, _, z3⟩ := cells2 J1.out.out; have hzb := lt_of_heap J1.out.out; obtain ⟨e0, e1, e2, e3⟩ := cells4J XB.out; have hzx := lt_of_heap XB.out; have fz3 := frozen4J XB.out; clear o1 g1'))
      obtain ⟨w2, hw2, xw2⟩ : ∃ w2, w2 = w1.setCell ⟨wq.heap.size, 3, none⟩ (.slice ua o.attrs.length uc) ∧ w2.heap[wq.heap.size]? = some (.cells #[.int .i64 o.kind, .int .i64 o.n, .string o.text, .slice ua o.attrs.length uc] 40 (0, 0)) := ⟨_, rfl, nblk_set (j := 3) XB.out⟩
      have J2 := Lib.hid (show JS w w2 f p2 (some ⟨gg, 0, none⟩) oc' by rw [hw2]; exact Jq.out.grow (B1'.out.setCell (p := ⟨wq.heap.size, 3, none⟩) (Nat.le_refl _) _))
      have O2 := Lib.hid (show w2.ownsRow w.heap.size 81 2 (.slice ua o.attrs.length uc) o.attrs.length (flat o.attrs) by rw [hw2]; exact (keep_set (B := w.heap.size) (ts := [40]) XB.out (by simp) (by omega) ⟨wq.heap.size, 3, none⟩ rfl (.slice ua o.attrs.length uc)).own O1.out (by decide))
      rw [← hw2]
      clear hw2 z0 z1 z3 hzb e0 e1 e2 e3 hzx fz3 b0 b1 f1 hob y0 y1 y2 y3
      obtain ⟨b0, b1, _, f1⟩ := cells2 J2.out.out
      have hob := lt_of_heap J2.out.out
      obtain ⟨e0, e1, e2, e3⟩ := cells4J xw2
      have hzx := lt_of_heap xw2
      clear xw2
      go_wp2_with (first | (at_builtin; refine wpList_app_op rfl (.tmp 138) (.tmp 140) rfl w.heap.size (.slice (some ⟨gg, 0, none⟩) p2.length oc') p2 rfl ((J2.out.grow (below_box w2 (.cells #[.int .i64 o.kind, .int .i64 o.n, .string o.text, .slice ua o.attrs.length uc] 40))).own) (o, .slice ua o.attrs.length uc) ⟨w2.heap.size, 0, none⟩ 1 rfl (new_at4 _ _ _ _ _ _) (row_below O2.out (below_box w2 (.cells #[.int .i64 o.kind, .int .i64 o.n, .string o.text, .slice ua o.attrs.length uc] 40))) (by omega) (by have := J2.out.below.size; simp only [World.size_alloc]; omega) ?_; intro v' wC PC KC; obtain ⟨p3, hp3⟩ : ∃ p3, p3 = p2 ++ [(o, Value.slice ua o.attrs.length uc)] := ⟨_, rfl⟩; rw [← hp3] at PC; obtain ⟨oa3, oc3, rfl⟩ := own_slice PC.1; have JB := Lib.hid (J2.out.grow (below_box w2 (.cells #[.int .i64 o.kind, .int .i64 o.n, .string o.text, .slice ua o.attrs.length uc] 40))); have xC := KC.keep.kept _ _ _ _ JB.out.out (by decide); obtain ⟨s0, s1, _, s3⟩ := cells2 xC; have hbC := lt_of_heap xC; have HPC := Lib.hid PC; have HKC := Lib.hid KC; have HP2b := Lib.hid hp3; clear PC KC xC hp3))
      go_roundw
      case rel =>
       refine ⟨k + 1, p3, oa3, oc3, by rw [HA.out], by go_num, by omega, ?_, JB.out.keep HKC.out HPC.out⟩
       rw [HA.out, HP2b.out, HP2.out, List.map_append, List.map_append, HPS.out]; simp
      case measure => simp [intOf]; omega
     ·have hg0 : g = 0 := by omega
      subst hg0
      have HA := Lib.hid (show fold (ops.take (k + 1)) = (put l o, 0) by rw [HF.out, add_flushK, if_neg hk3]; unfold flushK; rw [if_pos hk1, flush_same hg])
      clear hk1 hk3 hg
      rcases nil_or_snoc ps with hnil | ⟨c0, ⟨x, xv⟩, hp0⟩
      ·have hpl0 : ps.length = 0 := by rw [hnil]; rfl
       have HA2 := Lib.hid (show fold (ops.take (k + 1)) = (o :: l, 0) by rw [HA.out, put_nil8 (map_nil8 hnil HPS.out)])
       clear hnil
       rw [hpl0] at b1
       have hw9 : IntKind.i64.wrap (((0 : Nat) : Int) - 1) = -1 := rfl
       go_wp2_with fail
       go_quiet (fail)
       obtain ⟨wq, hwq⟩ : ∃ wq, wq = wr.drewN nq := ⟨_, rfl⟩
       rw [← hwq]
       have Jq := Lib.hid (show JS w wq f ps _ _ by rw [hwq]; exact HJ.out.drew nq)
       clear hwq b0 b1 f1 hob y0 y1 y2 y3 hHS
       have HPL2 := Lib.hid hpl0
       clear hpl0 hw9
       obtain ⟨b0, b1, _, f1⟩ := cells2 Jq.out.out
       have hob := lt_of_heap Jq.out.out
       have hHS := Jq.out.below.size
       obtain ⟨y0, y1, y2, y3⟩ := HY.out wq Jq.out.below
       have BX1 := Lib.hid (((Below.refl wq.heap.size wq).alloc (Nat.le_refl _) (.cells #[.int .i64 o.kind, .int .i64 o.n, .string o.text, .slice ar o.attrs.length cr] 40)).alloc (by simp) (.cells #[] 81))
       have BX2 := Lib.hid (Jq.out.below.trans (BX1.out.mono Jq.out.below.size))
       have XA := Lib.hid (show ((wq.alloc (.cells #[.int .i64 o.kind, .int .i64 o.n, .string o.text, .slice ar o.attrs.length cr] 40)).alloc (.cells #[] 81)).heap[wq.heap.size]? = some (.cells #[.int .i64 o.kind, .int .i64 o.n, .string o.text, .slice ar o.attrs.length cr] 40 (0, 0)) from (Below.heap_alloc _ _ _ (by simp)).trans (heap_new _ _))
       have O0 := Lib.hid (show ((wq.alloc (.cells #[.int .i64 o.kind, .int .i64 o.n, .string o.text, .slice ar o.attrs.length cr] 40)).alloc (.cells #[] 81)).ownsRow w.heap.size 81 2 (.slice (some ⟨wq.heap.size + 1, 0, none⟩) 0 0) 0 [] from by
        have := World.ownsRow_lit (e := 81) (size := 2) (wq.alloc (.cells #[.int .i64 o.kind, .int .i64 o.n, .string o.text, .slice ar o.attrs.length cr] 40)) #[] 0 (Nat.le_refl _) (Nat.zero_le _) rfl
        rw [World.size_alloc] at this
        exact own_base this (by omega))
       go_upto_region 18 with (first | (at_builtin; refine wpList_append_row rfl (.tmp 132) (.tmp 134) rfl w.heap.size (.slice (some ⟨wq.heap.size + 1, 0, none⟩) 0 0) (.slice ar o.attrs.length cr) 0 [] o.attrs rfl rfl O0.out (HR0.out.below BX2.out) HPR.out o.attrs.length (flat o.attrs) (Nat.zero_add _) rfl (Nat.le_trans (attrs8 HOP.out) (by decide)) (by have := Jq.out.below.size; simp only [World.size_alloc]; omega) ?_; intro u1 w1 o1 g1'; obtain ⟨ua, uc, rfl⟩ := own_slice o1; have O1 := Lib.hid o1; have B1' := Lib.hid (BX1.out.grown g1' BX1.out.size (fun j hj => by have hj2 : wq.heap.size + 1 = j := (by simpa [Value.ownBlock] using hj); omega)); have XB := Lib.hid ((g1'.block wq.heap.size (by simp; omega) (by simp [Value.ownBlock])).trans XA.out); have J1 := Lib.hid (Jq.out.grow B1'.out); obtain ⟨z0, z1, _, z3⟩ := cells2 J1.out.out; have hzb := lt_of_heap J1.out.out; obtain ⟨e0, e1, e2, e3⟩ := cells4J XB.out; have hzx := lt_of_heap XB.out; have fz3 := frozen4J XB.out; clear o1 g1'))
       obtain ⟨w2, hw2, xw2⟩ : ∃ w2, w2 = w1.setCell ⟨wq.heap.size, 3, none⟩ (.slice ua o.attrs.length uc) ∧ w2.heap[wq.heap.size]? = some (.cells #[.int .i64 o.kind, .int .i64 o.n, .string o.text, .slice ua o.attrs.length uc] 40 (0, 0)) := ⟨_, rfl, nblk_set (j := 3) XB.out⟩
       have J2 := Lib.hid (show JS w w2 f ps oa oc by rw [hw2]; exact Jq.out.grow (B1'.out.setCell (p := ⟨wq.heap.size, 3, none⟩) (Nat.le_refl _) _))
       have O2 := Lib.hid (show w2.ownsRow w.heap.size 81 2 (.slice ua o.attrs.length uc) o.attrs.length (flat o.attrs) by rw [hw2]; exact (keep_set (B := w.heap.size) (ts := [40]) XB.out (by simp) (by omega) ⟨wq.heap.size, 3, none⟩ rfl (.slice ua o.attrs.length uc)).own O1.out (by decide))
       rw [← hw2]
       clear hw2 z0 z1 z3 hzb e0 e1 e2 e3 hzx fz3 b0 b1 f1 hob y0 y1 y2 y3
       obtain ⟨b0, b1, _, f1⟩ := cells2 J2.out.out
       have hob := lt_of_heap J2.out.out
       obtain ⟨e0, e1, e2, e3⟩ := cells4J xw2
       have hzx := lt_of_heap xw2
       clear xw2
       go_wp2_with (first | (at_builtin; refine wpList_app_op rfl (.tmp 138) (.tmp 140) rfl w.heap.size (.slice oa ps.length oc) ps rfl ((J2.out.grow (below_box w2 (.cells #[.int .i64 o.kind, .int .i64 o.n, .string o.text, .slice ua o.attrs.length uc] 40))).own) (o, .slice ua o.attrs.length uc) ⟨w2.heap.size, 0, none⟩ 1 rfl (new_at4 _ _ _ _ _ _) (row_below O2.out (below_box w2 (.cells #[.int .i64 o.kind, .int .i64 o.n, .string o.text, .slice ua o.attrs.length uc] 40))) (by omega) (by have := J2.out.below.size; simp only [World.size_alloc]; omega) ?_; intro v' wC PC KC; obtain ⟨p3, hp3⟩ : ∃ p3, p3 = ps ++ [(o, Value.slice ua o.attrs.length uc)] := ⟨_, rfl⟩; rw [← hp3] at PC; obtain ⟨oa3, oc3, rfl⟩ := own_slice PC.1; have JB := Lib.hid (J2.out.grow (below_box w2 (.cells #[.int .i64 o.kind, .int .i64 o.n, .string o.text, .slice ua o.attrs.length uc] 40))); have xC := KC.keep.kept _ _ _ _ JB.out.out (by decide); obtain ⟨s0, s1, _, s3⟩ := cells2 xC; have hbC := lt_of_heap xC; have HPC := Lib.hid PC; have HKC := Lib.hid KC; have HP2b := Lib.hid hp3; clear PC KC xC hp3))
       go_roundw
       case rel =>
        refine ⟨k + 1, p3, oa3, oc3, by rw [HA.out], by go_num, by omega, ?_, JB.out.keep HKC.out HPC.out⟩
        rw [HA2.out, HP2b.out, List.map_append, HPS.out]; simp
       case measure => simp [intOf]; omega
      ·have HP0 := Lib.hid hp0
       have hpl0 : ps.length = c0.length + 1 := by rw [hp0]; simp
       have HL0 := Lib.hid (map_snoc8 (by rw [← hp0]; exact HPS.out))
       have hP5 := HJ.out.own
       rw [hpl0, hp0] at hP5
       obtain ⟨gg, cap, hgv⟩ := ownsRow_open hP5.len (Nat.succ_pos _)
       injection hgv with e1 _ e3
       subst e1
       subst e3
       have HP5 := Lib.hid hP5
       obtain ⟨xa, xc, hxv⟩ : ∃ a c, xv = .slice a x.attrs.length c := own_slice (hP5.2 (x, xv) (by simp))
       subst hxv
       obtain ⟨q0, q1, q2, q3⟩ := last_cells hP5.len
       rw [hpl0] at b1
       have hw9 : IntKind.i64.wrap ((c0.length : Int) + 1 - 1) = (c0.length : Int) := by rw [show (c0.length : Int) + 1 - 1 = (c0.length : Int) by omega]; exact IntWalk.i64_in _ (by omega)
       have i1 : (0 : Int) ≤ (c0.length : Int) := by omega
       have i2 : (c0.length : Int) < (c0.length : Int) + 1 := by omega
       have i3 : decide ((0 : Int) ≤ (c0.length : Int)) = true := decide_eq_true i1
       have hplb : c0.length ≤ 400001 := by omega
       clear hP5 hp0
       have HPL0 := Lib.hid hpl0
       clear hpl0
       by_cases hkd : x.kind = o.kind
       ·have kk : (x.kind == o.kind) = true := beq_iff_eq.2 hkd
        have HQ := Lib.hid (fun n : Nat => refSame_any (.slice xa x.attrs.length xc) (.slice ar o.attrs.length cr) x.attrs o.attrs (wr.drewN n) (row_of_own (row_below (HP5.out.2 (x, .slice xa x.attrs.length xc) (by simp)) (below_drewN (Below.refl _ _) n))) (HR0.out.below (below_drewN HJ.out.below n)))
        have HKD := Lib.hid hkd
        clear hkd
        by_cases hal : x.attrs = o.attrs
        ·have HA2 := Lib.hid (show fold (ops.take (k + 1)) = ({ x with n := x.n + o.n, text := cat x.text o.text } :: (c0.map (·.1)).reverse, 0) by rw [HA.out, put_eq8 HL0.out HKD.out hal])
         rw [show sameB x.attrs o.attrs = true from decide_eq_true hal] at HQ
         clear hal
         have hx1 : 0 ≤ x.n ∧ x.n ≤ 4000000000 ∧ x.text.size ≤ 16000000000 := by
          have h1 := HSM.out
          have h2 := h1.ft
          have h3 := h1.fx
          have h4 := h1.all x (by rw [HL0.out]; exact List.mem_cons_self ..)
          have h5 := tot_nonneg8 (r := (c0.map (·.1)).reverse) fun y hy => h1.all y (by rw [HL0.out]; exact List.mem_cons_of_mem _ hy)
          rw [HL0.out] at h2 h3
          simp only [tot, ttx] at h2 h3
          refine ⟨h4, by omega, by omega⟩
         obtain ⟨hx1, hx2, hx3⟩ := hx1
         have htx := HVO1.out.text
         have hwr : IntKind.i64.wrap (x.n + o.n) = x.n + o.n := IntWalk.i64_in _ (by omega)
         go_wp2_with fail
         go_quiet ((go_at_call 35; exact Calls.quiet_of (HQ.out _)))
         obtain ⟨wq, hwq⟩ : ∃ wq, wq = wr.drewN nq := ⟨_, rfl⟩
         rw [← hwq]
         have Jq := Lib.hid (show JS w wq f ps _ _ by rw [hwq]; exact HJ.out.drew nq)
         clear hwq b0 b1 f1 hob y0 y1 y2 y3 hHS
         clear q0 q1 q2 q3
         obtain ⟨b0, b1, _, f1⟩ := cells2 Jq.out.out
         have hob := lt_of_heap Jq.out.out
         have hHS := Jq.out.below.size
         obtain ⟨y0, y1, y2, y3⟩ := HY.out wq Jq.out.below
         have JM := Lib.hid (show JS w wq f (c0 ++ [(x, .slice xa x.attrs.length xc)]) (some ⟨gg, 0, none⟩) oc by have h := Jq.out; rw [HP0.out] at h; exact h)
         rw [HPL0.out] at b1
         obtain ⟨q0, q1, q2, q3⟩ := last_cells JM.out.snoc.len
         have fq1 : wq.frozen? ⟨gg, c0.length * 4 + 1, none⟩ = false := JM.out.snoc.len.frozenAt _
         go_wp2_with fail
         go_region
         obtain ⟨w5, hw5⟩ : ∃ w5, w5 = wq.setCell ⟨gg, c0.length * 4 + 1, none⟩ (.int .i64 (x.n + o.n)) := ⟨_, rfl⟩
         rw [← hw5]
         have JN := Lib.hid (show JS w w5 f (c0 ++ [({ x with n := x.n + o.n }, .slice xa x.attrs.length xc)]) (some ⟨gg, 0, none⟩) oc by rw [hw5]; exact JM.out.setLast 1 _ rfl rfl)
         clear hw5 b0 b1 f1 hob y0 y1 y2 y3 hHS q0 q1 q2 q3 fq1
         obtain ⟨b0, b1, _, f1⟩ := cells2 JN.out.out
         have hob := lt_of_heap JN.out.out
         have hHS := JN.out.below.size
         obtain ⟨y0, y1, y2, y3⟩ := HY.out w5 JN.out.below
         rw [show (c0 ++ [(({ x with n := x.n + o.n } : OpD), Value.slice xa x.attrs.length xc)]).length = c0.length + 1 by simp] at b1
         obtain ⟨q0, q1, q2, q3⟩ := last_cells JN.out.snoc.len
         have fq2 : w5.frozen? ⟨gg, c0.length * 4 + 2, none⟩ = false := JN.out.snoc.len.frozenAt _
         go_wp2_with fail
         go_region
         obtain ⟨w6, hw6⟩ : ∃ w6, w6 = w5.setCell ⟨gg, c0.length * 4 + 2, none⟩ (.string (x.text ++ o.text)) := ⟨_, rfl⟩
         rw [← hw6]
         have J6 := Lib.hid (show JS w w6 f (c0 ++ [({ x with n := x.n + o.n, text := cat x.text o.text }, .slice xa x.attrs.length xc)]) (some ⟨gg, 0, none⟩) oc by rw [hw6]; exact JN.out.setLast 2 _ (by rw [cat_eq]; rfl) rfl)
         clear hw6
         go_wp2_with fail
         go_roundw
         case rel => exact ⟨k + 1, c0 ++ [(({ x with n := x.n + o.n, text := cat x.text o.text } : OpD), Value.slice xa x.attrs.length xc)], some ⟨gg, 0, none⟩, oc, by rw [HA2.out], by go_num, by omega, by rw [HA2.out]; simp, (J6.out.drew 1).drew 1⟩
         case measure => simp [intOf]; omega
        ·have HA2 := Lib.hid (show fold (ops.take (k + 1)) = (o :: l, 0) by rw [HA.out, put_ne8 HL0.out (fun h => hal h.2)])
         rw [show sameB x.attrs o.attrs = false from decide_eq_false hal] at HQ
         clear hal
         go_wp2_with fail
         go_quiet ((go_at_call 35; exact Calls.quiet_of (HQ.out _)))
         obtain ⟨wq, hwq⟩ : ∃ wq, wq = wr.drewN nq := ⟨_, rfl⟩
         rw [← hwq]
         have Jq := Lib.hid (show JS w wq f ps _ _ by rw [hwq]; exact HJ.out.drew nq)
         clear hwq b0 b1 f1 hob y0 y1 y2 y3 hHS
         clear q0 q1 q2 q3 hw9 i1 i2 i3
         obtain ⟨b0, b1, _, f1⟩ := cells2 Jq.out.out
         have hob := lt_of_heap Jq.out.out
         have hHS := Jq.out.below.size
         obtain ⟨y0, y1, y2, y3⟩ := HY.out wq Jq.out.below
         have BX1 := Lib.hid (((Below.refl wq.heap.size wq).alloc (Nat.le_refl _) (.cells #[.int .i64 o.kind, .int .i64 o.n, .string o.text, .slice ar o.attrs.length cr] 40)).alloc (by simp) (.cells #[] 81))
         have BX2 := Lib.hid (Jq.out.below.trans (BX1.out.mono Jq.out.below.size))
         have XA := Lib.hid (show ((wq.alloc (.cells #[.int .i64 o.kind, .int .i64 o.n, .string o.text, .slice ar o.attrs.length cr] 40)).alloc (.cells #[] 81)).heap[wq.heap.size]? = some (.cells #[.int .i64 o.kind, .int .i64 o.n, .string o.text, .slice ar o.attrs.length cr] 40 (0, 0)) from (Below.heap_alloc _ _ _ (by simp)).trans (heap_new _ _))
         have O0 := Lib.hid (show ((wq.alloc (.cells #[.int .i64 o.kind, .int .i64 o.n, .string o.text, .slice ar o.attrs.length cr] 40)).alloc (.cells #[] 81)).ownsRow w.heap.size 81 2 (.slice (some ⟨wq.heap.size + 1, 0, none⟩) 0 0) 0 [] from by
          have := World.ownsRow_lit (e := 81) (size := 2) (wq.alloc (.cells #[.int .i64 o.kind, .int .i64 o.n, .string o.text, .slice ar o.attrs.length cr] 40)) #[] 0 (Nat.le_refl _) (Nat.zero_le _) rfl
          rw [World.size_alloc] at this
          exact own_base this (by omega))
         go_upto_region 18 with (first | (at_builtin; refine wpList_append_row rfl (.tmp 132) (.tmp 134) rfl w.heap.size (.slice (some ⟨wq.heap.size + 1, 0, none⟩) 0 0) (.slice ar o.attrs.length cr) 0 [] o.attrs rfl rfl O0.out (HR0.out.below BX2.out) HPR.out o.attrs.length (flat o.attrs) (Nat.zero_add _) rfl (Nat.le_trans (attrs8 HOP.out) (by decide)) (by have := Jq.out.below.size; simp only [World.size_alloc]; omega) ?_; intro u1 w1 o1 g1'; obtain ⟨ua, uc, rfl⟩ := own_slice o1; have O1 := Lib.hid o1; have B1' := Lib.hid (BX1.out.grown g1' BX1.out.size (fun j hj => by have hj2 : wq.heap.size + 1 = j := (by simpa [Value.ownBlock] using hj); omega)); have XB := Lib.hid ((g1'.block wq.heap.size (by simp; omega) (by simp [Value.ownBlock])).trans XA.out); have J1 := Lib.hid (Jq.out.grow B1'.out); obtain ⟨z0, z1, _, z3⟩ := cells2 J1.out.out; have hzb := lt_of_heap J1.out.out; obtain ⟨e0, e1, e2, e3⟩ := cells4J XB.out; have hzx := lt_of_heap XB.out; have fz3 := frozen4J XB.out; clear o1 g1'))
         obtain ⟨w2, hw2, xw2⟩ : ∃ w2, w2 = w1.setCell ⟨wq.heap.size, 3, none⟩ (.slice ua o.attrs.length uc) ∧ w2.heap[wq.heap.size]? = some (.cells #[.int .i64 o.kind, .int .i64 o.n, .string o.text, .slice ua o.attrs.length uc] 40 (0, 0)) := ⟨_, rfl, nblk_set (j := 3) XB.out⟩
         have J2 := Lib.hid (show JS w w2 f ps (some ⟨gg, 0, none⟩) oc by rw [hw2]; exact Jq.out.grow (B1'.out.setCell (p := ⟨wq.heap.size, 3, none⟩) (Nat.le_refl _) _))
         have O2 := Lib.hid (show w2.ownsRow w.heap.size 81 2 (.slice ua o.attrs.length uc) o.attrs.length (flat o.attrs) by rw [hw2]; exact (keep_set (B := w.heap.size) (ts := [40]) XB.out (by simp) (by omega) ⟨wq.heap.size, 3, none⟩ rfl (.slice ua o.attrs.length uc)).own O1.out (by decide))
         rw [← hw2]
         clear hw2 z0 z1 z3 hzb e0 e1 e2 e3 hzx fz3 b0 b1 f1 hob y0 y1 y2 y3
         obtain ⟨b0, b1, _, f1⟩ := cells2 J2.out.out
         have hob := lt_of_heap J2.out.out
         obtain ⟨e0, e1, e2, e3⟩ := cells4J xw2
         have hzx := lt_of_heap xw2
         clear xw2
         go_wp2_with (first | (at_builtin; refine wpList_app_op rfl (.tmp 138) (.tmp 140) rfl w.heap.size (.slice (some ⟨gg, 0, none⟩) ps.length oc) ps rfl ((J2.out.grow (below_box w2 (.cells #[.int .i64 o.kind, .int .i64 o.n, .string o.text, .slice ua o.attrs.length uc] 40))).own) (o, .slice ua o.attrs.length uc) ⟨w2.heap.size, 0, none⟩ 1 rfl (new_at4 _ _ _ _ _ _) (row_below O2.out (below_box w2 (.cells #[.int .i64 o.kind, .int .i64 o.n, .string o.text, .slice ua o.attrs.length uc] 40))) (by omega) (by have := J2.out.below.size; simp only [World.size_alloc]; omega) ?_; intro v' wC PC KC; obtain ⟨p3, hp3⟩ : ∃ p3, p3 = ps ++ [(o, Value.slice ua o.attrs.length uc)] := ⟨_, rfl⟩; rw [← hp3] at PC; obtain ⟨oa3, oc3, rfl⟩ := own_slice PC.1; have JB := Lib.hid (J2.out.grow (below_box w2 (.cells #[.int .i64 o.kind, .int .i64 o.n, .string o.text, .slice ua o.attrs.length uc] 40))); have xC := KC.keep.kept _ _ _ _ JB.out.out (by decide); obtain ⟨s0, s1, _, s3⟩ := cells2 xC; have hbC := lt_of_heap xC; have HPC := Lib.hid PC; have HKC := Lib.hid KC; have HP2b := Lib.hid hp3; clear PC KC xC hp3))
         go_roundw
         case rel =>
          refine ⟨k + 1, p3, oa3, oc3, by rw [HA.out], by go_num, by omega, ?_, JB.out.keep HKC.out HPC.out⟩
          rw [HA2.out, HP2b.out, List.map_append, HPS.out]; simp
         case measure => simp [intOf]; omega
       ·have kk : (x.kind == o.kind) = false := beq_eq_false_iff_ne.2 hkd
        have HA2 := Lib.hid (show fold (ops.take (k + 1)) = (o :: l, 0) by rw [HA.out, put_ne8 HL0.out (fun h => hkd h.1)])
        clear hkd
        go_wp2_with fail
        go_quiet (fail)
        obtain ⟨wq, hwq⟩ : ∃ wq, wq = wr.drewN nq := ⟨_, rfl⟩
        rw [← hwq]
        have Jq := Lib.hid (show JS w wq f ps _ _ by rw [hwq]; exact HJ.out.drew nq)
        clear hwq b0 b1 f1 hob y0 y1 y2 y3 hHS
        clear q0 q1 q2 q3 hw9 i1 i2 i3
        obtain ⟨b0, b1, _, f1⟩ := cells2 Jq.out.out
        have hob := lt_of_heap Jq.out.out
        have hHS := Jq.out.below.size
        obtain ⟨y0, y1, y2, y3⟩ := HY.out wq Jq.out.below
        have BX1 := Lib.hid (((Below.refl wq.heap.size wq).alloc (Nat.le_refl _) (.cells #[.int .i64 o.kind, .int .i64 o.n, .string o.text, .slice ar o.attrs.length cr] 40)).alloc (by simp) (.cells #[] 81))
        have BX2 := Lib.hid (Jq.out.below.trans (BX1.out.mono Jq.out.below.size))
        have XA := Lib.hid (show ((wq.alloc (.cells #[.int .i64 o.kind, .int .i64 o.n, .string o.text, .slice ar o.attrs.length cr] 40)).alloc (.cells #[] 81)).heap[wq.heap.size]? = some (.cells #[.int .i64 o.kind, .int .i64 o.n, .string o.text, .slice ar o.attrs.length cr] 40 (0, 0)) from (Below.heap_alloc _ _ _ (by simp)).trans (heap_new _ _))
        have O0 := Lib.hid (show ((wq.alloc (.cells #[.int .i64 o.kind, .int .i64 o.n, .string o.text, .slice ar o.attrs.length cr] 40)).alloc (.cells #[] 81)).ownsRow w.heap.size 81 2 (.slice (some ⟨wq.heap.size + 1, 0, none⟩) 0 0) 0 [] from by
         have := World.ownsRow_lit (e := 81) (size := 2) (wq.alloc (.cells #[.int .i64 o.kind, .int .i64 o.n, .string o.text, .slice ar o.attrs.length cr] 40)) #[] 0 (Nat.le_refl _) (Nat.zero_le _) rfl
         rw [World.size_alloc] at this
         exact own_base this (by omega))
        go_upto_region 18 with (first | (at_builtin; refine wpList_append_row rfl (.tmp 132) (.tmp 134) rfl w.heap.size (.slice (some ⟨wq.heap.size + 1, 0, none⟩) 0 0) (.slice ar o.attrs.length cr) 0 [] o.attrs rfl rfl O0.out (HR0.out.below BX2.out) HPR.out o.attrs.length (flat o.attrs) (Nat.zero_add _) rfl (Nat.le_trans (attrs8 HOP.out) (by decide)) (by have := Jq.out.below.size; simp only [World.size_alloc]; omega) ?_; intro u1 w1 o1 g1'; obtain ⟨ua, uc, rfl⟩ := own_slice o1; have O1 := Lib.hid o1; have B1' := Lib.hid (BX1.out.grown g1' BX1.out.size (fun j hj => by have hj2 : wq.heap.size + 1 = j := (by simpa [Value.ownBlock] using hj); omega)); have XB := Lib.hid ((g1'.block wq.heap.size (by simp; omega) (by simp [Value.ownBlock])).trans XA.out); have J1 := Lib.hid (Jq.out.grow B1'.out); obtain ⟨z0, z1, _, z3⟩ := cells2 J1.out.out; have hzb := lt_of_heap J1.out.out; obtain ⟨e0, e1, e2, e3⟩ := cells4J XB.out; have hzx := lt_of_heap XB.out; have fz3 := frozen4J XB.out; clear o1 g1'))
        obtain ⟨w2, hw2, xw2⟩ : ∃ w2, w2 = w1.setCell ⟨wq.heap.size, 3, none⟩ (.slice ua o.attrs.length uc) ∧ w2.heap[wq.heap.size]? = some (.cells #[.int .i64 o.kind, .int .i64 o.n, .string o.text, .slice ua o.attrs.length uc] 40 (0, 0)) := ⟨_, rfl, nblk_set (j := 3) XB.out⟩
        have J2 := Lib.hid (show JS w w2 f ps (some ⟨gg, 0, none⟩) oc by rw [hw2]; exact Jq.out.grow (B1'.out.setCell (p := ⟨wq.heap.size, 3, none⟩) (Nat.le_refl _) _))
        have O2 := Lib.hid (show w2.ownsRow w.heap.size 81 2 (.slice ua o.attrs.length uc) o.attrs.length (flat o.attrs) by rw [hw2]; exact (keep_set (B := w.heap.size) (ts := [40]) XB.out (by simp) (by omega) ⟨wq.heap.size, 3, none⟩ rfl (.slice ua o.attrs.length uc)).own O1.out (by decide))
        rw [← hw2]
        clear hw2 z0 z1 z3 hzb e0 e1 e2 e3 hzx fz3 b0 b1 f1 hob y0 y1 y2 y3
        obtain ⟨b0, b1, _, f1⟩ := cells2 J2.out.out
        have hob := lt_of_heap J2.out.out
        obtain ⟨e0, e1, e2, e3⟩ := cells4J xw2
        have hzx := lt_of_heap xw2
        clear xw2
        go_wp2_with (first | (at_builtin; refine wpList_app_op rfl (.tmp 138) (.tmp 140) rfl w.heap.size (.slice (some ⟨gg, 0, none⟩) ps.length oc) ps rfl ((J2.out.grow (below_box w2 (.cells #[.int .i64 o.kind, .int .i64 o.n, .string o.text, .slice ua o.attrs.length uc] 40))).own) (o, .slice ua o.attrs.length uc) ⟨w2.heap.size, 0, none⟩ 1 rfl (new_at4 _ _ _ _ _ _) (row_below O2.out (below_box w2 (.cells #[.int .i64 o.kind, .int .i64 o.n, .string o.text, .slice ua o.attrs.length uc] 40))) (by omega) (by have := J2.out.below.size; simp only [World.size_alloc]; omega) ?_; intro v' wC PC KC; obtain ⟨p3, hp3⟩ : ∃ p3, p3 = ps ++ [(o, Value.slice ua o.attrs.length uc)] := ⟨_, rfl⟩; rw [← hp3] at PC; obtain ⟨oa3, oc3, rfl⟩ := own_slice PC.1; have JB := Lib.hid (J2.out.grow (below_box w2 (.cells #[.int .i64 o.kind, .int .i64 o.n, .string o.text, .slice ua o.attrs.length uc] 40))); have xC := KC.keep.kept _ _ _ _ JB.out.out (by decide); obtain ⟨s0, s1, _, s3⟩ := cells2 xC; have hbC := lt_of_heap xC; have HPC := Lib.hid PC; have HKC := Lib.hid KC; have HP2b := Lib.hid hp3; clear PC KC xC hp3))
        go_roundw
        case rel =>
         refine ⟨k + 1, p3, oa3, oc3, by rw [HA.out], by go_num, by omega, ?_, JB.out.keep HKC.out HPC.out⟩
         rw [HA2.out, HP2b.out, List.map_append, HPS.out]; simp
        case measure => simp [intOf]; omega
    ·have k1 : (o.kind == 1) = false := beq_eq_false_iff_ne.2 hk1
     have HA := Lib.hid (show fold (ops.take (k + 1)) = (put l o, g) by rw [HF.out, add_flushK, if_neg hk3]; unfold flushK; rw [if_neg hk1])
     clear hk1 hk3
     by_cases hg : 0 < g
     ·skip
      rcases nil_or_snoc ps with hnil | ⟨c0, ⟨x, xv⟩, hp0⟩
      ·have hpl0 : ps.length = 0 := by rw [hnil]; rfl
       have HA2 := Lib.hid (show fold (ops.take (k + 1)) = (o :: l, g) by rw [HA.out, put_nil8 (map_nil8 hnil HPS.out)])
       clear hnil
       rw [hpl0] at b1
       have hw9 : IntKind.i64.wrap (((0 : Nat) : Int) - 1) = -1 := rfl
       go_wp2_with fail
       go_quiet (fail)
       obtain ⟨wq, hwq⟩ : ∃ wq, wq = wr.drewN nq := ⟨_, rfl⟩
       rw [← hwq]
       have Jq := Lib.hid (show JS w wq f ps _ _ by rw [hwq]; exact HJ.out.drew nq)
       clear hwq b0 b1 f1 hob y0 y1 y2 y3 hHS
       have HPL2 := Lib.hid hpl0
       clear hpl0 hw9
       obtain ⟨b0, b1, _, f1⟩ := cells2 Jq.out.out
       have hob := lt_of_heap Jq.out.out
       have hHS := Jq.out.below.size
       obtain ⟨y0, y1, y2, y3⟩ := HY.out wq Jq.out.below
       have BX1 := Lib.hid (((Below.refl wq.heap.size wq).alloc (Nat.le_refl _) (.cells #[.int .i64 o.kind, .int .i64 o.n, .string o.text, .slice ar o.attrs.length cr] 40)).alloc (by simp) (.cells #[] 81))
       have BX2 := Lib.hid (Jq.out.below.trans (BX1.out.mono Jq.out.below.size))
       have XA := Lib.hid (show ((wq.alloc (.cells #[.int .i64 o.kind, .int .i64 o.n, .string o.text, .slice ar o.attrs.length cr] 40)).alloc (.cells #[] 81)).heap[wq.heap.size]? = some (.cells #[.int .i64 o.kind, .int .i64 o.n, .string o.text, .slice ar o.attrs.length cr] 40 (0, 0)) from (Below.heap_alloc _ _ _ (by simp)).trans (heap_new _ _))
       have O0 := Lib.hid (show ((wq.alloc (.cells #[.int .i64 o.kind, .int .i64 o.n, .string o.text, .slice ar o.attrs.length cr] 40)).alloc (.cells #[] 81)).ownsRow w.heap.size 81 2 (.slice (some ⟨wq.heap.size + 1, 0, none⟩) 0 0) 0 [] from by
        have := World.ownsRow_lit (e := 81) (size := 2) (wq.alloc (.cells #[.int .i64 o.kind, .int .i64 o.n, .string o.text, .slice ar o.attrs.length cr] 40)) #[] 0 (Nat.le_refl _) (Nat.zero_le _) rfl
        rw [World.size_alloc] at this
        exact own_base this (by omega))
       go_upto_region 18 with (first | (at_builtin; refine wpList_append_row rfl (.tmp 132) (.tmp 134) rfl w.heap.size (.slice (some ⟨wq.heap.size + 1, 0, none⟩) 0 0) (.slice ar o.attrs.length cr) 0 [] o.attrs rfl rfl O0.out (HR0.out.below BX2.out) HPR.out o.attrs.length (flat o.attrs) (Nat.zero_add _) rfl (Nat.le_trans (attrs8 HOP.out) (by decide)) (by have := Jq.out.below.size; simp only [World.size_alloc]; omega) ?_; intro u1 w1 o1 g1'; obtain ⟨ua, uc, rfl⟩ := own_slice o1; have O1 := Lib.hid o1; have B1' := Lib.hid (BX1.out.grown g1' BX1.out.size (fun j hj => by have hj2 : wq.heap.size + 1 = j := (by simpa [Value.ownBlock] using hj); omega)); have XB := Lib.hid ((g1'.block wq.heap.size (by simp; omega) (by simp [Value.ownBlock])).trans XA.out); have J1 := Lib.hid (Jq.out.grow B1'.out); obtain ⟨z0, z1, _, z3⟩ := cells2 J1.out.out; have hzb := lt_of_heap J1.out.out; obtain ⟨e0, e1, e2, e3⟩ := cells4J XB.out; have hzx := lt_of_heap XB.out; have fz3 := frozen4J XB.out; clear o1 g1'))
       obtain ⟨w2, hw2, xw2⟩ : ∃ w2, w2 = w1.setCell ⟨wq.heap.size, 3, none⟩ (.slice ua o.attrs.length uc) ∧ w2.heap[wq.heap.size]? = some (.cells #[.int .i64 o.kind, .int .i64 o.n, .string o.text, .slice ua o.attrs.length uc] 40 (0, 0)) := ⟨_, rfl, nblk_set (j := 3) XB.out⟩
       have J2 := Lib.hid (show JS w w2 f ps oa oc by rw [hw2]; exact Jq.out.grow (B1'.out.setCell (p := ⟨wq.heap.size, 3, none⟩) (Nat.le_refl _) _))
       have O2 := Lib.hid (show w2.ownsRow w.heap.size 81 2 (.slice ua o.attrs.length uc) o.attrs.length (flat o.attrs) by rw [hw2]; exact (keep_set (B := w.heap.size) (ts := [40]) XB.out (by simp) (by omega) ⟨wq.heap.size, 3, none⟩ rfl (.slice ua o.attrs.length uc)).own O1.out (by decide))
       rw [← hw2]
       clear hw2 z0 z1 z3 hzb e0 e1 e2 e3 hzx fz3 b0 b1 f1 hob y0 y1 y2 y3
       obtain ⟨b0, b1, _, f1⟩ := cells2 J2.out.out
       have hob := lt_of_heap J2.out.out
       obtain ⟨e0, e1, e2, e3⟩ := cells4J xw2
       have hzx := lt_of_heap xw2
       clear xw2
       go_wp2_with (first | (at_builtin; refine wpList_app_op rfl (.tmp 138) (.tmp 140) rfl w.heap.size (.slice oa ps.length oc) ps rfl ((J2.out.grow (below_box w2 (.cells #[.int .i64 o.kind, .int .i64 o.n, .string o.text, .slice ua o.attrs.length uc] 40))).own) (o, .slice ua o.attrs.length uc) ⟨w2.heap.size, 0, none⟩ 1 rfl (new_at4 _ _ _ _ _ _) (row_below O2.out (below_box w2 (.cells #[.int .i64 o.kind, .int .i64 o.n, .string o.text, .slice ua o.attrs.length uc] 40))) (by omega) (by have := J2.out.below.size; simp only [World.size_alloc]; omega) ?_; intro v' wC PC KC; obtain ⟨p3, hp3⟩ : ∃ p3, p3 = ps ++ [(o, Value.slice ua o.attrs.length uc)] := ⟨_, rfl⟩; rw [← hp3] at PC; obtain ⟨oa3, oc3, rfl⟩ := own_slice PC.1; have JB := Lib.hid (J2.out.grow (below_box w2 (.cells #[.int .i64 o.kind, .int .i64 o.n, .string o.text, .slice ua o.attrs.length uc] 40))); have xC := KC.keep.kept _ _ _ _ JB.out.out (by decide); obtain ⟨s0, s1, _, s3⟩ := cells2 xC; have hbC := lt_of_heap xC; have HPC := Lib.hid PC; have HKC := Lib.hid KC; have HP2b := Lib.hid hp3; clear PC KC xC hp3))
       go_roundw
       case rel =>
        refine ⟨k + 1, p3, oa3, oc3, by rw [HA.out], by go_num, by omega, ?_, JB.out.keep HKC.out HPC.out⟩
        rw [HA2.out, HP2b.out, List.map_append, HPS.out]; simp
       case measure => simp [intOf]; omega
      ·have HP0 := Lib.hid hp0
       have hpl0 : ps.length = c0.length + 1 := by rw [hp0]; simp
       have HL0 := Lib.hid (map_snoc8 (by rw [← hp0]; exact HPS.out))
       have hP5 := HJ.out.own
       rw [hpl0, hp0] at hP5
       obtain ⟨gg, cap, hgv⟩ := ownsRow_open hP5.len (Nat.succ_pos _)
       injection hgv with e1 _ e3
       subst e1
       subst e3
       have HP5 := Lib.hid hP5
       obtain ⟨xa, xc, hxv⟩ : ∃ a c, xv = .slice a x.attrs.length c := own_slice (hP5.2 (x, xv) (by simp))
       subst hxv
       obtain ⟨q0, q1, q2, q3⟩ := last_cells hP5.len
       rw [hpl0] at b1
       have hw9 : IntKind.i64.wrap ((c0.length : Int) + 1 - 1) = (c0.length : Int) := by rw [show (c0.length : Int) + 1 - 1 = (c0.length : Int) by omega]; exact IntWalk.i64_in _ (by omega)
       have i1 : (0 : Int) ≤ (c0.length : Int) := by omega
       have i2 : (c0.length : Int) < (c0.length : Int) + 1 := by omega
       have i3 : decide ((0 : Int) ≤ (c0.length : Int)) = true := decide_eq_true i1
       have hplb : c0.length ≤ 400001 := by omega
       clear hP5 hp0
       have HPL0 := Lib.hid hpl0
       clear hpl0
       by_cases hkd : x.kind = o.kind
       ·have kk : (x.kind == o.kind) = true := beq_iff_eq.2 hkd
        have HQ := Lib.hid (fun n : Nat => refSame_any (.slice xa x.attrs.length xc) (.slice ar o.attrs.length cr) x.attrs o.attrs (wr.drewN n) (row_of_own (row_below (HP5.out.2 (x, .slice xa x.attrs.length xc) (by simp)) (below_drewN (Below.refl _ _) n))) (HR0.out.below (below_drewN HJ.out.below n)))
        have HKD := Lib.hid hkd
        clear hkd
        by_cases hal : x.attrs = o.attrs
        ·have HA2 := Lib.hid (show fold (ops.take (k + 1)) = ({ x with n := x.n + o.n, text := cat x.text o.text } :: (c0.map (·.1)).reverse, g) by rw [HA.out, put_eq8 HL0.out HKD.out hal])
         rw [show sameB x.attrs o.attrs = true from decide_eq_true hal] at HQ
         clear hal
         have hx1 : 0 ≤ x.n ∧ x.n ≤ 4000000000 ∧ x.text.size ≤ 16000000000 := by
          have h1 := HSM.out
          have h2 := h1.ft
          have h3 := h1.fx
          have h4 := h1.all x (by rw [HL0.out]; exact List.mem_cons_self ..)
          have h5 := tot_nonneg8 (r := (c0.map (·.1)).reverse) fun y hy => h1.all y (by rw [HL0.out]; exact List.mem_cons_of_mem _ hy)
          rw [HL0.out] at h2 h3
          simp only [tot, ttx] at h2 h3
          refine ⟨h4, by omega, by omega⟩
         obtain ⟨hx1, hx2, hx3⟩ := hx1
         have htx := HVO1.out.text
         have hwr : IntKind.i64.wrap (x.n + o.n) = x.n + o.n := IntWalk.i64_in _ (by omega)
         go_wp2_with fail
         go_quiet ((go_at_call 35; exact Calls.quiet_of (HQ.out _)))
         obtain ⟨wq, hwq⟩ : ∃ wq, wq = wr.drewN nq := ⟨_, rfl⟩
         rw [← hwq]
         have Jq := Lib.hid (show JS w wq f ps _ _ by rw [hwq]; exact HJ.out.drew nq)
         clear hwq b0 b1 f1 hob y0 y1 y2 y3 hHS
         clear q0 q1 q2 q3
         obtain ⟨b0, b1, _, f1⟩ := cells2 Jq.out.out
         have hob := lt_of_heap Jq.out.out
         have hHS := Jq.out.below.size
         obtain ⟨y0, y1, y2, y3⟩ := HY.out wq Jq.out.below
         have JM := Lib.hid (show JS w wq f (c0 ++ [(x, .slice xa x.attrs.length xc)]) (some ⟨gg, 0, none⟩) oc by have h := Jq.out; rw [HP0.out] at h; exact h)
         rw [HPL0.out] at b1
         obtain ⟨q0, q1, q2, q3⟩ := last_cells JM.out.snoc.len
         have fq1 : wq.frozen? ⟨gg, c0.length * 4 + 1, none⟩ = false := JM.out.snoc.len.frozenAt _
         go_wp2_with fail
         go_region
         obtain ⟨w5, hw5⟩ : ∃ w5, w5 = wq.setCell ⟨gg, c0.length * 4 + 1, none⟩ (.int .i64 (x.n + o.n)) := ⟨_, rfl⟩
         rw [← hw5]
         have JN := Lib.hid (show JS w w5 f (c0 ++ [({ x with n := x.n + o.n }, .slice xa x.attrs.length xc)]) (some ⟨gg, 0, none⟩) oc by rw [hw5]; exact JM.out.setLast 1 _ rfl rfl)
         clear hw5 b0 b1 f1 hob y0 y1 y2 y3 hHS q0 q1 q2 q3 fq1
         obtain ⟨b0, b1, _, f1⟩ := cells2 JN.out.out
         have hob := lt_of_heap JN.out.out
         have hHS := JN.out.below.size
         obtain ⟨y0, y1, y2, y3⟩ := HY.out w5 JN.out.below
         rw [show (c0 ++ [(({ x with n := x.n + o.n } : OpD), Value.slice xa x.attrs.length xc)]).length = c0.length + 1 by simp] at b1
         obtain ⟨q0, q1, q2, q3⟩ := last_cells JN.out.snoc.len
         have fq2 : w5.frozen? ⟨gg, c0.length * 4 + 2, none⟩ = false := JN.out.snoc.len.frozenAt _
         go_wp2_with fail
         go_region
         obtain ⟨w6, hw6⟩ : ∃ w6, w6 = w5.setCell ⟨gg, c0.length * 4 + 2, none⟩ (.string (x.text ++ o.text)) := ⟨_, rfl⟩
         rw [← hw6]
         have J6 := Lib.hid (show JS w w6 f (c0 ++ [({ x with n := x.n + o.n, text := cat x.text o.text }, .slice xa x.attrs.length xc)]) (some ⟨gg, 0, none⟩) oc by rw [hw6]; exact JN.out.setLast 2 _ (by rw [cat_eq]; rfl) rfl)
         clear hw6
         go_wp2_with fail
         go_roundw
         case rel => exact ⟨k + 1, c0 ++ [(({ x with n := x.n + o.n, text := cat x.text o.text } : OpD), Value.slice xa x.attrs.length xc)], some ⟨gg, 0, none⟩, oc, by rw [HA2.out], by go_num, by omega, by rw [HA2.out]; simp, (J6.out.drew 1).drew 1⟩
         case measure => simp [intOf]; omega
        ·have HA2 := Lib.hid (show fold (ops.take (k + 1)) = (o :: l, g) by rw [HA.out, put_ne8 HL0.out (fun h => hal h.2)])
         rw [show sameB x.attrs o.attrs = false from decide_eq_false hal] at HQ
         clear hal
         go_wp2_with fail
         go_quiet ((go_at_call 35; exact Calls.quiet_of (HQ.out _)))
         obtain ⟨wq, hwq⟩ : ∃ wq, wq = wr.drewN nq := ⟨_, rfl⟩
         rw [← hwq]
         have Jq := Lib.hid (show JS w wq f ps _ _ by rw [hwq]; exact HJ.out.drew nq)
         clear hwq b0 b1 f1 hob y0 y1 y2 y3 hHS
         clear q0 q1 q2 q3 hw9 i1 i2 i3
         obtain ⟨b0, b1, _, f1⟩ := cells2 Jq.out.out
         have hob := lt_of_heap Jq.out.out
         have hHS := Jq.out.below.size
         obtain ⟨y0, y1, y2, y3⟩ := HY.out wq Jq.out.below
         have BX1 := Lib.hid (((Below.refl wq.heap.size wq).alloc (Nat.le_refl _) (.cells #[.int .i64 o.kind, .int .i64 o.n, .string o.text, .slice ar o.attrs.length cr] 40)).alloc (by simp) (.cells #[] 81))
         have BX2 := Lib.hid (Jq.out.below.trans (BX1.out.mono Jq.out.below.size))
         have XA := Lib.hid (show ((wq.alloc (.cells #[.int .i64 o.kind, .int .i64 o.n, .string o.text, .slice ar o.attrs.length cr] 40)).alloc (.cells #[] 81)).heap[wq.heap.size]? = some (.cells #[.int .i64 o.kind, .int .i64 o.n, .string o.text, .slice ar o.attrs.length cr] 40 (0, 0)) from (Below.heap_alloc _ _ _ (by simp)).trans (heap_new _ _))
         have O0 := Lib.hid (show ((wq.alloc (.cells #[.int .i64 o.kind, .int .i64 o.n, .string o.text, .slice ar o.attrs.length cr] 40)).alloc (.cells #[] 81)).ownsRow w.heap.size 81 2 (.slice (some ⟨wq.heap.size + 1, 0, none⟩) 0 0) 0 [] from by
          have := World.ownsRow_lit (e := 81) (size := 2) (wq.alloc (.cells #[.int .i64 o.kind, .int .i64 o.n, .string o.text, .slice ar o.attrs.length cr] 40)) #[] 0 (Nat.le_refl _) (Nat.zero_le _) rfl
          rw [World.size_alloc] at this
          exact own_base this (by omega))
         go_upto_region 18 with (first | (at_builtin; refine wpList_append_row rfl (.tmp 132) (.tmp 134) rfl w.heap.size (.slice (some ⟨wq.heap.size + 1, 0, none⟩) 0 0) (.slice ar o.attrs.length cr) 0 [] o.attrs rfl rfl O0.out (HR0.out.below BX2.out) HPR.out o.attrs.length (flat o.attrs) (Nat.zero_add _) rfl (Nat.le_trans (attrs8 HOP.out) (by decide)) (by have := Jq.out.below.size; simp only [World.size_alloc]; omega) ?_; intro u1 w1 o1 g1'; obtain ⟨ua, uc, rfl⟩ := own_slice o1; have O1 := Lib.hid o1; have B1' := Lib.hid (BX1.out.grown g1' BX1.out.size (fun j hj => by have hj2 : wq.heap.size + 1 = j := (by simpa [Value.ownBlock] using hj); omega)); have XB := Lib.hid ((g1'.block wq.heap.size (by simp; omega) (by simp [Value.ownBlock])).trans XA.out); have J1 := Lib.hid (Jq.out.grow B1'.out); obtain ⟨z0, z1, _, z3⟩ := cells2 J1.out.out; have hzb := lt_of_heap J1.out.out; obtain ⟨e0, e1, e2, e3⟩ := cells4J XB.out; have hzx := lt_of_heap XB.out; have fz3 := frozen4J XB.out; clear o1 g1'))
         obtain ⟨w2, hw2, xw2⟩ : ∃ w2, w2 = w1.setCell ⟨wq.heap.size, 3, none⟩ (.slice ua o.attrs.length uc) ∧ w2.heap[wq.heap.size]? = some (.cells #[.int .i64 o.kind, .int .i64 o.n, .string o.text, .slice ua o.attrs.length uc] 40 (0, 0)) := ⟨_, rfl, nblk_set (j := 3) XB.out⟩
         have J2 := Lib.hid (show JS w w2 f ps (some ⟨gg, 0, none⟩) oc by rw [hw2]; exact Jq.out.grow (B1'.out.setCell (p := ⟨wq.heap.size, 3, none⟩) (Nat.le_refl _) _))
         have O2 := Lib.hid (show w2.ownsRow w.heap.size 81 2 (.slice ua o.attrs.length uc) o.attrs.length (flat o.attrs) by rw [hw2]; exact (keep_set (B := w.heap.size) (ts := [40]) XB.out (by simp) (by omega) ⟨wq.heap.size, 3, none⟩ rfl (.slice ua o.attrs.length uc)).own O1.out (by decide))
         rw [← hw2]
         clear hw2 z0 z1 z3 hzb e0 e1 e2 e3 hzx fz3 b0 b1 f1 hob y0 y1 y2 y3
         obtain ⟨b0, b1, _, f1⟩ := cells2 J2.out.out
         have hob := lt_of_heap J2.out.out
         obtain ⟨e0, e1, e2, e3⟩ := cells4J xw2
         have hzx := lt_of_heap xw2
         clear xw2
         go_wp2_with (first | (at_builtin; refine wpList_app_op rfl (.tmp 138) (.tmp 140) rfl w.heap.size (.slice (some ⟨gg, 0, none⟩) ps.length oc) ps rfl ((J2.out.grow (below_box w2 (.cells #[.int .i64 o.kind, .int .i64 o.n, .string o.text, .slice ua o.attrs.length uc] 40))).own) (o, .slice ua o.attrs.length uc) ⟨w2.heap.size, 0, none⟩ 1 rfl (new_at4 _ _ _ _ _ _) (row_below O2.out (below_box w2 (.cells #[.int .i64 o.kind, .int .i64 o.n, .string o.text, .slice ua o.attrs.length uc] 40))) (by omega) (by have := J2.out.below.size; simp only [World.size_alloc]; omega) ?_; intro v' wC PC KC; obtain ⟨p3, hp3⟩ : ∃ p3, p3 = ps ++ [(o, Value.slice ua o.attrs.length uc)] := ⟨_, rfl⟩; rw [← hp3] at PC; obtain ⟨oa3, oc3, rfl⟩ := own_slice PC.1; have JB := Lib.hid (J2.out.grow (below_box w2 (.cells #[.int .i64 o.kind, .int .i64 o.n, .string o.text, .slice ua o.attrs.length uc] 40))); have xC := KC.keep.kept _ _ _ _ JB.out.out (by decide); obtain ⟨s0, s1, _, s3⟩ := cells2 xC; have hbC := lt_of_heap xC; have HPC := Lib.hid PC; have HKC := Lib.hid KC; have HP2b := Lib.hid hp3; clear PC KC xC hp3))
         go_roundw
         case rel =>
          refine ⟨k + 1, p3, oa3, oc3, by rw [HA.out], by go_num, by omega, ?_, JB.out.keep HKC.out HPC.out⟩
          rw [HA2.out, HP2b.out, List.map_append, HPS.out]; simp
         case measure => simp [intOf]; omega
       ·have kk : (x.kind == o.kind) = false := beq_eq_false_iff_ne.2 hkd
        have HA2 := Lib.hid (show fold (ops.take (k + 1)) = (o :: l, g) by rw [HA.out, put_ne8 HL0.out (fun h => hkd h.1)])
        clear hkd
        go_wp2_with fail
        go_quiet (fail)
        obtain ⟨wq, hwq⟩ : ∃ wq, wq = wr.drewN nq := ⟨_, rfl⟩
        rw [← hwq]
        have Jq := Lib.hid (show JS w wq f ps _ _ by rw [hwq]; exact HJ.out.drew nq)
        clear hwq b0 b1 f1 hob y0 y1 y2 y3 hHS
        clear q0 q1 q2 q3 hw9 i1 i2 i3
        obtain ⟨b0, b1, _, f1⟩ := cells2 Jq.out.out
        have hob := lt_of_heap Jq.out.out
        have hHS := Jq.out.below.size
        obtain ⟨y0, y1, y2, y3⟩ := HY.out wq Jq.out.below
        have BX1 := Lib.hid (((Below.refl wq.heap.size wq).alloc (Nat.le_refl _) (.cells #[.int .i64 o.kind, .int .i64 o.n, .string o.text, .slice ar o.attrs.length cr] 40)).alloc (by simp) (.cells #[] 81))
        have BX2 := Lib.hid (Jq.out.below.trans (BX1.out.mono Jq.out.below.size))
        have XA := Lib.hid (show ((wq.alloc (.cells #[.int .i64 o.kind, .int .i64 o.n, .string o.text, .slice ar o.attrs.length cr] 40)).alloc (.cells #[] 81)).heap[wq.heap.size]? = some (.cells #[.int .i64 o.kind, .int .i64 o.n, .string o.text, .slice ar o.attrs.length cr] 40 (0, 0)) from (Below.heap_alloc _ _ _ (by simp)).trans (heap_new _ _))
        have O0 := Lib.hid (show ((wq.alloc (.cells #[.int .i64 o.kind, .int .i64 o.n, .string o.text, .slice ar o.attrs.length cr] 40)).alloc (.cells #[] 81)).ownsRow w.heap.size 81 2 (.slice (some ⟨wq.heap.size + 1, 0, none⟩) 0 0) 0 [] from by
         have := World.ownsRow_lit (e := 81) (size := 2) (wq.alloc (.cells #[.int .i64 o.kind, .int .i64 o.n, .string o.text, .slice ar o.attrs.length cr] 40)) #[] 0 (Nat.le_refl _) (Nat.zero_le _) rfl
         rw [World.size_alloc] at this
         exact own_base this (by omega))
        go_upto_region 18 with (first | (at_builtin; refine wpList_append_row rfl (.tmp 132) (.tmp 134) rfl w.heap.size (.slice (some ⟨wq.heap.size + 1, 0, none⟩) 0 0) (.slice ar o.attrs.length cr) 0 [] o.attrs rfl rfl O0.out (HR0.out.below BX2.out) HPR.out o.attrs.length (flat o.attrs) (Nat.zero_add _) rfl (Nat.le_trans (attrs8 HOP.out) (by decide)) (by have := Jq.out.below.size; simp only [World.size_alloc]; omega) ?_; intro u1 w1 o1 g1'; obtain ⟨ua, uc, rfl⟩ := own_slice o1; have O1 := Lib.hid o1; have B1' := Lib.hid (BX1.out.grown g1' BX1.out.size (fun j hj => by have hj2 : wq.heap.size + 1 = j := (by simpa [Value.ownBlock] using hj); omega)); have XB := Lib.hid ((g1'.block wq.heap.size (by simp; omega) (by simp [Value.ownBlock])).trans XA.out); have J1 := Lib.hid (Jq.out.grow B1'.out); obtain ⟨z0, z1, _, z3⟩ := cells2 J1.out.out; have hzb := lt_of_heap J1.out.out; obtain ⟨e0, e1, e2, e3⟩ := cells4J XB.out; have hzx := lt_of_heap XB.out; have fz3 := frozen4J XB.out; clear o1 g1'))
        obtain ⟨w2, hw2, xw2⟩ : ∃ w2, w2 = w1.setCell ⟨wq.heap.size, 3, none⟩ (.slice ua o.attrs.length uc) ∧ w2.heap[wq.heap.size]? = some (.cells #[.int .i64 o.kind, .int .i64 o.n, .string o.text, .slice ua o.attrs.length uc] 40 (0, 0)) := ⟨_, rfl, nblk_set (j := 3) XB.out⟩
        have J2 := Lib.hid (show JS w w2 f ps (some ⟨gg, 0, none⟩) oc by rw [hw2]; exact Jq.out.grow (B1'.out.setCell (p := ⟨wq.heap.size, 3, none⟩) (Nat.le_refl _) _))
        have O2 := Lib.hid (show w2.ownsRow w.heap.size 81 2 (.slice ua o.attrs.length uc) o.attrs.length (flat o.attrs) by rw [hw2]; exact (keep_set (B := w.heap.size) (ts := [40]) XB.out (by simp) (by omega) ⟨wq.heap.size, 3, none⟩ rfl (.slice ua o.attrs.length uc)).own O1.out (by decide))
        rw [← hw2]
        clear hw2 z0 z1 z3 hzb e0 e1 e2 e3 hzx fz3 b0 b1 f1 hob y0 y1 y2 y3
        obtain ⟨b0, b1, _, f1⟩ := cells2 J2.out.out
        have hob := lt_of_heap J2.out.out
        obtain ⟨e0, e1, e2, e3⟩ := cells4J xw2
        have hzx := lt_of_heap xw2
        clear xw2
        go_wp2_with (first | (at_builtin; refine wpList_app_op rfl (.tmp 138) (.tmp 140) rfl w.heap.size (.slice (some ⟨gg, 0, none⟩) ps.length oc) ps rfl ((J2.out.grow (below_box w2 (.cells #[.int .i64 o.kind, .int .i64 o.n, .string o.text, .slice ua o.attrs.length uc] 40))).own) (o, .slice ua o.attrs.length uc) ⟨w2.heap.size, 0, none⟩ 1 rfl (new_at4 _ _ _ _ _ _) (row_below O2.out (below_box w2 (.cells #[.int .i64 o.kind, .int .i64 o.n, .string o.text, .slice ua o.attrs.length uc] 40))) (by omega) (by have := J2.out.below.size; simp only [World.size_alloc]; omega) ?_; intro v' wC PC KC; obtain ⟨p3, hp3⟩ : ∃ p3, p3 = ps ++ [(o, Value.slice ua o.attrs.length uc)] := ⟨_, rfl⟩; rw [← hp3] at PC; obtain ⟨oa3, oc3, rfl⟩ := own_slice PC.1; have JB := Lib.hid (J2.out.grow (below_box w2 (.cells #[.int .i64 o.kind, .int .i64 o.n, .string o.text, .slice ua o.attrs.length uc] 40))); have xC := KC.keep.kept _ _ _ _ JB.out.out (by decide); obtain ⟨s0, s1, _, s3⟩ := cells2 xC; have hbC := lt_of_heap xC; have HPC := Lib.hid PC; have HKC := Lib.hid KC; have HP2b := Lib.hid hp3; clear PC KC xC hp3))
        go_roundw
        case rel =>
         refine ⟨k + 1, p3, oa3, oc3, by rw [HA.out], by go_num, by omega, ?_, JB.out.keep HKC.out HPC.out⟩
         rw [HA2.out, HP2b.out, List.map_append, HPS.out]; simp
        case measure => simp [intOf]; omega
     ·skip
      rcases nil_or_snoc ps with hnil | ⟨c0, ⟨x, xv⟩, hp0⟩
      ·have hpl0 : ps.length = 0 := by rw [hnil]; rfl
       have HA2 := Lib.hid (show fold (ops.take (k + 1)) = (o :: l, g) by rw [HA.out, put_nil8 (map_nil8 hnil HPS.out)])
       clear hnil
       rw [hpl0] at b1
       have hw9 : IntKind.i64.wrap (((0 : Nat) : Int) - 1) = -1 := rfl
       go_wp2_with fail
       go_quiet (fail)
       obtain ⟨wq, hwq⟩ : ∃ wq, wq = wr.drewN nq := ⟨_, rfl⟩
       rw [← hwq]
       have Jq := Lib.hid (show JS w wq f ps _ _ by rw [hwq]; exact HJ.out.drew nq)
       clear hwq b0 b1 f1 hob y0 y1 y2 y3 hHS
       have HPL2 := Lib.hid hpl0
       clear hpl0 hw9
       obtain ⟨b0, b1, _, f1⟩ := cells2 Jq.out.out
       have hob := lt_of_heap Jq.out.out
       have hHS := Jq.out.below.size
       obtain ⟨y0, y1, y2, y3⟩ := HY.out wq Jq.out.below
       have BX1 := Lib.hid (((Below.refl wq.heap.size wq).alloc (Nat.le_refl _) (.cells #[.int .i64 o.kind, .int .i64 o.n, .string o.text, .slice ar o.attrs.length cr] 40)).alloc (by simp) (.cells #[] 81))
       have BX2 := Lib.hid (Jq.out.below.trans (BX1.out.mono Jq.out.below.size))
       have XA := Lib.hid (show ((wq.alloc (.cells #[.int .i64 o.kind, .int .i64 o.n, .string o.text, .slice ar o.attrs.length cr] 40)).alloc (.cells #[] 81)).heap[wq.heap.size]? = some (.cells #[.int .i64 o.kind, .int .i64 o.n, .string o.text, .slice ar o.attrs.length cr] 40 (0, 0)) from (Below.heap_alloc _ _ _ (by simp)).trans (heap_new _ _))
       have O0 := Lib.hid (show ((wq.alloc (.cells #[.int .i64 o.kind, .int .i64 o.n, .string o.text, .slice ar o.attrs.length cr] 40)).alloc (.cells #[] 81)).ownsRow w.heap.size 81 2 (.slice (some ⟨wq.heap.size + 1, 0, none⟩) 0 0) 0 [] from by
        have := World.ownsRow_lit (e := 81) (size := 2) (wq.alloc (.cells #[.int .i64 o.kind, .int .i64 o.n, .string o.text, .slice ar o.attrs.length cr] 40)) #[] 0 (Nat.le_refl _) (Nat.zero_le _) rfl
        rw [World.size_alloc] at this
        exact own_base this (by omega))
       go_upto_region 18 with (first | (at_builtin; refine wpList_append_row rfl (.tmp 132) (.tmp 134) rfl w.heap.size (.slice (some ⟨wq.heap.size + 1, 0, none⟩) 0 0) (.slice ar o.attrs.length cr) 0 [] o.attrs rfl rfl O0.out (HR0.out.below BX2.out) HPR.out o.attrs.length (flat o.attrs) (Nat.zero_add _) rfl (Nat.le_trans (attrs8 HOP.out) (by decide)) (by have := Jq.out.below.size; simp only [World.size_alloc]; omega) ?_; intro u1 w1 o1 g1'; obtain ⟨ua, uc, rfl⟩ := own_slice o1; have O1 := Lib.hid o1; have B1' := Lib.hid (BX1.out.grown g1' BX1.out.size (fun j hj => by have hj2 : wq.heap.size + 1 = j := (by simpa [Value.ownBlock] using hj); omega)); have XB := Lib.hid ((g1'.block wq.heap.size (by simp; omega) (by simp [Value.ownBlock])).trans XA.out); have J1 := Lib.hid (Jq.out.grow B1'.out); obtain ⟨z0, z1, _, z3⟩ := cells2 J1.out.out; have hzb := lt_of_heap J1.out.out; obtain ⟨e0, e1, e2, e3⟩ := cells4J XB.out; have hzx := lt_of_heap XB.out; have fz3 := frozen4J XB.out; clear o1 g1'))
       obtain ⟨w2, hw2, xw2⟩ : ∃ w2, w2 = w1.setCell ⟨wq.heap.size, 3, none⟩ (.slice ua o.attrs.length uc) ∧ w2.heap[wq.heap.size]? = some (.cells #[.int .i64 o.kind, .int .i64 o.n, .string o.text, .slice ua o.attrs.length uc] 40 (0, 0)) := ⟨_, rfl, nblk_set (j := 3) XB.out⟩
       have J2 := Lib.hid (show JS w w2 f ps oa oc by rw [hw2]; exact Jq.out.grow (B1'.out.setCell (p := ⟨wq.heap.size, 3, none⟩) (Nat.le_refl _) _))
       have O2 := Lib.hid (show w2.ownsRow w.heap.size 81 2 (.slice ua o.attrs.length uc) o.attrs.length (flat o.attrs) by rw [hw2]; exact (keep_set (B := w.heap.size) (ts := [40]) XB.out (by simp) (by omega) ⟨wq.heap.size, 3, none⟩ rfl (.slice ua o.attrs.length uc)).own O1.out (by decide))
       rw [← hw2]
       clear hw2 z0 z1 z3 hzb e0 e1 e2 e3 hzx fz3 b0 b1 f1 hob y0 y1 y2 y3
       obtain ⟨b0, b1, _, f1⟩ := cells2 J2.out.out
       have hob := lt_of_heap J2.out.out
       obtain ⟨e0, e1, e2, e3⟩ := cells4J xw2
       have hzx := lt_of_heap xw2
       clear xw2
       go_wp2_with (first | (at_builtin; refine wpList_app_op rfl (.tmp 138) (.tmp 140) rfl w.heap.size (.slice oa ps.length oc) ps rfl ((J2.out.grow (below_box w2 (.cells #[.int .i64 o.kind, .int .i64 o.n, .string o.text, .slice ua o.attrs.length uc] 40))).own) (o, .slice ua o.attrs.length uc) ⟨w2.heap.size, 0, none⟩ 1 rfl (new_at4 _ _ _ _ _ _) (row_below O2.out (below_box w2 (.cells #[.int .i64 o.kind, .int .i64 o.n, .string o.text, .slice ua o.attrs.length uc] 40))) (by omega) (by have := J2.out.below.size; simp only [World.size_alloc]; omega) ?_; intro v' wC PC KC; obtain ⟨p3, hp3⟩ : ∃ p3, p3 = ps ++ [(o, Value.slice ua o.attrs.length uc)] := ⟨_, rfl⟩; rw [← hp3] at PC; obtain ⟨oa3, oc3, rfl⟩ := own_slice PC.1; have JB := Lib.hid (J2.out.grow (below_box w2 (.cells #[.int .i64 o.kind, .int .i64 o.n, .string o.text, .slice ua o.attrs.length uc] 40))); have xC := KC.keep.kept _ _ _ _ JB.out.out (by decide); obtain ⟨s0, s1, _, s3⟩ := cells2 xC; have hbC := lt_of_heap xC; have HPC := Lib.hid PC; have HKC := Lib.hid KC; have HP2b := Lib.hid hp3; clear PC KC xC hp3))
       go_roundw
       case rel =>
        refine ⟨k + 1, p3, oa3, oc3, by rw [HA.out], by go_num, by omega, ?_, JB.out.keep HKC.out HPC.out⟩
        rw [HA2.out, HP2b.out, List.map_append, HPS.out]; simp
       case measure => simp [intOf]; omega
      ·have HP0 := Lib.hid hp0
       have hpl0 : ps.length = c0.length + 1 := by rw [hp0]; simp
       have HL0 := Lib.hid (map_snoc8 (by rw [← hp0]; exact HPS.out))
       have hP5 := HJ.out.own
       rw [hpl0, hp0] at hP5
       obtain ⟨gg, cap, hgv⟩ := ownsRow_open hP5.len (Nat.succ_pos _)
       injection hgv with e1 _ e3
       subst e1
       subst e3
       have HP5 := Lib.hid hP5
       obtain ⟨xa, xc, hxv⟩ : ∃ a c, xv = .slice a x.attrs.length c := own_slice (hP5.2 (x, xv) (by simp))
       subst hxv
       obtain ⟨q0, q1, q2, q3⟩ := last_cells hP5.len
       rw [hpl0] at b1
       have hw9 : IntKind.i64.wrap ((c0.length : Int) + 1 - 1) = (c0.length : Int) := by rw [show (c0.length : Int) + 1 - 1 = (c0.length : Int) by omega]; exact IntWalk.i64_in _ (by omega)
       have i1 : (0 : Int) ≤ (c0.length : Int) := by omega
       have i2 : (c0.length : Int) < (c0.length : Int) + 1 := by omega
       have i3 : decide ((0 : Int) ≤ (c0.length : Int)) = true := decide_eq_true i1
       have hplb : c0.length ≤ 400001 := by omega
       clear hP5 hp0
       have HPL0 := Lib.hid hpl0
       clear hpl0
       by_cases hkd : x.kind = o.kind
       ·have kk : (x.kind == o.kind) = true := beq_iff_eq.2 hkd
        have HQ := Lib.hid (fun n : Nat => refSame_any (.slice xa x.attrs.length xc) (.slice ar o.attrs.length cr) x.attrs o.attrs (wr.drewN n) (row_of_own (row_below (HP5.out.2 (x, .slice xa x.attrs.length xc) (by simp)) (below_drewN (Below.refl _ _) n))) (HR0.out.below (below_drewN HJ.out.below n)))
        have HKD := Lib.hid hkd
        clear hkd
        by_cases hal : x.attrs = o.attrs
        ·have HA2 := Lib.hid (show fold (ops.take (k + 1)) = ({ x with n := x.n + o.n, text := cat x.text o.text } :: (c0.map (·.1)).reverse, g) by rw [HA.out, put_eq8 HL0.out HKD.out hal])
         rw [show sameB x.attrs o.attrs = true from decide_eq_true hal] at HQ
         clear hal
         have hx1 : 0 ≤ x.n ∧ x.n ≤ 4000000000 ∧ x.text.size ≤ 16000000000 := by
          have h1 := HSM.out
          have h2 := h1.ft
          have h3 := h1.fx
          have h4 := h1.all x (by rw [HL0.out]; exact List.mem_cons_self ..)
          have h5 := tot_nonneg8 (r := (c0.map (·.1)).reverse) fun y hy => h1.all y (by rw [HL0.out]; exact List.mem_cons_of_mem _ hy)
          rw [HL0.out] at h2 h3
          simp only [tot, ttx] at h2 h3
          refine ⟨h4, by omega, by omega⟩
         obtain ⟨hx1, hx2, hx3⟩ := hx1
         have htx := HVO1.out.text
         have hwr : IntKind.i64.wrap (x.n + o.n) = x.n + o.n := IntWalk.i64_in _ (by omega)
         go_wp2_with fail
         go_quiet ((go_at_call 35; exact Calls.quiet_of (HQ.out _)))
         obtain ⟨wq, hwq⟩ : ∃ wq, wq = wr.drewN nq := ⟨_, rfl⟩
         rw [← hwq]
         have Jq := Lib.hid (show JS w wq f ps _ _ by rw [hwq]; exact HJ.out.drew nq)
         clear hwq b0 b1 f1 hob y0 y1 y2 y3 hHS
         clear q0 q1 q2 q3
         obtain ⟨b0, b1, _, f1⟩ := cells2 Jq.out.out
         have hob := lt_of_heap Jq.out.out
         have hHS := Jq.out.below.size
         obtain ⟨y0, y1, y2, y3⟩ := HY.out wq Jq.out.below
         have JM := Lib.hid (show JS w wq f (c0 ++ [(x, .slice xa x.attrs.length xc)]) (some ⟨gg, 0, none⟩) oc by have h := Jq.out; rw [HP0.out] at h; exact h)
         rw [HPL0.out] at b1
         obtain ⟨q0, q1, q2, q3⟩ := last_cells JM.out.snoc.len
         have fq1 : wq.frozen? ⟨gg, c0.length * 4 + 1, none⟩ = false := JM.out.snoc.len.frozenAt _
         go_wp2_with fail
         go_region
         obtain ⟨w5, hw5⟩ : ∃ w5, w5 = wq.setCell ⟨gg, c0.length * 4 + 1, none⟩ (.int .i64 (x.n + o.n)) := ⟨_, rfl⟩
         rw [← hw5]
         have JN := Lib.hid (show JS w w5 f (c0 ++ [({ x with n := x.n + o.n }, .slice xa x.attrs.length xc)]) (some ⟨gg, 0, none⟩) oc by rw [hw5]; exact JM.out.setLast 1 _ rfl rfl)
         clear hw5 b0 b1 f1 hob y0 y1 y2 y3 hHS q0 q1 q2 q3 fq1
         obtain ⟨b0, b1, _, f1⟩ := cells2 JN.out.out
         have hob := lt_of_heap JN.out.out
         have hHS := JN.out.below.size
         obtain ⟨y0, y1, y2, y3⟩ := HY.out w5 JN.out.below
         rw [show (c0 ++ [(({ x with n := x.n + o.n } : OpD), Value.slice xa x.attrs.length xc)]).length = c0.length + 1 by simp] at b1
         obtain ⟨q0, q1, q2, q3⟩ := last_cells JN.out.snoc.len
         have fq2 : w5.frozen? ⟨gg, c0.length * 4 + 2, none⟩ = false := JN.out.snoc.len.frozenAt _
         go_wp2_with fail
         go_region
         obtain ⟨w6, hw6⟩ : ∃ w6, w6 = w5.setCell ⟨gg, c0.length * 4 + 2, none⟩ (.string (x.text ++ o.text)) := ⟨_, rfl⟩
         rw [← hw6]
         have J6 := Lib.hid (show JS w w6 f (c0 ++ [({ x with n := x.n + o.n, text := cat x.text o.text }, .slice xa x.attrs.length xc)]) (some ⟨gg, 0, none⟩) oc by rw [hw6]; exact JN.out.setLast 2 _ (by rw [cat_eq]; rfl) rfl)
         clear hw6
         go_wp2_with fail
         go_roundw
         case rel => exact ⟨k + 1, c0 ++ [(({ x with n := x.n + o.n, text := cat x.text o.text } : OpD), Value.slice xa x.attrs.length xc)], some ⟨gg, 0, none⟩, oc, by rw [HA2.out], by go_num, by omega, by rw [HA2.out]; simp, (J6.out.drew 1).drew 1⟩
         case measure => simp [intOf]; omega
        ·have HA2 := Lib.hid (show fold (ops.take (k + 1)) = (o :: l, g) by rw [HA.out, put_ne8 HL0.out (fun h => hal h.2)])
         rw [show sameB x.attrs o.attrs = false from decide_eq_false hal] at HQ
         clear hal
         go_wp2_with fail
         go_quiet ((go_at_call 35; exact Calls.quiet_of (HQ.out _)))
         obtain ⟨wq, hwq⟩ : ∃ wq, wq = wr.drewN nq := ⟨_, rfl⟩
         rw [← hwq]
         have Jq := Lib.hid (show JS w wq f ps _ _ by rw [hwq]; exact HJ.out.drew nq)
         clear hwq b0 b1 f1 hob y0 y1 y2 y3 hHS
         clear q0 q1 q2 q3 hw9 i1 i2 i3
         obtain ⟨b0, b1, _, f1⟩ := cells2 Jq.out.out
         have hob := lt_of_heap Jq.out.out
         have hHS := Jq.out.below.size
         obtain ⟨y0, y1, y2, y3⟩ := HY.out wq Jq.out.below
         have BX1 := Lib.hid (((Below.refl wq.heap.size wq).alloc (Nat.le_refl _) (.cells #[.int .i64 o.kind, .int .i64 o.n, .string o.text, .slice ar o.attrs.length cr] 40)).alloc (by simp) (.cells #[] 81))
         have BX2 := Lib.hid (Jq.out.below.trans (BX1.out.mono Jq.out.below.size))
         have XA := Lib.hid (show ((wq.alloc (.cells #[.int .i64 o.kind, .int .i64 o.n, .string o.text, .slice ar o.attrs.length cr] 40)).alloc (.cells #[] 81)).heap[wq.heap.size]? = some (.cells #[.int .i64 o.kind, .int .i64 o.n, .string o.text, .slice ar o.attrs.length cr] 40 (0, 0)) from (Below.heap_alloc _ _ _ (by simp)).trans (heap_new _ _))
         have O0 := Lib.hid (show ((wq.alloc (.cells #[.int .i64 o.kind, .int .i64 o.n, .string o.text, .slice ar o.attrs.length cr] 40)).alloc (.cells #[] 81)).ownsRow w.heap.size 81 2 (.slice (some ⟨wq.heap.size + 1, 0, none⟩) 0 0) 0 [] from by
          have := World.ownsRow_lit (e := 81) (size := 2) (wq.alloc (.cells #[.int .i64 o.kind, .int .i64 o.n, .string o.text, .slice ar o.attrs.length cr] 40)) #[] 0 (Nat.le_refl _) (Nat.zero_le _) rfl
          rw [World.size_alloc] at this
          exact own_base this (by omega))
         go_upto_region 18 with (first | (at_builtin; refine wpList_append_row rfl (.tmp 132) (.tmp 134) rfl w.heap.size (.slice (some ⟨wq.heap.size + 1, 0, none⟩) 0 0) (.slice ar o.attrs.length cr) 0 [] o.attrs rfl rfl O0.out (HR0.out.below BX2.out) HPR.out o.attrs.length (flat o.attrs) (Nat.zero_add _) rfl (Nat.le_trans (attrs8 HOP.out) (by decide)) (by have := Jq.out.below.size; simp only [World.size_alloc]; omega) ?_; intro u1 w1 o1 g1'; obtain ⟨ua, uc, rfl⟩ := own_slice o1; have O1 := Lib.hid o1; have B1' := Lib.hid (BX1.out.grown g1' BX1.out.size (fun j hj => by have hj2 : wq.heap.size + 1 = j := (by simpa [Value.ownBlock] using hj); omega)); have XB := Lib.hid ((g1'.block wq.heap.size (by simp; omega) (by simp [Value.ownBlock])).trans XA.out); have J1 := Lib.hid (Jq.out.grow B1'.out); obtain ⟨z0, z1, _, z3⟩ := cells2 J1.out.out; have hzb := lt_of_heap J1.out.out; obtain ⟨e0, e1, e2, e3⟩ := cells4J XB.out; have hzx := lt_of_heap XB.out; have fz3 := frozen4J XB.out; clear o1 g1'))
         obtain ⟨w2, hw2, xw2⟩ : ∃ w2, w2 = w1.setCell ⟨wq.heap.size, 3, none⟩ (.slice ua o.attrs.length uc) ∧ w2.heap[wq.heap.size]? = some (.cells #[.int .i64 o.kind, .int .i64 o.n, .string o.text, .slice ua o.attrs.length uc] 40 (0, 0)) := ⟨_, rfl, nblk_set (j := 3) XB.out⟩
         have J2 := Lib.hid (show JS w w2 f ps (some ⟨gg, 0, none⟩) oc by rw [hw2]; exact Jq.out.grow (B1'.out.setCell (p := ⟨wq.heap.size, 3, none⟩) (Nat.le_refl _) _))
         have O2 := Lib.hid (show w2.ownsRow w.heap.size 81 2 (.slice ua o.attrs.length uc) o.attrs.length (flat o.attrs) by rw [hw2]; exact (keep_set (B := w.heap.size) (ts := [40]) XB.out (by simp) (by omega) ⟨wq.heap.size, 3, none⟩ rfl (.slice ua o.attrs.length uc)).own O1.out (by decide))
         rw [← hw2]
         clear hw2 z0 z1 z3 hzb e0 e1 e2 e3 hzx fz3 b0 b1 f1 hob y0 y1 y2 y3
         obtain ⟨b0, b1, _, f1⟩ := cells2 J2.out.out
         have hob := lt_of_heap J2.out.out
         obtain ⟨e0, e1, e2, e3⟩ := cells4J xw2
         have hzx := lt_of_heap xw2
         clear xw2
         go_wp2_with (first | (at_builtin; refine wpList_app_op rfl (.tmp 138) (.tmp 140) rfl w.heap.size (.slice (some ⟨gg, 0, none⟩) ps.length oc) ps rfl ((J2.out.grow (below_box w2 (.cells #[.int .i64 o.kind, .int .i64 o.n, .string o.text, .slice ua o.attrs.length uc] 40))).own) (o, .slice ua o.attrs.length uc) ⟨w2.heap.size, 0, none⟩ 1 rfl (new_at4 _ _ _ _ _ _) (row_below O2.out (below_box w2 (.cells #[.int .i64 o.kind, .int .i64 o.n, .string o.text, .slice ua o.attrs.length uc] 40))) (by omega) (by have := J2.out.below.size; simp only [World.size_alloc]; omega) ?_; intro v' wC PC KC; obtain ⟨p3, hp3⟩ : ∃ p3, p3 = ps ++ [(o, Value.slice ua o.attrs.length uc)] := ⟨_, rfl⟩; rw [← hp3] at PC; obtain ⟨oa3, oc3, rfl⟩ := own_slice PC.1; have JB := Lib.hid (J2.out.grow (below_box w2 (.cells #[.int .i64 o.kind, .int .i64 o.n, .string o.text, .slice ua o.attrs.length uc] 40))); have xC := KC.keep.kept _ _ _ _ JB.out.out (by decide); obtain ⟨s0, s1, _, s3⟩ := cells2 xC; have hbC := lt_of_heap xC; have HPC := Lib.hid PC; have HKC := Lib.hid KC; have HP2b := Lib.hid hp3; clear PC KC xC hp3))
         go_roundw
         case rel =>
          refine ⟨k + 1, p3, oa3, oc3, by rw [HA.out], by go_num, by omega, ?_, JB.out.keep HKC.out HPC.out⟩
          rw [HA2.out, HP2b.out, List.map_append, HPS.out]; simp
         case measure => simp [intOf]; omega
       ·have kk : (x.kind == o.kind) = false := beq_eq_false_iff_ne.2 hkd
        have HA2 := Lib.hid (show fold (ops.take (k + 1)) = (o :: l, g) by rw [HA.out, put_ne8 HL0.out (fun h => hkd h.1)])
        clear hkd
        go_wp2_with fail
        go_quiet (fail)
        obtain ⟨wq, hwq⟩ : ∃ wq, wq = wr.drewN nq := ⟨_, rfl⟩
        rw [← hwq]
        have Jq := Lib.hid (show JS w wq f ps _ _ by rw [hwq]; exact HJ.out.drew nq)
        clear hwq b0 b1 f1 hob y0 y1 y2 y3 hHS
        clear q0 q1 q2 q3 hw9 i1 i2 i3
        obtain ⟨b0, b1, _, f1⟩ := cells2 Jq.out.out
        have hob := lt_of_heap Jq.out.out
        have hHS := Jq.out.below.size
        obtain ⟨y0, y1, y2, y3⟩ := HY.out wq Jq.out.below
        have BX1 := Lib.hid (((Below.refl wq.heap.size wq).alloc (Nat.le_refl _) (.cells #[.int .i64 o.kind, .int .i64 o.n, .string o.text, .slice ar o.attrs.length cr] 40)).alloc (by simp) (.cells #[] 81))
        have BX2 := Lib.hid (Jq.out.below.trans (BX1.out.mono Jq.out.below.size))
        have XA := Lib.hid (show ((wq.alloc (.cells #[.int .i64 o.kind, .int .i64 o.n, .string o.text, .slice ar o.attrs.length cr] 40)).alloc (.cells #[] 81)).heap[wq.heap.size]? = some (.cells #[.int .i64 o.kind, .int .i64 o.n, .string o.text, .slice ar o.attrs.length cr] 40 (0, 0)) from (Below.heap_alloc _ _ _ (by simp)).trans (heap_new _ _))
        have O0 := Lib.hid (show ((wq.alloc (.cells #[.int .i64 o.kind, .int .i64 o.n, .string o.text, .slice ar o.attrs.length cr] 40)).alloc (.cells #[] 81)).ownsRow w.heap.size 81 2 (.slice (some ⟨wq.heap.size + 1, 0, none⟩) 0 0) 0 [] from by
         have := World.ownsRow_lit (e := 81) (size := 2) (wq.alloc (.cells #[.int .i64 o.kind, .int .i64 o.n, .string o.text, .slice ar o.attrs.length cr] 40)) #[] 0 (Nat.le_refl _) (Nat.zero_le _) rfl
         rw [World.size_alloc] at this
         exact own_base this (by omega))
        go_upto_region 18 with (first | (at_builtin; refine wpList_append_row rfl (.tmp 132) (.tmp 134) rfl w.heap.size (.slice (some ⟨wq.heap.size + 1, 0, none⟩) 0 0) (.slice ar o.attrs.length cr) 0 [] o.attrs rfl rfl O0.out (HR0.out.below BX2.out) HPR.out o.attrs.length (flat o.attrs) (Nat.zero_add _) rfl (Nat.le_trans (attrs8 HOP.out) (by decide)) (by have := Jq.out.below.size; simp only [World.size_alloc]; omega) ?_; intro u1 w1 o1 g1'; obtain ⟨ua, uc, rfl⟩ := own_slice o1; have O1 := Lib.hid o1; have B1' := Lib.hid (BX1.out.grown g1' BX1.out.size (fun j hj => by have hj2 : wq.heap.size + 1 = j := (by simpa [Value.ownBlock] using hj); omega)); have XB := Lib.hid ((g1'.block wq.heap.size (by simp; omega) (by simp [Value.ownBlock])).trans XA.out); have J1 := Lib.hid (Jq.out.grow B1'.out); obtain ⟨z0, z1, _, z3⟩ := cells2 J1.out.out; have hzb := lt_of_heap J1.out.out; obtain ⟨e0, e1, e2, e3⟩ := cells4J XB.out; have hzx := lt_of_heap XB.out; have fz3 := frozen4J XB.out; clear o1 g1'))
        obtain ⟨w2, hw2, xw2⟩ : ∃ w2, w2 = w1.setCell ⟨wq.heap.size, 3, none⟩ (.slice ua o.attrs.length uc) ∧ w2.heap[wq.heap.size]? = some (.cells #[.int .i64 o.kind, .int .i64 o.n, .string o.text, .slice ua o.attrs.length uc] 40 (0, 0)) := ⟨_, rfl, nblk_set (j := 3) XB.out⟩
        have J2 := Lib.hid (show JS w w2 f ps (some ⟨gg, 0, none⟩) oc by rw [hw2]; exact Jq.out.grow (B1'.out.setCell (p := ⟨wq.heap.size, 3, none⟩) (Nat.le_refl _) _))
        have O2 := Lib.hid (show w2.ownsRow w.heap.size 81 2 (.slice ua o.attrs.length uc) o.attrs.length (flat o.attrs) by rw [hw2]; exact (keep_set (B := w.heap.size) (ts := [40]) XB.out (by simp) (by omega) ⟨wq.heap.size, 3, none⟩ rfl (.slice ua o.attrs.length uc)).own O1.out (by decide))
        rw [← hw2]
        clear hw2 z0 z1 z3 hzb e0 e1 e2 e3 hzx fz3 b0 b1 f1 hob y0 y1 y2 y3
        obtain ⟨b0, b1, _, f1⟩ := cells2 J2.out.out
        have hob := lt_of_heap J2.out.out
        obtain ⟨e0, e1, e2, e3⟩ := cells4J xw2
        have hzx := lt_of_heap xw2
        clear xw2
        go_wp2_with (first | (at_builtin; refine wpList_app_op rfl (.tmp 138) (.tmp 140) rfl w.heap.size (.slice (some ⟨gg, 0, none⟩) ps.length oc) ps rfl ((J2.out.grow (below_box w2 (.cells #[.int .i64 o.kind, .int .i64 o.n, .string o.text, .slice ua o.attrs.length uc] 40))).own) (o, .slice ua o.attrs.length uc) ⟨w2.heap.size, 0, none⟩ 1 rfl (new_at4 _ _ _ _ _ _) (row_below O2.out (below_box w2 (.cells #[.int .i64 o.kind, .int .i64 o.n, .string o.text, .slice ua o.attrs.length uc] 40))) (by omega) (by have := J2.out.below.size; simp only [World.size_alloc]; omega) ?_; intro v' wC PC KC; obtain ⟨p3, hp3⟩ : ∃ p3, p3 = ps ++ [(o, Value.slice ua o.attrs.length uc)] := ⟨_, rfl⟩; rw [← hp3] at PC; obtain ⟨oa3, oc3, rfl⟩ := own_slice PC.1; have JB := Lib.hid (J2.out.grow (below_box w2 (.cells #[.int .i64 o.kind, .int .i64 o.n, .string o.text, .slice ua o.attrs.length uc] 40))); have xC := KC.keep.kept _ _ _ _ JB.out.out (by decide); obtain ⟨s0, s1, _, s3⟩ := cells2 xC; have hbC := lt_of_heap xC; have HPC := Lib.hid PC; have HKC := Lib.hid KC; have HP2b := Lib.hid hp3; clear PC KC xC hp3))
        go_roundw
        case rel =>
         refine ⟨k + 1, p3, oa3, oc3, by rw [HA.out], by go_num, by omega, ?_, JB.out.keep HKC.out HPC.out⟩
         rw [HA2.out, HP2b.out, List.map_append, HPS.out]; simp
        case measure => simp [intOf]; omega
  ·have hke : k = ops.length := by omega
   subst hke
   have HHS := Lib.hid hHS
   by_cases hg : 0 < (fold (ops.take ops.length)).2
   ·have HNO0 := Lib.hid (show norm ops = (trim (delO (fold (ops.take ops.length)).2 :: (fold (ops.take ops.length)).1)).reverse by unfold norm; rw [← flush_push HST.out hg, List.take_length])
    obtain ⟨s, hs⟩ : ∃ s, s = fold (ops.take ops.length) := ⟨_, rfl⟩
    rw [← hs] at HNO0 HPS hg HSM ⊢
    obtain ⟨l, g⟩ := s
    simp only at HPS HNO0 hg ⊢
    have g1 : g ≤ 4000000000 := by
     have h1 := HSM.out.ft
     have h2 := tot_nonneg8 HSM.out.all
     simp only at h1 h2
     omega
    clear hs
    go_upto_region 8 with (first | (at_builtin; refine wpList_app_op rfl (.tmp 37) (.tmp 40) rfl w.heap.size (.slice oa ps.length oc) ps rfl ((HJ.out.grow (below_box wr (.cells #[.int .i64 3, .int .i64 g, .string ⟨#[]⟩, .slice none 0 0] 40))).own) (delO g, .slice none 0 0) ⟨wr.heap.size, 0, none⟩ 1 rfl (new_at4 _ _ _ _ _ _) (World.ownsRow_nil _ _ _ _) (by omega) (by have := HJ.out.below.size; simp only [World.size_alloc]; omega) ?_; intro v' wC PC KC; obtain ⟨p2, hp2⟩ : ∃ p2, p2 = ps ++ [(delO g, Value.slice none 0 0)] := ⟨_, rfl⟩; rw [← hp2] at PC; obtain ⟨oa', oc', rfl⟩ := own_slice PC.1; have JA := Lib.hid (HJ.out.grow (below_box wr (.cells #[.int .i64 3, .int .i64 g, .string ⟨#[]⟩, .slice none 0 0] 40))); have xC := KC.keep.kept _ _ _ _ JA.out.out (by decide); obtain ⟨s0, s1, _, s3⟩ := cells2 xC; have hbC := lt_of_heap xC; have HPC := Lib.hid PC; have HKC := Lib.hid KC; have HP2 := Lib.hid hp2; clear PC KC xC hp2))
    obtain ⟨w5, hw5⟩ : ∃ w5, w5 = wC.setCell ⟨w.heap.size + 1, 1, none⟩ (.slice oa' p2.length oc') := ⟨_, rfl⟩
    rw [← hw5]
    have J5 := Lib.hid (show JS w w5 f p2 oa' oc' by rw [hw5]; exact JA.out.keep HKC.out HPC.out)
    have HNO := Lib.hid (show norm ops = fsts (trimF p2) by rw [HNO0.out]; exact trim_rev8 (by rw [HP2.out, List.map_append, HPS.out, List.reverse_cons]; rfl))
    clear hw5 s0 s1 s3 hbC b0 b1 f1 hob hHS
    obtain ⟨b0, b1, _, f1⟩ := cells2 J5.out.out
    have hob := lt_of_heap J5.out.out
    have hHS := J5.out.below.size
    have HFIN := Lib.hid (fun (Y : World) (u : Value) (out : List PA) (hb : Below w.heap.size w Y) (hp : OwnP Y w.heap.size u out) (hr : Y.heap[w.heap.size]? = some (.cells #[.int .i64 0, .slice none 0 0] 24 (0, 0))) (e : norm ops = fsts out) (hn : out.length ≤ 2000) =>
     show JoOut w f ops (.returned (.tuple #[chAgg f u, .int .i64 0])) ((Y.setCell ⟨w.heap.size, 0, none⟩ (.int .i64 f)).setCell ⟨w.heap.size, 1, none⟩ u) ∧ ((Y.setCell ⟨w.heap.size, 0, none⟩ (.int .i64 f)).setCell ⟨w.heap.size, 1, none⟩ u).cell? ⟨w.heap.size, 0, none⟩ = some (.int .i64 f) ∧ ((Y.setCell ⟨w.heap.size, 0, none⟩ (.int .i64 f)).setCell ⟨w.heap.size, 1, none⟩ u).cell? ⟨w.heap.size, 1, none⟩ = some u from by
      have S1 : Keep w.heap.size [24] Y (Y.setCell ⟨w.heap.size, 0, none⟩ (.int .i64 f)) := keep_set hr (by simp) (Nat.le_refl _) _ rfl _
      have rB := nblk_set (j := 0) (u := .int .i64 f) hr
      have S2 : Keep w.heap.size [24] (Y.setCell ⟨w.heap.size, 0, none⟩ (.int .i64 f)) ((Y.setCell ⟨w.heap.size, 0, none⟩ (.int .i64 f)).setCell ⟨w.heap.size, 1, none⟩ u) := keep_set rB (by simp) (Nat.le_refl _) _ rfl _
      have rC := nblk_set (j := 1) (u := u) rB
      exact ⟨⟨hb.trans (S1.trans S2).below, .inr ⟨by rw [e, fsts_len]; exact hn, u, rfl, ⟨out, by rw [e]; rfl, hp.keep (S1.trans S2) (by decide) (by decide)⟩⟩⟩, (Lib.cell_of_heap rC 0).trans rfl, (Lib.cell_of_heap rC 1).trans rfl⟩)
    have HBIG := Lib.hid (fun (Y : World) (out : List PA) (hb : Below w.heap.size w Y) (hr : Y.heap[w.heap.size]? = some (.cells #[.int .i64 0, .slice none 0 0] 24 (0, 0))) (e : norm ops = fsts out) (hn : 2000 < out.length) =>
     show JoOut w f ops (.returned (.tuple #[chAgg 0 (.slice none 0 0), .int .i64 2])) ((Y.setCell ⟨w.heap.size, 0, none⟩ (.int .i64 0)).setCell ⟨w.heap.size, 1, none⟩ (.slice none 0 0)) ∧ ((Y.setCell ⟨w.heap.size, 0, none⟩ (.int .i64 0)).setCell ⟨w.heap.size, 1, none⟩ (.slice none 0 0)).cell? ⟨w.heap.size, 0, none⟩ = some (.int .i64 0) ∧ ((Y.setCell ⟨w.heap.size, 0, none⟩ (.int .i64 0)).setCell ⟨w.heap.size, 1, none⟩ (.slice none 0 0)).cell? ⟨w.heap.size, 1, none⟩ = some (.slice none 0 0) from by
      have S1 : Keep w.heap.size [24] Y (Y.setCell ⟨w.heap.size, 0, none⟩ (.int .i64 0)) := keep_set hr (by simp) (Nat.le_refl _) _ rfl _
      have rB := nblk_set (j := 0) (u := .int .i64 0) hr
      have S2 : Keep w.heap.size [24] (Y.setCell ⟨w.heap.size, 0, none⟩ (.int .i64 0)) ((Y.setCell ⟨w.heap.size, 0, none⟩ (.int .i64 0)).setCell ⟨w.heap.size, 1, none⟩ (.slice none 0 0)) := keep_set rB (by simp) (Nat.le_refl _) _ rfl _
      have rC := nblk_set (j := 1) (u := .slice none 0 0) rB
      exact ⟨⟨hb.trans (S1.trans S2).below, .inl ⟨by rw [e, fsts_len]; exact hn, rfl⟩⟩, (Lib.cell_of_heap rC 0).trans rfl, (Lib.cell_of_heap rC 1).trans rfl⟩)
    have s5 : w5.frozen? ⟨w.heap.size, 0, none⟩ = false := Lib.frozen_of_heap J5.out.res 0
    have s6 : w5.frozen? ⟨w.heap.size, 1, none⟩ = false := Lib.frozen_of_heap J5.out.res 1
    have s7 : w5.cell? ⟨w.heap.size, 0, none⟩ = some (.int .i64 0) := (Lib.cell_of_heap J5.out.res 0).trans rfl
    have s8 : w5.cell? ⟨w.heap.size, 1, none⟩ = some (.slice none 0 0) := (Lib.cell_of_heap J5.out.res 1).trans rfl
    have HQL : p2.length = ps.length + 1 := by rw [HP2.out]; simp
    have hP5 := J5.out.own
    rw [HP2.out, List.length_append, List.length_singleton] at hP5
    obtain ⟨gg, cap, hgv⟩ := ownsRow_open hP5.len (Nat.succ_pos _)
    injection hgv with e1 e2 e3
    subst e1
    clear e2
    subst e3
    obtain ⟨c0', _, _, _⟩ := last_cells hP5.len
    have c0 : w5.cell? ⟨gg, ps.length * 4, none⟩ = some (.int .i64 3) := c0'
    clear c0'
    rw [HQL] at b1
    have j0 : (0 : Int) < (ps.length : Int) + 1 := by omega
    have hw9 : IntKind.i64.wrap ((ps.length : Int) + 1 - 1) = (ps.length : Int) := by rw [show (ps.length : Int) + 1 - 1 = (ps.length : Int) by omega]; exact IntWalk.i64_in _ (by omega)
    have i1 : (0 : Int) ≤ (ps.length : Int) := by omega
    have i2 : (ps.length : Int) < (ps.length : Int) + 1 := by omega
    have i3 : decide ((0 : Int) ≤ (ps.length : Int)) = true := decide_eq_true i1
    have HNO2 := Lib.hid (show norm ops = fsts p2 by rw [HNO.out, HP2.out, trimF_snoc, if_neg (fun h => by have := h.1; simp [delO] at this)])
    have HOW := Lib.hid (show OwnP w5 w.heap.size (.slice (some ⟨gg, 0, none⟩) (ps.length + 1) oc') p2 by have h := J5.out.own; rw [HQL] at h; exact h)
    have HQL2 := Lib.hid HQL
    clear hP5 HQL
    by_cases hbig : 2000 < ps.length + 1
    ·have hg2 : (2000 : Int) < (ps.length + 1 : Int) := by omega
     obtain ⟨F1, z0, z1⟩ := HBIG.out w5 p2 J5.out.below J5.out.res HNO2.out (by rw [HQL2.out]; omega)
     have HF1 := Lib.hid F1
     clear F1 hbig
     go_wp2_with fail
     exact bodyPost_ret (v := .tuple #[chAgg 0 (.slice none 0 0), .int .i64 2]) (by simp [results, Try.results34, go_sem, z0, z1]) rfl HF1.out
    ·have hg2 : ¬ (2000 : Int) < (ps.length + 1 : Int) := by omega
     obtain ⟨F1, z0, z1⟩ := HFIN.out w5 (.slice (some ⟨gg, 0, none⟩) (ps.length + 1) oc') p2 J5.out.below HOW.out J5.out.res HNO2.out (by rw [HQL2.out]; omega)
     have HF1 := Lib.hid F1
     clear F1 hbig
     go_wp2_with fail
     exact bodyPost_ret (v := .tuple #[chAgg f (.slice (some ⟨gg, 0, none⟩) (ps.length + 1) oc'), .int .i64 0]) (by simp [results, Try.results34, go_sem, z0, z1]) rfl HF1.out
   ·have HNO := Lib.hid (show norm ops = fsts (trimF ps) by unfold norm; rw [← List.take_length (l := ops), flush_same (by rw [List.take_length] at *; exact hg)]; rw [List.take_length] at *; exact trim_rev8 HPS.out)
    obtain ⟨g, hgg⟩ : ∃ g, g = (fold (ops.take ops.length)).2 := ⟨_, rfl⟩
    rw [← hgg] at hg ⊢
    have hge : decide (0 < g) = false := decide_eq_false hg
    clear hgg
    have HFIN := Lib.hid (fun (Y : World) (u : Value) (out : List PA) (hb : Below w.heap.size w Y) (hp : OwnP Y w.heap.size u out) (hr : Y.heap[w.heap.size]? = some (.cells #[.int .i64 0, .slice none 0 0] 24 (0, 0))) (e : norm ops = fsts out) (hn : out.length ≤ 2000) =>
     show JoOut w f ops (.returned (.tuple #[chAgg f u, .int .i64 0])) ((Y.setCell ⟨w.heap.size, 0, none⟩ (.int .i64 f)).setCell ⟨w.heap.size, 1, none⟩ u) ∧ ((Y.setCell ⟨w.heap.size, 0, none⟩ (.int .i64 f)).setCell ⟨w.heap.size, 1, none⟩ u).cell? ⟨w.heap.size, 0, none⟩ = some (.int .i64 f) ∧ ((Y.setCell ⟨w.heap.size, 0, none⟩ (.int .i64 f)).setCell ⟨w.heap.size, 1, none⟩ u).cell? ⟨w.heap.size, 1, none⟩ = some u from by
      have S1 : Keep w.heap.size [24] Y (Y.setCell ⟨w.heap.size, 0, none⟩ (.int .i64 f)) := keep_set hr (by simp) (Nat.le_refl _) _ rfl _
      have rB := nblk_set (j := 0) (u := .int .i64 f) hr
      have S2 : Keep w.heap.size [24] (Y.setCell ⟨w.heap.size, 0, none⟩ (.int .i64 f)) ((Y.setCell ⟨w.heap.size, 0, none⟩ (.int .i64 f)).setCell ⟨w.heap.size, 1, none⟩ u) := keep_set rB (by simp) (Nat.le_refl _) _ rfl _
      have rC := nblk_set (j := 1) (u := u) rB
      exact ⟨⟨hb.trans (S1.trans S2).below, .inr ⟨by rw [e, fsts_len]; exact hn, u, rfl, ⟨out, by rw [e]; rfl, hp.keep (S1.trans S2) (by decide) (by decide)⟩⟩⟩, (Lib.cell_of_heap rC 0).trans rfl, (Lib.cell_of_heap rC 1).trans rfl⟩)
    have HBIG := Lib.hid (fun (Y : World) (out : List PA) (hb : Below w.heap.size w Y) (hr : Y.heap[w.heap.size]? = some (.cells #[.int .i64 0, .slice none 0 0] 24 (0, 0))) (e : norm ops = fsts out) (hn : 2000 < out.length) =>
     show JoOut w f ops (.returned (.tuple #[chAgg 0 (.slice none 0 0), .int .i64 2])) ((Y.setCell ⟨w.heap.size, 0, none⟩ (.int .i64 0)).setCell ⟨w.heap.size, 1, none⟩ (.slice none 0 0)) ∧ ((Y.setCell ⟨w.heap.size, 0, none⟩ (.int .i64 0)).setCell ⟨w.heap.size, 1, none⟩ (.slice none 0 0)).cell? ⟨w.heap.size, 0, none⟩ = some (.int .i64 0) ∧ ((Y.setCell ⟨w.heap.size, 0, none⟩ (.int .i64 0)).setCell ⟨w.heap.size, 1, none⟩ (.slice none 0 0)).cell? ⟨w.heap.size, 1, none⟩ = some (.slice none 0 0) from by
      have S1 : Keep w.heap.size [24] Y (Y.setCell ⟨w.heap.size, 0, none⟩ (.int .i64 0)) := keep_set hr (by simp) (Nat.le_refl _) _ rfl _
      have rB := nblk_set (j := 0) (u := .int .i64 0) hr
      have S2 : Keep w.heap.size [24] (Y.setCell ⟨w.heap.size, 0, none⟩ (.int .i64 0)) ((Y.setCell ⟨w.heap.size, 0, none⟩ (.int .i64 0)).setCell ⟨w.heap.size, 1, none⟩ (.slice none 0 0)) := keep_set rB (by simp) (Nat.le_refl _) _ rfl _
      have rC := nblk_set (j := 1) (u := .slice none 0 0) rB
      exact ⟨⟨hb.trans (S1.trans S2).below, .inl ⟨by rw [e, fsts_len]; exact hn, rfl⟩⟩, (Lib.cell_of_heap rC 0).trans rfl, (Lib.cell_of_heap rC 1).trans rfl⟩)
    have s5 : wr.frozen? ⟨w.heap.size, 0, none⟩ = false := Lib.frozen_of_heap HJ.out.res 0
    have s6 : wr.frozen? ⟨w.heap.size, 1, none⟩ = false := Lib.frozen_of_heap HJ.out.res 1
    have s7 : wr.cell? ⟨w.heap.size, 0, none⟩ = some (.int .i64 0) := (Lib.cell_of_heap HJ.out.res 0).trans rfl
    have s8 : wr.cell? ⟨w.heap.size, 1, none⟩ = some (.slice none 0 0) := (Lib.cell_of_heap HJ.out.res 1).trans rfl
    rcases nil_or_snoc ps with hnil | ⟨c0, ⟨x, xv⟩, hp0⟩
    ·have hpl0 : ps.length = 0 := by rw [hnil]; rfl
     have HNO2 := Lib.hid (show norm ops = fsts ps by rw [HNO.out, hnil]; rfl)
     have HQL2 := Lib.hid hpl0
     have HOW := Lib.hid (show OwnP wr w.heap.size (.slice oa 0 oc) ps by have h := HJ.out.own; rw [hpl0] at h; exact h)
     rw [hpl0] at b1
     clear hnil hpl0
     obtain ⟨F1, z0, z1⟩ := HFIN.out wr (.slice oa 0 oc) ps HJ.out.below HOW.out HJ.out.res HNO2.out (by rw [HQL2.out]; omega)
     have HF1 := Lib.hid F1
     clear F1
     go_wp2_with fail
     exact bodyPost_ret (v := .tuple #[chAgg f (.slice oa 0 oc), .int .i64 0]) (by simp [results, Try.results34, go_sem, z0, z1]) rfl HF1.out
    ·have HP0 := Lib.hid hp0
     have hpl0 : ps.length = c0.length + 1 := by rw [hp0]; simp
     have hP5 := HJ.out.own
     rw [hpl0, hp0] at hP5
     obtain ⟨gg, cap, hgv⟩ := ownsRow_open hP5.len (Nat.succ_pos _)
     injection hgv with e1 _ e3
     subst e1
     subst e3
     have HP5 := Lib.hid hP5
     obtain ⟨xa, xc, hxv⟩ : ∃ a c, xv = .slice a x.attrs.length c := own_slice (hP5.2 (x, xv) (by simp))
     subst hxv
     obtain ⟨q0, q1, q2, q3⟩ := last_cells hP5.len
     have hcap : c0.length ≤ oc := by
      rcases hP5.len.2 with ⟨h', _⟩ | ⟨g', cap', cur', h', _, _, hn2, _⟩
      ·simp at h'
      ·simp only [Value.slice.injEq] at h'
       omega
     have HCAP := Lib.hid hcap
     rw [hpl0] at b1
     have hw9 : IntKind.i64.wrap ((c0.length : Int) + 1 - 1) = (c0.length : Int) := by rw [show (c0.length : Int) + 1 - 1 = (c0.length : Int) by omega]; exact IntWalk.i64_in _ (by omega)
     have j0 : (0 : Int) < (c0.length : Int) + 1 := by omega
     have i1 : (0 : Int) ≤ (c0.length : Int) := by omega
     have i2 : (c0.length : Int) < (c0.length : Int) + 1 := by omega
     have i3 : decide ((0 : Int) ≤ (c0.length : Int)) = true := decide_eq_true i1
     have j3 : decide ((0 : Int) < (c0.length : Int) + 1) = true := decide_eq_true (by omega)
     have hplb : c0.length ≤ 400001 := by omega
     have HOW := Lib.hid (show OwnP wr w.heap.size (.slice (some ⟨gg, 0, none⟩) (c0.length + 1) oc) ps by rw [hp0]; exact hP5)
     clear hP5 hcap hp0
     have HPL0 := Lib.hid hpl0
     clear hpl0 q1 q2
     by_cases hk : x.kind = 1
     ·have t1 : (x.kind == 1) = true := by rw [hk]; rfl
      by_cases ha : x.attrs.length = 0
      ·have a1 : ((x.attrs.length : Int) == 0) = true := by rw [ha]; rfl
       have a2 : (x.attrs.length == 0) = true := by rw [ha]; rfl
       have HNO2 := Lib.hid (show norm ops = fsts c0 by rw [HNO.out, HP0.out, trimF_snoc, if_pos ⟨hk, ha⟩])
       have HKZ := Lib.hid (keep_set (B := w.heap.size) (ts := [24]) HJ.out.out (by simp) (by omega) ⟨w.heap.size + 1, 1, none⟩ rfl (.slice (some ⟨gg, 0, none⟩) c0.length oc))
       have HRZ := Lib.hid (show (wr.setCell ⟨w.heap.size + 1, 1, none⟩ (.slice (some ⟨gg, 0, none⟩) c0.length oc)).heap[w.heap.size]? = _ from (Below.heap_setCell _ _ _ _ (by simp)).trans HJ.out.res)
       have HOZ := Lib.hid (OwnP.keep (B := w.heap.size) ⟨own_front HP5.out.len, fun p hp => HP5.out.2 p (List.mem_append_left _ hp)⟩ HKZ.out (by decide) (by decide))
       have hsl := slice_ops gg (c0.length + 1) oc c0.length HCAP.out
       clear hk ha
       by_cases hbig : 2000 < c0.length
       ·have hg2 : (2000 : Int) < (c0.length : Int) := by omega
        obtain ⟨F1, z0, z1⟩ := HBIG.out (wr.setCell ⟨w.heap.size + 1, 1, none⟩ (.slice (some ⟨gg, 0, none⟩) c0.length oc)) c0 (HJ.out.below.trans HKZ.out.below) HRZ.out HNO2.out (by omega)
        have HF1 := Lib.hid F1
        clear F1 hbig
        go_wp2_with fail
        exact bodyPost_ret (v := .tuple #[chAgg 0 (.slice none 0 0), .int .i64 2]) (by simp [results, Try.results34, go_sem, z0, z1]) rfl HF1.out
       ·have hg2 : ¬ (2000 : Int) < (c0.length : Int) := by omega
        obtain ⟨F1, z0, z1⟩ := HFIN.out (wr.setCell ⟨w.heap.size + 1, 1, none⟩ (.slice (some ⟨gg, 0, none⟩) c0.length oc)) (.slice (some ⟨gg, 0, none⟩) c0.length oc) c0 (HJ.out.below.trans HKZ.out.below) HOZ.out HRZ.out HNO2.out (by omega)
        have HF1 := Lib.hid F1
        clear F1 hbig
        go_wp2_with fail
        exact bodyPost_ret (v := .tuple #[chAgg f (.slice (some ⟨gg, 0, none⟩) c0.length oc), .int .i64 0]) (by simp [results, Try.results34, go_sem, z0, z1]) rfl HF1.out
      ·have a1 : ((x.attrs.length : Int) == 0) = false := by rw [beq_eq_false_iff_ne]; omega
       have a2 : (x.attrs.length == 0) = false := by rw [beq_eq_false_iff_ne]; omega
       have HNO2 := Lib.hid (show norm ops = fsts ps by rw [HNO.out, HP0.out, trimF_snoc, if_neg fun h => ha h.2])
       clear hk ha
       by_cases hbig : 2000 < c0.length + 1
       ·have hg2 : (2000 : Int) < (c0.length + 1 : Int) := by omega
        obtain ⟨F1, z0, z1⟩ := HBIG.out wr ps HJ.out.below HJ.out.res HNO2.out (by rw [HPL0.out]; omega)
        have HF1 := Lib.hid F1
        clear F1 hbig
        go_wp2_with fail
        exact bodyPost_ret (v := .tuple #[chAgg 0 (.slice none 0 0), .int .i64 2]) (by simp [results, Try.results34, go_sem, z0, z1]) rfl HF1.out
       ·have hg2 : ¬ (2000 : Int) < (c0.length + 1 : Int) := by omega
        obtain ⟨F1, z0, z1⟩ := HFIN.out wr (.slice (some ⟨gg, 0, none⟩) (c0.length + 1) oc) ps HJ.out.below HOW.out HJ.out.res HNO2.out (by rw [HPL0.out]; omega)
        have HF1 := Lib.hid F1
        clear F1 hbig
        go_wp2_with fail
        exact bodyPost_ret (v := .tuple #[chAgg f (.slice (some ⟨gg, 0, none⟩) (c0.length + 1) oc), .int .i64 0]) (by simp [results, Try.results34, go_sem, z0, z1]) rfl HF1.out
     ·have t1 : (x.kind == 1) = false := by rw [beq_eq_false_iff_ne]; exact hk
      have HNO2 := Lib.hid (show norm ops = fsts ps by rw [HNO.out, HP0.out, trimF_snoc, if_neg fun h => hk h.1])
      clear hk
      by_cases hbig : 2000 < c0.length + 1
      ·have hg2 : (2000 : Int) < (c0.length + 1 : Int) := by omega
       obtain ⟨F1, z0, z1⟩ := HBIG.out wr ps HJ.out.below HJ.out.res HNO2.out (by rw [HPL0.out]; omega)
       have HF1 := Lib.hid F1
       clear F1 hbig
       go_wp2_with fail
       exact bodyPost_ret (v := .tuple #[chAgg 0 (.slice none 0 0), .int .i64 2]) (by simp [results, Try.results34, go_sem, z0, z1]) rfl HF1.out
      ·have hg2 : ¬ (2000 : Int) < (c0.length + 1 : Int) := by omega
       obtain ⟨F1, z0, z1⟩ := HFIN.out wr (.slice (some ⟨gg, 0, none⟩) (c0.length + 1) oc) ps HJ.out.below HOW.out HJ.out.res HNO2.out (by rw [HPL0.out]; omega)
       have HF1 := Lib.hid F1
       clear F1 hbig
       go_wp2_with fail
       exact bodyPost_ret (v := .tuple #[chAgg f (.slice (some ⟨gg, 0, none⟩) (c0.length + 1) oc), .int .i64 0]) (by simp [results, Try.results34, go_sem, z0, z1]) rfl HF1.out
end Go.Proofs.Ytchceolbbkhnnaa
