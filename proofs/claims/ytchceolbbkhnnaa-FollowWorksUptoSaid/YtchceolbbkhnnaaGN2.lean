import Derived.Test.YtchceolbbkhnnaaGN1
import Derived.Test.YtchceolbbkhnnaaGR2
import Derived.Test.YtchceolbbkhnnaaGC2
import Derived.Test.YtchceolbbkhnnaaGD1
import Derived.Deep.RegionHeld3
namespace Go.Proofs.Ytchceolbbkhnnaa
open Go.RowKit Rn Ch
open Cp (atm atms opA rns1)
open An (fullA)
open Lib (hid)
theorem rows_apart8 {W : World} {B B' : Nat} {e e' : TypeId} {s s' n n' : Nat} {v v' : Value} {xs xs' : List Value} (h : W.ownsRow B e s v n xs) (h' : W.ownsRow B' e' s' v' n' xs') (he : e ≠ e') : v.ownBlock = none ∨ v.ownBlock ≠ v'.ownBlock := by
 rcases h.2 with ⟨rfl, _⟩ | ⟨g, cap, cur, rfl, _, hg, _⟩
 ·exact .inl rfl
 ·rcases h'.2 with ⟨rfl, _⟩ | ⟨g', cap', cur', rfl, _, hg', _⟩
  ·exact .inr (by simp [Value.ownBlock])
  ·refine .inr fun e2 => he ?_
   simp only [Value.ownBlock, Option.some.injEq] at e2; subst e2; rw [hg] at hg'; simp only [Option.some.injEq, Obj.cells.injEq] at hg'; exact hg'.2.1
abbrev OV := OpD × Value
def atP (q : OV) : List OV := (atm q.1).map fun x => (opA x, q.2)
def atsP (qs : List OV) : List OV := qs.flatMap atP
theorem atsP_take {qs : List OV} {n : Nat} (h : n < qs.length) : atsP (qs.take (n + 1)) = atsP (qs.take n) ++ atP qs[n] := by
 unfold atsP; rw [List.take_succ_eq_append_getElem h, List.flatMap_append, List.flatMap_singleton]
theorem atsP_map (qs : List OV) : (atsP qs).map (·.1) = (atms (qs.map (·.1))).map opA := by
 induction qs with
 | nil => rfl
 | cons q r ih =>
   show ((atP q ++ atsP r).map (·.1)) = _
   rw [List.map_append, ih, List.map_cons, Cp.atms_cons, List.map_append]
   congr 1
   unfold atP; rw [List.map_map]; rfl
theorem atsP_len (qs : List OV) : (atsP qs).length = (atms (qs.map (·.1))).length := by
 have := congrArg List.length (atsP_map qs)
 simpa using this
theorem atsP_take_le (qs : List OV) (n : Nat) : (atsP (qs.take n)).length ≤ (atsP qs).length := by
 conv => rhs; rw [← List.take_append_drop n qs]
 unfold atsP; rw [List.flatMap_append, List.length_append]; exact Nat.le_add_right _ _
theorem atms_len {ops : List OpD} (h : allE ops) : ((atms ops).length : Int) = kd ops + Ch.ins ops := by
 have key : ∀ l : List Cp.Atm, l.length = Cp.kA l + Cp.iA l := by
  intro l; induction l with
  | nil => rfl
  | cons x r ih => cases x <;> simp only [List.length_cons, Cp.kA, Cp.iA, ih] <;> omega
 obtain ⟨k1, _, k3⟩ := Cp.sums_atms h; rw [key]; omega
theorem T_one (c : Nat) : T [c] = E c := by
 unfold T E; rw [show txt [c] = enc c by simp [txt]]
theorem atP_ins {q : OV} (h : q.1.kind = 2) : atP q = (rns1 q.1.text).map fun c => (⟨2, 0, E c, q.1.attrs⟩, q.2) := by
 unfold atP; rw [Cp.atm_ins h, List.map_map]; refine List.map_congr_left fun c _ => ?_; show ((⟨2, 0, T [c], q.1.attrs⟩ : OpD), q.2) = _
 rw [T_one]
theorem atP_rest {q : OV} (h : opE q.1 = 0) (hk : q.1.kind ≠ 2) : atP q = List.replicate q.1.n.toNat (⟨q.1.kind, 1, ⟨#[]⟩, q.1.attrs⟩, q.2) := by
 unfold atP; rcases Cp.opE_shape h with ⟨k, _⟩ | ⟨k, _⟩ | ⟨k, _, _, ha⟩
 ·rw [Cp.atm_keep k, List.map_replicate, k]; rfl
 ·exact absurd k hk
 ·rw [Cp.atm_del k, List.map_replicate, k, ha]; rfl
theorem atP_mem {q x : OV} (he : opE q.1 = 0) (h : x ∈ atP q) : x.2 = q.2 ∧ x.1.attrs = q.1.attrs := by
 by_cases hk : q.1.kind = 2
 ·rw [atP_ins hk] at h
  obtain ⟨c, _, rfl⟩ := List.mem_map.1 h; exact ⟨rfl, rfl⟩
 ·rw [atP_rest he hk] at h
  rw [List.eq_of_mem_replicate h]; exact ⟨rfl, rfl⟩
abbrev keepV : OV := (⟨1, 1, ⟨#[]⟩, []⟩, .slice none 0 0)
theorem flatO_at4 (k n : Int) (t : ByteArray) (l : List (ByteArray × ByteArray)) (v : Value) (M : List OV) : flatO M ++ [.int .i64 k, .int .i64 n, .string t, v] = flatO (M ++ [(⟨k, n, t, l⟩, v)]) := by rw [flatO_snoc]; rfl
theorem own_if {w : World} {B n : Nat} {v : Value} {xs : List Value} (ob : Nat) (h : w.ownsRow B 40 4 v n xs) (hnil : n = 0 → v = .slice none 0 0) : w.ownsRow (if n = 0 then ob + 1 else B) 40 4 v n xs := by
 by_cases hn : n = 0
 ·rw [if_pos hn]
  subst hn; rw [hnil rfl]; have h0 := h.1; rw [Nat.zero_mul] at h0; rw [List.length_eq_zero_iff.1 h0]; exact World.ownsRow_nil _ _ _ _
 ·rw [if_neg hn]; exact h
theorem apart_step {w w' : World} {B ob n : Nat} {v v' : Value} {xs : List Value} {a b c d : Value} (hob : w.heap[ob]? = some (.cells #[a, b, c, d] 40 (0, 0))) (hne : v.ownBlock ≠ some ob) (hg : w.grownBy w' v.ownBlock)
 (h : w'.ownsRow (if n = 0 then ob + 1 else B) 40 4 v' (n + 1) xs) : v'.ownBlock ≠ some ob := by
 intro e
 by_cases hn : n = 0
 ·rw [if_pos hn] at h
  have := (h.lt ob e).1; omega
 ·rcases h.2 with ⟨_, h0⟩ | ⟨g, cap, cur, rfl, _, hc, hcap, _, hsz, _⟩
  ·omega
  ·simp only [Value.ownBlock, Option.some.injEq] at e
   subst e; have := hg.block g (lt_of_heap hob) (fun e => hne e.symm); rw [hob, hc] at this; simp only [Option.some.injEq, Obj.cells.injEq] at this; have := this.1; rw [this] at hsz; simp at hsz; omega
theorem cells4T {W : World} {n : Nat} {t : TypeId} {a b c d : Value} (h : W.heap[n]? = some (.cells #[a, b, c, d] t (0, 0))) : W.cell? ⟨n, 0, none⟩ = some a ∧ W.cell? ⟨n, 1, none⟩ = some b ∧ W.cell? ⟨n, 2, none⟩ = some c ∧ W.cell? ⟨n, 3, none⟩ = some d :=
 ⟨by simp [World.cell?, h], by simp [World.cell?, h], by simp [World.cell?, h], by simp [World.cell?, h]⟩
theorem row_cells {w : World} {B g c : Nat} {qs : List OV} (h : w.ownsRow B 40 4 (.slice (some ⟨g, 0, none⟩) qs.length c) qs.length (flatO qs)) (i : Nat) (hi : i < qs.length) :
 g < w.heap.size ∧ w.cell? ⟨g, i * 4, none⟩ = some (.int .i64 qs[i].1.kind) ∧ w.cell? ⟨g, i * 4 + 1, none⟩ = some (.int .i64 qs[i].1.n) ∧ w.cell? ⟨g, i * 4 + 2, none⟩ = some (.string qs[i].1.text) ∧ w.cell? ⟨g, i * 4 + 3, none⟩ = some qs[i].2 := by
 have e : ∀ j, j < 4 → w.cell? ⟨g, i * 4 + j, none⟩ = (opCells qs[i])[j]? := fun j hj => by rw [h.cellAt _ (by omega), flatO_at hi j hj]
 exact ⟨(h.lt g rfl).2, e 0 (by omega), e 1 (by omega), e 2 (by omega), e 3 (by omega)⟩
set_option maxRecDepth 100000 in
set_option maxHeartbeats 8000000 in
theorem refAtoms_any (f : Int) (v : Value) (ops : List OpD) (w : World) (hv : OpRow w v ops) (hok : OkC f ops) :
 Calls Try.prog 32 #[chAgg f v] w fun e w' => ∃ u, e = .returned u ∧ OwnOps w' w.heap.size u ((fullA f (norm ops)).map opA) ∧ Below w.heap.size w w' := by
 obtain ⟨aa, acap, rfl⟩ := hv.shape; obtain ⟨W, hW, x, bW⟩ : ∃ W, W = w.alloc (.cells #[.int .i64 f, .slice aa ops.length acap] 24) ∧ W.heap[w.heap.size]? = some (.cells #[.int .i64 f, .slice aa ops.length acap] 24 (0, 0)) ∧ Below w.heap.size w W := ⟨_, rfl, heap_new _ _, below_box _ _⟩; have HW := hid hW; have HX := hid x; have BW := hid bW; have c0 := (cells2 x).1; have c1 := (cells2 x).2.1; have he := (toE_iff f ops).2 hok; have HOKN := hid (norm_ok hok).1; have HN := hid (refNormal_ok f _ ops W (hv.below bW) (fun o ho => ⟨by have := (vop_of hok ho).text; unfold maxLen; omega, (vop_of hok ho).attrs.sized⟩) (fun o ho => by have := (vop_of hok ho).text; omega) he); clear hv hW x bW he hok; go_enter Try.func32, Try.ntmps32
 go_wp2_with fail
 rw [← HW.out]; go_wp2_with fail
 refine HN.out.mono ?_; rintro e w1 ⟨v1, rfl, O1, b⟩; have x1 := (b.block _ (lt_of_heap HX.out)).trans HX.out; obtain ⟨qs, hqs, hP⟩ := O1; obtain ⟨na, nc, rfl⟩ := own_slice hP.1; have B1 := hid (BW.out.trans (b.mono BW.out.size)); obtain ⟨p0, p1, p2, p3⟩ := cells2 x1; have hs1 := lt_of_heap x1
 obtain ⟨W1, hW1, q1, q2⟩ : ∃ W1, W1 = (w1.setCell ⟨w.heap.size, 0, none⟩ (.int .i64 f)).setCell ⟨w.heap.size, 1, none⟩ (.slice na qs.length nc) ∧ W1.heap[w.heap.size]? = some (.cells #[.int .i64 f, .slice na qs.length nc] 24 (0, 0)) ∧ Keep w.heap.size [24] w1 W1 :=
  ⟨_, rfl, (agg_set _ _ x1).1, (agg_set _ _ x1).2.1⟩
 have HW1 := hid hW1; have B2 := hid (B1.out.trans q2.below); have P2 := hid (hP.keep q2 (by decide) (by decide)); have X2 := hid q1; have HQS := hid hqs; have HLN := hid (show qs.length ≤ 2000 by have := HOKN.out.2.2.1; have e := congrArg List.length hqs; rw [List.length_map] at e; omega); obtain ⟨r0, r1, _, _⟩ := cells2 q1; have hs2 := lt_of_heap q1; have hf0 := HOKN.out.1; have hf1 := HOKN.out.2.1; have hqn : qs.length ≤ 9223372036854775807 := by have := HLN.out; omega
 have HLA := hid (show (atsP qs).length ≤ 60000 by
  have h1 := atsP_len qs; have h2 := atms_len HOKN.out.2.2.2.1; rw [← hqs] at h2; have h3 := HOKN.out.2.2.2.2; rw [← hqs] at h3; have h4 := dl_le_kd HOKN.out.2.2.2.1; rw [← hqs] at h4; have h5 : ((atsP qs).length : Int) = kd (qs.map (·.1)) + Ch.ins (qs.map (·.1)) := by rw [h1]; exact h2
  generalize kd (qs.map (·.1)) = A at *; generalize dl (qs.map (·.1)) = B at *; generalize Ch.ins (qs.map (·.1)) = C at *; clear h1 h2; omega)
 clear b c0 c1 x1 hP hW1 q1 q2 hqs; go_wp2_with fail
 rw [← HW1.out]; obtain ⟨i0, hi, hz0, hz1, hz2⟩ := info_parts infoOp; have Hi := hid (And.intro hi (And.intro hz0 (And.intro hz1 hz2))); clear hi hz0 hz1 hz2 hs1 p0 p1 p2 p3; go_loopw [3, 4, 5] (fun v l i wr => ∃ n : Nat, i = .int .i64 (n : Int) ∧ l = .int .i64 (f - kd ((norm ops).take n)) ∧ n ≤ qs.length ∧ wr.ownsRow W1.heap.size 40 4 v (atsP (qs.take n)).length (flatO (atsP (qs.take n))) ∧ ((atsP (qs.take n)).length = 0 → v = .slice none 0 0) ∧ Below W1.heap.size W1 wr) (fun _ _ i _ => qs.length - (intOf i).toNat)
 case atStart => exact ⟨0, rfl, by simp [kd], Nat.zero_le _, World.ownsRow_nil _ _ _ _, fun _ => rfl, Below.refl _ _⟩
 case round =>
  obtain ⟨n, rfl, rfl, hnp, hown, hnil, hb⟩ := hrel; obtain ⟨L, hL⟩ : ∃ L, L = atsP (qs.take n) := ⟨_, rfl⟩; rw [← hL] at hown hnil; obtain ⟨oa, oc, rfl⟩ := own_slice hown; have r1 : wr.cell? ⟨w.heap.size, 1, none⟩ = some (.slice na qs.length nc) := (hb.cell (by exact hs2)).trans r1; have r0' : wr.cell? ⟨w.heap.size, 0, none⟩ = some (.int .i64 f) := (hb.cell (by exact hs2)).trans r0
  by_cases hlt : n < qs.length
  ·have hlt' : (n : Int) < (qs.length : Int) := by omega
   obtain ⟨ng, ncap, hnv⟩ := ownsRow_open P2.out.1 (by omega); injection hnv with e1 _ e3; subst e1; subst e3; obtain ⟨hgl, x0, x1, x2, x3⟩ := row_cells P2.out.1 n hlt; have hatt := P2.out.2 _ (List.getElem_mem hlt); have hop : opE qs[n].1 = 0 := by
    refine HOKN.out.2.2.2.1 _ ?_; rw [← HQS.out]; exact List.mem_map.2 ⟨_, List.getElem_mem hlt, rfl⟩
   have hvo : VOp qs[n].1 := by
    refine vop_of HOKN.out ?_; rw [← HQS.out]; exact List.mem_map.2 ⟨_, List.getElem_mem hlt, rfl⟩
   have hct := atsP_take hlt; have hcl := Nat.le_trans (atsP_take_le qs (n + 1)) HLA.out; rw [← hL] at hct; rw [hct] at hcl; have hlen : n < (norm ops).length := by rw [← HQS.out, List.length_map]; exact hlt
   have hkn : kd ((norm ops).take (n + 1)) = kd ((norm ops).take n) + (if qs[n].1.kind = 2 then 0 else qs[n].1.n) := by
    rw [List.take_succ_eq_append_getElem hlen, kd_append]; have e : (norm ops)[n] = qs[n].1 := by simp only [← HQS.out, List.getElem_map]
    rw [e]; simp only [kd]; omega
   have hkl : 0 ≤ kd ((norm ops).take n) ∧ kd ((norm ops).take n) ≤ f := by
    have h1 := kd_nonneg (l := (norm ops).take n) (fun o ho => HOKN.out.2.2.2.1 o (List.take_subset _ _ ho)); have h2 := kd_nonneg (l := (norm ops).drop n) (fun o ho => HOKN.out.2.2.2.1 o (List.drop_subset _ _ ho)); have h3 : kd (norm ops) = kd ((norm ops).take n) + kd ((norm ops).drop n) := by rw [← kd_append, List.take_append_drop]
    have h4 := HOKN.out.2.2.2.2.1; omega
   generalize kd ((norm ops).take n) = K at hkn hkl ⊢; have HKN := hid hkn; obtain ⟨hk0, hk1⟩ := hkl; obtain ⟨q, hq⟩ : ∃ q, q = qs[n] := ⟨_, rfl⟩; rw [← hq] at x0 x1 x2 x3 hatt hop hvo hct hcl HKN; obtain ⟨ra, rc, hrv⟩ := own_slice hatt; obtain ⟨o, ov⟩ := q; simp only at hrv x0 x1 x2 x3 hop hvo hatt HKN; subst hrv; have n0 := hvo.n0; have n1 := hvo.n1; have y0 : wr.cell? ⟨ng, n * 4, none⟩ = some (.int .i64 o.kind) := (hb.cell (by exact hgl)).trans x0; have y1 : wr.cell? ⟨ng, n * 4 + 1, none⟩ = some (.int .i64 o.n) := (hb.cell (by exact hgl)).trans x1; have y2 : wr.cell? ⟨ng, n * 4 + 2, none⟩ = some (.string o.text) := (hb.cell (by exact hgl)).trans x2; have y3 : wr.cell? ⟨ng, n * 4 + 3, none⟩ = some (.slice ra o.attrs.length rc) := (hb.cell (by exact hgl)).trans x3; have hsb := hb.size; obtain ⟨X, hX⟩ : ∃ X, X = wr.alloc (.cells #[.int .i64 o.kind, .int .i64 o.n, .string o.text, .slice ra o.attrs.length rc] 40) := ⟨_, rfl⟩
   have BXr := hid (show Below wr.heap.size wr X by rw [hX]; exact below_box _ _); have hbx : X.heap[wr.heap.size]? = some (.cells #[.int .i64 o.kind, .int .i64 o.n, .string o.text, .slice ra o.attrs.length rc] 40 (0, 0)) := by rw [hX]; exact heap_new _ _
   have HBX := hid hbx; have BX := hid (hb.trans (BXr.out.mono hb.size)); have OX := hid (row_below hown BXr.out); obtain ⟨d0, d1, d2, d3⟩ := cells4T hbx; have hXs : wr.heap.size < X.heap.size := lt_of_heap hbx; have HNE := hid (show (Value.slice oa L.length oc).ownBlock ≠ some wr.heap.size from fun e => by have := (hown.lt _ e).2; omega); have HNIL := hid hnil; have HX := hid hX; have HCT := hid hct; have HCL := hid hcl; have HOP := hid hop; have HVO := hid hvo; have HC1 : X.cell? ⟨w.heap.size, 1, none⟩ = some (.slice (some ⟨ng, 0, none⟩) qs.length nc) := (BXr.out.cell (by show w.heap.size < _; omega)).trans r1; clear x0 x1 x2 x3 hatt hop hvo hct hcl hkn hown hnil hX hbx hb hq hL
   by_cases hk2 : o.kind = 2
   ·have k2 : (o.kind == 2) = true := by rw [hk2]; rfl
    have hter := ((opE_put hk2).1 HOP.out).2.2.1; obtain ⟨t1, t2, t3, t4⟩ := Cp.rns_some hter; have hrd : rd o.text.data.toList = some (rns1 o.text) := by
     cases hr : rd o.text.data.toList with
     | none => rw [er_none hr] at hter; omega
     | some cs => unfold rns1; rw [hr]; rfl
    have hts : o.text.size ≤ 1048576 := by have := HVO.out.text; omega
    have HAP := hid (atP_ins (q := (o, .slice ra o.attrs.length rc)) hk2); have HC := hid (charsT_any o.text (rns1 o.text) X hts hrd); obtain ⟨cs, hcs⟩ : ∃ cs, cs = rns1 o.text := ⟨_, rfl⟩; rw [← hcs] at t3 HAP HC; have HK2 := hid hk2; clear hk2 hter t1 t2 t4 hrd hts hcs; go_wp2_with fail
    rw [← HX.out]; go_wp2_with fail
    refine HC.out.mono ?_; rintro e w5 ⟨lv, rfl, hl1, hb5⟩; obtain ⟨la, lc, rfl⟩ := own_slice hl1; have HBX5 := hid ((hb5.block _ (lt_of_heap HBX.out)).trans HBX.out); have B5 := hid (BX.out.trans (hb5.mono BX.out.size)); have O5 := hid (row_below OX.out hb5); have HL5 := hid hl1; clear hl1 hb5 d0 d1 d2 d3 r1 r0' y0 y1 y2 y3; go_wp2_with fail
    clear HX BXr HBX; generalize wr.heap.size = ob at HBX5 HNE hXs hsb ⊢; go_loopw [3, 8] (fun v i wx => ∃ j : Nat, i = .int .i64 (j : Int) ∧ j ≤ cs.length ∧ wx.ownsRow W1.heap.size 40 4 v (L ++ (atP (o, .slice ra o.attrs.length rc)).take j).length (flatO (L ++ (atP (o, .slice ra o.attrs.length rc)).take j)) ∧ ((L ++ (atP (o, .slice ra o.attrs.length rc)).take j).length = 0 → v = .slice none 0 0) ∧ v.ownBlock ≠ some ob ∧ wx.ownsRow X.heap.size 9 1 (.slice la cs.length lc) cs.length (strV (cs.map E)) ∧ wx.heap[ob]? = some (.cells #[.int .i64 o.kind, .int .i64 o.n, .string o.text, .slice ra o.attrs.length rc] 40 (0, 0)) ∧ Below W1.heap.size W1 wx) (fun _ i _ => cs.length - (intOf i).toNat)
    case atStart => exact ⟨0, rfl, Nat.zero_le _, by rw [List.take_zero, List.append_nil]; exact O5.out, by rw [List.take_zero, List.append_nil]; exact HNIL.out, HNE.out, HL5.out, HBX5.out, B5.out⟩
    case round =>
     obtain ⟨j, rfl, hj, hown, hnil, hne, hl, hbx, hb⟩ := hrel; have hcr : (atP (o, .slice ra o.attrs.length rc)).length = cs.length := by rw [HAP.out, List.length_map]
     obtain ⟨M, hM⟩ : ∃ M, M = L ++ (atP (o, .slice ra o.attrs.length rc)).take j := ⟨_, rfl⟩; rw [← hM] at hown hnil; obtain ⟨oa2, oc2, rfl⟩ := own_slice hown
     by_cases hjl : j < cs.length
     ·have hjl' : (j : Int) < (cs.length : Int) := by omega
      have hnx : L ++ (atP (o, .slice ra o.attrs.length rc)).take (j + 1) = M ++ [((⟨2, 0, E cs[j], o.attrs⟩ : OpD), Value.slice ra o.attrs.length rc)] := by
       rw [List.take_succ_eq_append_getElem (by rw [hcr]; exact hjl), ← List.append_assoc, ← hM]
       congr 2
       simp only [HAP.out, List.getElem_map]
      have hml : M.length + 1 ≤ 60000 := by
       have h1 := congrArg List.length hnx; have h2 := HCL.out; simp only [List.length_append, List.length_take, List.length_singleton] at h1 h2; omega
      obtain ⟨g, hg⟩ : ∃ g, la = some ⟨g, 0, none⟩ := by
       rcases hl.2 with ⟨e, e2⟩ | ⟨g, cap', cur, e, _⟩
       ·omega
       ·simp only [Value.slice.injEq] at e; exact ⟨g, e.1⟩
      subst hg; have hne1 : some g ≠ (Value.slice oa2 M.length oc2).ownBlock := by
       rcases rows_apart8 hl hown (by decide) with h | h
       ·cases h
       ·exact h
      have e0 : wr.cell? ⟨g, j, none⟩ = some (.string (E cs[j])) := by rw [hl.cellAt _ (by omega)]; simp [strV, hjl]
      obtain ⟨d0, d1, d2, d3⟩ := cells4T hbx; rw [HK2.out] at d0; have hgl : g < wr.heap.size := (hl.lt g rfl).2; have hbl : ob < wr.heap.size := lt_of_heap hbx; obtain ⟨c, hc⟩ : ∃ c, c = cs[j] := ⟨_, rfl⟩; rw [← hc] at e0 hnx; have HNX := hid hnx; have HNE1 := hid hne1; have HNE2 := hid hne; have hox := own_if ob hown hnil; obtain ⟨bb, hbb⟩ : ∃ bb, bb = (if M.length = 0 then ob + 1 else W1.heap.size) := ⟨_, rfl⟩; have hb0 : W1.heap.size ≤ bb := by rw [hbb]; split <;> omega
      have hb1 : bb ≤ wr.heap.size := by have := hb.size; rw [hbb]; split <;> omega
      rw [← hbb] at hox; have HOX := hid hox; have HBB := hid hbb; clear hox hbb; have HOX0 := hid hown; have HLX := hid hl; have HBX' := hid hbx; have HBW := hid hb; have hsx := hb.size; clear hnx hne1 hne hown hnil hl hb hbx hc hM hcr d1 d2; go_wp2_with fail
      go_region_held3 (fun w' => w'.cell? ⟨g, j, none⟩ = some (.string (E c)) ∧ w'.cell? ⟨ob, 0, none⟩ = some (.int .i64 2) ∧ w'.cell? ⟨ob, 3, none⟩ = some (.slice ra o.attrs.length rc))
       (first
        | exact ⟨e0, d0, d3⟩
        | exact ⟨(((Below.refl wr.heap.size wr).alloc (Nat.le_refl _) _).cell (by exact hgl)).trans e0, (((Below.refl wr.heap.size wr).alloc (Nat.le_refl _) _).cell (by exact hbl)).trans d0, (((Below.refl wr.heap.size wr).alloc (Nat.le_refl _) _).cell (by exact hbl)).trans d3⟩
        | exact ⟨k0, k1, k2⟩)
       (first
        | (refine step_append_own rfl (.tmp 42) (.tmp 52) 22 rfl 40 i0 (.agg #[.int .i64 0, .int .i64 0, .string ⟨#[]⟩, .slice none 0 0]) 4 56 Try.underlying22 Hi.out.1 Hi.out.2.1 Hi.out.2.2.1 Hi.out.2.2.2 rfl (by decide) bb _ M.length (flatO M) rfl (HOX.out.alloc _) ⟨wr.heap.size, 0, none⟩ 1 1 [.int .i64 2, .int .i64 0, .string (E c), .slice ra o.attrs.length rc] rfl rfl (new_at4 _ _ _ _ _ _) (fun u hu => by simp at hu; rcases hu with rfl | rfl | rfl | rfl <;> rfl) (by unfold maxLen; omega) (by omega) (by simp; omega) ?_; intro v' wC oC gC; have k0 : wC.cell? ⟨g, j, none⟩ = some (.string (E c)) := gC.cell ((((Below.refl wr.heap.size wr).alloc (Nat.le_refl _) _).cell (by exact hgl)).trans e0) HNE1.out; have k1 : wC.cell? ⟨ob, 0, none⟩ = some (.int .i64 2) := gC.cell ((((Below.refl wr.heap.size wr).alloc (Nat.le_refl _) _).cell (by exact hbl)).trans d0) (fun e => HNE2.out e.symm); have k2 : wC.cell? ⟨ob, 3, none⟩ = some (.slice ra o.attrs.length rc) := gC.cell ((((Below.refl wr.heap.size wr).alloc (Nat.le_refl _) _).cell (by exact hbl)).trans d3) (fun e => HNE2.out e.symm)))
      have LC := hid (World.ownsRow.kept (HLX.out.drew.alloc _) gC (.inr HNE1.out)); have B1 := hid ((HBW.out.drew.alloc (by exact HBW.out.size) _).grown gC (by simp; omega) (fun k hk => (HOX0.out.lt k hk).1)); have hobA : (wr.alloc (.cells #[.int .i64 2, .int .i64 0, .string (E c), .slice ra o.attrs.length rc] 40)).drew.heap[ob]? = some (.cells #[.int .i64 o.kind, .int .i64 o.n, .string o.text, .slice ra o.attrs.length rc] 40 (0, 0)) := (Below.heap_alloc _ _ _ hbl).trans HBX'.out; have NC := hid (apart_step hobA HNE2.out gC (by rw [← HBB.out]; exact oC)); have XC := hid ((gC.block ob (by simp; omega) (fun e => HNE2.out e.symm)).trans hobA); have hO := own_base (C := W1.heap.size) oC hb0; rw [flatO_at4 2 0 (E c) o.attrs] at hO; have OC := hid hO; clear oC gC hO k0 k1 k2 e0 d0 d3; go_wp2_with fail
      go_roundw
      case rel => exact ⟨j + 1, by go_num, by omega, by rw [HNX.out, List.length_append]; exact OC.out, by rw [HNX.out]; simp, NC.out, LC.out, XC.out, B1.out⟩
      case measure => simp [intOf]; omega
     ·have hkn : j = cs.length := by omega
      have hM2 : M = atsP (qs.take (n + 1)) := by rw [hM, HCT.out, List.take_of_length_le (by rw [hcr]; omega)]
      subst hkn; have HOX := hid hown; have HNX := hid hnil; have HBX := hid hb; have HM2 := hid hM2; have HK3 := hid (show kd ((norm ops).take (n + 1)) = K by rw [HKN.out, if_pos HK2.out]; omega); clear hown hb hM hM2 hl hnil hbx hne; go_wp2_with fail
      go_roundw
      case rel => exact ⟨n + 1, by go_num, by rw [HK3.out], by omega, by rw [← HM2.out]; exact HOX.out, by rw [← HM2.out]; exact HNX.out, HBX.out⟩
      case measure => simp [intOf]; omega
   ·have k2 : (o.kind == 2) = false := by rw [beq_eq_false_iff_ne]; exact hk2
    have HAP := hid (atP_rest (q := (o, .slice ra o.attrs.length rc)) HOP.out hk2); have HK3 := hid (show kd ((norm ops).take (n + 1)) = K + o.n by rw [HKN.out, if_neg hk2]); clear hk2; go_wp2_with fail
    rw [← HX.out]; go_wp2_with fail
    clear HX BXr d0 d1 d2 d3 y0 y1 y2 y3 r1 r0' HC1; generalize wr.heap.size = ob at HBX HNE hXs hsb ⊢; go_loopw [3, 9] (fun v i wx => ∃ j : Nat, i = .int .i64 (j : Int) ∧ (j : Int) ≤ o.n ∧ wx.ownsRow W1.heap.size 40 4 v (L ++ (atP (o, .slice ra o.attrs.length rc)).take j).length (flatO (L ++ (atP (o, .slice ra o.attrs.length rc)).take j)) ∧ ((L ++ (atP (o, .slice ra o.attrs.length rc)).take j).length = 0 → v = .slice none 0 0) ∧ v.ownBlock ≠ some ob ∧ wx.heap[ob]? = some (.cells #[.int .i64 o.kind, .int .i64 o.n, .string o.text, .slice ra o.attrs.length rc] 40 (0, 0)) ∧ Below W1.heap.size W1 wx) (fun _ i _ => o.n.toNat - (intOf i).toNat)
    case atStart => exact ⟨0, rfl, by simpa using n0, by rw [List.take_zero, List.append_nil]; exact OX.out, by rw [List.take_zero, List.append_nil]; exact HNIL.out, HNE.out, HBX.out, BX.out⟩
    case round =>
     obtain ⟨j, rfl, hj, hown, hnil, hne, hbx, hb⟩ := hrel; have hcr : (atP (o, .slice ra o.attrs.length rc)).length = o.n.toNat := by rw [HAP.out, List.length_replicate]
     obtain ⟨M, hM⟩ : ∃ M, M = L ++ (atP (o, .slice ra o.attrs.length rc)).take j := ⟨_, rfl⟩; rw [← hM] at hown hnil; obtain ⟨oa2, oc2, rfl⟩ := own_slice hown; obtain ⟨d0, d1, d2, d3⟩ := cells4T hbx; have hbl : ob < wr.heap.size := lt_of_heap hbx
     by_cases hjl : (j : Int) < o.n
     ·have hjn : j < o.n.toNat := by omega
      have hnx : L ++ (atP (o, .slice ra o.attrs.length rc)).take (j + 1) = M ++ [((⟨o.kind, 1, ⟨#[]⟩, o.attrs⟩ : OpD), Value.slice ra o.attrs.length rc)] := by
       rw [List.take_succ_eq_append_getElem (by rw [hcr]; exact hjn), ← List.append_assoc, ← hM]
       congr 2
       simp only [HAP.out, List.getElem_replicate]
      have hml : M.length + 1 ≤ 60000 := by
       have h1 := congrArg List.length hnx; have h2 := HCL.out; simp only [List.length_append, List.length_take, List.length_singleton] at h1 h2; omega
      have HNX := hid hnx; have HNE2 := hid hne; have hox := own_if ob hown hnil; obtain ⟨bb, hbb⟩ : ∃ bb, bb = (if M.length = 0 then ob + 1 else W1.heap.size) := ⟨_, rfl⟩; have hb0 : W1.heap.size ≤ bb := by rw [hbb]; split <;> omega
      have hb1 : bb ≤ wr.heap.size := by have := hb.size; rw [hbb]; split <;> omega
      rw [← hbb] at hox; have HOX := hid hox; have HBB := hid hbb; clear hox hbb; have HOX0 := hid hown; have HBX' := hid hbx; have HBW := hid hb; have hsx := hb.size; clear hnx hne hown hnil hb hbx hM hcr d2; go_wp2_with (first | (at_builtin; refine wpList_append_own _ rfl (.tmp 60) (.tmp 66) 22 rfl bb 40 i0 (.agg #[.int .i64 0, .int .i64 0, .string ⟨#[]⟩, .slice none 0 0]) 4 56 Try.underlying22 Hi.out.1 Hi.out.2.1 Hi.out.2.2.1 Hi.out.2.2.2 rfl (by decide) (.slice oa2 M.length oc2) M.length (flatO M) rfl (HOX.out.alloc _) ⟨wr.heap.size, 0, none⟩ 1 1 [.int .i64 o.kind, .int .i64 1, .string ⟨#[]⟩, .slice ra o.attrs.length rc] rfl rfl (new_at4 _ _ _ _ _ _) (fun u hu => by simp at hu; rcases hu with rfl | rfl | rfl | rfl <;> rfl) (by unfold maxLen; omega) (by omega) (by simp; omega) ?_))
      intro v' wC oC gC _; have B1 := hid ((HBW.out.alloc (by exact HBW.out.size) _).grown gC (by simp; omega) (fun k hk => (HOX0.out.lt k hk).1)); have hobA : (wr.alloc (.cells #[.int .i64 o.kind, .int .i64 1, .string ⟨#[]⟩, .slice ra o.attrs.length rc] 40)).heap[ob]? = some (.cells #[.int .i64 o.kind, .int .i64 o.n, .string o.text, .slice ra o.attrs.length rc] 40 (0, 0)) := (Below.heap_alloc _ _ _ hbl).trans HBX'.out; have NC := hid (apart_step hobA HNE2.out gC (by rw [← HBB.out]; exact oC)); have XC := hid ((gC.block ob (by simp; omega) (fun e => HNE2.out e.symm)).trans hobA); have hO := own_base (C := W1.heap.size) oC hb0; rw [flatO_at4 o.kind 1 ⟨#[]⟩ o.attrs] at hO; have OC := hid hO; clear oC gC hO d0 d1 d3; go_wp2_with fail
      go_roundw
      case rel => exact ⟨j + 1, by go_num, by omega, by rw [HNX.out, List.length_append]; exact OC.out, by rw [HNX.out]; simp, NC.out, XC.out, B1.out⟩
      case measure => simp [intOf]; omega
     ·have hkn : (j : Int) = o.n := by omega
      have hM2 : M = atsP (qs.take (n + 1)) := by rw [hM, HCT.out, List.take_of_length_le (by rw [hcr]; omega)]
      have HOX := hid hown; have HNX := hid hnil; have HBX := hid hb; have HM2 := hid hM2; have hwl : IntKind.i64.wrap (f - K - o.n) = f - K - o.n := IntWalk.i64_in _ (by omega); clear hown hb hM hM2 hnil hne hkn hbx; go_wp2_with fail
      go_roundw
      case rel => exact ⟨n + 1, by go_num, by rw [HK3.out, Int.sub_sub], by omega, by rw [← HM2.out]; exact HOX.out, by rw [← HM2.out]; exact HNX.out, HBX.out⟩
      case measure => simp [intOf]; omega
  ·have hkn : n = qs.length := by omega
   subst hkn; rw [List.take_length] at hL; have HL := hid hL; have HKF := hid (show kd ((norm ops).take qs.length) = kd (norm ops) by rw [List.take_of_length_le (by rw [← HQS.out, List.length_map]; exact Nat.le_refl _)]); have HOX := hid hown; have HBW := hid hb; have h3 := HOKN.out.2.2.2.2.1; have h2 := kd_nonneg HOKN.out.2.2.2.1; obtain ⟨K, hK⟩ : ∃ K, K = kd (norm ops) := ⟨_, rfl⟩; rw [HKF.out, ← hK]; rw [← hK] at h2 h3; have HKK := hid hK; have HLL := hid (show L.length ≤ 60000 by rw [hL]; exact HLA.out); clear hL hK r0' hown hb hnil; go_wp2_with fail
   go_loopw [3, 10] (fun v i wx => ∃ j : Nat, i = .int .i64 (j : Int) ∧ (j : Int) ≤ f - K ∧ wx.ownsRow W1.heap.size 40 4 v (L ++ List.replicate j keepV).length (flatO (L ++ List.replicate j keepV)) ∧ Below W1.heap.size W1 wx) (fun _ i _ => (f - K).toNat - (intOf i).toNat)
   case atStart => exact ⟨0, rfl, by omega, by rw [List.replicate_zero, List.append_nil]; exact HOX.out, HBW.out⟩
   case round =>
    obtain ⟨j, rfl, hj, hown, hb⟩ := hrel; obtain ⟨M, hM⟩ : ∃ M, M = L ++ List.replicate j keepV := ⟨_, rfl⟩; rw [← hM] at hown; obtain ⟨oa2, oc2, rfl⟩ := own_slice hown
    by_cases hjl : (j : Int) < f - K
    ·have hnx : L ++ List.replicate (j + 1) keepV = M ++ [keepV] := by rw [List.replicate_succ', ← List.append_assoc, ← hM]
     have hml : M.length + 1 ≤ 90000 := by
      have h4 := congrArg List.length hM; have h5 := HLL.out; rw [List.length_append, List.length_replicate] at h4; omega
     have HNX := hid hnx; have HOX := hid hown; have HBW := hid hb; have hsx := hb.size; clear hnx hown hb hM; go_wp2_with (first | (at_builtin; refine wpList_append_own _ rfl (.tmp 77) (.tmp 79) 22 rfl W1.heap.size 40 i0 (.agg #[.int .i64 0, .int .i64 0, .string ⟨#[]⟩, .slice none 0 0]) 4 56 Try.underlying22 Hi.out.1 Hi.out.2.1 Hi.out.2.2.1 Hi.out.2.2.2 rfl (by decide) (.slice oa2 M.length oc2) M.length (flatO M) rfl (HOX.out.alloc _) ⟨wr.heap.size, 0, none⟩ 1 1 [.int .i64 1, .int .i64 1, .string ⟨#[]⟩, .slice none 0 0] rfl rfl (new_at4 _ _ _ _ _ _) (fun u hu => by simp at hu; rcases hu with rfl | rfl | rfl | rfl <;> rfl) (by unfold maxLen; omega) (by omega) (by simp; omega) ?_))
     intro v' wC oC gC _; have B1 := hid ((HBW.out.alloc (by exact HBW.out.size) _).grown gC (by simp; omega) (fun k hk => (HOX.out.lt k hk).1)); have hO := oC; rw [flatO_at4 1 1 ⟨#[]⟩ []] at hO; have OC := hid hO; clear oC gC hO; go_wp2_with fail
     go_roundw
     case rel => exact ⟨j + 1, by go_num, by omega, by rw [HNX.out, List.length_append]; exact OC.out, B1.out⟩
     case measure => simp [intOf]; omega
    ·have hjk : j = (f - K).toNat := by omega
     subst hjk; have HOX := hid hown; have HBW := hid hb; have HM := hid hM; clear hown hb hM; go_wp2_with fail
     go_ret
     have hs0 := B2.out.size; refine ⟨_, rfl, ⟨M, ?_, own_base HOX.out hs0, fun p hp => ?_⟩, B2.out.trans (HBW.out.mono hs0)⟩
     ·rw [HM.out, HL.out, List.map_append, atsP_map, HQS.out, fullA, List.map_append, List.map_replicate, List.map_replicate, HKK.out]
      rfl
     ·rw [HM.out, HL.out] at hp
      rcases List.mem_append.1 hp with hp | hp
      ·obtain ⟨q, hq, hpq⟩ := List.mem_flatMap.1 hp
       have hoq : opE q.1 = 0 := by
        refine HOKN.out.2.2.2.1 _ ?_; rw [← HQS.out]; exact List.mem_map.2 ⟨_, hq, rfl⟩
       obtain ⟨m1, m2⟩ := atP_mem hoq hpq; rw [m1, m2]; exact row_below (own_base (P2.out.2 q hq) BW.out.size) HBW.out
      ·rw [List.eq_of_mem_replicate hp]
       exact World.ownsRow_nil _ _ _ _
end Go.Proofs.Ytchceolbbkhnnaa
