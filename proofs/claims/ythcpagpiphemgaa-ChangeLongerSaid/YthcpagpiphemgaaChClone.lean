/- The program's Clone. -/
import Derived.Test.YthcpagpiphemgaaChNormal
namespace Go.Proofs.Ythcpagpiphemgaa
open Go.RowKit Ch

/-- Operations few and short enough to be copied. -/
def SmallO (ops : List OpD) : Prop := ops.length ≤ 1048576 ∧ ∀ o ∈ ops, o.text.size ≤ 1048576 ∧ SmallA o.attrs
theorem smallO_ok {f : Int} {ops : List OpD} (h : OkC f ops) : SmallO ops := ⟨by have := h.2.2.1; omega, fun o ho => by
  have hv := vop_of h ho
  have := hv.text
  exact ⟨by omega, hv.attrs⟩⟩
def CloneOut (w : World) (f : Int) (ops : List OpD) (e : Ending) (w' : World) : Prop := ∃ v, e = .returned (chAgg f v) ∧ OwnOps w' w.heap.size v ops ∧ Below w.heap.size w w'

set_option maxRecDepth 100000 in
set_option maxHeartbeats 4000000 in
theorem changeClone_any (f : Int) (v : Value) (ops : List OpD) (w : World) (hv : OpRow w v ops) (hz : SmallO ops) :
    Calls Try.prog 21 #[chAgg f v] w (CloneOut w f ops) := by
  obtain ⟨aa, acap, rfl, v1, v2, v3⟩ := hv
  have V3 := Lib.hid v3
  have Hz := Lib.hid hz
  have hn : ops.length ≤ 1048576 := hz.1
  obtain ⟨W, hW⟩ : ∃ W, W = (w.alloc (.cells #[.int .i64 f, .slice aa ops.length acap] 24)).alloc (.cells #[.int .i64 0, .slice none 0 0] 24) := ⟨_, rfl⟩
  have BW := Lib.hid (show Below w.heap.size w W by rw [hW]; exact ((Below.refl _ _).alloc (Nat.le_refl _) _).alloc (by simp) _)
  have r0 : W.heap[w.heap.size + 1]? = some (.cells #[.int .i64 0, .slice none 0 0] 24 (0, 0)) := by
    rw [hW]
    have := heap_new (w.alloc (.cells #[.int .i64 f, .slice aa ops.length acap] 24)) (.cells #[.int .i64 0, .slice none 0 0] 24)
    simpa using this
  have b0 : W.heap[w.heap.size]? = some (.cells #[.int .i64 f, .slice aa ops.length acap] 24 (0, 0)) := by
    rw [hW, Below.heap_alloc _ _ _ (by simp)]
    exact heap_new _ _
  have c0 : W.cell? ⟨w.heap.size, 0, none⟩ = some (.int .i64 f) := (Lib.cell_of_heap b0 0).trans rfl
  have c1 : W.cell? ⟨w.heap.size, 1, none⟩ = some (.slice aa ops.length acap) := (Lib.cell_of_heap b0 1).trans rfl
  have HW := Lib.hid hW
  have HR0 := Lib.hid r0
  have HB0 := Lib.hid b0
  obtain ⟨i0, hi, hz0, hz1, hz2⟩ := info_parts infoOp
  have Hi := Lib.hid (And.intro hi (And.intro hz0 (And.intro hz1 hz2)))
  clear hz hW v1 v2 v3 r0 b0 hi hz0 hz1 hz2
  go_enter Try.func21, Try.ntmps21
  go_wp2_with fail
  rw [← HW.out]
  go_wp2_with fail
  go_loopw [3, 9] (fun x i wr => ∃ (ps : List (OpD × Value)) (oa : Option Addr) (oc : Nat), i = .int .i64 (ps.length : Int) ∧ x = .slice oa ps.length oc ∧ ps.length ≤ ops.length ∧ ps.map (·.1) = ops.take ps.length ∧ OwnP wr w.heap.size (.slice oa ps.length oc) ps ∧ Keep w.heap.size [40] W wr) (fun _ i _ => ops.length - (intOf i).toNat)
  case atStart => exact ⟨[], none, 0, rfl, rfl, Nat.zero_le _, rfl, ⟨World.ownsRow_nil _ _ _ _, fun p hp => by cases hp⟩, Keep.refl _ _ _⟩
  case round =>
    obtain ⟨ps, oa, oc, rfl, rfl, hk, hps, hP, hK⟩ := hrel
    by_cases hlt : ps.length < ops.length
    · have hlt' : (ps.length : Int) < (ops.length : Int) := by omega
      obtain ⟨b, off, rfl, hbl, av, q0, _, x0, x1, x2, x3⟩ := V3.out ps.length hlt
      obtain ⟨z1, z2⟩ := Hz.out.2 _ (List.getElem_mem hlt)
      have htk : ops.take (ps.length + 1) = ops.take ps.length ++ [ops[ps.length]] := List.take_succ_eq_append_getElem hlt
      obtain ⟨o, ho⟩ : ∃ o, o = ops[ps.length] := ⟨_, rfl⟩
      rw [← ho] at q0 x0 x1 x2 z1 z2 htk
      obtain ⟨ar, cr, rfl⟩ := q0.shape
      have BK : Below w.heap.size w wr := BW.out.trans hK.below
      have y0 : wr.cell? ⟨b, off + ps.length * 4, none⟩ = some (.int .i64 o.kind) := (BK.cell (by exact hbl)).trans x0
      have y1 : wr.cell? ⟨b, off + ps.length * 4 + 1, none⟩ = some (.int .i64 o.n) := (BK.cell (by exact hbl)).trans x1
      have y2 : wr.cell? ⟨b, off + ps.length * 4 + 2, none⟩ = some (.string o.text) := (BK.cell (by exact hbl)).trans x2
      have y3 : wr.cell? ⟨b, off + ps.length * 4 + 3, none⟩ = some (.slice ar o.attrs.length cr) := (BK.cell (by exact hbl)).trans x3
      obtain ⟨X, hX⟩ : ∃ X, X = wr.alloc (.cells #[.int .i64 o.kind, .int .i64 o.n, .string o.text, .slice ar o.attrs.length cr] 40) := ⟨_, rfl⟩
      have BX := Lib.hid (show Below wr.heap.size wr X by rw [hX]; exact below_box _ _)
      have hbx : X.heap[wr.heap.size]? = some (.cells #[.int .i64 o.kind, .int .i64 o.n, .string o.text, .slice ar o.attrs.length cr] 40 (0, 0)) := by rw [hX]; exact heap_new _ _
      have d0 : X.cell? ⟨wr.heap.size, 0, none⟩ = some (.int .i64 o.kind) := (Lib.cell_of_heap hbx 0).trans rfl
      have d1 : X.cell? ⟨wr.heap.size, 1, none⟩ = some (.int .i64 o.n) := (Lib.cell_of_heap hbx 1).trans rfl
      have d2 : X.cell? ⟨wr.heap.size, 2, none⟩ = some (.string o.text) := (Lib.cell_of_heap hbx 2).trans rfl
      have d3 : X.cell? ⟨wr.heap.size, 3, none⟩ = some (.slice ar o.attrs.length cr) := (Lib.cell_of_heap hbx 3).trans rfl
      have hxl : wr.heap.size < X.heap.size := lt_of_heap hbx
      have HX := Lib.hid hX
      have HBK := Lib.hid BK
      have HK := Lib.hid hK
      have HP := Lib.hid hP
      have HPS := Lib.hid (show (ps ++ [(o, Value.slice none 0 0)]).map (·.1) = ops.take (ps.length + 1) by rw [List.map_append, hps, htk]; rfl)
      have HNE := Lib.hid (show some wr.heap.size ≠ (Value.slice oa ps.length oc).ownBlock from fun e => by have := (hP.1.lt _ e.symm).2; omega)
      have HZ := Lib.hid (And.intro z1 z2)
      have HQ := Lib.hid (fun W' (hb : Below w.heap.size w W') => cloneAttrs_any (.slice ar o.attrs.length cr) o.attrs W' (q0.below hb) z2)
      have hsz := BK.size
      clear q0 x0 x1 x2 x3 z1 z2 htk ho BK hX hK hP hps hbx
      go_wp2_with fail
      rw [← HX.out]
      go_region_held3 (fun w' => w'.cell? ⟨wr.heap.size, 0, none⟩ = some (.int .i64 o.kind) ∧ w'.cell? ⟨wr.heap.size, 1, none⟩ = some (.int .i64 o.n) ∧ w'.cell? ⟨wr.heap.size, 2, none⟩ = some (.string o.text) ∧ w'.cell? ⟨wr.heap.size, 3, none⟩ = some (.slice ar o.attrs.length cr))
        (first
          | exact ⟨d0, d1, d2, d3⟩
          | exact ⟨(BA.cell (by exact hxl)).trans d0, (BA.cell (by exact hxl)).trans d1, (BA.cell (by exact hxl)).trans d2, (BA.cell (by exact hxl)).trans d3⟩
          | exact ⟨(BB.cell (by exact hxl)).trans d0, (BB.cell (by exact hxl)).trans d1, (BB.cell (by exact hxl)).trans d2, (BB.cell (by exact hxl)).trans d3⟩
          | exact ⟨((BB.alloc BB.size _).cell (by exact hxl)).trans d0, ((BB.alloc BB.size _).cell (by exact hxl)).trans d1, ((BB.alloc BB.size _).cell (by exact hxl)).trans d2, ((BB.alloc BB.size _).cell (by exact hxl)).trans d3⟩
          | exact ⟨k0, k1, k2, k3⟩)
        (first
          | (go_at_call_of 37 (Value.string o.text); refine (clone_any _ _ (by have := HZ.out.1; omega)).mono ?_; rintro e wA ⟨rfl, hbA⟩; have BA : Below X.heap.size X wA := of_drew hbA)
          | (go_at_call 38; refine (HQ.out wA (HBK.out.trans ((BX.out.mono hsz).trans (BA.mono (Nat.le_trans hsz BX.out.size))))).mono ?_; rintro e wB ⟨vB, rfl, oB, hbB⟩; obtain ⟨ab, cb, rfl⟩ := own_slice oB; have BB : Below X.heap.size X wB := BA.trans (hbB.mono BA.size); have BWB : Below wr.heap.size wr wB := BX.out.trans (BB.mono BX.out.size); have PB := HP.out.keep (keep_below (B := w.heap.size) (ts := []) BWB hsz) (by simp) (by simp))
          | (refine step_append_new rfl (.tmp 13) (.tmp 25) 22 rfl 40 i0 (.agg #[.int .i64 0, .int .i64 0, .string ⟨#[]⟩, .slice none 0 0]) 4 56 Try.underlying22 Hi.out.1 Hi.out.2.1 Hi.out.2.2.1 Hi.out.2.2.2 rfl (by decide) w.heap.size (.slice oa ps.length oc) ps.length (flatO ps) rfl (PB.1.alloc _) ⟨wB.heap.size, 0, none⟩ 1 1 [.int .i64 o.kind, .int .i64 o.n, .string o.text, .slice ab o.attrs.length cb] rfl rfl (new_at4 _ _ _ _ _ _) (fun u hu => by simp at hu; rcases hu with rfl | rfl | rfl | rfl <;> rfl) (by unfold maxLen; omega) (by omega) (by have := BWB.size; simp; omega) ?_; intro v' wC oC gC _; have k0 := gC.cell (((BB.alloc BB.size _).cell (by exact hxl)).trans d0) HNE.out; have k1 := gC.cell (((BB.alloc BB.size _).cell (by exact hxl)).trans d1) HNE.out; have k2 := gC.cell (((BB.alloc BB.size _).cell (by exact hxl)).trans d2) HNE.out; have k3 := gC.cell (((BB.alloc BB.size _).cell (by exact hxl)).trans d3) HNE.out))
      obtain ⟨oa', oc', rfl⟩ := own_slice oC
      have KA : Keep w.heap.size [40] wB (wB.alloc (.cells #[.int .i64 o.kind, .int .i64 o.n, .string o.text, .slice ab o.attrs.length cb] 40)) := keep_below (below_box _ _) (by have := BWB.size; omega)
      have KC : Keep w.heap.size [40] _ wC := keep_row (PB.1.alloc _) gC (by simp) (by have := BWB.size; simp; omega)
      have oB2 := (KA.trans KC).own (own_base oB (show w.heap.size ≤ wA.heap.size from by have := BA.size; have := BX.out.size; omega)) (by decide)
      have PC : OwnP wC w.heap.size (.slice oa' (ps.length + 1) oc') (ps ++ [(o, .slice ab o.attrs.length cb)]) := ownP_mk (by rw [flatO_snoc]; exact oC) (fun q hq => (KA.trans KC).own (PB.2 q hq) (by decide)) oB2
      have KK := HK.out.trans ((keep_below (B := w.heap.size) BWB hsz).trans (KA.trans KC))
      have HPC := Lib.hid PC
      have HKK := Lib.hid KK
      clear KA KC oB2 PC KK oC gC PB BWB BB BA oB hbB hbA k0 k1 k2 k3 d0 d1 d2 d3 y0 y1 y2 y3
      go_wp2_with fail
      go_roundw
      case rel => exact ⟨ps ++ [(o, .slice ab o.attrs.length cb)], oa', oc', by simp, by simp, by simp; omega, by have := HPS.out; simp at this ⊢; exact this, by rw [List.length_append, List.length_singleton]; exact HPC.out, HKK.out⟩
      case measure => simp [intOf]; omega
    · have hkn : ps.length = ops.length := by omega
      rw [hkn, List.take_length] at hps
      have HPS := Lib.hid hps
      have b1 := hK.kept _ _ _ _ HB0.out (by decide)
      have r1 := hK.kept _ _ _ _ HR0.out (by decide)
      have e0 : wr.cell? ⟨w.heap.size, 0, none⟩ = some (.int .i64 f) := (Lib.cell_of_heap b1 0).trans rfl
      have e1 : wr.cell? ⟨w.heap.size + 1, 0, none⟩ = some (.int .i64 0) := (Lib.cell_of_heap r1 0).trans rfl
      have e2 : wr.cell? ⟨w.heap.size + 1, 1, none⟩ = some (.slice none 0 0) := (Lib.cell_of_heap r1 1).trans rfl
      have e3 : wr.frozen? ⟨w.heap.size + 1, 0, none⟩ = false := Lib.frozen_of_heap r1 0
      have e4 : wr.frozen? ⟨w.heap.size + 1, 1, none⟩ = false := Lib.frozen_of_heap r1 1
      have t1 : decide ((ps.length : Int) < (ops.length : Int)) = false := decide_eq_false (by omega)
      have t2 : decide (ps.length < ops.length) = false := decide_eq_false (by omega)
      have S1 : Keep w.heap.size [24] wr (wr.setCell ⟨w.heap.size + 1, 0, none⟩ (.int .i64 f)) := keep_set r1 (by simp) (Nat.le_succ _) _ rfl _
      have rB := nblk_set (j := 0) (u := .int .i64 f) r1
      have S2 : Keep w.heap.size [24] _ ((wr.setCell ⟨w.heap.size + 1, 0, none⟩ (.int .i64 f)).setCell ⟨w.heap.size + 1, 1, none⟩ (.slice oa ps.length oc)) := keep_set rB (by simp) (Nat.le_succ _) _ rfl _
      have HRC := Lib.hid (nblk_set (j := 1) (u := .slice oa ps.length oc) rB)
      have HPZ := Lib.hid (hP.keep (S1.trans S2) (by decide) (by decide))
      have HKZ := Lib.hid (BW.out.trans (hK.below.trans (S1.trans S2).below))
      clear hP hK hps b1 r1 S1 S2 rB hkn hk hlt c0 c1
      go_wp2_with fail
      have z0 := (Lib.cell_of_heap HRC.out 0)
      have z1 := (Lib.cell_of_heap HRC.out 1)
      exact bodyPost_ret (v := chAgg f (.slice oa ps.length oc)) (by simp [results, Try.results21, go_sem, z0, z1]) rfl ⟨_, rfl, ⟨ps, HPS.out, HPZ.out⟩, HKZ.out⟩
end Go.Proofs.Ythcpagpiphemgaa
