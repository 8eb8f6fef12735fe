/- Texts of this seat, put together: Dj. -/
import Derived.Test.YtgalhfnejhboaaaDoorGF1
/- The program's Inverse: the changeset that brings a document back. -/
namespace Go.Proofs.YtgalhfnejhboaaaDoor
open Go.RowKit Go.Shelf Rn Ch At
attribute [local go_sem] Oper.semAt_some

abbrev TI : List TypeId := [50, 89, 5, 48, 27, 25]
structure StI (B : Nat) (w0 : World) (ys : List MD) (nv : Value) (rs : List RP) (bd bb lb q4 : Nat) (k : Nat) (W : World) : Prop where
  below : Below B w0 W
  row : ∃ ov, NSt W B bd ov (invS ys k).1 (invS ys k).2
  rem : ∃ L C, RemSt 43 invertR invertE W B bb L C
  laid : Boxed W lb WAYT (.func (.func 61) #[] (capR bb))
  now : OwnR W B nv rs
  r4 : W.heap[q4]? = some (.cells #[.int .i64 0, .slice none 0 0] 25 (0, 0))
  r5 : Boxed W (q4 + 1) 27 (.int .i64 0)
theorem OwnR.stepD {w w' : World} {B C N : Nat} {own : List Nat} {v : Value} {rs : List RP} {ts : List TypeId} (h : OwnR w B v rs) (hs : Step C N ts own w w') (h1 : 54 ∉ ts) (h2 : 52 ∉ ts) : OwnR w' B v rs :=
  h.cells (fun _ _ _ hi => hs.cells _ _ _ _ hi (.inl h1)) (fun _ _ _ hi => hs.cells _ _ _ _ hi (.inl h2))
theorem StI.step {B N : Nat} {own : List Nat} {w0 W W' : World} {ys : List MD} {nv : Value} {rs : List RP} {bd bb lb q4 k : Nat} (h : StI B w0 ys nv rs bd bb lb q4 k W) (hs : Step B N WT own W W') : StI B w0 ys nv rs bd bb lb q4 k W' :=
  { below := h.below.trans hs.below
    row := by obtain ⟨ov, h⟩ := h.row; exact ⟨ov, h.step hs (by decide) (by decide) (by decide) (by decide)⟩
    rem := by obtain ⟨L, C, h⟩ := h.rem; exact ⟨L, C, h.step hs (by decide) (by decide) (by decide) (by decide)⟩
    laid := hs.cells _ _ _ _ h.laid (.inl (by decide))
    now := h.now.stepD hs (by decide) (by decide)
    r4 := hs.cells _ _ _ _ h.r4 (.inl (by decide))
    r5 := hs.cells _ _ _ _ h.r5 (.inl (by decide)) }
/-- One more, put by Add. -/
theorem StI.next {B : Nat} {w0 W W' : World} {ys : List MD} {nv : Value} {rs : List RP} {bd bb lb q4 k : Nat} {ov ov' : Value} {o : OpD} (h : StI B w0 ys nv rs bd bb lb q4 k W) (hk : k < ys.length) (ho : backOne ys[k] = o) (h' : NSt W' B bd ov' (addG (invS ys k) o).1 (addG (invS ys k) o).2) (hK : KeepO B W W' ov ov') : StI B w0 ys nv rs bd bb lb q4 (k + 1) W' :=
  { below := h.below.trans hK.keep.below
    row := ⟨ov', by rw [invS_succ hk, ho]; exact h'⟩
    rem := by obtain ⟨L, C, h⟩ := h.rem; exact ⟨L, C, h.keep hK.keep (by decide) (by decide) (by decide) (by decide)⟩
    laid := hK.keep.kept _ _ _ _ h.laid (by decide)
    now := h.now.keep hK.keep (by decide) (by decide)
    r4 := hK.keep.kept _ _ _ _ h.r4 (by decide)
    r5 := hK.keep.kept _ _ _ _ h.r5 (by decide) }
theorem StI.laid' {B bb' : Nat} {w0 W W' : World} {ys : List MD} {nv : Value} {rs : List RP} {bd bb lb q4 k : Nat} {L C : List (K × V)} (h : StI B w0 ys nv rs bd bb lb q4 k W) (hr : RemSt 43 invertR invertE W' B bb L C) (hK : Keep bb' TM W W') (hb : B ≤ bb') (hq : q4 + 1 < bb') : StI B w0 ys nv rs bd bb lb q4 k W' :=
  { below := h.below.trans (hK.mono hb).below
    row := by obtain ⟨ov, h⟩ := h.row; exact ⟨ov, h.keepD hK (by decide) (by decide) (by decide) (by decide)⟩
    rem := ⟨L, C, hr⟩
    laid := hK.kept _ _ _ _ h.laid (by decide)
    now := h.now.keep hK (by decide) (by decide)
    r4 := hK.kept _ _ _ _ h.r4 (by decide)
    r5 := (hK.below.block _ hq).trans h.r5 }

def InvOut (w : World) (B : Nat) (l : List RunD) (f : Int) (ops : List OpD) (e : Ending) (w' : World) : Prop :=
  ∃ v, e = .returned (.tuple #[chAgg (if invE l f ops = 0 then lenN (appL l f ops) else 0) v, .int .i64 (invE l f ops)]) ∧ Below w.heap.size w w' ∧ OwnOps w' B v (if invE l f ops = 0 then invL l ops else [])
theorem ownOps_nil (w : World) (B : Nat) : OwnOps w B (.slice none 0 0) [] := ⟨[], rfl, World.ownsRow_nil _ _ _ _, fun p hp => by cases hp⟩
theorem invOut_bad {w w' : World} {B : Nat} {l : List RunD} {f E : Int} {ops : List OpD} (h : invE l f ops = E) (hE : E ≠ 0) (hb : Below w.heap.size w w') : InvOut w B l f ops (.returned (.tuple #[.agg #[.int .i64 0, .slice none 0 0], .int .i64 E])) w' :=
  ⟨.slice none 0 0, by rw [h, if_neg hE], hb, by rw [h, if_neg hE]; exact ownOps_nil _ _⟩
theorem rsized_app (l : List RunD) (f : Int) (ops : List OpD) (h : appE l f ops = 0) : RSized (appL l f ops) := by
  have hd := docF_of (appF_of h).right
  intro r hr
  have h1 := (hd.oks r hr).rns
  have h2 := (txt_len (rns r)).2
  refine ⟨?_, sized_rgt (hd.rgt r hr)⟩
  rw [h1.2.1, T_size]
  unfold maxLen
  omega

set_option maxRecDepth 100000 in
set_option maxHeartbeats 8000000 in
theorem inverse_any (v ov : Value) (ps : List RP) (f : Int) (ops : List OpD) (w : World) (hv : RunRow w v ps) (hz : RSized (ps.map (·.1))) (hc : OpRow w ov ops) (hpr : Proper ov) (hy : OSized ops) (hU : U8s w.heap.size w) :
    Calls Tryd.prog 14 #[v, chAgg f ov] w (InvOut w w.heap.size (ps.map (·.1)) f ops) := by
  have hB : w.heap.size ≤ w.heap.size := Nat.le_refl _
  have HV := Lib.hid hv
  have HC := Lib.hid hc
  have HPR := Lib.hid hpr
  have HU := Lib.hid hU
  have HAP := Lib.hid (fun W (h : Below w.heap.size w W) => (apply_any v ov ps f ops W (hv.below h) hz (hc.below h) hpr hy ⟨Nat.lt_of_lt_of_le hU.1 h.size, Nat.lt_of_lt_of_le hU.2.1 h.size, (hU.to h).2.2⟩))
  obtain ⟨l, hl⟩ : ∃ l, l = ps.map (·.1) := ⟨_, rfl⟩
  simp only [← hl] at HAP
  rw [← hl]
  have HLL := Lib.hid hl
  obtain ⟨qs, hqs, hops, hqa⟩ := opRow_cells hc hpr
  obtain ⟨oa, oc, rfl, _⟩ := id hops
  have HQS := Lib.hid hqs
  have HOPS := Lib.hid hops
  have HQA := Lib.hid hqa
  obtain ⟨a, cap, rfl⟩ := hv.shape
  clear hv hz hc hpr hy hU hl hqs hops hqa
  refine (callsIn_wide (n := 0)).1 (callsIn_of_wp_marks Tryd.func14 rfl trivial ?_ rfl)
  simp only [Tryd.ntmps14, List.size_toArray, List.length_cons, List.length_nil, Nat.reduceAdd, Nat.reduceSub, Array.replicate_succ, Array.replicate_zero, List.push_toArray, List.append_toArray, List.nil_append, List.cons_append]
  gi_wp2
  obtain ⟨X, hX⟩ : ∃ X, X = ((w.alloc (.cells #[.int .i64 f, .slice oa qs.length oc] 25)).alloc (.cells #[.int .i64 0, .slice none 0 0] 25)).alloc (.cells #[.int .i64 0] 27) := ⟨_, rfl⟩
  rw [← hX]
  have BX : Below w.heap.size w X := by rw [hX]; exact (((Below.refl _ w).alloc (Nat.le_refl _) _).alloc (by simp) _).alloc (by simp; omega) _
  have sX : X.heap.size = w.heap.size + 3 := by rw [hX]; simp
  have x0 : X.heap[w.heap.size]? = some (.cells #[.int .i64 f, .slice oa qs.length oc] 25 (0, 0)) := by
    rw [hX, Below.heap_alloc _ _ _ (by simp; omega), Below.heap_alloc _ _ _ (by simp)]; exact heap_new _ _
  have x1 : X.heap[w.heap.size + 1]? = some (.cells #[.int .i64 0, .slice none 0 0] 25 (0, 0)) := by
    rw [hX, Below.heap_alloc _ _ _ (by simp)]
    have := heap_new (w.alloc (.cells #[.int .i64 f, .slice oa qs.length oc] 25)) (.cells #[.int .i64 0, .slice none 0 0] 25)
    rwa [World.size_alloc] at this
  have x2 : Boxed X (w.heap.size + 1 + 1) 27 (.int .i64 0) := by
    rw [hX]
    have := Boxed.new ((w.alloc (.cells #[.int .i64 f, .slice oa qs.length oc] 25)).alloc (.cells #[.int .i64 0, .slice none 0 0] 25)) 27 (.int .i64 0)
    simpa only [World.size_alloc] using this
  have HBX := Lib.hid BX
  have HAP1 := Lib.hid (HAP.out X BX)
  have hlt : w.heap.size + 3 ≤ X.heap.size := by omega
  clear hX BX sX HAP
  refine ⟨trivial, rfl, (callsIn_wide.2 HAP1.out).mono ?_⟩
  rintro e w1 ⟨nv, rfl, hb1, rs, hrs, hown⟩
  have hk1 : ∀ {i : Nat} {o : Obj}, X.heap[i]? = some o → w1.heap[i]? = some o := fun hi => (hb1.block _ (lt_of_heap hi)).trans hi
  have y0 : w1.heap[w.heap.size]? = some (.cells #[.int .i64 f, .slice oa qs.length oc] 25 (0, 0)) := hk1 x0
  have y1 : w1.heap[w.heap.size + 1]? = some (.cells #[.int .i64 0, .slice none 0 0] 25 (0, 0)) := hk1 x1
  have y2 : Boxed w1 (w.heap.size + 1 + 1) 27 (.int .i64 0) := hk1 x2
  have s1 := hb1.size
  have HB1 := Lib.hid (HBX.out.trans (hb1.mono HBX.out.size))
  have HRS := Lib.hid hrs
  obtain ⟨na, nc, rfl⟩ := own_slice hown.1
  have HNO := Lib.hid (hown.base HBX.out.size)
  clear hk1 hb1 x0 x1 x2 hrs hown HAP1
  by_cases hE : appE l f ops = 0
  · have tE : (appE l f ops != 0) = false := by rw [hE]; rfl
    have HAF := Lib.hid (appF_of hE)
    have HFF := Lib.hid (fit_facts (appF_of hE).fit)
    have HE0 := Lib.hid hE
    clear hE
    have HREM := Lib.hid (remembered_i w.heap.size w1)
    gi_wp2
    refine ⟨trivial, rfl, (callsIn_wide.2 HREM.out).mono ?_⟩
    rintro e w2 ⟨rfl, hb2, hrem⟩
    have s2 := hb2.size
    have hk2 : ∀ {i : Nat} {o : Obj}, w1.heap[i]? = some o → w2.heap[i]? = some o := fun hi => (hb2.block _ (lt_of_heap hi)).trans hi
    have y0 := hk2 y0
    have y1 := hk2 y1
    have y2 : Boxed w2 (w.heap.size + 1 + 1) 27 (.int .i64 0) := hk2 y2
    have HB2 := Lib.hid (HB1.out.trans (hb2.mono HB1.out.size))
    have HN2 := Lib.hid (HNO.out.cells (fun _ _ _ hi => hk2 hi) (fun _ _ _ hi => hk2 hi))
    clear hk2 hb2 HREM
    have HRM := Lib.hid hrem
    clear hrem
    have z0 : w2.cell? ⟨w.heap.size, 1, none⟩ = some (.slice oa qs.length oc) := by rw [Lib.cell_of_heap y0]; rfl
    have l0 := lt_of_heap y0
    have HY := Lib.hid (And.intro y0 (And.intro y1 y2))
    clear y0 y1 y2
    gi_wp2
    refine ⟨trivial, rfl, (callsIn_wide.2 (met_any _ _ _ _ _ _ _)).mono ?_⟩
    rintro e w3 ⟨rfl, rfl⟩
    simp only [World.size_alloc]
    obtain ⟨Y, hY⟩ : ∃ Y, Y = ((((w2.alloc (.cells #[.func (.func 61) #[] (capR w1.heap.size)] 59)).alloc (.cells #[.slice none 0 0, .pointer none, .slice none 0 0, .int .i64 0] 89)).alloc (.cells #[.slice a ps.length cap] 22)).alloc (.cells #[.slice oa qs.length oc] 23)).alloc (.cells #[.int .i64 1, .int .i64 20000, .string ⟨#[]⟩, .slice none 0 0] 50) := ⟨_, rfl⟩
    rw [← hY]
    have sY : Y.heap.size = w2.heap.size + 5 := by rw [hY]; simp
    have BY : Below w2.heap.size w2 Y := by rw [hY]; exact (((((Below.refl _ w2).alloc (Nat.le_refl _) _).alloc (by simp) _).alloc (by simp; omega) _).alloc (by simp; omega) _).alloc (by simp; omega) _
    have b0 : Boxed Y w2.heap.size WAYT (.func (.func 61) #[] (capR w1.heap.size)) := by
      rw [hY]; exact ((((Boxed.new w2 _ _).alloc _).alloc _).alloc _).alloc _
    have b1 : Y.heap[w2.heap.size + 1]? = some (.cells #[.slice none 0 0, .pointer none, .slice none 0 0, .int .i64 0] 89 (0, 0)) := by
      rw [hY, Below.heap_alloc _ _ _ (by simp <;> omega), Below.heap_alloc _ _ _ (by simp <;> omega), Below.heap_alloc _ _ _ (by simp)]
      have := heap_new (w2.alloc (.cells #[.func (.func 61) #[] (capR w1.heap.size)] 59)) (.cells #[.slice none 0 0, .pointer none, .slice none 0 0, .int .i64 0] 89)
      rwa [World.size_alloc] at this
    have b2 : Boxed Y (w2.heap.size + 1 + 1) 22 (.slice a ps.length cap) := by
      rw [hY]
      have := ((Boxed.new ((w2.alloc (.cells #[.func (.func 61) #[] (capR w1.heap.size)] 59)).alloc (.cells #[.slice none 0 0, .pointer none, .slice none 0 0, .int .i64 0] 89)) 22 (.slice a ps.length cap)).alloc (.cells #[.slice oa qs.length oc] 23)).alloc (.cells #[.int .i64 1, .int .i64 20000, .string ⟨#[]⟩, .slice none 0 0] 50)
      simpa only [World.size_alloc] using this
    have b3 : Boxed Y (w2.heap.size + 1 + 1 + 1) 23 (.slice oa qs.length oc) := by
      rw [hY]
      have := (Boxed.new (((w2.alloc (.cells #[.func (.func 61) #[] (capR w1.heap.size)] 59)).alloc (.cells #[.slice none 0 0, .pointer none, .slice none 0 0, .int .i64 0] 89)).alloc (.cells #[.slice a ps.length cap] 22)) 23 (.slice oa qs.length oc)).alloc (.cells #[.int .i64 1, .int .i64 20000, .string ⟨#[]⟩, .slice none 0 0] 50)
      simpa only [World.size_alloc] using this
    have b4 : Y.heap[w2.heap.size + 1 + 1 + 1 + 1]? = some (.cells #[.int .i64 1, .int .i64 20000, .string ⟨#[]⟩, .slice none 0 0] 50 (0, 0)) := by
      rw [hY]
      have := heap_new ((((w2.alloc (.cells #[.func (.func 61) #[] (capR w1.heap.size)] 59)).alloc (.cells #[.slice none 0 0, .pointer none, .slice none 0 0, .int .i64 0] 89)).alloc (.cells #[.slice a ps.length cap] 22)).alloc (.cells #[.slice oa qs.length oc] 23)) (.cells #[.int .i64 1, .int .i64 20000, .string ⟨#[]⟩, .slice none 0 0] 50)
      simpa only [World.size_alloc] using this
    have hbY : Below w.heap.size w2 Y := BY.mono (by omega)
    have BWY := HB2.out.trans hbY
    have ys0 : StI w.heap.size w (metC (ops ++ [restQ.1]) (cellsD l)) (.slice na rs.length nc) rs (w2.heap.size + 1) w1.heap.size w2.heap.size (w.heap.size + 1) 0 Y :=
      { below := BWY
        row := ⟨_, nst_new b1⟩
        rem := ⟨[], [], HRM.out.keep (keep_below (ts := []) BY (by omega)) (by simp) (by simp) (by simp) (by simp)⟩
        laid := b0
        now := HN2.out.keep (keep_below (ts := []) BY (by omega)) (by simp) (by simp)
        r4 := (BY.block _ (by omega)).trans HY.out.2.1
        r5 := (BY.block _ (by omega)).trans HY.out.2.2 }
    have HYS0 := Lib.hid ys0
    have HBS := Lib.hid (And.intro b2 (And.intro b3 b4))
    have HBY := Lib.hid BWY
    clear ys0 b0 b1 b2 b3 b4 hY BY hbY BWY
    have hn2 : w.heap.size + 3 ≤ w1.heap.size := by omega
    have hw1 : w1.heap.size ≤ w2.heap.size := s2
    have hB1 : w.heap.size ≤ w1.heap.size := by omega
    clear z0 l0 s1 hlt y0 y1 y2 HB1 HBX HRM HY HN2 HNO
    generalize w2.heap.size = n2 at sY HYS0 HBS s2 hw1
    generalize w1.heap.size = bb at HYS0 s2 hn2 hw1 hB1
    gi_wp2
    obtain ⟨ys, hys⟩ : ∃ ys, ys = metC (ops ++ [restQ.1]) (cellsD l) := ⟨_, rfl⟩
    obtain ⟨xs, hxs⟩ : ∃ xs, xs = metL (qs ++ [restQ]) (ps, 0) := ⟨_, rfl⟩
    rw [← hys] at HYS0
    have hOK : ∀ p ∈ ps, OkR p.1 := fun p hp => (HFF.out.runs p.1 (by rw [HLL.out]; exact List.mem_map.2 ⟨p, hp, rfl⟩)).1
    have hPL : Place (ps, 0) := by
      cases hps : ps with
      | nil => exact .inl ⟨rfl, rfl⟩
      | cons p r => exact .inr ⟨p, r, rfl, List.length_pos_iff.2 (hOK p (by rw [hps]; exact List.mem_cons_self ..)).rns.2.2.1⟩
    have hxy : xs.map pmet = ys := by
      rw [hxs, hys, metL_plain _ _ hPL hOK, List.map_append, HQS.out]
      congr 1
      unfold rem
      rw [List.drop_zero, cellsD_of, ← HLL.out]
    have hlen : ys.length = xs.length := by rw [← hxy, List.length_map]
    have hq : ∀ q ∈ qs, (q.1.kind = 2 → OkR ⟨q.1.text, q.1.attrs⟩) ∧ q.1.n ≤ 1073741824 := fun q hq => by
      have hm : q.1 ∈ ops := by rw [← HQS.out]; exact List.mem_map.2 ⟨q, hq, rfl⟩
      refine ⟨fun hk => ?_, by have := (HFF.out.num _ hm).2; omega⟩
      have h1 := (opE_put hk).1 (HFF.out.all _ hm)
      refine (okR_of h1.2.2.1 ?_).1
      intro h0
      obtain ⟨cs, hr, hc⟩ := er_zero h1.2.2.1
      rw [h0] at hc
      have : cs = [] := List.length_eq_zero_iff.1 (by omega)
      subst this
      have := (rd_some hr).2.1
      exact h1.2.1 (by rw [size_data, this]; rfl)
    have hql : qs.length ≤ 2000 := by
      have := HFF.out.olen
      rw [← HQS.out, List.length_map] at this
      exact this
    have hit := met_iter w.heap.size (n2 + 1 + 1) (n2 + 1 + 1 + 1) (n2 + 1 + 1 + 1 + 1) a ps.length cap oa oc ps qs TI (KpG (n2 + 1)) (FrG (n2 + 1)) (kpG_ok _) (by decide) (by decide) (by decide) (by decide) (by decide) (fun hs h => frG_step hs h) (fun hk hi he hf => hk _ _ _ _ hi he hf) hql hq
    rw [← hxs] at hit
    have HVL := Lib.hid (fun k (hk : k < xs.length) W' (hb : Below w.heap.size w W') => met_vals (qs := qs) (ps := ps) (fun w' h q hq => (HQA.out q hq).below h) (fun w' h p hp => (HV.out.2 p hp).below h) (by rw [← hxs]; exact List.getElem_mem hk) W' hb)
    have HAT := Lib.hid (fun k (hk : k < ys.length) => metD_attrs HFF.out (y := ys[k]) (by rw [← hys]; exact List.getElem_mem hk))
    have HMO := Lib.hid (fun k (hk : k < ys.length) => met_ok HAF.out ys[k] (by show _ ∈ metC (ops ++ [restQ.1]) (cellsD l); rw [← hys]; exact List.getElem_mem hk))
    have HXY := Lib.hid hxy
    have HYL := Lib.hid (show ys.length ≤ 60000 by rw [hys]; exact metD_len HFF.out)
    have HYE := Lib.hid hys
    have HLN := Lib.hid hlen
    clear hq hPL hxy hys hxs hlen
    refine range_it hit rfl (enters_of Tryd.func66 (by kernel_rfl) rfl) (fun _ => rfl) (by omega) ?hS (kpG_ok _).trans (kpG_ok _).put
      (fun k W' => StI w.heap.size w ys (.slice na rs.length nc) rs (n2 + 1) bb n2 (w.heap.size + 1) k W') (fun c k W' => False)
      (fun _ _ _ h hs => h.step hs) (fun _ _ _ _ h hs => h) ?hFr HYS0.out ?rnd ?done ?stop (fun _ _ _ _ => trivial)
    case hS =>
      intro W hb
      have hk : ∀ {i : Nat} {o : Obj}, Y.heap[i]? = some o → W.heap[i]? = some o := fun hi => (hb.block _ (lt_of_heap hi)).trans hi
      have hbB := HBY.out.trans (hb.mono (show w.heap.size ≤ Y.heap.size by omega))
      exact ⟨hk HBS.out.1, hk HBS.out.2.1, hk HBS.out.2.2, fun w' hw => HV.out.below (hbB.trans hw), fun w' hw => HOPS.out.below (hbB.trans hw), fun w' hw q hq => (HQA.out q hq).below (hbB.trans hw), hOK, HU.out.to hbB⟩
    case hFr =>
      intro k A i h hi
      obtain ⟨ov, h⟩ := h.row
      exact frG_new h hi
    case stop =>
      rintro D c k W hle hk hx hD
      exact hx.elim
    case done =>
      rintro D W hle hI _ hD
      rw [← HLN.out] at hI
      have hsm := invS_sm ys ys.length (Nat.le_refl _)
      have hyl := HYL.out
      obtain ⟨hf0, hf1, hf2⟩ := hsm.fin (by omega) (by omega) (by omega)
      obtain ⟨dv, hd⟩ := hI.row
      have HLE := Lib.hid (length_any (.slice na rs.length nc) rs W hI.now.row (by rw [HRS.out]; exact rsized_app l f ops HE0.out))
      rw [HRS.out] at HLE
      have HCH := Lib.hid (fun W' (h : Below W.heap.size W W') => changeG_any w.heap.size (n2 + 1) dv (invS ys ys.length) (lenN (appL l f ops)) W' (hd.below h) (by omega) hf0 hf1 hf2)
      have HI := Lib.hid hI
      have HD := Lib.hid hD
      have HDD := Lib.hid hd
      have hsz := hI.below.size
      clear hI hd hD hsm hyl hf0 hf1 hf2
      gi_wp2
      refine ⟨trivial, rfl, (callsIn_wide.2 HLE.out).mono ?_⟩
      rintro e W1 ⟨rfl, hb1⟩
      have HCH1 := Lib.hid (HCH.out W1 hb1)
      have hD1 : W1.heap[D]? = some (.deferred (some [])) := (hb1.block _ (lt_of_heap HD.out)).trans HD.out
      have r4 : W1.heap[w.heap.size + 1]? = some (.cells #[.int .i64 0, .slice none 0 0] 25 (0, 0)) := (hb1.block _ (lt_of_heap HI.out.r4)).trans HI.out.r4
      have r5 : Boxed W1 (w.heap.size + 1 + 1) 27 (.int .i64 0) := (hb1.block _ (lt_of_heap HI.out.r5)).trans HI.out.r5
      have HB3 := Lib.hid (HI.out.below.trans (hb1.mono hsz))
      have HD1 := Lib.hid hD1
      have HR := Lib.hid (And.intro r4 r5)
      have te : (lenE (appL l f ops) != 0) = false := by rw [HAF.out.right]; rfl
      clear hb1 hD1 r4 r5 HI HD HDD HCH HLE
      gi_wp2
      refine ⟨trivial, rfl, (callsIn_wide.2 HCH1.out).mono ?_⟩
      rintro e W2 ⟨cv, rfl, hO, hK⟩
      have hD2 : W2.heap[D]? = some (.deferred (some [])) := hK.all _ _ HD1.out (out_not rfl)
      have r4 : W2.heap[w.heap.size + 1]? = some (.cells #[.int .i64 0, .slice none 0 0] 25 (0, 0)) := hK.kept _ _ _ _ HR.out.1 (by decide)
      have r5 : Boxed W2 (w.heap.size + 1 + 1) 27 (.int .i64 0) := hK.kept _ _ _ _ HR.out.2 (by decide)
      have HB4 := Lib.hid (HB3.out.trans hK.below)
      have HR2 := Lib.hid (And.intro r4 r5)
      have HD2 := Lib.hid hD2
      have hDl := lt_of_heap hD2
      have hinv : chgL (invS ys ys.length) = invL l ops := (invS_all ys).trans (by rw [HYE.out]; rfl)
      rw [hinv] at hO ⊢
      have hie : invE l f ops = if 2000 < (invL l ops).length then 2 else 0 := by unfold invE; rw [if_neg (by rw [HE0.out]; simp)]
      have hif : ∀ {α : Type} (x y : α), (if 2000 < (invL l ops).length then y else x) = if invE l f ops = 0 then x else y := fun x y => by
        rw [hie]
        by_cases h2 : 2000 < (invL l ops).length
        · rw [if_pos h2, if_pos h2, if_neg (by omega)]
        · rw [if_neg h2, if_neg h2, if_pos rfl]
      rw [← hie, hif]
      rw [hif] at hO
      obtain ⟨cps, hcp, hcO⟩ := hO
      obtain ⟨ca, cc, rfl⟩ := own_slice hcO.1
      have HO := Lib.hid (And.intro hcp hcO)
      clear hif hie hinv hK hD2 r4 r5 HR HD1 HCH1 hcp hcO
      have c4 : W2.cell? ⟨w.heap.size + 1, 0, none⟩ = some (.int .i64 0) := (cells2 HR2.out.1).1
      have c4' : W2.cell? ⟨w.heap.size + 1, 1, none⟩ = some (.slice none 0 0) := (cells2 HR2.out.1).2.1
      have f4 : W2.frozen? ⟨w.heap.size + 1, 0, none⟩ = false := (cells2 HR2.out.1).2.2.1
      have f4' : W2.frozen? ⟨w.heap.size + 1, 1, none⟩ = false := (cells2 HR2.out.1).2.2.2
      have c5 := HR2.out.2.cell
      have f5 := HR2.out.2.frozen
      generalize hiE : invE l f ops = iE
      generalize hfr : (if iE = 0 then lenN (appL l f ops) else 0) = fr
      gi_wp2
      obtain ⟨q1, q2, q3⟩ := three_set (.int .i64 fr) (.slice ca cps.length cc) (.int .i64 iE) HR2.out.1 HR2.out.2
      have qD := q3.all _ _ HD2.out (out_not rfl)
      refine ⟨by simp, .inl ⟨_, _, rfl, run_takeDeferred qD, ?_⟩⟩
      have e4 := putObj_cells (o' := .deferred none) qD rfl q1
      have e5 : Boxed _ _ _ _ := putObj_cells (o' := .deferred none) qD rfl q2
      refine ⟨_, results_chg2 rfl rfl rfl (cells2 e4).1 (cells2 e4).2.1 e5.cell, .slice ca cps.length cc, by rw [hiE, hfr], (HB4.out.trans (q3.below.mono (by omega))).trans (below_put (by omega) qD), cps, HO.out.1, ?_⟩
      exact (HO.out.2.keep q3 (by decide) (by decide)).cells (fun _ _ _ hi => putObj_cells qD rfl hi) (fun _ _ _ hi => putObj_cells qD rfl hi)
    case rnd =>
      rintro l' k hk W2 hle hI
      have hky : k < ys.length := by rw [HLN.out]; exact hk
      have hpk : ys[k] = pmet xs[k] := by
        have := HXY.out
        subst this
        exact List.getElem_map ..
      have hvl := HVL.out k hk
      have hat := HAT.out k hky
      have hmo := HMO.out k hky
      obtain ⟨s1, s2'⟩ := (hvl W2 hI.below)
      obtain ⟨va, vc, hva⟩ := s1.shape
      obtain ⟨ua, uc, hua⟩ := s2'.shape
      generalize hyv : ys[k] = yk at hpk hat hmo
      generalize xs[k] = x at hpk hvl hva hua ⊢
      obtain ⟨⟨o, ov⟩, xc, xr, xv⟩ := x
      simp only at hva hua hvl
      subst hva
      subst hua
      simp only [pmet, pcell] at hpk
      subst hpk
      simp only at hat
      have HYV := Lib.hid hyv
      have HKY := Lib.hid hky
      have HVK := Lib.hid hvl
      have HAK := Lib.hid hat
      have HMK := Lib.hid hmo
      have HI := Lib.hid hI
      have hW2 : w.heap.size + 3 ≤ W2.heap.size := by have := hI.r5.lt; omega
      clear hI s1 s2' hvl hat hyv hmo
      gi_wp2
      obtain ⟨W3, hW3⟩ : ∃ W3, W3 = (W2.alloc (.cells #[.int .i64 o.kind, .int .i64 o.n, .string o.text, .slice va o.attrs.length vc] 50)).alloc (.cells #[.string (E xc), .slice ua xr.attrs.length uc] 71) := ⟨_, rfl⟩
      rw [← hW3]
      have B3 : Below W2.heap.size W2 W3 := by rw [hW3]; exact ((Below.refl _ W2).alloc (Nat.le_refl _) _).alloc (by simp) _
      have o3 : W3.heap[W2.heap.size]? = some (.cells #[.int .i64 o.kind, .int .i64 o.n, .string o.text, .slice va o.attrs.length vc] 50 (0, 0)) := by
        rw [hW3, Below.heap_alloc _ _ _ (by simp)]; exact heap_new _ _
      have x3 : W3.heap[W2.heap.size + 1]? = some (.cells #[.string (E xc), .slice ua xr.attrs.length uc] 71 (0, 0)) := by
        rw [hW3]
        have := heap_new (W2.alloc (.cells #[.int .i64 o.kind, .int .i64 o.n, .string o.text, .slice va o.attrs.length vc] 50)) (.cells #[.string (E xc), .slice ua xr.attrs.length uc] 71)
        rwa [World.size_alloc] at this
      have HI3 := HI.out.step (step_below (N := Y.heap.size) (own := []) WT B3 (by omega))
      refine ⟨rnd_below TI B3 (by omega), (kpG_ok _).below B3, HI3, fun W4 hs hsz4 ⟨r4, hr4⟩ => ?_⟩
      have HI4 := Lib.hid (HI3.step (hs.more (own' := []) (fun _ h => by cases h) (fun _ _ h => by cases h) (Nat.le_refl _)))
      have o4 := hs.cells _ _ _ _ o3 (.inl (by simp))
      have x4 := hs.cells _ _ _ _ x3 (.inl (by simp))
      have p0 : W4.cell? ⟨W2.heap.size, 0, none⟩ = some (.int .i64 o.kind) := by simp [World.cell?, o4]
      have p3 : W4.cell? ⟨W2.heap.size, 3, none⟩ = some (.slice va o.attrs.length vc) := by simp [World.cell?, o4]
      have c0 : W4.cell? ⟨W2.heap.size + 1, 0, none⟩ = some (.string (E xc)) := by simp [World.cell?, x4]
      have c1 : W4.cell? ⟨W2.heap.size + 1, 1, none⟩ = some (.slice ua xr.attrs.length uc) := by simp [World.cell?, x4]
      have g0 := HI4.out.laid.cell
      have HX4 := Lib.hid x4
      have sx4 := lt_of_heap x4
      have HSM := Lib.hid (invS_sm ys k (by omega))
      clear hs hsz4 hr4 o4 x4 o3 x3 B3 HI3 hW3
      by_cases k1 : o.kind = 1
      · have t1 : (o.kind == 1) = true := by rw [k1]; rfl
        have HK1 := Lib.hid k1
        obtain ⟨L, C, hrem⟩ := HI4.out.rem
        have HLD := Lib.hid (laid_i w.heap.size bb L C xr.attrs o.attrs (.slice ua xr.attrs.length uc) (.slice va o.attrs.length vc) W4 hrem (by omega) (fun w' hw => (HVK.out w' (HI4.out.below.trans hw)).2) (fun w' hw => (HVK.out w' (HI4.out.below.trans hw)).1) (small_rgt HAK.out.1).sized HAK.out.2.2.sized)
        have hap : applyE xr.attrs o.attrs = 0 := by have := HMK.out.bad; unfold badA at this; rwa [if_pos k1] at this
        obtain ⟨e1, e2, e3, e4⟩ := applyE_zero hap
        obtain ⟨i1, i2⟩ := invertE_mk e1 e2
        have te : (invertE xr.attrs o.attrs != 0) = false := by rw [i1]; rfl
        have HSA := Lib.hid (show SmallA (invertR xr.attrs o.attrs) by rw [i2]; exact small_chg (chgE_zero.2 (chg_invert e1 e2)))
        clear k1 hrem hap e1 e2 e3 e4 i1 i2
        gi_wp2
        refine ⟨trivial, rfl, CallsIn.inRound _ ((callsIn_wide.2 HLD.out).mono ?_)⟩
        rintro e W5 ⟨av, rfl, hrem5, hown5, hk5⟩
        obtain ⟨aa, ac, rfl⟩ := own_slice hown5
        have HI5 := Lib.hid (HI4.out.laid' hrem5 hk5 hB1 (by omega))
        have KP5 := Lib.hid (kpG_keep (bd := n2 + 1) hk5 (by decide) (by decide) (by decide))
        have HK5 := Lib.hid hk5
        have HO5 := Lib.hid hown5
        obtain ⟨dv, hd⟩ := HI5.out.row
        have HAD := Lib.hid (addG_any w.heap.size (n2 + 1) dv (invS ys k) ⟨1, 1, ⟨#[]⟩, invertR xr.attrs o.attrs⟩ (.slice aa (invertR xr.attrs o.attrs).length ac) W5 hd (by omega)
          (HSM.out.fits (by have := HYL.out; omega) (by have := HYL.out; omega) (by have := HYL.out; omega) (by show (0 : Int) ≤ 1; omega) (by show (1 : Int) ≤ _; omega) (by show (0 : Nat) ≤ _; omega) HSA.out) (fun w' hw => row_of_own (hw.own HO5.out (by decide))))
        have HDV := Lib.hid hd
        clear hk5 hrem5 hown5 hd
        gi_wp2
        refine ⟨trivial, rfl, CallsIn.inRound _ ((callsIn_wide.2 HAD.out).mono ?_)⟩
        rintro e W6 ⟨rfl, dv', hd6, hK6⟩
        have hKB := HK5.out.mono hB1
        have HF := Lib.hid (show Rnd w.heap.size Y.heap.size TI W4 W6 ∧ KpG (n2 + 1) W4 W6 ∧ StI w.heap.size w ys (.slice na rs.length nc) rs (n2 + 1) bb n2 (w.heap.size + 1) (k + 1) W6 from
          ⟨((rnd_of_keep hKB).more (by decide) (Nat.le_refl _)).trans ((rnd_of_keep hK6.keep).more (by decide) (Nat.le_refl _)), (kpG_ok _).trans KP5.out (kpG_ops HDV.out hd6 hK6),
            HI5.out.next hky (by rw [HYV.out]; exact (back1 HK1.out).1) hd6 hK6⟩)
        clear hd6 hK6 hKB
        gi_wp2
        exact HF.out
      · have t1 : (o.kind == 1) = false := by rw [beq_eq_false_iff_ne]; exact k1
        by_cases k2 : o.kind = 2
        · have t2 : (o.kind == 2) = true := by rw [k2]; rfl
          have HK2 := Lib.hid k2
          obtain ⟨dv, hd⟩ := HI4.out.row
          have HAD := Lib.hid (addG_any w.heap.size (n2 + 1) dv (invS ys k) ⟨3, 1, ⟨#[]⟩, []⟩ (.slice none 0 0) W4 hd (by omega)
            (HSM.out.fits (by have := HYL.out; omega) (by have := HYL.out; omega) (by have := HYL.out; omega) (by show (0 : Int) ≤ 1; omega) (by show (1 : Int) ≤ _; omega) (by show (0 : Nat) ≤ _; omega) small_nil) (fun w' hw => row_nilC w'))
          have HDV := Lib.hid hd
          clear k1 k2 hd
          gi_wp2
          refine ⟨trivial, rfl, CallsIn.inRound _ ((callsIn_wide.2 HAD.out).mono ?_)⟩
          rintro e W6 ⟨rfl, dv', hd6, hK6⟩
          have HF := Lib.hid (show Rnd w.heap.size Y.heap.size TI W4 W6 ∧ KpG (n2 + 1) W4 W6 ∧ StI w.heap.size w ys (.slice na rs.length nc) rs (n2 + 1) bb n2 (w.heap.size + 1) (k + 1) W6 from
            ⟨(rnd_of_keep hK6.keep).more (by decide) (Nat.le_refl _), kpG_ops HDV.out hd6 hK6,
              HI4.out.next hky (by rw [HYV.out]; exact (back2 HK2.out).1) hd6 hK6⟩)
          clear hd6 hK6
          gi_wp2
          exact HF.out
        · have t2 : (o.kind == 2) = false := by rw [beq_eq_false_iff_ne]; exact k2
          have k3 : o.kind = 3 := by have : o.kind = 1 ∨ o.kind = 2 ∨ o.kind = 3 := HMK.out.kind; omega
          have t3 : (o.kind == 3) = true := by rw [k3]; rfl
          have HKK := Lib.hid (And.intro k1 k2)
          obtain ⟨dv, hd⟩ := HI4.out.row
          have HAD := Lib.hid (addG_any w.heap.size (n2 + 1) dv (invS ys k) ⟨2, 0, E xc, xr.attrs⟩ (.slice ua xr.attrs.length uc) W4 hd (by omega)
            (HSM.out.fits (by have := HYL.out; omega) (by have := HYL.out; omega) (by have := HYL.out; omega) (by show (0 : Int) ≤ 0; omega) (by show (0 : Int) ≤ _; omega) (by have := E_size xc; show (E xc).size ≤ _; omega) (small_rgt HAK.out.1)) (fun w' hw => (HVK.out w' (HI4.out.below.trans hw.below)).2))
          have HDV := Lib.hid hd
          clear k1 k2 k3 hd
          gi_wp2
          refine ⟨trivial, rfl, CallsIn.inRound _ ((callsIn_wide.2 HAD.out).mono ?_)⟩
          rintro e W6 ⟨rfl, dv', hd6, hK6⟩
          have HF := Lib.hid (show Rnd w.heap.size Y.heap.size TI W4 W6 ∧ KpG (n2 + 1) W4 W6 ∧ StI w.heap.size w ys (.slice na rs.length nc) rs (n2 + 1) bb n2 (w.heap.size + 1) (k + 1) W6 from
            ⟨(rnd_of_keep hK6.keep).more (by decide) (Nat.le_refl _), kpG_ops HDV.out hd6 hK6,
              HI4.out.next hky (by rw [HYV.out]; exact (back3 HKK.out.1 HKK.out.2).1) hd6 hK6⟩)
          clear hd6 hK6
          gi_wp2
          exact HF.out
  · have tE : (appE l f ops != 0) = true := by rw [bne_iff_ne]; exact hE
    have HR := Lib.hid (show invE l f ops = appE l f ops by unfold invE; rw [if_pos hE])
    have HNE := Lib.hid hE
    clear hE y0
    have c4 : w1.cell? ⟨w.heap.size + 1, 0, none⟩ = some (.int .i64 0) := (cells2 y1).1
    have c4' : w1.cell? ⟨w.heap.size + 1, 1, none⟩ = some (.slice none 0 0) := (cells2 y1).2.1
    have f4 : w1.frozen? ⟨w.heap.size + 1, 0, none⟩ = false := (cells2 y1).2.2.1
    have f4' : w1.frozen? ⟨w.heap.size + 1, 1, none⟩ = false := (cells2 y1).2.2.2
    have c5 := y2.cell
    have f5 := y2.frozen
    have HY := Lib.hid (And.intro y1 y2)
    clear y1 y2
    gi_wp2
    obtain ⟨q1, q2, q3⟩ := three_set (.int .i64 0) (.slice none 0 0) (.int .i64 (appE l f ops)) HY.out.1 HY.out.2
    exact ⟨_, results_chg2 rfl rfl rfl (cells2 q1).1 (cells2 q1).2.1 q2.cell, invOut_bad HR.out HNE.out (HB1.out.trans (q3.below.mono (by omega)))⟩
end Go.Proofs.YtgalhfnejhboaaaDoor
