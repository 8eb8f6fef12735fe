/- Texts of this seat, put together: Da, Dy, Dz, Dk. -/
import Derived.Test.YtlfodemmdfaeeaaGreatDoorGG0
import Derived.Test.YtlfodemmdfaeeaaGreatDoorGB3
import Derived.Test.YtlfodemmdfaeeaaGreatDoorGC1
import Derived.Test.YtlfodemmdfaeeaaGreatDoorGD0
/- The program's Apply: what a changeset makes of a document. -/
namespace Go.Proofs.YtlfodemmdfaeeaaGreatDoor
open Go.RowKit Go.Shelf Rn Ch At
attribute [local go_sem] Oper.semAt_some

abbrev TA : List TypeId := [77, 49, 5, 35, 27, 22]
structure StA (B : Nat) (w0 : World) (ys : List MD) (bd bb lb q4 : Nat) (k : Nat) (W : World) : Prop where
 below : Below B w0 W
 doc : ∃ ov, DSt W B bd ov (accA (ys.take k))
 rem : ∃ L C, RemSt 14 applyR applyE W B bb L C
 laid : Boxed W lb WAYT (.func (.func 31) #[] (capR bb))
 r4 : Boxed W q4 22 (.slice none 0 0)
 r5 : Boxed W (q4 + 1) 27 (.int .i64 0)
 ok : ∀ i (h : i < ys.length), i < k → badA ys[i] = 0
structure EndA (B : Nat) (w0 : World) (ys : List MD) (q4 : Nat) (k : Nat) (W : World) : Prop where
 below : Below B w0 W
 r4 : Boxed W q4 22 (.slice none 0 0)
 r5 : Boxed W (q4 + 1) 27 (.int .i64 (errA ys))
 bad : errA ys ≠ 0
theorem StA.step {B N : Nat} {own : List Nat} {w0 W W' : World} {ys : List MD} {bd bb lb q4 k : Nat} (h : StA B w0 ys bd bb lb q4 k W) (hs : Step B N WT own W W') : StA B w0 ys bd bb lb q4 k W' :=
 { below := h.below.trans hs.below
   doc := by obtain ⟨ov, h⟩ := h.doc; exact ⟨ov, h.step hs (by decide) (by decide) (by decide) (by decide)⟩
   rem := by obtain ⟨L, C, h⟩ := h.rem; exact ⟨L, C, h.step hs (by decide) (by decide) (by decide) (by decide)⟩
   laid := hs.cells _ _ _ _ h.laid (.inl (by decide))
   r4 := hs.cells _ _ _ _ h.r4 (.inl (by decide))
   r5 := hs.cells _ _ _ _ h.r5 (.inl (by decide))
   ok := h.ok }
theorem EndA.step {B N : Nat} {own : List Nat} {w0 W W' : World} {ys : List MD} {q4 k : Nat} (h : EndA B w0 ys q4 k W) (hs : Step B N WT own W W') : EndA B w0 ys q4 k W' :=
 { below := h.below.trans hs.below
   r4 := hs.cells _ _ _ _ h.r4 (.inl (by decide))
   r5 := hs.cells _ _ _ _ h.r5 (.inl (by decide))
   bad := h.bad }

theorem StA.next {B : Nat} {w0 W W' : World} {ys : List MD} {bd bb lb q4 k : Nat} (h : StA B w0 ys bd bb lb q4 k W) (hk : k < ys.length) (hb : badA ys[k] = 0) (hw : Below B W W') (hd : ∃ ov, DSt W' B bd ov (stepA ys[k] (accA (ys.take k)))) (hr : ∃ L C, RemSt 14 applyR applyE W' B bb L C)
 (hl : Boxed W' lb WAYT (.func (.func 31) #[] (capR bb))) (h4 : Boxed W' q4 22 (.slice none 0 0)) (h5 : Boxed W' (q4 + 1) 27 (.int .i64 0)) : StA B w0 ys bd bb lb q4 (k + 1) W' :=
 { below := h.below.trans hw
   doc := by rw [accA_take hk]; exact hd
   rem := hr
   laid := hl
   r4 := h4
   r5 := h5
   ok := fun i hi hik => by
    rcases Nat.lt_or_ge i k with h' | h'
    ·exact h.ok i hi h'
    ·have : i = k := by omega
     subst this
     exact hb }

/-- What Apply tells of a document and a changeset. -/
def metD (l : List RunD) (ops : List OpD) : List MD := metC (ops ++ [restQ.1]) (cellsD l)
def appE (l : List RunD) (f : Int) (ops : List OpD) : Int := if fitE l f ops ≠ 0 then fitE l f ops else if errA (metD l ops) ≠ 0 then errA (metD l ops) else if 2000 < (accA (metD l ops)).length then 2 else 0
def appL (l : List RunD) (f : Int) (ops : List OpD) : List RunD := if appE l f ops = 0 then (accA (metD l ops)).reverse else []
theorem appE_end {l : List RunD} {f : Int} {ops : List OpD} {ys : List MD} (h : fitE l f ops = 0) (hy : ys = metC (ops ++ [restQ.1]) (cellsD l)) (h0 : errA ys = 0) : appE l f ops = if 2000 < (accA ys).length then 2 else 0 := by
 subst hy
 unfold appE
 rw [if_neg (by rw [h]; simp)]
 unfold metD
 rw [if_neg (by rw [h0]; simp)]
theorem appE_err {l : List RunD} {f : Int} {ops : List OpD} {ys : List MD} (h : fitE l f ops = 0) (hy : ys = metC (ops ++ [restQ.1]) (cellsD l)) (h0 : errA ys ≠ 0) : appE l f ops = errA ys := by
 subst hy
 unfold appE
 rw [if_neg (by rw [h]; simp)]
 unfold metD
 rw [if_pos h0]
theorem appL_end {l : List RunD} {f : Int} {ops : List OpD} {ys : List MD} (h : appE l f ops = 0) (hy : ys = metC (ops ++ [restQ.1]) (cellsD l)) : appL l f ops = (accA ys).reverse := by
 subst hy
 unfold appL metD
 rw [if_pos h]
def ApplyOut (w : World) (B : Nat) (l : List RunD) (f : Int) (ops : List OpD) (e : Ending) (w' : World) : Prop :=
 ∃ v, e = .returned (.tuple #[v, .int .i64 (appE l f ops)]) ∧ Below w.heap.size w w' ∧ ∃ rs : List RP, rs.map (·.1) = appL l f ops ∧ OwnR w' B v rs
theorem applyOut_bad {w w' : World} {B : Nat} {l : List RunD} {f E : Int} {ops : List OpD} (h : appE l f ops = E) (hE : E ≠ 0) (hb : Below w.heap.size w w') : ApplyOut w B l f ops (.returned (.tuple #[.slice none 0 0, .int .i64 E])) w' :=
 ⟨_, by rw [h], hb, [], by unfold appL; rw [if_neg (by rw [h]; exact hE)]; rfl, World.ownsRow_nil _ _ _ _, fun p hp => by cases hp⟩

theorem met_vals {qs : List QV} {ps : List RP} {B : Nat} {w0 : World} (hq : ∀ w', Below B w0 w' → ∀ q ∈ qs, AtRow w' q.2 q.1.attrs) (hp : ∀ w', Below B w0 w' → ∀ p ∈ ps, AtRow w' p.2 p.1.attrs) {y : QV × CellV} (hy : y ∈ metL (qs ++ [restQ]) (ps, 0)) (w' : World) (hb : Below B w0 w') :
 AtRow w' y.1.2 y.1.1.attrs ∧ AtRow w' y.2.2.2 y.2.2.1.attrs := by
 obtain ⟨a, b⟩ := metL_mem hy
 have h1 : AtRow w' y.1.2 y.1.1.attrs := by
  rcases List.mem_append.1 a with a | a
  ·exact hq w' hb _ a
  ·rw [List.mem_singleton.1 a]; exact row_nilC w'
 refine ⟨h1, ?_⟩
 rcases b with b | ⟨_, b⟩
 ·exact hp w' hb _ b
 ·rw [b]; exact h1

set_option maxRecDepth 100000 in
set_option maxHeartbeats 8000000 in
theorem apply_any (v ov : Value) (ps : List RP) (f : Int) (ops : List OpD) (w : World) (hv : RunRow w v ps) (hz : RSized (ps.map (·.1))) (hc : OpRow w ov ops) (hpr : Proper ov) (hy : OSized ops) (hU : U8s w.heap.size w) :
 Calls Tryz.prog 5 #[v, chAgg f ov] w (ApplyOut w w.heap.size (ps.map (·.1)) f ops) := by
 have hB : w.heap.size ≤ w.heap.size := Nat.le_refl _
 have HV := Lib.hid hv
 have HC := Lib.hid hc
 have HPR := Lib.hid hpr
 have HU := Lib.hid hU
 have HFT := Lib.hid (fun W (h : Below w.heap.size w W) => fits_any v ov ps f ops W (hv.below h) hz (hc.below h) hy)
 obtain ⟨l, hl⟩ : ∃ l, l = ps.map (·.1) := ⟨_, rfl⟩
 simp only [← hl] at HFT
 rw [← hl]
 have HLL := Lib.hid hl
 obtain ⟨qs, hqs, hops, hqa⟩ := opRow_cells hc hpr
 obtain ⟨oa, oc, rfl, _⟩ := id hops
 have HQS := Lib.hid hqs
 have HOPS := Lib.hid hops
 have HQA := Lib.hid hqa
 obtain ⟨a, cap, rfl⟩ := hv.shape
 clear hv hz hc hpr hy hU hl hqs hops hqa
 refine (callsIn_wide (n := 0)).1 (callsIn_of_wp_marks Tryz.func5 rfl trivial ?_ rfl)
 simp only [Tryz.ntmps5, List.size_toArray, List.length_cons, List.length_nil, Nat.reduceAdd, Nat.reduceSub, Array.replicate_succ, Array.replicate_zero, List.push_toArray, List.append_toArray, List.nil_append, List.cons_append]
 gi_wp2
 obtain ⟨X, hX⟩ : ∃ X, X = ((w.alloc (.cells #[.int .i64 f, .slice oa qs.length oc] 25)).alloc (.cells #[.slice none 0 0] 22)).alloc (.cells #[.int .i64 0] 27) := ⟨_, rfl⟩
 rw [← hX]
 have BX : Below w.heap.size w X := by rw [hX]; exact (((Below.refl _ w).alloc (Nat.le_refl _) _).alloc (by simp) _).alloc (by simp; omega) _
 have sX : X.heap.size = w.heap.size + 3 := by rw [hX]; simp
 have x0 : X.heap[w.heap.size]? = some (.cells #[.int .i64 f, .slice oa qs.length oc] 25 (0, 0)) := by
  rw [hX, Below.heap_alloc _ _ _ (by simp; omega), Below.heap_alloc _ _ _ (by simp)]; exact heap_new _ _
 have x1 : Boxed X (w.heap.size + 1) 22 (.slice none 0 0) := by
  rw [hX]
  have := (Boxed.new (w.alloc (.cells #[.int .i64 f, .slice oa qs.length oc] 25)) 22 (.slice none 0 0)).alloc (.cells #[.int .i64 0] 27)
  simpa only [World.size_alloc] using this
 have x2 : Boxed X (w.heap.size + 1 + 1) 27 (.int .i64 0) := by
  rw [hX]
  have := Boxed.new ((w.alloc (.cells #[.int .i64 f, .slice oa qs.length oc] 25)).alloc (.cells #[.slice none 0 0] 22)) 27 (.int .i64 0)
  simpa only [World.size_alloc] using this
 have HBX := Lib.hid BX
 have HFT1 := Lib.hid (HFT.out X BX)
 have hlt : w.heap.size + 3 ≤ X.heap.size := by omega
 clear hX BX sX HFT
 refine ⟨trivial, rfl, (callsIn_wide.2 HFT1.out).mono ?_⟩
 rintro e w1 ⟨rfl, hb1⟩
 have hk1 : ∀ {i : Nat} {o : Obj}, X.heap[i]? = some o → w1.heap[i]? = some o := fun hi => (hb1.block _ (lt_of_heap hi)).trans hi
 have y0 : w1.heap[w.heap.size]? = some (.cells #[.int .i64 f, .slice oa qs.length oc] 25 (0, 0)) := hk1 x0
 have y1 : Boxed w1 (w.heap.size + 1) 22 (.slice none 0 0) := hk1 x1
 have y2 : Boxed w1 (w.heap.size + 1 + 1) 27 (.int .i64 0) := hk1 x2
 have s1 := hb1.size
 have HB1 := Lib.hid (HBX.out.trans (hb1.mono HBX.out.size))
 clear hk1 hb1 x0 x1 x2
 by_cases hE : fitE l f ops = 0
 ·have tE : (fitE l f ops != 0) = false := by rw [hE]; rfl
  have HFF := Lib.hid (fit_facts hE)
  have HE0 := Lib.hid hE
  clear hE
  have HREM := Lib.hid (remembered_a w.heap.size w1)
  gi_wp2
  refine ⟨trivial, rfl, (callsIn_wide.2 HREM.out).mono ?_⟩
  rintro e w2 ⟨rfl, hb2, hrem⟩
  have s2 := hb2.size
  have hk2 : ∀ {i : Nat} {o : Obj}, w1.heap[i]? = some o → w2.heap[i]? = some o := fun hi => (hb2.block _ (lt_of_heap hi)).trans hi
  have y0 := hk2 y0
  have y1 : Boxed w2 (w.heap.size + 1) 22 (.slice none 0 0) := hk2 y1
  have y2 : Boxed w2 (w.heap.size + 1 + 1) 27 (.int .i64 0) := hk2 y2
  have HB2 := Lib.hid (HB1.out.trans (hb2.mono HB1.out.size))
  clear hk2 hb2 HREM HFT1
  have HRM := Lib.hid hrem
  clear hrem
  have z0 : w2.cell? ⟨w.heap.size, 1, none⟩ = some (.slice oa qs.length oc) := by rw [Lib.cell_of_heap y0]; rfl
  have l0 := lt_of_heap y0
  have HY := Lib.hid (And.intro y0 (And.intro y1 y2))
  clear y0 y1 y2
  gi_wp2
  refine ⟨trivial, rfl, (callsIn_wide.2 (met_any _ _ _ _ _ _ _)).mono ?_⟩
  rintro e w3 ⟨rfl, rfl⟩
  simp only [World.size_alloc]
  obtain ⟨Y, hY⟩ : ∃ Y, Y = ((((w2.alloc (.cells #[.func (.func 31) #[] (capR w1.heap.size)] 42)).alloc (.cells #[.slice none 0 0, .pointer none, .slice none 0 0] 49)).alloc (.cells #[.slice a ps.length cap] 22)).alloc (.cells #[.slice oa qs.length oc] 23)).alloc (.cells #[.int .i64 1, .int .i64 20000, .string ⟨#[]⟩, .slice none 0 0] 37) := ⟨_, rfl⟩
  rw [← hY]
  have sY : Y.heap.size = w2.heap.size + 5 := by rw [hY]; simp
  have BY : Below w2.heap.size w2 Y := by rw [hY]; exact (((((Below.refl _ w2).alloc (Nat.le_refl _) _).alloc (by simp) _).alloc (by simp; omega) _).alloc (by simp; omega) _).alloc (by simp; omega) _
  have b0 : Boxed Y w2.heap.size WAYT (.func (.func 31) #[] (capR w1.heap.size)) := by
   rw [hY]; exact ((((Boxed.new w2 _ _).alloc _).alloc _).alloc _).alloc _
  have b1 : Y.heap[w2.heap.size + 1]? = some (.cells #[.slice none 0 0, .pointer none, .slice none 0 0] 49 (0, 0)) := by
   rw [hY, Below.heap_alloc _ _ _ (by simp <;> omega), Below.heap_alloc _ _ _ (by simp <;> omega), Below.heap_alloc _ _ _ (by simp)]
   have := heap_new (w2.alloc (.cells #[.func (.func 31) #[] (capR w1.heap.size)] 42)) (.cells #[.slice none 0 0, .pointer none, .slice none 0 0] 49)
   rwa [World.size_alloc] at this
  have b2 : Boxed Y (w2.heap.size + 1 + 1) 22 (.slice a ps.length cap) := by
   rw [hY]
   have := ((Boxed.new ((w2.alloc (.cells #[.func (.func 31) #[] (capR w1.heap.size)] 42)).alloc (.cells #[.slice none 0 0, .pointer none, .slice none 0 0] 49)) 22 (.slice a ps.length cap)).alloc (.cells #[.slice oa qs.length oc] 23)).alloc (.cells #[.int .i64 1, .int .i64 20000, .string ⟨#[]⟩, .slice none 0 0] 37)
   simpa only [World.size_alloc] using this
  have b3 : Boxed Y (w2.heap.size + 1 + 1 + 1) 23 (.slice oa qs.length oc) := by
   rw [hY]
   have := (Boxed.new (((w2.alloc (.cells #[.func (.func 31) #[] (capR w1.heap.size)] 42)).alloc (.cells #[.slice none 0 0, .pointer none, .slice none 0 0] 49)).alloc (.cells #[.slice a ps.length cap] 22)) 23 (.slice oa qs.length oc)).alloc (.cells #[.int .i64 1, .int .i64 20000, .string ⟨#[]⟩, .slice none 0 0] 37)
   simpa only [World.size_alloc] using this
  have b4 : Y.heap[w2.heap.size + 1 + 1 + 1 + 1]? = some (.cells #[.int .i64 1, .int .i64 20000, .string ⟨#[]⟩, .slice none 0 0] 37 (0, 0)) := by
   rw [hY]
   have := heap_new ((((w2.alloc (.cells #[.func (.func 31) #[] (capR w1.heap.size)] 42)).alloc (.cells #[.slice none 0 0, .pointer none, .slice none 0 0] 49)).alloc (.cells #[.slice a ps.length cap] 22)).alloc (.cells #[.slice oa qs.length oc] 23)) (.cells #[.int .i64 1, .int .i64 20000, .string ⟨#[]⟩, .slice none 0 0] 37)
   simpa only [World.size_alloc] using this
  have hbY : Below w.heap.size w2 Y := BY.mono (by omega)
  have BWY := HB2.out.trans hbY
  have ys0 : StA w.heap.size w (metC (ops ++ [restQ.1]) (cellsD l)) (w2.heap.size + 1) w1.heap.size w2.heap.size (w.heap.size + 1) 0 Y :=
   { below := BWY
     doc := ⟨_, dst_new b1⟩
     rem := ⟨[], [], HRM.out.keep (keep_below (ts := []) BY (by omega)) (by simp) (by simp) (by simp) (by simp)⟩
     laid := b0
     r4 := (BY.block _ (by omega)).trans HY.out.2.1
     r5 := (BY.block _ (by omega)).trans HY.out.2.2
     ok := fun i hi h => absurd h (Nat.not_lt_zero _) }
  have HYS0 := Lib.hid ys0
  have HBS := Lib.hid (And.intro b2 (And.intro b3 b4))
  have HBY := Lib.hid BWY
  clear ys0 b0 b1 b2 b3 b4 hY BY hbY BWY
  have hn2 : w.heap.size + 3 ≤ w1.heap.size := by omega
  have hw1 : w1.heap.size ≤ w2.heap.size := s2
  have hB1 : w.heap.size ≤ w1.heap.size := by omega
  clear z0 l0 s1 hlt y0 y1 y2 HB1 HBX HRM HY
  generalize w2.heap.size = n2 at sY HYS0 HBS s2 hw1
  generalize w1.heap.size = bb at HYS0 s2 hn2 hw1 hB1
  gi_wp2
  obtain ⟨ys, hys⟩ : ∃ ys, ys = metC (ops ++ [restQ.1]) (cellsD l) := ⟨_, rfl⟩
  obtain ⟨xs, hxs⟩ : ∃ xs, xs = metL (qs ++ [restQ]) (ps, 0) := ⟨_, rfl⟩
  rw [← hys] at HYS0
  have hOK : ∀ p ∈ ps, OkR p.1 := fun p hp => (HFF.out.runs p.1 (by rw [HLL.out]; exact List.mem_map.2 ⟨p, hp, rfl⟩)).1
  have hPL : Place (ps, 0) := by
   cases hps : ps with
   | nil => exact .inl ⟨rfl, rfl⟩
   | cons p r => exact .inr ⟨p, r, rfl, List.length_pos_iff.2 (hOK p (by rw [hps]; exact List.mem_cons_self ..)).rns.2.2.1⟩
  have hxy : xs.map pmet = ys := by
   rw [hxs, hys, metL_plain _ _ hPL hOK, List.map_append, HQS.out]
   congr 1
   unfold rem
   rw [List.drop_zero, cellsD_of, ← HLL.out]
  have hlen : ys.length = xs.length := by rw [← hxy, List.length_map]
  have hq : ∀ q ∈ qs, (q.1.kind = 2 → OkR ⟨q.1.text, q.1.attrs⟩) ∧ q.1.n ≤ 1073741824 := fun q hq => by
   have hm : q.1 ∈ ops := by rw [← HQS.out]; exact List.mem_map.2 ⟨q, hq, rfl⟩
   refine ⟨fun hk => ?_, by have := (HFF.out.num _ hm).2; omega⟩
   have h1 := (opE_put hk).1 (HFF.out.all _ hm)
   refine (okR_of h1.2.2.1 ?_).1
   intro h0
   obtain ⟨cs, hr, hc⟩ := er_zero h1.2.2.1
   rw [h0] at hc
   have : cs = [] := List.length_eq_zero_iff.1 (by omega)
   subst this
   have := (rd_some hr).2.1
   exact h1.2.1 (by rw [size_data, this]; rfl)
  have hql : qs.length ≤ 2000 := by
   have := HFF.out.olen
   rw [← HQS.out, List.length_map] at this
   exact this
  have hit := met_iter w.heap.size (n2 + 1 + 1) (n2 + 1 + 1 + 1) (n2 + 1 + 1 + 1 + 1) a ps.length cap oa oc ps qs TA (KpA (n2 + 1)) (FrA (n2 + 1)) (kpA_ok _) (by decide) (by decide) (by decide) (by decide) (by decide) (fun hs h => frA_step hs h) (fun hk hi he hf => hk _ _ _ _ hi he hf) hql hq
  rw [← hxs] at hit
  have HVL := Lib.hid (fun k (hk : k < xs.length) W' (hb : Below w.heap.size w W') => met_vals (qs := qs) (ps := ps) (fun w' h q hq => (HQA.out q hq).below h) (fun w' h p hp => (HV.out.2 p hp).below h) (by rw [← hxs]; exact List.getElem_mem hk) W' hb)
  have HAT := Lib.hid (fun k (hk : k < ys.length) => metD_attrs HFF.out (y := ys[k]) (by rw [← hys]; exact List.getElem_mem hk))
  have HXY := Lib.hid hxy
  have HYL := Lib.hid (show ys.length ≤ 60000 by rw [hys]; exact metD_len HFF.out)
  have HYE := Lib.hid hys
  have HLN := Lib.hid hlen
  clear hq hPL hxy hys hxs hlen
  refine range_it hit rfl (enters_of Tryz.func37 (by kernel_rfl) rfl) (fun _ => rfl) (by omega) ?hS (kpA_ok _).trans (kpA_ok _).put
   (fun k W' => StA w.heap.size w ys (n2 + 1) bb n2 (w.heap.size + 1) k W') (fun c k W' => c = .ret ∧ EndA w.heap.size w ys (w.heap.size + 1) k W')
   (fun _ _ _ h hs => h.step hs) (fun _ _ _ _ h hs => ⟨h.1, h.2.step hs⟩) ?hFr HYS0.out ?rnd ?done ?stop (fun _ _ _ _ => trivial)
  case hS =>
   intro W hb
   have hk : ∀ {i : Nat} {o : Obj}, Y.heap[i]? = some o → W.heap[i]? = some o := fun hi => (hb.block _ (lt_of_heap hi)).trans hi
   have hbB := HBY.out.trans (hb.mono (show w.heap.size ≤ Y.heap.size by omega))
   exact ⟨hk HBS.out.1, hk HBS.out.2.1, hk HBS.out.2.2, fun w' hw => HV.out.below (hbB.trans hw), fun w' hw => HOPS.out.below (hbB.trans hw), fun w' hw q hq => (HQA.out q hq).below (hbB.trans hw), hOK, HU.out.to hbB⟩
  case hFr =>
   intro k A i h hi
   obtain ⟨ov, h⟩ := h.doc
   exact frA_new h hi
  case stop =>
   rintro D c k W hle hk ⟨rfl, hx⟩ hD
   gi_wp2
   refine ⟨by simp, .inl ⟨_, _, rfl, run_takeDeferred hD, ?_⟩⟩
   have e4 : Boxed (W.putObj D (.deferred none)) (w.heap.size + 1) 22 (.slice none 0 0) := putObj_cells hD rfl hx.r4
   have e5 : Boxed (W.putObj D (.deferred none)) (w.heap.size + 1 + 1) 27 (.int .i64 (errA ys)) := putObj_cells hD rfl hx.r5
   exact ⟨_, results_two rfl rfl rfl e4.cell e5.cell, applyOut_bad (appE_err HE0.out HYE.out hx.bad) hx.bad (hx.below.trans (below_put (by omega) hD))⟩
  case done =>
   rintro D W hle hI _ hD
   have hsy : ys.take xs.length = ys := by rw [← HLN.out, List.take_length]
   have herr : errA ys = 0 := errA_none fun i h => hI.ok i h (by rw [← HLN.out]; exact h)
   obtain ⟨dv, hd⟩ := hI.doc
   rw [hsy] at hd
   have hsm := accA_small ys
   have hyl := HYL.out
   have HEN := Lib.hid (endD_any w.heap.size (n2 + 1) dv (accA ys) W hd (by omega) (by omega))
   obtain ⟨da, dc, rfl⟩ := hd.slice
   have HAE := Lib.hid (appE_end HE0.out HYE.out herr)
   have HI := Lib.hid hI
   have HD := Lib.hid hD
   clear hI hd hD hsm hyl hsy herr
   gi_wp2
   refine ⟨trivial, rfl, (callsIn_wide.2 HEN.out).mono ?_⟩
   rintro e W2 ⟨rfl, ⟨rs, hrs, hO⟩, hK⟩
   have r4 : Boxed W2 (w.heap.size + 1) 22 (.slice none 0 0) := hK.keep.kept _ _ _ _ HI.out.r4 (by decide)
   have r5 : Boxed W2 (w.heap.size + 1 + 1) 27 (.int .i64 0) := hK.keep.kept _ _ _ _ HI.out.r5 (by decide)
   have hD2 : W2.heap[D]? = some (.deferred (some [])) := hK.keep.all _ _ HD.out (out_not rfl)
   have HB2 := Lib.hid (HI.out.below.trans hK.keep.below)
   have z1 := r4.cell
   have z2 := r5.cell
   have z3 := r4.frozen
   have z4 := r5.frozen
   have HY4 := Lib.hid (And.intro r4 r5)
   have HD2 := Lib.hid hD2
   have HO := Lib.hid hO
   have HRS := Lib.hid hrs
   have hDl := lt_of_heap hD2
   clear r4 r5 hK hD2 hO hrs HI HD HEN
   by_cases h2 : 2000 < (accA ys).length
   ·have t2 : decide ((2000 : Int) < ((accA ys).length : Int)) = true := decide_eq_true (by omega)
    have t3 : (2000 : Int) < ((accA ys).length : Int) := by omega
    have HA := Lib.hid (HAE.out.trans (if_pos h2))
    clear h2
    gi_wp2
    obtain ⟨q1, q2, q3⟩ := two_set (.slice none 0 0) (.int .i64 2) HY4.out.1 HY4.out.2
    have qD := q3.all _ _ HD2.out (out_not rfl)
    refine ⟨by simp, .inl ⟨_, _, rfl, run_takeDeferred qD, ?_⟩⟩
    have e4 := putObj_cells (o' := .deferred none) qD rfl q1
    have e5 := putObj_cells (o' := .deferred none) qD rfl q2
    exact ⟨_, results_two rfl rfl rfl (Boxed.cell e4) (Boxed.cell e5), applyOut_bad HA.out (by decide) ((HB2.out.trans (q3.below.mono (by omega))).trans (below_put (by omega) qD))⟩
   ·have t2 : decide ((2000 : Int) < ((accA ys).length : Int)) = false := decide_eq_false (by omega)
    have t3 : ¬ (2000 : Int) < ((accA ys).length : Int) := by omega
    have HA := Lib.hid (HAE.out.trans (if_neg h2))
    clear h2
    gi_wp2
    obtain ⟨q1, q2, q3⟩ := two_set (.slice da (accA ys).length dc) (.int .i64 0) HY4.out.1 HY4.out.2
    have qD := q3.all _ _ HD2.out (out_not rfl)
    refine ⟨by simp, .inl ⟨_, _, rfl, run_takeDeferred qD, ?_⟩⟩
    have e4 := putObj_cells (o' := .deferred none) qD rfl q1
    have e5 := putObj_cells (o' := .deferred none) qD rfl q2
    refine ⟨_, results_two rfl rfl rfl (Boxed.cell e4) (Boxed.cell e5), _, by rw [HA.out], (HB2.out.trans (q3.below.mono (by omega))).trans (below_put (by omega) qD), rs, ?_, (HO.out.keep q3 (by decide) (by decide)).put qD rfl⟩
    rw [HRS.out, appL_end HA.out HYE.out]
  case rnd =>
   rintro l' k hk W2 hle hI
   have hky : k < ys.length := by rw [HLN.out]; exact hk
   have hpk : ys[k] = pmet xs[k] := by
    have := HXY.out
    subst this
    exact List.getElem_map ..
   have hvl := HVL.out k hk
   have hat := HAT.out k hky
   have hst := hI.step (W' := W2) (N := 0) (own := []) (Step.refl _ _ _ _ _)
   obtain ⟨s1, s2'⟩ := (hvl W2 hI.below)
   obtain ⟨va, vc, hva⟩ := s1.shape
   obtain ⟨ua, uc, hua⟩ := s2'.shape
   generalize hyv : ys[k] = yk at hpk hat
   generalize xs[k] = x at hpk hvl hva hua ⊢
   obtain ⟨⟨o, ov⟩, xc, xr, xv⟩ := x
   simp only at hva hua hvl
   subst hva
   subst hua
   simp only [pmet, pcell] at hpk
   subst hpk
   simp only at hat
   have HYV := Lib.hid hyv
   have HKY := Lib.hid hky
   have HVK := Lib.hid hvl
   have HAK := Lib.hid hat
   have HI := Lib.hid hI
   have hW2 : w.heap.size + 3 ≤ W2.heap.size := by have := hI.r5.lt; omega
   clear hI hst s1 s2' hvl hat hyv
   gi_wp2
   obtain ⟨W3, hW3⟩ : ∃ W3, W3 = (W2.alloc (.cells #[.int .i64 o.kind, .int .i64 o.n, .string o.text, .slice va o.attrs.length vc] 37)).alloc (.cells #[.string (E xc), .slice ua xr.attrs.length uc] 54) := ⟨_, rfl⟩
   rw [← hW3]
   have B3 : Below W2.heap.size W2 W3 := by rw [hW3]; exact ((Below.refl _ W2).alloc (Nat.le_refl _) _).alloc (by simp) _
   have o3 : W3.heap[W2.heap.size]? = some (.cells #[.int .i64 o.kind, .int .i64 o.n, .string o.text, .slice va o.attrs.length vc] 37 (0, 0)) := by
    rw [hW3, Below.heap_alloc _ _ _ (by simp)]; exact heap_new _ _
   have x3 : W3.heap[W2.heap.size + 1]? = some (.cells #[.string (E xc), .slice ua xr.attrs.length uc] 54 (0, 0)) := by
    rw [hW3]
    have := heap_new (W2.alloc (.cells #[.int .i64 o.kind, .int .i64 o.n, .string o.text, .slice va o.attrs.length vc] 37)) (.cells #[.string (E xc), .slice ua xr.attrs.length uc] 54)
    rwa [World.size_alloc] at this
   have HI3 := HI.out.step (step_below (N := Y.heap.size) (own := []) WT B3 (by omega))
   refine ⟨rnd_below TA B3 (by omega), (kpA_ok _).below B3, HI3, fun W4 hs hsz4 ⟨r4, hr4⟩ => ?_⟩
   have HI4 := Lib.hid (HI3.step (hs.more (own' := []) (fun _ h => by cases h) (fun _ _ h => by cases h) (Nat.le_refl _)))
   have o4 := hs.cells _ _ _ _ o3 (.inl (by simp))
   have x4 := hs.cells _ _ _ _ x3 (.inl (by simp))
   have p0 : W4.cell? ⟨W2.heap.size, 0, none⟩ = some (.int .i64 o.kind) := by simp [World.cell?, o4]
   have p3 : W4.cell? ⟨W2.heap.size, 3, none⟩ = some (.slice va o.attrs.length vc) := by simp [World.cell?, o4]
   have c0 : W4.cell? ⟨W2.heap.size + 1, 0, none⟩ = some (.string (E xc)) := by simp [World.cell?, x4]
   have c1 : W4.cell? ⟨W2.heap.size + 1, 1, none⟩ = some (.slice ua xr.attrs.length uc) := by simp [World.cell?, x4]
   have g0 := HI4.out.laid.cell
   have HX4 := Lib.hid x4
   have sx4 := lt_of_heap x4
   clear hs hsz4 hr4 o4 x4 o3 x3 B3 HI3 hW3
   by_cases k1 : o.kind = 1
   ·have t1 : (o.kind == 1) = true := by rw [k1]; rfl
    have HK1 := Lib.hid k1
    obtain ⟨L, C, hrem⟩ := HI4.out.rem
    have HLD := Lib.hid (laid_a w.heap.size bb L C xr.attrs o.attrs (.slice ua xr.attrs.length uc) (.slice va o.attrs.length vc) W4 hrem (by omega) (fun w' hw => (HVK.out w' (HI4.out.below.trans hw)).2) (fun w' hw => (HVK.out w' (HI4.out.below.trans hw)).1) (small_rgt HAK.out.1).sized HAK.out.2.2.sized)
    clear k1 hrem
    gi_wp2
    refine ⟨trivial, rfl, CallsIn.inRound _ ((callsIn_wide.2 HLD.out).mono ?_)⟩
    rintro e W5 ⟨av, rfl, hrem5, hown5, hk5⟩
    obtain ⟨aa, ac, rfl⟩ := own_slice hown5
    have x5 := hk5.kept _ _ _ _ HX4.out (by decide)
    have c5 : W5.cell? ⟨W2.heap.size + 1, 0, none⟩ = some (.string (E xc)) := by simp [World.cell?, x5]
    have r4 : Boxed W5 (w.heap.size + 1) 22 (.slice none 0 0) := hk5.kept _ _ _ _ HI4.out.r4 (by decide)
    have r5 : Boxed W5 (w.heap.size + 1 + 1) 27 (.int .i64 0) := (hk5.below.block _ (by omega)).trans HI4.out.r5
    have l5 : Boxed W5 n2 WAYT (.func (.func 31) #[] (capR bb)) := hk5.kept _ _ _ _ HI4.out.laid (by decide)
    have s5 := hk5.below.size
    have KP5 := Lib.hid (kpA_keep (bd := n2 + 1) hk5 (by decide) (by decide) (by decide))
    have HK5 := Lib.hid hk5
    have HR5 := Lib.hid hrem5
    have HO5 := Lib.hid hown5
    have HBX5 := Lib.hid (And.intro r4 (And.intro r5 l5))
    have z1 := r4.cell
    have z2 := r5.cell
    have z3 := r4.frozen
    have z4 := r5.frozen
    clear hk5 hrem5 hown5 r4 r5 l5 x5
    by_cases he : applyE xr.attrs o.attrs = 0
    ·have te : (applyE xr.attrs o.attrs != 0) = false := by rw [he]; rfl
     obtain ⟨dv, hd⟩ := HI4.out.doc
     have hd5 := hd.keep HK5.out (by decide) (by decide) (by decide) (by decide)
     have hsm := accA_small (ys.take k)
     have hyl := HYL.out
     have htl : (ys.take k).length ≤ 60000 := by rw [List.length_take]; omega
     obtain ⟨e1, e2, e3, e4⟩ := applyE_zero he
     have hsa : SmallA (applyR xr.attrs o.attrs) := by
      rw [e4]
      exact small_rgt (by unfold rgtE; rw [if_pos (rgt_apply e1 e2 e3)])
     have HPT := Lib.hid (putD_any w.heap.size (n2 + 1) dv (accA (ys.take k)) (E xc) (applyR xr.attrs o.attrs) (.slice aa (applyR xr.attrs o.attrs).length ac) W5 hd5 (by omega)
      ⟨by omega, fun x r e => by have := hsm.2 x (by rw [e]; exact List.mem_cons_self ..); omega, by have := E_size xc; omega, hsa⟩ (fun w' hw => row_of_own (hw.own HO5.out (by decide))))
     have HDV := Lib.hid hd5
     have HHE := Lib.hid he
     clear he hd hd5 hsm hyl htl e1 e2 e3 e4 hsa
     gi_wp2
     refine ⟨trivial, rfl, CallsIn.inRound _ ((callsIn_wide.2 HPT.out).mono ?_)⟩
     rintro e W6 ⟨rfl, dv', hd6, hK6⟩
     have hKB := HK5.out.mono hB1
     have HF := Lib.hid (show Rnd w.heap.size Y.heap.size TA W4 W6 ∧ KpA (n2 + 1) W4 W6 ∧ StA w.heap.size w ys (n2 + 1) bb n2 (w.heap.size + 1) (k + 1) W6 from
      ⟨((rnd_of_keep hKB).more (by decide) (Nat.le_refl _)).trans ((rnd_of_keep hK6.keep).more (by decide) (Nat.le_refl _)), (kpA_ok _).trans KP5.out (kpA_runs HDV.out hd6 hK6),
        HI4.out.next hky (by rw [HYV.out]; unfold badA; rw [if_pos HK1.out]; exact HHE.out) (hKB.below.trans hK6.keep.below)
        ⟨dv', by rw [HYV.out]; unfold stepA; rw [if_pos HK1.out]; exact hd6⟩
        ⟨_, _, HR5.out.keep hK6.keep (by decide) (by decide) (by decide) (by decide)⟩
        (hK6.keep.kept _ _ _ _ HBX5.out.2.2 (by decide)) (hK6.keep.kept _ _ _ _ HBX5.out.1 (by decide)) (hK6.keep.kept _ _ _ _ HBX5.out.2.1 (by decide))⟩)
     clear hd6 hK6 hKB
     gi_wp2
     exact HF.out
    ·have te : (applyE xr.attrs o.attrs != 0) = true := by rw [bne_iff_ne]; exact he
     have HHE := Lib.hid he
     clear he
     gi_wp2
     obtain ⟨q1, q2, q3⟩ := two_set (.slice none 0 0) (.int .i64 (applyE xr.attrs o.attrs)) HBX5.out.1 HBX5.out.2.1
     have hKB := HK5.out.mono hB1
     have hbd : badA (ys[k]'hky) = applyE xr.attrs o.attrs := by rw [HYV.out]; unfold badA; rw [if_pos HK1.out]
     have her : errA ys = applyE xr.attrs o.attrs := (errA_first hky (fun i hi => HI4.out.ok i _ hi) (by rw [hbd]; exact HHE.out)).trans hbd
     refine ⟨((rnd_of_keep hKB).more (by decide) (Nat.le_refl _)).trans ((rnd_of_keep (q3.mono (by omega))).more (by decide) (Nat.le_refl _)), rfl, ?_⟩
     exact { below := (HI4.out.below.trans hKB.below).trans (q3.below.mono (by omega)), r4 := q1, r5 := by rw [her]; exact q2, bad := by rw [her]; exact HHE.out }
   ·have t1 : (o.kind == 1) = false := by rw [beq_eq_false_iff_ne]; exact k1
    by_cases k2 : o.kind = 2
    ·have t2 : (o.kind == 2) = true := by rw [k2]; rfl
     have HK1 := Lib.hid k1
     have HK2 := Lib.hid k2
     obtain ⟨dv, hd⟩ := HI4.out.doc
     have hsm := accA_small (ys.take k)
     have hyl := HYL.out
     have htl : (ys.take k).length ≤ 60000 := by rw [List.length_take]; omega
     have HPT := Lib.hid (putD_any w.heap.size (n2 + 1) dv (accA (ys.take k)) (E xc) xr.attrs (.slice ua xr.attrs.length uc) W4 hd (by omega)
      ⟨by omega, fun x r e => by have := hsm.2 x (by rw [e]; exact List.mem_cons_self ..); omega, by have := E_size xc; omega, small_rgt HAK.out.1⟩ (fun w' hw => (HVK.out w' (HI4.out.below.trans hw.below)).2))
     have HDV := Lib.hid hd
     clear k1 k2 hd hsm hyl htl
     gi_wp2
     refine ⟨trivial, rfl, CallsIn.inRound _ ((callsIn_wide.2 HPT.out).mono ?_)⟩
     rintro e W5 ⟨rfl, dv', hd5, hK5⟩
     have HF := Lib.hid (show Rnd w.heap.size Y.heap.size TA W4 W5 ∧ KpA (n2 + 1) W4 W5 ∧ StA w.heap.size w ys (n2 + 1) bb n2 (w.heap.size + 1) (k + 1) W5 from
      ⟨(rnd_of_keep hK5.keep).more (by decide) (Nat.le_refl _), kpA_runs HDV.out hd5 hK5, HI4.out.next hky (by rw [HYV.out]; unfold badA; rw [if_neg HK1.out]) hK5.keep.below
        ⟨dv', by rw [HYV.out]; unfold stepA; rw [if_neg HK1.out, if_pos HK2.out]; exact hd5⟩
        (by obtain ⟨L, C, h⟩ := HI4.out.rem; exact ⟨L, C, h.keep hK5.keep (by decide) (by decide) (by decide) (by decide)⟩)
        (hK5.keep.kept _ _ _ _ HI4.out.laid (by decide)) (hK5.keep.kept _ _ _ _ HI4.out.r4 (by decide)) (hK5.keep.kept _ _ _ _ HI4.out.r5 (by decide))⟩)
     clear hd5 hK5
     gi_wp2
     exact HF.out
    ·have t2 : (o.kind == 2) = false := by rw [beq_eq_false_iff_ne]; exact k2
     have HF := Lib.hid (show Rnd w.heap.size Y.heap.size TA W4 W4 ∧ KpA (n2 + 1) W4 W4 ∧ StA w.heap.size w ys (n2 + 1) bb n2 (w.heap.size + 1) (k + 1) W4 from
      ⟨Rnd.refl _ _ _ _, (kpA_ok _).below (Below.refl _ _), HI4.out.next hky (by rw [HYV.out]; unfold badA; rw [if_neg k1]) (Below.refl _ _)
       (by obtain ⟨dv, h⟩ := HI4.out.doc; exact ⟨dv, by rw [HYV.out]; unfold stepA; rw [if_neg k1, if_neg k2]; exact h⟩)
       HI4.out.rem HI4.out.laid HI4.out.r4 HI4.out.r5⟩)
     clear k1 k2
     gi_wp2
     exact HF.out
 ·have tE : (fitE l f ops != 0) = true := by rw [bne_iff_ne]; exact hE
  have HR := Lib.hid (show appE l f ops = fitE l f ops by unfold appE; rw [if_pos hE])
  have HNE := Lib.hid hE
  clear hE y0
  have z1 := y1.cell
  have z2 := y2.cell
  have z3 := y1.frozen
  have z4 := y2.frozen
  have HY := Lib.hid (And.intro y1 y2)
  clear y1 y2
  gi_wp2
  obtain ⟨q1, q2, q3⟩ := two_set (.slice none 0 0) (.int .i64 (fitE l f ops)) HY.out.1 HY.out.2
  exact ⟨_, results_two rfl rfl rfl q1.cell q2.cell, applyOut_bad HR.out HNE.out (HB1.out.trans (q3.below.mono (by omega)))⟩
end Go.Proofs.YtlfodemmdfaeeaaGreatDoor

/- Documents as rows of cells: put together, and apart; what operations make of them; normal forms do the same. -/
namespace Go.Proofs.YtlfodemmdfaeeaaGreatDoor
open Go.RowKit Rn Ch At

/-- A row of cells, put together (the newest run first). -/
def putC (l : List RunD) (x : CD) : List RunD := putR l (E x.1) x.2
def docR (cs : List CD) : List RunD := cs.foldl putC []
theorem E_eq (c : Nat) : E c = T [c] := ba_inj (by simp [T, E, txt])
theorem rns_T {cs : List Nat} {a : AtL} (h : allOk cs) (hn : cs.length ≤ 20000) : rns ⟨T cs, a⟩ = cs := by
 unfold rns
 show (rd (T cs).data.toList).getD [] = cs
 rw [T_data, rd_txt cs h hn]; rfl
theorem allOk_one {c : Nat} (h : ok c) : allOk [c] := fun x hx => by rw [List.mem_singleton.1 hx]; exact h
theorem rns_E {c : Nat} {a : AtL} (h : ok c) : rns ⟨E c, a⟩ = [c] := by rw [E_eq]; exact rns_T (allOk_one h) (by simp)
theorem cat_T (a b : List Nat) : cat (T a) (T b) = T (a ++ b) := ba_eq (by rw [cat_data, T_data, T_data, T_data, txt_append])
theorem okR_T {cs : List Nat} {a : AtL} (h : allOk cs) (hn : cs.length ≤ 20000) (h0 : cs ≠ []) : OkR ⟨T cs, a⟩ := ⟨cs, by show rd (T cs).data.toList = _; rw [T_data]; exact rd_txt cs h hn, h0⟩
theorem cellsD_append (a b : List RunD) : cellsD (a ++ b) = cellsD a ++ cellsD b := by simp [cellsD]
theorem cellsD_rev (x : RunD) (r : List RunD) : cellsD (x :: r).reverse = cellsD r.reverse ++ (rns x).map (fun c => (c, x.attrs)) := by
 rw [List.reverse_cons, cellsD_append, cellsD_one]
theorem putC_cells {l : List RunD} {x : CD} (hl : ∀ r ∈ l, OkR r) (hx : ok x.1) (hn : (cellsD l.reverse).length + 1 ≤ 20000) :
 cellsD (putC l x).reverse = cellsD l.reverse ++ [x] ∧ ∀ r ∈ putC l x, OkR r := by
 have fresh : (rns ⟨E x.1, x.2⟩).map (fun c => (c, x.2)) = [x] := by rw [rns_E hx]; rfl
 have okE : OkR ⟨E x.1, x.2⟩ := by rw [E_eq]; exact okR_T (allOk_one hx) (by simp) (by simp)
 cases l with
 | nil => exact ⟨by show cellsD [⟨E x.1, x.2⟩] = _; rw [cellsD_one]; exact fresh, fun r hr => by rw [List.mem_singleton.1 hr]; exact okE⟩
 | cons y r =>
   unfold putC
   rw [putR]
   split
   ·rename_i ha
    obtain ⟨b1, b2, b3, b4⟩ := (hl y (List.mem_cons_self ..)).rns
    have hlen : (rns y ++ [x.1]).length ≤ 20000 := by
     rw [cellsD_rev, List.length_append, List.length_map] at hn
     rw [List.length_append]; simp; omega
    have e : cat y.text (E x.1) = T (rns y ++ [x.1]) := by rw [E_eq]; exact (congrArg (fun z => cat z (T [x.1])) b2).trans (cat_T _ _)
    have ok2 : allOk (rns y ++ [x.1]) := fun c hc => (List.mem_append.1 hc).elim (b1 c) (allOk_one hx c)
    refine ⟨?_, fun z hz => ?_⟩
    ·rw [cellsD_rev, cellsD_rev]
     show cellsD r.reverse ++ (rns ⟨cat y.text (E x.1), y.attrs⟩).map (fun c => (c, y.attrs)) = _
     rw [e, rns_T ok2 hlen, List.map_append, ← List.append_assoc, ha]; rfl
    ·rcases List.mem_cons.1 hz with rfl | hz
     ·show OkR ⟨cat y.text (E x.1), y.attrs⟩
      rw [e]
      exact okR_T ok2 hlen (by simp)
     ·exact hl z (List.mem_cons_of_mem _ hz)
   ·refine ⟨?_, fun z hz => ?_⟩
    ·rw [cellsD_rev]
     exact congrArg _ fresh
    ·rcases List.mem_cons.1 hz with rfl | hz
     ·exact okE
     ·exact hl z hz
theorem docR_go (cs : List CD) : ∀ l : List RunD, (∀ r ∈ l, OkR r) → (∀ x ∈ cs, ok x.1) → (cellsD l.reverse).length + cs.length ≤ 20000 → cellsD (cs.foldl putC l).reverse = cellsD l.reverse ++ cs ∧ ∀ r ∈ cs.foldl putC l, OkR r := by
 induction cs with
 | nil => intro l h _ _; exact ⟨by simp, h⟩
 | cons x s ih =>
   intro l h1 h2 h3
   rw [List.length_cons] at h3
   obtain ⟨a, b⟩ := putC_cells h1 (h2 x (List.mem_cons_self ..)) (by omega)
   obtain ⟨c, d⟩ := ih (putC l x) b (fun y hy => h2 y (List.mem_cons_of_mem _ hy)) (by rw [a, List.length_append]; simp; omega)
   rw [List.foldl_cons]
   exact ⟨by rw [c, a, List.append_assoc]; rfl, d⟩
theorem docR_cells {cs : List CD} (h : ∀ x ∈ cs, ok x.1) (hn : cs.length ≤ 20000) : cellsD (docR cs).reverse = cs ∧ ∀ r ∈ docR cs, OkR r := by
 obtain ⟨a, b⟩ := docR_go cs [] (fun r hr => by cases hr) h (by simpa [cellsD] using hn)
 exact ⟨a, b⟩
theorem docR_attrs {P : AtL → Prop} (cs : List CD) : ∀ l : List RunD, (∀ r ∈ l, P r.attrs) → (∀ x ∈ cs, P x.2) → ∀ r ∈ cs.foldl putC l, P r.attrs := by
 induction cs with
 | nil => intro l h _; exact h
 | cons x s ih =>
   intro l h1 h2
   refine ih _ (fun r hr => ?_) fun y hy => h2 y (List.mem_cons_of_mem _ hy)
   have hx := h2 x (List.mem_cons_self ..)
   cases l with
   | nil => rw [List.mem_singleton.1 hr]; exact hx
   | cons y t =>
     unfold putC at hr
     rw [putR] at hr
     split at hr
     ·rcases List.mem_cons.1 hr with rfl | hr
      ·exact h1 y (List.mem_cons_self ..)
      ·exact h1 r (List.mem_cons_of_mem _ hr)
     ·rcases List.mem_cons.1 hr with rfl | hr
      ·exact hx
      ·exact h1 r hr

/-- No two neighbours are alike: forwards, behind attributes p; backwards. -/
def apart : Option AtL → List RunD → Prop
 | _, [] => True
 | p, r :: s => p ≠ some r.attrs ∧ apart (some r.attrs) s
def apartR : List RunD → Prop
 | [] => True
 | x :: r => (∀ y s, r = y :: s → y.attrs ≠ x.attrs) ∧ apartR r
def headA : List RunD → Option AtL
 | [] => none
 | x :: _ => some x.attrs
theorem apart_rev {l : List RunD} : ∀ {m : List RunD}, apartR l → apart (headA l) m → apart none (l.reverse ++ m) := by
 induction l with
 | nil => intro m _ h; exact h
 | cons x r ih =>
   intro m h1 h2
   rw [List.reverse_cons, List.append_assoc]
   refine ih h1.2 ⟨?_, h2⟩
   cases r with
   | nil => simp [headA]
   | cons y s =>
     have := h1.1 y s rfl
     simpa [headA] using this
theorem putC_apart {l : List RunD} (x : CD) (h : apartR l) : apartR (putC l x) := by
 cases l with
 | nil => exact ⟨(fun y s e => by cases e), trivial⟩
 | cons y r =>
   unfold putC
   rw [putR]
   split
   ·exact ⟨fun z s e => h.1 z s e, h.2⟩
   ·rename_i hn
    refine ⟨fun z s e => ?_, h⟩
    simp only [List.cons.injEq] at e
    rw [← e.1]; exact hn
theorem docR_apart (cs : List CD) : apartR (docR cs) := by
 have key : ∀ (cs : List CD) (l : List RunD), apartR l → apartR (cs.foldl putC l) := by
  intro cs
  induction cs with
  | nil => intro l h; exact h
  | cons x s ih => intro l h; exact ih _ (putC_apart x h)
 exact key cs [] trivial
/-- Runs, told apart in cells and put together. -/
theorem put_more {a : AtL} (ds : List Nat) : ∀ (cs : List Nat) (l : List RunD), (ds.map fun c => (c, a)).foldl putC (⟨T cs, a⟩ :: l) = ⟨T (cs ++ ds), a⟩ :: l := by
 induction ds with
 | nil => intro cs l; simp
 | cons d r ih =>
   intro cs l
   rw [List.map_cons, List.foldl_cons]
   have e : putC (⟨T cs, a⟩ :: l) (d, a) = ⟨T (cs ++ [d]), a⟩ :: l := by
    unfold putC
    rw [putR, if_pos rfl]
    show (⟨cat (T cs) (E d), a⟩ : RunD) :: l = _
    rw [E_eq, cat_T]
   rw [e, ih, List.append_assoc]; rfl
theorem put_run {r : RunD} {l : List RunD} (h : OkR r) (hd : headA l ≠ some r.attrs) : ((rns r).map fun c => (c, r.attrs)).foldl putC l = r :: l := by
 obtain ⟨b1, b2, b3, b4⟩ := h.rns
 cases hr : rns r with
 | nil => exact absurd hr b3
 | cons c cs =>
   rw [List.map_cons, List.foldl_cons]
   have e : putC l (c, r.attrs) = ⟨T [c], r.attrs⟩ :: l := by
    unfold putC
    rw [← E_eq]
    refine putR_fresh fun x s e => ?_
    subst e
    intro ee
    exact hd (show some x.attrs = some r.attrs from congrArg some ee)
   rw [e, put_more]
   show (⟨T (c :: cs), r.attrs⟩ : RunD) :: l = _
   rw [← hr, ← b2]
theorem docR_run {d : List RunD} : ∀ {l : List RunD}, (∀ r ∈ d, OkR r) → apart (headA l) d → (cellsD d).foldl putC l = d.reverse ++ l := by
 induction d with
 | nil => intro l _ _; rfl
 | cons r s ih =>
   intro l h1 h2
   rw [cellsD_cons, List.foldl_append, put_run (h1 r (List.mem_cons_self ..)) h2.1, ih (l := r :: l) (fun x hx => h1 x (List.mem_cons_of_mem _ hx)) h2.2, List.reverse_cons, List.append_assoc]; rfl
theorem lenF_apart {l : List RunD} : ∀ {p : Option AtL} {n m : Int}, lenF p n l = some m → apart p l := by
 induction l with
 | nil => intro _ _ _ _; trivial
 | cons r l ih =>
   intro p n m h
   rw [lenF] at h
   split at h
   ·cases h
   ·rename_i hb
    unfold badR at hb
    exact ⟨fun hh => hb (.inr (.inr (.inr (.inr hh)))), ih h⟩
theorem rgtE_zero {a : AtL} : rgtE a = 0 ↔ rgtB a = true := by
 unfold rgtE
 split
 ·exact ⟨fun _ => by assumption, fun _ => rfl⟩
 ·rename_i h; exact ⟨fun h' => by omega, fun h' => absurd h' h⟩
theorem okR_nums {r : RunD} (h : OkR r) : er r.text.data.toList = 0 ∧ cnt r.text.data.toList ≠ 0 ∧ cnt r.text.data.toList = ((rns r).length : Int) := by
 obtain ⟨cs, h1, h2⟩ := h
 have e : rns r = cs := by unfold rns; rw [h1]; rfl
 rw [er_some h1, cnt_some h1, e]
 refine ⟨rfl, fun h0 => h2 (List.length_eq_zero_iff.1 (by omega)), rfl⟩
theorem lenF_mk {l : List RunD} : ∀ {p : Option AtL} {n : Int}, apart p l → (∀ r ∈ l, OkR r ∧ rgtB r.attrs = true) → n + ((cellsD l).length : Int) ≤ 20000 → lenF p n l = some (n + ((cellsD l).length : Int)) := by
 induction l with
 | nil => intro p n _ _ _; simp [lenF, cellsD]
 | cons r l ih =>
   intro p n h1 h2 h3
   obtain ⟨a, b⟩ := h2 r (List.mem_cons_self ..)
   obtain ⟨c1, c2, c3⟩ := okR_nums a
   rw [cellsD_cons, List.length_append, List.length_map] at h3 ⊢
   rw [lenF, if_neg, ih h1.2 (fun x hx => h2 x (List.mem_cons_of_mem _ hx)) (by omega), c3]
   ·congr 1; omega
   ·unfold badR
    rw [c1, rgtE_zero.2 b]
    rintro (h | h | h | h | h)
    ·exact h rfl
    ·exact c2 h
    ·omega
    ·exact h rfl
    ·exact h1.1 h
structure DocF (l : List RunD) : Prop where
 len : l.length ≤ 2000
 n : lenN l = ((cellsD l).length : Int)
 n1 : (cellsD l).length ≤ 20000
 oks : ∀ r ∈ l, OkR r
 rgt : ∀ r ∈ l, rgtB r.attrs = true
 ap : apart none l
theorem docF_of {l : List RunD} (h : lenE l = 0) : DocF l := by
 obtain ⟨a, b, c, d, e⟩ := lenD_some h
 rw [lenD_short a] at e
 exact ⟨a, b, by omega, fun r hr => (d r hr).1, fun r hr => rgtE_zero.1 (d r hr).2, lenF_apart e⟩
theorem docF_mk {l : List RunD} (h1 : l.length ≤ 2000) (h2 : (cellsD l).length ≤ 20000) (h3 : ∀ r ∈ l, OkR r) (h4 : ∀ r ∈ l, rgtB r.attrs = true) (h5 : apart none l) : lenE l = 0 ∧ lenN l = ((cellsD l).length : Int) := by
 have h := lenF_mk (n := 0) h5 (fun r hr => ⟨h3 r hr, h4 r hr⟩) (by omega)
 have e : lenD l = some ((cellsD l).length : Int) := by rw [lenD_short h1, h]; simp
 unfold lenE lenN
 rw [e]
 exact ⟨rfl, rfl⟩
theorem DocF.doc {l : List RunD} (h : DocF l) : docR (cellsD l) = l.reverse := by
 have := docR_run (l := []) h.oks h.ap
 rw [List.append_nil] at this
 exact this
theorem DocF.cell {l : List RunD} (h : DocF l) {x : CD} (hx : x ∈ cellsD l) : ok x.1 ∧ rgtB x.2 = true := by
 obtain ⟨r, hr, hc⟩ := List.mem_flatMap.1 hx
 obtain ⟨c, hc2, rfl⟩ := List.mem_map.1 hc
 exact ⟨(h.oks r hr).rns.1 c hc2, h.rgt r hr⟩
/-- Cells that may be: what is put together of them is a document, if it has not too many runs. -/
def okCs (cs : List CD) : Prop := ∀ x ∈ cs, ok x.1 ∧ rgtB x.2 = true
theorem docR_doc {cs : List CD} (h : okCs cs) (hn : cs.length ≤ 20000) : cellsD (docR cs).reverse = cs ∧ ((docR cs).length ≤ 2000 → lenE (docR cs).reverse = 0 ∧ lenN (docR cs).reverse = (cs.length : Int)) := by
 obtain ⟨a, b⟩ := docR_cells (fun x hx => (h x hx).1) hn
 refine ⟨a, fun hl => ?_⟩
 have hat := docR_attrs (P := fun a => rgtB a = true) cs [] (fun r hr => by cases hr) fun x hx => (h x hx).2
 have hap : apart none (docR cs).reverse := by
  have := apart_rev (m := []) (docR_apart cs) trivial
  rwa [List.append_nil] at this
 have := docF_mk (l := (docR cs).reverse) (by rw [List.length_reverse]; exact hl) (by rw [a]; exact hn) (fun r hr => b r (List.mem_reverse.1 hr)) (fun r hr => hat r (List.mem_reverse.1 hr)) hap
 rw [a] at this
 exact this
end Go.Proofs.YtlfodemmdfaeeaaGreatDoor

/- What operations make of a row of cells; the normal form does the same; the way back. -/
namespace Go.Proofs.YtlfodemmdfaeeaaGreatDoor
open Go.RowKit Rn Ch At

def appC (a : AtL) (x : CD) : CD := (x.1, applyR x.2 a)
def insC (o : OpD) : List CD := cellsD [⟨o.text, o.attrs⟩]
def act : List OpD → List CD → List CD
 | [], cs => cs
 | o :: r, cs => if o.kind = 2 then insC o ++ act r cs else if o.kind = 1 then (cs.take o.n.toNat).map (appC o.attrs) ++ act r (cs.drop o.n.toNat) else act r (cs.drop o.n.toNat)
def actOk : List OpD → List CD → Prop
 | [], _ => True
 | o :: r, cs => if o.kind = 2 then actOk r cs else if o.kind = 1 then (∀ x ∈ cs.take o.n.toNat, applyE x.2 o.attrs = 0) ∧ actOk r (cs.drop o.n.toNat) else actOk r (cs.drop o.n.toNat)
theorem act_ins {o : OpD} {r : List OpD} {cs : List CD} (h : o.kind = 2) : act (o :: r) cs = insC o ++ act r cs ∧ (actOk (o :: r) cs ↔ actOk r cs) := by
 rw [act, actOk, if_pos h, if_pos h]; exact ⟨rfl, Iff.rfl⟩
theorem act_keep {o : OpD} {r : List OpD} {cs : List CD} (h : o.kind = 1) : act (o :: r) cs = (cs.take o.n.toNat).map (appC o.attrs) ++ act r (cs.drop o.n.toNat) ∧ (actOk (o :: r) cs ↔ (∀ x ∈ cs.take o.n.toNat, applyE x.2 o.attrs = 0) ∧ actOk r (cs.drop o.n.toNat)) := by
 rw [act, actOk, if_neg (by omega), if_pos h, if_neg (by omega), if_pos h]; exact ⟨rfl, Iff.rfl⟩
theorem act_cut {o : OpD} {r : List OpD} {cs : List CD} (h : o.kind = 3) : act (o :: r) cs = act r (cs.drop o.n.toNat) ∧ (actOk (o :: r) cs ↔ actOk r (cs.drop o.n.toNat)) := by
 rw [act, actOk, if_neg (by omega), if_neg (by omega), if_neg (by omega), if_neg (by omega)]; exact ⟨rfl, Iff.rfl⟩

/-- What is met, and what comes of it. -/
def outOne (y : MD) : List CD := if y.1.kind = 1 then [appC y.1.attrs y.2] else if y.1.kind = 2 then [y.2] else []
def outC (ys : List MD) : List CD := ys.flatMap outOne
theorem outC_append (a b : List MD) : outC (a ++ b) = outC a ++ outC b := by simp [outC]
theorem accA_out (ys : List MD) : accA ys = docR (outC ys) := by
 have key : ∀ (ys : List MD) (l : List RunD), ys.foldl (fun l y => stepA y l) l = (outC ys).foldl putC l := by
  intro ys
  induction ys with
  | nil => intro l; rfl
  | cons y r ih =>
    intro l
    have e : outC (y :: r) = outOne y ++ outC r := rfl
    rw [List.foldl_cons, ih, e, List.foldl_append]
    congr 1
    unfold stepA outOne
    split
    ·rfl
    ·split <;> rfl
 exact key ys []
theorem errA_zero {ys : List MD} : errA ys = 0 ↔ ∀ y ∈ ys, badA y = 0 := by
 induction ys with
 | nil => exact ⟨(fun _ y h => by cases h), fun _ => rfl⟩
 | cons y r ih =>
   rw [errA, List.forall_mem_cons]
   by_cases h : badA y = 0
   ·rw [if_neg (by simpa using h), ih]; exact ⟨fun k => ⟨h, k⟩, fun k => k.2⟩
   ·rw [if_pos h]; exact ⟨fun k => absurd k h, fun k => absurd k.1 h⟩
theorem insC_len (o : OpD) : (insC o).length ≤ 20000 ∧ ((insC o).length : Int) = cnt o.text.data.toList := by
 unfold insC
 rw [cellsD_one, List.length_map]
 have h := rns_len ⟨o.text, o.attrs⟩
 have h2 := cnt_nonneg o.text.data.toList
 have h3 : ((⟨o.text, o.attrs⟩ : RunD)).text.data.toList = o.text.data.toList := rfl
 rw [h3] at h
 omega
theorem out_keep (o : OpD) (h : o.kind = 1) (xs : List CD) : outC (xs.map fun x => (o, x)) = xs.map (appC o.attrs) := by
 induction xs with
 | nil => rfl
 | cons x r ih =>
   have e : outC ((o, x) :: r.map fun x => (o, x)) = outOne (o, x) ++ outC (r.map fun x => (o, x)) := rfl
   rw [List.map_cons, e, ih]
   unfold outOne
   rw [if_pos h]; rfl
theorem out_ins (o : OpD) (h : o.kind = 2) (xs : List CD) : outC (xs.map fun x => (o, x)) = xs := by
 induction xs with
 | nil => rfl
 | cons x r ih =>
   have e : outC ((o, x) :: r.map fun x => (o, x)) = outOne (o, x) ++ outC (r.map fun x => (o, x)) := rfl
   rw [List.map_cons, e, ih]
   unfold outOne
   rw [if_neg (by show ¬ o.kind = 1; omega), if_pos h]; rfl
theorem out_cut (o : OpD) (h : o.kind ≠ 1) (h' : o.kind ≠ 2) (xs : List CD) : outC (xs.map fun x => (o, x)) = [] := by
 induction xs with
 | nil => rfl
 | cons x r ih =>
   have e : outC ((o, x) :: r.map fun x => (o, x)) = outOne (o, x) ++ outC (r.map fun x => (o, x)) := rfl
   rw [List.map_cons, e, ih]
   unfold outOne
   rw [if_neg h, if_neg h']; rfl
theorem take_ins (o : OpD) : (cellsD [⟨o.text, o.attrs⟩]).take (20000 : Int).toNat = insC o := List.take_of_length_le (insC_len o).1
theorem app_nil {x : CD} (h : rgtB x.2 = true) : appC [] x = x := by
 unfold appC
 rw [(nothing_l h).2.1]
theorem map_nil {cs : List CD} (h : ∀ x ∈ cs, rgtB x.2 = true) : cs.map (appC []) = cs := by
 induction cs with
 | nil => rfl
 | cons x r ih => rw [List.map_cons, app_nil (h x (List.mem_cons_self ..)), ih fun y hy => h y (List.mem_cons_of_mem _ hy)]
theorem met_act (ops : List OpD) : ∀ {cs : List CD}, (∀ x ∈ cs, rgtB x.2 = true) → cs.length ≤ 20000 → (∀ o ∈ ops, o.kind = 1 ∨ o.kind = 2 ∨ o.kind = 3) →
 outC (metC (ops ++ [restQ.1]) cs) = act ops cs ∧ ((∀ y ∈ metC (ops ++ [restQ.1]) cs, badA y = 0) ↔ actOk ops cs) := by
 induction ops with
 | nil =>
   intro cs h hn _
   have e : metC ([] ++ [restQ.1]) cs = cs.map fun x => (restQ.1, x) := by
    show metC [restQ.1] cs = _
    rw [metC, if_neg (by decide), metC, List.append_nil]
    congr 1
    exact List.take_of_length_le (by show cs.length ≤ 20000; exact hn)
   rw [e, out_keep _ rfl]
   refine ⟨map_nil h, fun _ => trivial, fun _ y hy => ?_⟩
   obtain ⟨x, hx, rfl⟩ := List.mem_map.1 hy
   show (if (1 : Int) = 1 then applyE x.2 [] else 0) = 0
   rw [if_pos rfl]
   exact (nothing_l (h x hx)).1
 | cons o r ih =>
   intro cs h hn hk
   have hr : ∀ o ∈ r, o.kind = 1 ∨ o.kind = 2 ∨ o.kind = 3 := fun x hx => hk x (List.mem_cons_of_mem _ hx)
   rw [List.cons_append, metC]
   rcases hk o (List.mem_cons_self ..) with k | k | k
   ·obtain ⟨i1, i2⟩ := ih (cs := cs.drop o.n.toNat) (fun x hx => h x (List.mem_of_mem_drop hx)) (by rw [List.length_drop]; omega) hr
    rw [if_neg (by omega), outC_append, out_keep o k, i1, (act_keep k).1, (act_keep k).2, ← i2]
    refine ⟨rfl, fun hh => ⟨fun x hx => ?_, fun y hy => hh y (List.mem_append_right _ hy)⟩, fun hh y hy => ?_⟩
    ·have := hh (o, x) (List.mem_append_left _ (List.mem_map.2 ⟨x, hx, rfl⟩))
     unfold badA at this
     rwa [if_pos k] at this
    ·rcases List.mem_append.1 hy with hy | hy
     ·obtain ⟨x, hx, rfl⟩ := List.mem_map.1 hy
      unfold badA
      rw [if_pos k]
      exact hh.1 x hx
     ·exact hh.2 y hy
   ·obtain ⟨i1, i2⟩ := ih (cs := cs) h hn hr
    rw [if_pos k, outC_append, out_ins o k, i1, (act_ins k).1, (act_ins k).2, ← i2, take_ins]
    refine ⟨rfl, fun hh y hy => hh y (List.mem_append_right _ hy), fun hh y hy => ?_⟩
    rcases List.mem_append.1 hy with hy | hy
    ·obtain ⟨x, hx, rfl⟩ := List.mem_map.1 hy
     unfold badA
     rw [if_neg (by show ¬ o.kind = 1; omega)]
    ·exact hh y hy
   ·obtain ⟨i1, i2⟩ := ih (cs := cs.drop o.n.toNat) (fun x hx => h x (List.mem_of_mem_drop hx)) (by rw [List.length_drop]; omega) hr
    rw [if_neg (by omega), outC_append, out_cut o (by omega) (by omega), i1, (act_cut k).1, (act_cut k).2, ← i2]
    refine ⟨rfl, fun hh y hy => hh y (List.mem_append_right _ hy), fun hh y hy => ?_⟩
    rcases List.mem_append.1 hy with hy | hy
    ·obtain ⟨x, hx, rfl⟩ := List.mem_map.1 hy
     unfold badA
     rw [if_neg (by show ¬ o.kind = 1; omega)]
    ·exact hh y hy

/-- How many cells come of it; they may be. -/
theorem act_len (ops : List OpD) : ∀ {cs : List CD}, allE ops → kd ops ≤ (cs.length : Int) → ((act ops cs).length : Int) = cs.length - dl ops + ins ops := by
 induction ops with
 | nil => intro cs _ _; simp [act, dl, ins]
 | cons o r ih =>
   intro cs h hk
   have ho := h o (List.mem_cons_self ..)
   have hr : allE r := fun x hx => h x (List.mem_cons_of_mem _ hx)
   have hr0 := kd_nonneg hr
   rw [kd] at hk
   rw [dl, ins]
   rcases opE_kind ho with k | k | k
   ·have hn := opE_n ho (by omega)
    rw [if_neg (by omega)] at hk
    rw [(act_keep k).1, if_neg (by omega), if_neg (by omega), List.length_append, List.length_map, List.length_take]
    have := ih (cs := cs.drop o.n.toNat) hr (by rw [List.length_drop]; omega)
    rw [List.length_drop] at this
    omega
   ·rw [if_pos k] at hk
    rw [(act_ins k).1, if_neg (by omega), if_pos k, List.length_append]
    have := ih (cs := cs) hr (by omega)
    have := (insC_len o).2
    omega
   ·have hn := opE_n ho (by omega)
    rw [if_neg (by omega)] at hk
    rw [(act_cut k).1, if_pos k, if_neg (by omega)]
    have := ih (cs := cs.drop o.n.toNat) hr (by rw [List.length_drop]; omega)
    rw [List.length_drop] at this
    omega
theorem insC_ok {o : OpD} (h : opE o = 0) (hk : o.kind = 2) : okCs (insC o) := by
 obtain ⟨_, a, b, c⟩ := (opE_put hk).1 h
 intro x hx
 unfold insC at hx
 rw [cellsD_one] at hx
 obtain ⟨d, hd, rfl⟩ := List.mem_map.1 hx
 refine ⟨?_, rgtE_zero.1 c⟩
 have hok : OkR ⟨o.text, o.attrs⟩ := by
  obtain ⟨ds, h1, h2⟩ := er_zero b
  refine ⟨ds, h1, fun e => ?_⟩
  subst e
  have := (rd_some h1).2.1
  rw [size_data, this] at a
  exact a rfl
 exact hok.rns.1 d hd
theorem act_ok (ops : List OpD) : ∀ {cs : List CD}, allE ops → okCs cs → actOk ops cs → okCs (act ops cs) := by
 induction ops with
 | nil => intro cs _ h _; exact h
 | cons o r ih =>
   intro cs h hc ha
   have ho := h o (List.mem_cons_self ..)
   have hr : allE r := fun x hx => h x (List.mem_cons_of_mem _ hx)
   have hd : okCs (cs.drop o.n.toNat) := fun x hx => hc x (List.mem_of_mem_drop hx)
   rcases opE_kind ho with k | k | k
   ·rw [(act_keep k).2] at ha
    rw [(act_keep k).1]
    intro x hx
    rcases List.mem_append.1 hx with hx | hx
    ·obtain ⟨y, hy, rfl⟩ := List.mem_map.1 hx
     obtain ⟨a, b, c, d⟩ := applyE_zero (ha.1 y hy)
     refine ⟨(hc y (List.mem_of_mem_take hy)).1, ?_⟩
     show rgtB (applyR y.2 o.attrs) = true
     rw [d]
     exact rgt_apply a b c
    ·exact ih hr hd ha.2 x hx
   ·rw [(act_ins k).2] at ha
    rw [(act_ins k).1]
    intro x hx
    rcases List.mem_append.1 hx with hx | hx
    ·exact insC_ok ho k x hx
    ·exact ih hr hc ha x hx
   ·rw [(act_cut k).2] at ha
    rw [(act_cut k).1]
    exact ih hr hd ha

/-- Operations that do the same. -/
def Eqv (a b : List OpD) : Prop := ∀ cs : List CD, (∀ x ∈ cs, rgtB x.2 = true) → act a cs = act b cs ∧ (actOk a cs ↔ actOk b cs)
theorem Eqv.refl (a : List OpD) : Eqv a a := fun _ _ => ⟨rfl, Iff.rfl⟩
theorem Eqv.symm {a b : List OpD} (h : Eqv a b) : Eqv b a := fun cs hc => ⟨(h cs hc).1.symm, (h cs hc).2.symm⟩
theorem Eqv.trans {a b c : List OpD} (h : Eqv a b) (k : Eqv b c) : Eqv a c := fun cs hc => ⟨(h cs hc).1.trans (k cs hc).1, (h cs hc).2.trans (k cs hc).2⟩
theorem Eqv.cons {a b : List OpD} (o : OpD) (h : Eqv a b) : Eqv (o :: a) (o :: b) := fun cs hc => by
 have hd : ∀ x ∈ cs.drop o.n.toNat, rgtB x.2 = true := fun x hx => hc x (List.mem_of_mem_drop hx)
 obtain ⟨h1, h2⟩ := h _ hc
 obtain ⟨d1, d2⟩ := h _ hd
 rw [act, act, actOk, actOk, h1, h2, d1, d2]
 exact ⟨rfl, Iff.rfl⟩
theorem Eqv.front {a b : List OpD} (p : List OpD) (h : Eqv a b) : Eqv (p ++ a) (p ++ b) := by
 induction p with
 | nil => exact h
 | cons o r ih => exact ih.cons o
theorem eqv_swap {o d : OpD} (ho : o.kind = 2) (hd : d.kind = 3) (r : List OpD) : Eqv (o :: d :: r) (d :: o :: r) := fun cs _ => by
 rw [(act_ins ho).1, (act_cut hd).1, (act_cut hd).1, (act_ins ho).1, (act_ins ho).2, (act_cut hd).2, (act_cut hd).2, (act_ins ho).2]
 exact ⟨rfl, Iff.rfl⟩
theorem insC_cat {x o : OpD} (hx : er x.text.data.toList = 0) (ho : er o.text.data.toList = 0) (h : cnt x.text.data.toList + cnt o.text.data.toList ≤ 20000) (ha : x.attrs = o.attrs) (n : Int) : insC { x with n := n, text := cat x.text o.text } = insC x ++ insC o := by
 obtain ⟨cs, hc, ec⟩ := er_zero hx
 obtain ⟨ds, hd, ed⟩ := er_zero ho
 have e1 : rns ⟨x.text, x.attrs⟩ = cs := by unfold rns; rw [hc]; rfl
 have e2 : rns ⟨o.text, o.attrs⟩ = ds := by unfold rns; rw [hd]; rfl
 have e3 : cat x.text o.text = T (cs ++ ds) := by rw [rd_T hc, rd_T hd, cat_T]
 unfold insC
 show cellsD [⟨cat x.text o.text, x.attrs⟩] = _
 rw [cellsD_one, cellsD_one, cellsD_one, e1, e2, e3, rns_T]
 ·rw [List.map_append, ha]
 ·intro c hcc
  rcases List.mem_append.1 hcc with h | h
  ·exact (rd_some hc).1 c h
  ·exact (rd_some hd).1 c h
 ·rw [List.length_append]; omega
theorem eqv_join {x o : OpD} (hx : opE x = 0) (ho : opE o = 0) (hk : x.kind = o.kind) (ha : x.attrs = o.attrs) (hi : ins [x] + ins [o] ≤ 20000) (r : List OpD) : Eqv ({ x with n := x.n + o.n, text := cat x.text o.text } :: r) (x :: o :: r) := fun cs _ => by
 rcases opE_kind hx with k | k | k
 ·have nx := opE_n hx (by omega)
  have no := opE_n ho (by omega)
  have ko : o.kind = 1 := by omega
  have k' : ({ x with n := x.n + o.n, text := cat x.text o.text } : OpD).kind = 1 := k
  have e : (x.n + o.n).toNat = x.n.toNat + o.n.toNat := by omega
  rw [(act_keep k').1, (act_keep k').2, (act_keep k).1, (act_keep k).2, (act_keep ko).1, (act_keep ko).2]
  show List.map (appC x.attrs) (List.take (x.n + o.n).toNat cs) ++ act r (cs.drop (x.n + o.n).toNat) = _ ∧ ((∀ y ∈ List.take (x.n + o.n).toNat cs, applyE y.2 x.attrs = 0) ∧ actOk r (cs.drop (x.n + o.n).toNat) ↔ _)
  rw [e, List.take_add, List.map_append, List.append_assoc, List.drop_drop, ha]
  refine ⟨rfl, ?_⟩
  constructor
  ·rintro ⟨h1, h2⟩
   exact ⟨fun y hy => h1 y (List.mem_append_left _ hy), fun y hy => h1 y (List.mem_append_right _ hy), h2⟩
  ·rintro ⟨h1, h2, h3⟩
   exact ⟨fun y hy => (List.mem_append.1 hy).elim (h1 y) (h2 y), h3⟩
 ·have ko : o.kind = 2 := by omega
  have k' : ({ x with n := x.n + o.n, text := cat x.text o.text } : OpD).kind = 2 := k
  simp only [ins] at hi
  rw [if_pos k, if_pos ko] at hi
  rw [(act_ins k').1, (act_ins k').2, (act_ins k).1, (act_ins k).2, (act_ins ko).1, (act_ins ko).2, insC_cat ((opE_put k).1 hx).2.2.1 ((opE_put ko).1 ho).2.2.1 (by omega) ha, List.append_assoc]
  exact ⟨rfl, Iff.rfl⟩
 ·have nx := opE_n hx (by omega)
  have no := opE_n ho (by omega)
  have ko : o.kind = 3 := by omega
  have k' : ({ x with n := x.n + o.n, text := cat x.text o.text } : OpD).kind = 3 := k
  have e : (x.n + o.n).toNat = x.n.toNat + o.n.toNat := by omega
  rw [(act_cut k').1, (act_cut k').2, (act_cut k).1, (act_cut k).2, (act_cut ko).1, (act_cut ko).2]
  show act r (cs.drop (x.n + o.n).toNat) = _ ∧ (actOk r (cs.drop (x.n + o.n).toNat) ↔ _)
  rw [e, List.drop_drop]
  exact ⟨rfl, Iff.rfl⟩
theorem eqv_put {l : List OpD} {o : OpD} (hl : allE l) (ho : opE o = 0) (hi : ins l + ins [o] ≤ 20000) (r : List OpD) : Eqv ((put l o).reverse ++ r) (l.reverse ++ o :: r) := by
 cases l with
 | nil => exact Eqv.refl _
 | cons x s =>
   rw [Ch.put]
   split
   ·rename_i h
    have h0 := ins_nonneg s
    have hs : ins (x :: s) = ins [x] + ins s := ins_append [x] s
    rw [List.reverse_cons, List.reverse_cons, List.append_assoc, List.append_assoc]
    exact (eqv_join (hl x (List.mem_cons_self ..)) ho h.1 h.2 (by omega) r).front _
   ·rw [List.reverse_cons, List.append_assoc]
    exact Eqv.refl _
/-- Operations on the way, and those that follow. -/
def rep (s : List OpD × Int) (r : List OpD) : List OpD := s.1.reverse ++ ((if 0 < s.2 then [delO s.2] else []) ++ r)
theorem eqv_flush {s : List OpD × Int} (hl : allE s.1) (hi : ins s.1 ≤ 20000) (r : List OpD) : Eqv ((flush s).reverse ++ r) (rep s r) := by
 unfold flush rep
 split
 ·rename_i h
  have e : ins [delO s.2] = 0 := rfl
  exact eqv_put hl (delO_ok h) (by rw [e]; omega) r
 ·exact Eqv.refl _
theorem eqv_add {s : List OpD × Int} {o : OpD} (hl : allE s.1) (hg : 0 ≤ s.2) (ho : opE o = 0) (hi : ins s.1 + ins [o] ≤ 20000) (r : List OpD) : Eqv (rep (add s o) r) (rep s (o :: r)) := by
 have h0 := ins_nonneg [o]
 rcases opE_kind ho with k | k | k
 ·have e : add s o = (put (flush s) o, 0) := by unfold add; rw [if_neg (by omega), if_pos k]
  obtain ⟨f1, f2, f3, f4⟩ := flush_all hl hg (by omega)
  have e2 : rep (put (flush s) o, 0) r = (put (flush s) o).reverse ++ r := by unfold rep; rw [if_neg (by show ¬ (0:Int) < 0; omega)]; rfl
  rw [e, e2]
  exact (eqv_put f1 ho (by omega) r).trans (eqv_flush hl (by omega) (o :: r))
 ·have e : add s o = (put s.1 o, s.2) := by unfold add; rw [if_neg (by omega), if_neg (by omega)]
  rw [e]
  refine (eqv_put hl ho hi _).trans (Eqv.front _ ?_)
  show Eqv (o :: ((if 0 < s.2 then [delO s.2] else []) ++ r)) _
  split
  ·exact eqv_swap k rfl r
  ·exact Eqv.refl _
 ·have e : add s o = (s.1, s.2 + o.n) := by unfold add; rw [if_pos k]
  have hn := opE_n ho (by omega)
  rw [e]
  refine Eqv.front _ ?_
  show Eqv ((if 0 < s.2 + o.n then [delO (s.2 + o.n)] else []) ++ r) _
  rw [if_pos (by omega)]
  intro cs _
  show act (delO (s.2 + o.n) :: r) cs = _ ∧ (actOk (delO (s.2 + o.n) :: r) cs ↔ _)
  rw [(act_cut (o := delO (s.2 + o.n)) rfl).1, (act_cut (o := delO (s.2 + o.n)) rfl).2]
  show act r (cs.drop (s.2 + o.n).toNat) = _ ∧ (actOk r (cs.drop (s.2 + o.n).toNat) ↔ _)
  by_cases h : 0 < s.2
  ·rw [if_pos h]
   show _ = act (delO s.2 :: o :: r) cs ∧ (_ ↔ actOk (delO s.2 :: o :: r) cs)
   rw [(act_cut (o := delO s.2) rfl).1, (act_cut (o := delO s.2) rfl).2, (act_cut k).1, (act_cut k).2]
   show _ = act r (List.drop o.n.toNat (cs.drop s.2.toNat)) ∧ (_ ↔ actOk r (List.drop o.n.toNat (cs.drop s.2.toNat)))
   have e : (s.2 + o.n).toNat = s.2.toNat + o.n.toNat := by omega
   rw [e, List.drop_drop]
   exact ⟨rfl, Iff.rfl⟩
  ·rw [if_neg h]
   show _ = act (o :: r) cs ∧ (_ ↔ actOk (o :: r) cs)
   have e : (s.2 + o.n).toNat = o.n.toNat := by omega
   rw [(act_cut k).1, (act_cut k).2, e]
   exact ⟨rfl, Iff.rfl⟩
theorem eqv_fold (ops : List OpD) : ∀ {s : List OpD × Int}, allE s.1 → 0 ≤ s.2 → allE ops → ins s.1 + ins ops ≤ 20000 → Eqv (rep (ops.foldl add s) []) (rep s ops) := by
 induction ops with
 | nil => intro s _ _ _ _; exact Eqv.refl _
 | cons o r ih =>
   intro s h1 h2 h3 h4
   have hs : ins (o :: r) = ins [o] + ins r := ins_append [o] r
   have hr := ins_nonneg r
   have ho := h3 o (List.mem_cons_self ..)
   obtain ⟨a1, a2, a3, a4, a5⟩ := add_all h1 h2 ho (by omega)
   rw [List.foldl_cons]
   exact (ih a1 a2 (fun x hx => h3 x (List.mem_cons_of_mem _ hx)) (by omega)).trans (eqv_add h1 h2 ho (by omega) r)
theorem eqv_trim (l : List OpD) (h : allE l) : Eqv (trim l).reverse l.reverse := by
 cases l with
 | nil => exact Eqv.refl _
 | cons x r =>
   rw [trim]
   split
   ·rename_i hb
    rw [List.reverse_cons]
    have : Eqv (r.reverse ++ []) (r.reverse ++ [x]) := by
     refine Eqv.front _ fun cs hc => ?_
     have ha : x.attrs = [] := List.length_eq_zero_iff.1 hb.2
     have ht : ∀ y ∈ cs.take x.n.toNat, rgtB y.2 = true := fun y hy => hc y (List.mem_of_mem_take hy)
     rw [(act_keep hb.1).1, (act_keep hb.1).2, ha, map_nil ht]
     refine ⟨?_, ?_⟩
     ·show cs = _
      exact (List.take_append_drop _ _).symm
     ·exact ⟨fun _ => ⟨fun y hy => (nothing_l (ht y hy)).1, trivial⟩, fun _ => trivial⟩
    rwa [List.append_nil] at this
   ·exact Eqv.refl _
/-- The normal form does the same. -/
theorem eqv_norm {ops : List OpD} (h : allE ops) (hi : ins ops ≤ 20000) : Eqv (norm ops) ops := by
 obtain ⟨a1, a2, a3, a4, a5⟩ := fold_all h hi
 obtain ⟨b1, b2, b3, b4⟩ := flush_all a1 a2 (by omega)
 unfold norm
 refine (eqv_trim _ b1).trans ?_
 have h1 := eqv_flush (s := fold ops) a1 (by omega) []
 rw [List.append_nil] at h1
 exact h1.trans (eqv_fold ops (s := ([], 0)) (fun x hx => by cases hx) (Int.le_refl _) h (by simpa [ins] using hi))
end Go.Proofs.YtlfodemmdfaeeaaGreatDoor

/- What Apply and Inverse answer, by cells. -/
namespace Go.Proofs.YtlfodemmdfaeeaaGreatDoor
open Go.RowKit Rn Ch At

/-- What Apply answers. -/
structure AppF (l : List RunD) (f : Int) (ops : List OpD) : Prop where
 fit : fitE l f ops = 0
 ok : actOk ops (cellsD l)
 val : appL l f ops = (docR (act ops (cellsD l))).reverse
 len : (docR (act ops (cellsD l))).length ≤ 2000
 cok : okCs (act ops (cellsD l))
 n : (act ops (cellsD l)).length ≤ 20000
 nn : ((act ops (cellsD l)).length : Int) = toN f ops
 cells : cellsD (appL l f ops) = act ops (cellsD l)
 right : lenE (appL l f ops) = 0
 num : lenN (appL l f ops) = toN f ops
structure FitG (l : List RunD) (f : Int) (ops : List OpD) : Prop where
 doc : DocF l
 okc : OkC f ops
 fc : f = ((cellsD l).length : Int)
theorem fit_iff {l : List RunD} {f : Int} {ops : List OpD} : fitE l f ops = 0 ↔ lenE l = 0 ∧ toE f ops = 0 ∧ f = lenN l := by
 unfold fitE
 by_cases h1 : lenE l = 0
 ·rw [if_neg (by rw [h1]; simp)]
  by_cases h2 : toE f ops = 0
  ·rw [if_neg (by rw [h2]; simp)]
   by_cases h3 : f = lenN l
   ·rw [if_neg (by rw [← h3]; simp)]; exact ⟨fun _ => ⟨h1, h2, h3⟩, fun _ => rfl⟩
   ·rw [if_pos h3]; exact ⟨fun h => by omega, fun h => absurd h.2.2 h3⟩
  ·rw [if_pos h2]; exact ⟨fun h => absurd h h2, fun h => absurd h.2.1 h2⟩
 ·rw [if_pos h1]; exact ⟨fun h => absurd h h1, fun h => absurd h.1 h1⟩
theorem fitG_of {l : List RunD} {f : Int} {ops : List OpD} (h : fitE l f ops = 0) : FitG l f ops := by
 obtain ⟨h1, h2, h3⟩ := fit_iff.1 h
 have hd := docF_of h1
 exact ⟨hd, (toE_iff f ops).1 h2, h3.trans hd.n⟩
theorem FitG.met {l : List RunD} {f : Int} {ops : List OpD} (h : FitG l f ops) : outC (metD l ops) = act ops (cellsD l) ∧ (errA (metD l ops) = 0 ↔ actOk ops (cellsD l)) := by
 obtain ⟨a, b⟩ := met_act ops (cs := cellsD l) (fun x hx => (h.doc.cell hx).2) h.doc.n1 (fun o ho => opE_kind (h.okc.2.2.2.1 o ho))
 exact ⟨a, errA_zero.trans b⟩
theorem appF_of {l : List RunD} {f : Int} {ops : List OpD} (h : appE l f ops = 0) : AppF l f ops := by
 have h0 := h
 unfold appE at h
 split at h
 ·exact absurd h (by assumption)
 ·rename_i h1
  have h1 : fitE l f ops = 0 := Classical.byContradiction h1
  split at h
  ·exact absurd h (by assumption)
  ·rename_i h2
   have h2 : errA (metD l ops) = 0 := Classical.byContradiction h2
   split at h
   ·omega
   ·rename_i h3
    have hg := fitG_of h1
    obtain ⟨m1, m2⟩ := hg.met
    have hok := m2.1 h2
    have hcs : okCs (cellsD l) := fun x hx => hg.doc.cell hx
    have ha := act_ok ops hg.okc.2.2.2.1 hcs hok
    have hl := act_len ops (cs := cellsD l) hg.okc.2.2.2.1 (by have := hg.okc.2.2.2.2.1; have := hg.fc; omega)
    have hto := toN_ok (fit_iff.1 h1).2.1
    have h6 := hg.okc.2.2.2.2.2
    have hfc := hg.fc
    have hn : (act ops (cellsD l)).length ≤ 20000 := by omega
    have hnn : ((act ops (cellsD l)).length : Int) = toN f ops := by omega
    have hv : appL l f ops = (docR (act ops (cellsD l))).reverse := by
     unfold appL
     rw [if_pos h0, accA_out, m1]
    rw [accA_out, m1] at h3
    obtain ⟨d1, d2⟩ := docR_doc ha hn
    obtain ⟨d3, d4⟩ := d2 (by omega)
    exact ⟨h1, hok, hv, by omega, ha, hn, hnn, by rw [hv]; exact d1, by rw [hv]; exact d3, by rw [hv, d4]; exact hnn⟩
theorem app_mk {l : List RunD} {f : Int} {ops : List OpD} (h1 : fitE l f ops = 0) (h2 : actOk ops (cellsD l)) (h3 : (docR (act ops (cellsD l))).length ≤ 2000) : appE l f ops = 0 := by
 obtain ⟨m1, m2⟩ := (fitG_of h1).met
 unfold appE
 rw [if_neg (by rw [h1]; simp), if_neg (by rw [m2.2 h2]; simp), if_neg (by rw [accA_out, m1]; omega)]
/-- The way back, cell by cell. -/
def backOne (y : MD) : OpD := if y.1.kind = 1 then ⟨1, 1, ⟨#[]⟩, invertR y.2.2 y.1.attrs⟩ else if y.1.kind = 2 then ⟨3, 1, ⟨#[]⟩, []⟩ else ⟨2, 0, E y.2.1, y.2.2⟩
def backs (ys : List MD) : List OpD := ys.map backOne
/-- Each met cell may be gone back over. -/
structure MetOk (y : MD) : Prop where
 kind : y.1.kind = 1 ∨ y.1.kind = 2 ∨ y.1.kind = 3
 cok : ok y.2.1
 rgt : rgtB y.2.2 = true
 bad : badA y = 0
/-- What Inverse answers. -/
def invL (l : List RunD) (ops : List OpD) : List OpD := norm (backs (metD l ops))
/-- The way back, carried out, is the way back. -/
structure InvF (l : List RunD) (f : Int) (ops : List OpD) : Prop where
 tob : toE (lenN (appL l f ops)) (invL l ops) = 0
 once : norm (invL l ops) = invL l ops
 back : appE (appL l f ops) (lenN (appL l f ops)) (invL l ops) = 0
 val : appL (appL l f ops) (lenN (appL l f ops)) (invL l ops) = l
end Go.Proofs.YtlfodemmdfaeeaaGreatDoor
