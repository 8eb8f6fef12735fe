/- Texts of this seat, put together: Ml, La, Lb. -/
import Derived.Test.YtchceolbbkhnnaaGM6
import Derived.Test.YtchceolbbkhnnaaGM5
import Derived.Test.YtchceolbbkhnnaaGP2
import Derived.Test.YtchceolbbkhnnaaGD1
/- The program's Compose. -/
namespace Go.Proofs.Ytchceolbbkhnnaa
open Go.RowKit Go.Shelf Rn Ch
open At hiding put
open Cp (Piece oneO oneE alC zeroO atm atms)
attribute [local go_sem] Oper.semAt_some

set_option maxRecDepth 100000 in
theorem aloneC_any (w : World) (x y : QV5) : Calls Try.prog 24 #[opA4 x, opA4 y] w fun e w' => e = .returned (.int .i64 (alC x.1 y.1)) ∧ Below w.heap.size w w' := by
 have b2 := Lib.hid (show Below w.heap.size w ((w.alloc (.cells #[.int .i64 x.1.kind, .int .i64 x.1.n, .string x.1.text, qv x] 40)).alloc (.cells #[.int .i64 y.1.kind, .int .i64 y.1.n, .string y.1.text, qv y] 40)) from ((Below.refl _ _).alloc (Nat.le_refl _) _).alloc (by simp) _)
 unfold alC
 by_cases k1 : x.1.kind = 3
 ·have t1 : (x.1.kind == 3) = true := by rw [k1]; rfl
  rw [if_pos k1]
  clear k1
  go_enter Try.func24, Try.ntmps24
  go_wp2_with fail
  go_ret
  exact ⟨rfl, b2.out⟩
 ·have t1 : (x.1.kind == 3) = false := by rw [beq_eq_false_iff_ne]; exact k1
  rw [if_neg k1]
  clear k1
  by_cases k2 : y.1.kind = 2
  ·have t2 : (y.1.kind == 2) = true := by rw [k2]; rfl
   rw [if_pos k2]
   clear k2
   go_enter Try.func24, Try.ntmps24
   go_wp2_with fail
   go_ret
   exact ⟨rfl, b2.out⟩
  ·have t2 : (y.1.kind == 2) = false := by rw [beq_eq_false_iff_ne]; exact k2
   rw [if_neg k2]
   clear k2
   go_enter Try.func24, Try.ntmps24
   go_wp2_with fail
   go_ret
   exact ⟨rfl, b2.out⟩
open Classical in
noncomputable def cmpE (f g : Int) (A C : List OpD) : Int := if nrmE f g A C ≠ 0 then nrmE f g A C else if ¬ Cp.fit (atms (norm A)) (atms (norm C)) then 3 else if 2000 < (Cp.cmpN (norm A) (norm C)).length then 2 else 0
theorem cmpE_unfit {f g : Int} {A C : List OpD} (h : nrmE f g A C = 0) (hf : ¬ Cp.fit (atms (norm A)) (atms (norm C))) : cmpE f g A C = 3 := by
 unfold cmpE
 rw [if_neg (by rw [h]; simp), if_pos hf]
theorem cmpE_fit {f g : Int} {A C : List OpD} (h : nrmE f g A C = 0) (hf : Cp.fit (atms (norm A)) (atms (norm C))) : cmpE f g A C = if 2000 < (Cp.cmpN (norm A) (norm C)).length then 2 else 0 := by
 unfold cmpE
 rw [if_neg (by rw [h]; simp), if_neg (fun hn => hn hf)]
theorem out_not5 {ts : List TypeId} {o : Obj} (h : o.isCells = false) : Out ts o := by cases o <;> first | trivial | cases h
theorem three_set5 {W : World} {n : Nat} {t1 t2 : TypeId} {a b c : Value} (x y u : Value) (h1 : W.heap[n]? = some (.cells #[a, b] t1 (0, 0))) (h2 : Boxed W (n + 1) t2 c) :
 (((W.setCell ⟨n, 0, none⟩ x).setCell ⟨n, 1, none⟩ y).setCell ⟨n + 1, 0, none⟩ u).heap[n]? = some (.cells #[x, y] t1 (0, 0)) ∧ Boxed (((W.setCell ⟨n, 0, none⟩ x).setCell ⟨n, 1, none⟩ y).setCell ⟨n + 1, 0, none⟩ u) (n + 1) t2 u ∧ Keep n [t1, t2] W (((W.setCell ⟨n, 0, none⟩ x).setCell ⟨n, 1, none⟩ y).setCell ⟨n + 1, 0, none⟩ u) := by
 obtain ⟨a1, a2, a3⟩ := agg_set x y h1
 have b2 : Boxed ((W.setCell ⟨n, 0, none⟩ x).setCell ⟨n, 1, none⟩ y) (n + 1) t2 c := (a3 (n + 1) (by omega)).trans h2
 exact ⟨(Below.heap_setCell _ _ _ _ (by simp)).trans a1, b2.set u, (a2.more (by simp)).trans (keep_set (B := n) (ts := [t1, t2]) b2 (by simp) (by omega) ⟨n + 1, 0, none⟩ rfl u)⟩
theorem OwnP.cells5 {w w' : World} {B : Nat} {v : Value} {ps : List (OpD × Value)} (h : OwnP w B v ps) (hk : ∀ (i : Nat) (cs : Array Value) (e : TypeId) (fr : Nat × Nat), w.heap[i]? = some (.cells cs e fr) → w'.heap[i]? = some (.cells cs e fr)) : OwnP w' B v ps :=
 ⟨own_cells5 h.1 fun i cs fr => hk i cs _ fr, fun p hp => own_cells5 (h.2 p hp) fun i cs fr => hk i cs _ fr⟩
theorem rnd_of_keep5 {B N : Nat} {ts : List TypeId} {w w' : World} (h : Keep B ts w w') : Rnd B N ts w w' :=
 ⟨h.below, h.kept, fun i o _ ho hc => h.all i o ho (out_not5 hc)⟩
/-- What Compose answers. -/
def CmpOut (w : World) (f g : Int) (A C : List OpD) (e : Ending) (w' : World) : Prop :=
 Below w.heap.size w w' ∧ ∃ a n c, e = .returned (.tuple #[chAgg (if cmpE f g A C = 0 then f else 0) (.slice a n c), .int .i64 (cmpE f g A C)]) ∧ OwnOps w' w.heap.size (.slice a n c) (if cmpE f g A C = 0 then Cp.cmpN (norm A) (norm C) else [])
theorem results_cmp {fn : Func} (h : fn.results = #[.cell 4 24, .cell 5 28]) {tmps : Array Value} {w : World} {b4 b5 : Nat} {x y v : Value} (h4 : tmps.getD 4 undef = .pointer (some ⟨b4, 0, none⟩)) (h5 : tmps.getD 5 undef = .pointer (some ⟨b5, 0, none⟩))
 (a : w.heap[b4]? = some (.cells #[x, y] 24 (0, 0))) (b : Boxed w b5 28 v) : (results fn tmps).run Try.prog w = .ok (.tuple #[.agg #[x, y], v]) w := by
 rw [Array.getD_eq_getD_getElem?] at h4 h5
 have a0 : w.cell? ⟨b4, 0, none⟩ = some x := by simp [World.cell?, a]
 have a1 : w.cell? ⟨b4, 1, none⟩ = some y := by simp [World.cell?, a]
 have b0 := b.cell
 clear a b
 simp [results, h, h4, h5, go_sem, a0, a1, b0]
set_option maxRecDepth 100000 in
set_option maxHeartbeats 4000000 in
theorem compose_any (f g : Int) (va vb : Value) (A C : List OpD) (w : World) (hv : OpRow w va A) (hz : OSized A) (hu : OpRow w vb C) (hy : OSized C) :
 Calls Try.prog 7 #[chAgg f va, chAgg g vb] w (CmpOut w f g A C) := by
 obtain ⟨W, hW⟩ : ∃ W, W = (((w.alloc (.cells #[.int .i64 f, va] 24)).alloc (.cells #[.int .i64 g, vb] 24)).alloc (.cells #[.int .i64 0, .slice none 0 0] 24)).alloc (.cells #[.int .i64 0] 28) := ⟨_, rfl⟩
 have BW := Lib.hid (show Below w.heap.size w W by rw [hW]; exact ((((Below.refl _ _).alloc (Nat.le_refl _) _).alloc (by simp) _).alloc (by simp; omega) _).alloc (by simp; omega) _)
 have HN := Lib.hid (normal5_any f g va vb A C W (hv.below BW.out) hz (hu.below BW.out) hy)
 have k0 : W.heap[w.heap.size]? = some (.cells #[.int .i64 f, va] 24 (0, 0)) := by
  rw [hW]
  exact (Below.heap_alloc _ _ _ (by simp; omega)).trans ((Below.heap_alloc _ _ _ (by simp; omega)).trans ((Below.heap_alloc _ _ _ (by simp)).trans (heap_new _ _)))
 have k1 : W.heap[w.heap.size + 1]? = some (.cells #[.int .i64 g, vb] 24 (0, 0)) := by
  rw [hW]
  have := heap_new (w.alloc (.cells #[.int .i64 f, va] 24)) (.cells #[.int .i64 g, vb] 24)
  rw [World.size_alloc] at this
  exact (Below.heap_alloc _ _ _ (by simp)).trans ((Below.heap_alloc _ _ _ (by simp)).trans this)
 have k2 : W.heap[w.heap.size + 1 + 1]? = some (.cells #[.int .i64 0, .slice none 0 0] 24 (0, 0)) := by
  rw [hW]
  exact (Below.heap_alloc _ _ _ (by simp)).trans (by
   have := heap_new ((w.alloc (.cells #[.int .i64 f, va] 24)).alloc (.cells #[.int .i64 g, vb] 24)) (.cells #[.int .i64 0, .slice none 0 0] 24)
   rwa [World.size_alloc, World.size_alloc] at this)
 have k3 : W.heap[w.heap.size + 1 + 1 + 1]? = some (.cells #[.int .i64 0] 28 (0, 0)) := by
  rw [hW]
  have := heap_new (((w.alloc (.cells #[.int .i64 f, va] 24)).alloc (.cells #[.int .i64 g, vb] 24)).alloc (.cells #[.int .i64 0, .slice none 0 0] 24)) (.cells #[.int .i64 0] 28)
  rwa [World.size_alloc, World.size_alloc, World.size_alloc] at this
 have HK := Lib.hid (And.intro k0 (And.intro k1 (And.intro k2 k3)))
 obtain ⟨aa, ac, rfl⟩ := hv.shape
 obtain ⟨ca, cc, rfl⟩ := hu.shape
 have HW := Lib.hid hW
 clear hW k0 k1 k2 k3 hv hu hz hy
 refine (callsIn_wide (n := 0)).1 ?_
 unfold CmpOut
 by_cases hE : nrmE f g A C = 0
 ·have hnz : toE f A = 0 ∧ toE g C = 0 ∧ toN f A = g := by
   unfold nrmE at hE
   by_cases h1 : toE f A = 0
   ·rw [if_neg (by rw [h1]; simp)] at hE
    by_cases h2 : toE g C = 0
    ·rw [if_neg (by rw [h2]; simp)] at hE
     by_cases h3 : toN f A = g
     ·exact ⟨h1, h2, h3⟩
     ·rw [if_pos h3] at hE; omega
    ·rw [if_pos h2] at hE; exact absurd hE h2
   ·rw [if_pos h1] at hE; exact absurd hE h1
  have HCF := Lib.hid (nrm_zero hnz.1 hnz.2.1 hnz.2.2)
  have HCE := Lib.hid (And.intro (fun hf => cmpE_unfit hE hf) (fun hf => cmpE_fit hE hf))
  unfold Nrm5Out at HN
  rw [hE] at HN
  clear hE hnz
  obtain ⟨E, hEE⟩ : ∃ E, E = cmpE f g A C := ⟨_, rfl⟩
  obtain ⟨F, hFF⟩ : ∃ F, F = (if cmpE f g A C = 0 then f else 0) := ⟨_, rfl⟩
  obtain ⟨L, hLL⟩ : ∃ L, L = (if cmpE f g A C = 0 then Cp.cmpN (norm A) (norm C) else []) := ⟨_, rfl⟩
  rw [← hEE] at hFF hLL ⊢
  rw [← hFF, ← hLL]
  have HEF := Lib.hid (And.intro hEE (And.intro hFF hLL))
  clear hEE hFF hLL
  refine callsIn_of_wp_marks Try.func7 rfl trivial ?_ rfl
  simp only [Try.ntmps7, List.size_toArray, List.length_cons, List.length_nil, Nat.reduceAdd, Nat.reduceSub, Array.replicate_succ, Array.replicate_zero, List.push_toArray, List.append_toArray, List.nil_append, List.cons_append]
  gi_wp2
  rw [← HW.out]
  refine ⟨trivial, rfl, (callsIn_wide.2 HN.out).mono ?_⟩
  rintro e w1 ⟨b, x0, y0, ua, va', un, uc, vn, vc, rfl, hO⟩
  obtain ⟨rfl, rfl, ⟨pA, hpA, oA⟩, ⟨pC, hpC, oC⟩⟩ := hO trivial
  have B1 := Lib.hid (BW.out.trans (b.mono BW.out.size))
  have z0 := (b.block _ (lt_of_heap HK.out.1)).trans HK.out.1
  have z1 := (b.block _ (lt_of_heap HK.out.2.1)).trans HK.out.2.1
  have z2 := (b.block _ (lt_of_heap HK.out.2.2.1)).trans HK.out.2.2.1
  have z3 := (b.block _ (lt_of_heap HK.out.2.2.2)).trans HK.out.2.2.2
  obtain ⟨p0, p1, p2, p3⟩ := cells2 z0
  obtain ⟨q0, q1, q2, q3⟩ := cells2 z1
  obtain ⟨r0, r1, r2, r3⟩ := cells2 z2
  have l0 := lt_of_heap z0
  have l1 := lt_of_heap z1
  have l3 := lt_of_heap z3
  have hn1 : w.heap.size + 3 < w1.heap.size := l3
  have ZZ := Lib.hid (And.intro z0 (And.intro z1 (And.intro z2 z3)))
  have HOP := Lib.hid (And.intro oA oC)
  have HPE := Lib.hid (And.intro hpA hpC)
  clear b z0 z1 z2 z3 HN HK HW hO hpA hpC oA oC
  gi_wp2
  obtain ⟨Y1, hY1, s1, s2, s3⟩ : ∃ Y1, Y1 = (((w1.setCell ⟨w.heap.size, 0, none⟩ (.int .i64 x0)).setCell ⟨w.heap.size, 1, none⟩ (.slice ua un uc)).setCell ⟨w.heap.size + 1, 0, none⟩ (.int .i64 y0)).setCell ⟨w.heap.size + 1, 1, none⟩ (.slice va' vn vc) ∧ Y1.heap[w.heap.size]? = some (.cells #[.int .i64 x0, .slice ua un uc] 24 (0, 0)) ∧ (∀ i, i ≠ w.heap.size → i ≠ w.heap.size + 1 → Y1.heap[i]? = w1.heap[i]?) ∧ Keep w.heap.size [24] w1 Y1 := by
   obtain ⟨r1, r2, r3⟩ := set22 (B := w.heap.size) (u0 := .int .i64 x0) (u1 := .slice ua un uc) (v0 := .int .i64 y0) (v1 := .slice va' vn vc) ZZ.out.1 ZZ.out.2.1 (show w.heap.size + 1 ≠ w.heap.size by omega) (Nat.le_refl _) (by omega)
   exact ⟨_, rfl, r1, fun i h1 h2 => (Below.heap_setCell _ _ _ _ h2).trans ((Below.heap_setCell _ _ _ _ h2).trans ((Below.heap_setCell _ _ _ _ h1).trans (Below.heap_setCell _ _ _ _ h1))), r3⟩
  have hsY1 : Y1.heap.size = w1.heap.size := by rw [hY1]; simp
  obtain ⟨Y, hY⟩ : ∃ Y, Y = Y1.alloc (.cells #[.slice none 0 0, .pointer none, .slice none 0 0, .int .i64 0] 56) := ⟨_, rfl⟩
  have bY : Below Y1.heap.size Y1 Y := by rw [hY]; exact below_box Y1 _
  have gY : Y.heap[w1.heap.size]? = some (.cells #[.slice none 0 0, .pointer none, .slice none 0 0, .int .i64 0] 56 (0, 0)) := by rw [hY, ← hsY1]; exact heap_new _ _
  have kY : ∀ {i : Nat} {o : Obj}, Y1.heap[i]? = some o → Y.heap[i]? = some o := fun hi => (bY.block _ (lt_of_heap hi)).trans hi
  have oA' := (HOP.out.1.keep s3 (by decide) (by decide)).keep (keep_below (ts := []) bY (Nat.le_refl _)) (by simp) (by simp)
  have oC' := (HOP.out.2.keep s3 (by decide) (by decide)).keep (keep_below (ts := []) bY (Nat.le_refl _)) (by simp) (by simp)
  obtain ⟨qA, eA, rA, tA⟩ := qs_of oA'
  obtain ⟨qC, eC, rC, tC⟩ := qs_of oC'
  have eA' := eA.trans HPE.out.1
  have eC' := eC.trans HPE.out.2
  have vA := vq_of HCF.out.okA eA'
  have vC := vq_of HCF.out.okB eC'
  have lA : qA.length ≤ 2000 := by have := congrArg List.length eA'; rw [List.length_map] at this; rw [this]; exact HCF.out.okA.2.2.1
  have lC : qC.length ≤ 2000 := by have := congrArg List.length eC'; rw [List.length_map] at this; rw [this]; exact HCF.out.okB.2.2.1
  obtain ⟨ps, hM⟩ := met_ex (qA.length + qC.length) qA qC (Nat.le_refl _) vA vC
  have BY := Lib.hid ((B1.out.trans s3.below).trans (bY.mono (by have := s3.below.size; have := B1.out.size; omega)))
  have S0 : StM w Y w1.heap.size x0 (.slice ua un uc) qA qC ps 0 := {
   below := BY.out
   gat := ⟨_, nst_new gY⟩
   ba := kY s1
   r4 := kY ((s2 _ (by omega) (by omega)).trans ZZ.out.2.2.1)
   r5 := kY ((s2 _ (by omega) (by omega)).trans ZZ.out.2.2.2)
   own := fun q hq => hq.elim (fun h => ⟨_, tA q h⟩) (fun h => ⟨_, tC q h⟩)
   ok := fun i _ h => absurd h (Nat.not_lt_zero _) }
  have hsY : w1.heap.size < Y.heap.size := lt_of_heap gY
  rw [← hY1, ← hY]
  have HS0 := Lib.hid S0
  have HM := Lib.hid hM
  have HRQ := Lib.hid (And.intro rA rC)
  have HVQ := Lib.hid (And.intro (And.intro vA vC) (And.intro eA' eC'))
  have hn4 : w.heap.size + 1 + 1 + 1 < Y.heap.size := by omega
  have HLN := Lib.hid (And.intro lA lC)
  clear hY1 hY s1 s2 s3 bY gY kY oA' oC' eA eC eA' eC' rA rC tA tC S0 hM hsY1 p0 p1 p2 p3 q0 q1 q2 q3 r0 r1 r2 r3 l0 l1 l3 ZZ HOP HPE
  refine ⟨trivial, rfl, (callsIn_wide.2 (meet5_any x0 y0 (.slice ua un uc) (.slice va' vn vc) (.func (.func 24) #[] #[]) 24 rfl ⟨_, _, _, rfl⟩ ⟨_, _, _, rfl⟩ Y)).mono ?_⟩
  rintro e w3 ⟨rfl, hw3⟩
  have b3 : Below Y.heap.size Y w3 := by rw [hw3]; exact (((Below.refl _ _).alloc (Nat.le_refl _) _).alloc (by simp) _).alloc (by simp; omega) _
  have h30 : w3.heap[Y.heap.size]? = some (.cells #[.int .i64 x0, .slice ua un uc] 24 (0, 0)) := by rw [hw3]; exact (Below.heap_alloc _ _ _ (by simp; omega)).trans ((Below.heap_alloc _ _ _ (by simp)).trans (heap_new _ _))
  have h31 : w3.heap[Y.heap.size + 1]? = some (.cells #[.int .i64 y0, .slice va' vn vc] 24 (0, 0)) := by
   rw [hw3]
   have := heap_new (Y.alloc (.cells #[.int .i64 x0, .slice ua un uc] 24)) (.cells #[.int .i64 y0, .slice va' vn vc] 24)
   rw [World.size_alloc] at this
   exact (Below.heap_alloc _ _ _ (by simp)).trans this
  have h32 : Boxed w3 (Y.heap.size + 1 + 1) 48 (.func (.func 24) #[] #[]) := by
   rw [hw3]
   have := heap_new ((Y.alloc (.cells #[.int .i64 x0, .slice ua un uc] 24)).alloc (.cells #[.int .i64 y0, .slice va' vn vc] 24)) (.cells #[.func (.func 24) #[] #[]] 48)
   rw [World.size_alloc, World.size_alloc] at this
   exact this
  have S3 := Lib.hid (HS0.out.step (step_below (N := 0) (own := []) WT5 b3 (by omega)))
  have H3 := Lib.hid (And.intro h30 (And.intro h31 h32))
  have HB3 := Lib.hid b3
  have hs3 := b3.size
  have HIT := Lib.hid (meet_iter w.heap.size Y.heap.size (Y.heap.size + 1) (Y.heap.size + 1 + 1) x0 y0 (.slice ua un uc) (.slice va' vn vc) qA qC ps alC (.func (.func 24) #[] #[]) TB5 (fun _ _ => True) (fun _ _ => True) HM.out.met HVQ.out.1.1 HVQ.out.1.2 lA lC ⟨fun _ _ => trivial, fun _ => trivial, fun _ _ _ _ _ _ => trivial⟩ (by decide) (by decide) (by decide) (by decide) (by decide) (fun _ => True) (fun _ _ => trivial) (fun _ _ _ _ => trivial)
   (fun X hb _ x y => alone_any _ _ 24 alC rfl (enters_of Try.func24 (by kernel_rfl) rfl) (fun X x y => aloneC_any X x y) X hb x y))
  clear hw3 b3 h30 h31 h32 lA lC
  gi_wp2
  refine range_it HIT.out rfl (enters_of Try.func45 (by kernel_rfl) rfl) (fun _ => rfl) (by omega) ?hS (fun _ _ => trivial) (fun _ _ _ _ _ _ => trivial)
   (fun k W' => StM w W' w1.heap.size x0 (.slice ua un uc) qA qC ps k) (fun c k W' => c = .ret ∧ EndM w W' ps)
   (fun _ _ _ h hs => h.step hs) (fun _ _ _ _ h hs => ⟨h.1, h.2.step hs⟩) (fun _ _ _ _ _ => trivial) S3.out ?rnd ?done ?stop (fun _ _ _ _ => trivial)
  case hS =>
   intro X hb
   have hk : ∀ {i : Nat} {o : Obj}, w3.heap[i]? = some o → X.heap[i]? = some o := fun hi => (hb.block _ (lt_of_heap hi)).trans hi
   have hbY := HB3.out.trans (hb.mono hs3)
   exact ⟨hk H3.out.1, hk H3.out.2.1, hk H3.out.2.2, HRQ.out.1.below hbY, HRQ.out.2.below hbY⟩
  case stop =>
   rintro D c k X hle hk ⟨rfl, hx⟩ hD
   gi_wp2
   refine ⟨by simp, .inl ⟨_, _, rfl, run_takeDeferred hD, ?_⟩⟩
   have e4 : (X.putObj D (.deferred none)).heap[w.heap.size + 1 + 1]? = some (.cells #[.int .i64 0, .slice none 0 0] 24 (0, 0)) := putObj_cells hD rfl hx.r4
   have e5 : Boxed (X.putObj D (.deferred none)) (w.heap.size + 1 + 1 + 1) 28 (.int .i64 3) := putObj_cells hD rfl hx.r5
   have hnf : ¬ Cp.fit (atms (norm A)) (atms (norm C)) := by
    rw [← HVQ.out.2.1, ← HVQ.out.2.2]
    intro hf
    obtain ⟨p, hp, hb⟩ := hx.bad
    exact hb (HM.out.fit.1 hf p hp)
   have hE3 : E = 3 := HEF.out.1.trans (HCE.out.1 hnf)
   have hF0 : F = 0 := by rw [HEF.out.2.1, if_neg (by omega)]
   have hL0 : L = [] := by rw [HEF.out.2.2, if_neg (by omega)]
   rw [hE3, hF0, hL0]
   exact ⟨_, results_cmp rfl rfl rfl e4 e5, hx.below.trans (below_put (by omega) hD), none, 0, 0, rfl, [], rfl, World.ownsRow_nil _ _ _ _, fun p hp => (by cases hp)⟩
  case done =>
   rintro D X hle hI _ hD
   have hall : ∀ p ∈ ps, oneE p.1.1 p.2.1 = 0 := fun p hp => by
    obtain ⟨i, hi, rfl⟩ := List.getElem_of_mem hp
    exact hI.ok i hi hi
   have hpl : ps.length ≤ 4000 := by have := HM.out.len; have := HLN.out.1; have := HLN.out.2; omega
   have hfit : Cp.fit (atms (norm A)) (atms (norm C)) := by
    rw [← HVQ.out.2.1, ← HVQ.out.2.2]
    exact HM.out.fit.2 hall
   obtain ⟨ov, hN⟩ := hI.gat
   obtain ⟨f0, f1, f2⟩ := (sM_sm HM.out ps.length (Nat.le_refl _) (fun i _ hl => hI.ok i hl hl)).fin (by omega) (by omega) (by omega)
   have HCH := changeG_any w.heap.size w1.heap.size ov (sM ps ps.length) x0 X hN (by omega) f0 f1 f2
   have hchg : chgL (sM ps ps.length) = Cp.cmpN (norm A) (norm C) := by rw [sM_all HM.out hall, HVQ.out.2.1, HVQ.out.2.2]
   unfold ChgOut at HCH
   rw [hchg] at HCH
   have HCH := Lib.hid HCH
   have hE' := HEF.out.1.trans (HCE.out.2 hfit)
   have c0 := (cells2 hI.ba).1
   have HI := Lib.hid hI
   have HD := Lib.hid hD
   clear hI hD hall hpl hfit hN f0 f1 f2 hchg
   gi_wp2
   refine ⟨trivial, rfl, (callsIn_wide.2 HCH.out).mono ?_⟩
   rintro e W9 ⟨cv, rfl, hO, hK⟩
   have hD2 : W9.heap[D]? = some (.deferred (some [])) := hK.all _ _ HD.out (out_not5 rfl)
   have r4 : W9.heap[w.heap.size + 1 + 1]? = some (.cells #[.int .i64 0, .slice none 0 0] 24 (0, 0)) := hK.kept _ _ _ _ HI.out.r4 (by decide)
   have r5 : Boxed W9 (w.heap.size + 1 + 1 + 1) 28 (.int .i64 0) := hK.kept _ _ _ _ HI.out.r5 (by decide)
   have HB4 := Lib.hid (HI.out.below.trans hK.below)
   have HR2 := Lib.hid (And.intro r4 r5)
   have HD2 := Lib.hid hD2
   have hDl := lt_of_heap hD2
   have hEi : E = if 2000 < (Cp.cmpN (norm A) (norm C)).length then 2 else 0 := hE'
   have hif : ∀ {α : Type} (x y : α), (if 2000 < (Cp.cmpN (norm A) (norm C)).length then y else x) = if E = 0 then x else y := fun x y => by
    rw [hEi]
    by_cases h2 : 2000 < (Cp.cmpN (norm A) (norm C)).length
    ·rw [if_pos h2, if_pos h2, if_neg (by omega)]
    ·rw [if_neg h2, if_neg h2, if_pos rfl]
   rw [← hEi, hif]
   rw [hif] at hO
   have hF : F = if E = 0 then x0 else 0 := HEF.out.2.1
   have hL : L = if E = 0 then Cp.cmpN (norm A) (norm C) else [] := HEF.out.2.2
   rw [← hF]
   rw [← hL] at hO
   obtain ⟨cps, hcp, hcO⟩ := hO
   obtain ⟨ka, kc, rfl⟩ := own_slice hcO.1
   have HO := Lib.hid (And.intro hcp hcO)
   clear hif hEi hE' hF hL hK hD2 r4 r5 HI HD HCH hcp hcO c0
   have c4 : W9.cell? ⟨w.heap.size + 1 + 1, 0, none⟩ = some (.int .i64 0) := (cells2 HR2.out.1).1
   have c4' : W9.cell? ⟨w.heap.size + 1 + 1, 1, none⟩ = some (.slice none 0 0) := (cells2 HR2.out.1).2.1
   have f4 : W9.frozen? ⟨w.heap.size + 1 + 1, 0, none⟩ = false := (cells2 HR2.out.1).2.2.1
   have f4' : W9.frozen? ⟨w.heap.size + 1 + 1, 1, none⟩ = false := (cells2 HR2.out.1).2.2.2
   have c5 := HR2.out.2.cell
   have f5 := HR2.out.2.frozen
   gi_wp2
   obtain ⟨q1, q2, q3⟩ := three_set5 (.int .i64 F) (.slice ka cps.length kc) (.int .i64 E) HR2.out.1 HR2.out.2
   have qD := q3.all _ _ HD2.out (out_not5 rfl)
   refine ⟨by simp, .inl ⟨_, _, rfl, run_takeDeferred qD, ?_⟩⟩
   have e4 := putObj_cells (o' := .deferred none) qD rfl q1
   have e5 : Boxed _ _ _ _ := putObj_cells (o' := .deferred none) qD rfl q2
   refine ⟨_, results_cmp rfl rfl rfl e4 e5, (HB4.out.trans (q3.below.mono (by omega))).trans (below_put (by omega) qD), ka, cps.length, kc, rfl, cps, HO.out.1, ?_⟩
   exact (HO.out.2.keep q3 (by decide) (by decide)).cells5 fun _ _ _ _ hi => putObj_cells qD rfl hi
  case rnd =>
   rintro l' k hk W2 hle hI
   have hmem : ps[k] ∈ ps := List.getElem_mem hk
   have hsr := HM.out.src _ hmem
   have her := HM.out.err _ hmem
   have hsm := HM.out.small _ hmem
   have hsuc := sM_succ hk
   generalize hpk : ps[k] = p at hsr her hsm hsuc hmem ⊢
   obtain ⟨x, y⟩ := p
   have sx : Sized x.1.attrs := src_sized hsr.1 HVQ.out.1.1
   have sy : Sized y.1.attrs := src_sized hsr.2 HVQ.out.1.2
   have HPK := Lib.hid (And.intro hpk hmem)
   have HSR := Lib.hid hsr
   have HER := Lib.hid her
   have HSO := Lib.hid hsm
   have HSU := Lib.hid hsuc
   have HI := Lib.hid hI
   have HSZ := Lib.hid (And.intro sx sy)
   have hW2 : w.heap.size + 4 ≤ W2.heap.size := by have := hI.r5.lt; omega
   clear hI hmem hsr her hsm hsuc hpk sx sy
   obtain ⟨⟨xk, xn, xt, xa⟩, xp, xc⟩ := x
   obtain ⟨⟨yk, yn, yt, ya⟩, yp, yc⟩ := y
   unfold opA4
   gi_wp2
   obtain ⟨W3, hW3⟩ : ∃ W3, W3 = (W2.alloc (.cells #[.int .i64 xk, .int .i64 xn, .string xt, .slice xp xa.length xc] 40)).alloc (.cells #[.int .i64 yk, .int .i64 yn, .string yt, .slice yp ya.length yc] 40) := ⟨_, rfl⟩
   rw [← hW3]
   have B3 : Below W2.heap.size W2 W3 := by rw [hW3]; exact ((Below.refl _ W2).alloc (Nat.le_refl _) _).alloc (by simp) _
   have o3 : W3.heap[W2.heap.size]? = some (.cells #[.int .i64 xk, .int .i64 xn, .string xt, .slice xp xa.length xc] 40 (0, 0)) := by
    rw [hW3, Below.heap_alloc _ _ _ (by simp)]; exact heap_new _ _
   have x3 : W3.heap[W2.heap.size + 1]? = some (.cells #[.int .i64 yk, .int .i64 yn, .string yt, .slice yp ya.length yc] 40 (0, 0)) := by
    rw [hW3]
    have := heap_new (W2.alloc (.cells #[.int .i64 xk, .int .i64 xn, .string xt, .slice xp xa.length xc] 40)) (.cells #[.int .i64 yk, .int .i64 yn, .string yt, .slice yp ya.length yc] 40)
    rwa [World.size_alloc] at this
   have HI3 := HI.out.step (step_below (N := 0) (own := []) WT5 B3 (by omega))
   refine ⟨rnd_below TB5 B3 (by omega), HI3, fun W4 hs hsz4 r4 hr4 => ?_⟩
   have HI4 := Lib.hid (HI3.step (hs.more (own' := []) (fun _ h => by cases h) (fun _ _ h => by cases h) (Nat.le_refl _)))
   have o4 := hs.cells _ _ _ _ o3 (.inl (by simp))
   have x4 := hs.cells _ _ _ _ x3 (.inl (by simp))
   obtain ⟨bx, ox⟩ := src_row HSR.out.1 (fun z hz => HI4.out.own z (.inl hz))
   obtain ⟨by', oy⟩ := src_row HSR.out.2 (fun z hz => HI4.out.own z (.inr hz))
   have HON := Lib.hid (one_any _ _ W4 (row_of_own ox) (row_of_own oy) HSZ.out.1 HSZ.out.2)
   have HOX := Lib.hid (And.intro ox oy)
   have p0 : W4.cell? ⟨W2.heap.size, 0, none⟩ = some (.int .i64 xk) := by simp [World.cell?, o4]
   have p1 : W4.cell? ⟨W2.heap.size, 1, none⟩ = some (.int .i64 xn) := by simp [World.cell?, o4]
   have p2 : W4.cell? ⟨W2.heap.size, 2, none⟩ = some (.string xt) := by simp [World.cell?, o4]
   have p3 : W4.cell? ⟨W2.heap.size, 3, none⟩ = some (.slice xp xa.length xc) := by simp [World.cell?, o4]
   have q0 : W4.cell? ⟨W2.heap.size + 1, 0, none⟩ = some (.int .i64 yk) := by simp [World.cell?, x4]
   have q1 : W4.cell? ⟨W2.heap.size + 1, 1, none⟩ = some (.int .i64 yn) := by simp [World.cell?, x4]
   have q2 : W4.cell? ⟨W2.heap.size + 1, 2, none⟩ = some (.string yt) := by simp [World.cell?, x4]
   have q3 : W4.cell? ⟨W2.heap.size + 1, 3, none⟩ = some (.slice yp ya.length yc) := by simp [World.cell?, x4]
   have sx4 := lt_of_heap x4
   clear hs hsz4 hr4 o4 x4 o3 x3 B3 HI3 hW3 ox oy
   gi_wp2
   refine ⟨trivial, rfl, CallsIn.inRound _ ((callsIn_wide.2 HON.out).mono ?_)⟩
   rintro e W5 ⟨oa, oc, rfl, hrow, hb5⟩
   have hs45 := hb5.size
   have HI5 := Lib.hid (HI4.out.step (step_below (N := 0) (own := []) WT5 hb5 (by omega)))
   have HEK := Lib.hid (show oneE ps[k].1.1 ps[k].2.1 = oneE ⟨xk, xn, xt, xa⟩ ⟨yk, yn, yt, ya⟩ by rw [HPK.out.1])
   have HB5 := Lib.hid hb5
   have HRW := Lib.hid hrow
   generalize oneO ⟨xk, xn, xt, xa⟩ ⟨yk, yn, yt, ya⟩ = oo at HRW HSO HSU ⊢
   generalize oneE ⟨xk, xn, xt, xa⟩ ⟨yk, yn, yt, ya⟩ = ee at HEK HER HSO ⊢
   obtain ⟨ok, on, ot, ol⟩ := oo
   have r4' : (W5.alloc (.cells #[.int .i64 ok, .int .i64 on, .string ot, .slice oa ol.length oc] 40)).heap[w.heap.size + 1 + 1]? = some (.cells #[.int .i64 0, .slice none 0 0] 24 (0, 0)) := (Below.heap_alloc _ _ _ (by omega)).trans HI5.out.r4
   have r5' : Boxed (W5.alloc (.cells #[.int .i64 ok, .int .i64 on, .string ot, .slice oa ol.length oc] 40)) (w.heap.size + 1 + 1 + 1) 28 (.int .i64 0) := (Below.heap_alloc _ _ _ (by omega)).trans HI5.out.r5
   have HR6 := Lib.hid (And.intro r4' r5')
   have c4 := (cells2 r4').1
   have c4' := (cells2 r4').2.1
   have f4 := (cells2 r4').2.2.1
   have f4' := (cells2 r4').2.2.2
   have c5 := r5'.cell
   have f5 := r5'.frozen
   have hs5 : W5.heap.size < (W5.alloc (.cells #[.int .i64 ok, .int .i64 on, .string ot, .slice oa ol.length oc] 40)).heap.size := by simp
   have b6 : Below W5.heap.size W5 (W5.alloc (.cells #[.int .i64 ok, .int .i64 on, .string ot, .slice oa ol.length oc] 40)) := below_box W5 _
   have HI6 := Lib.hid (HI5.out.step (step_below (N := 0) (own := []) WT5 b6 (by omega)))
   have RB6 := Lib.hid ((rnd_below (B := w.heap.size) (N := w3.heap.size) TB5 HB5.out (by omega)).trans (rnd_below (B := w.heap.size) (N := w3.heap.size) TB5 b6 (by omega)))
   have HB6 := Lib.hid b6
   clear hrow hb5 p0 p1 p2 p3 q0 q1 q2 q3 r4' r5' b6 hs5
   unfold opAgg
   by_cases he : ee = 0
   ·have te : (ee != 0) = false := by rw [he]; rfl
    have HHE := Lib.hid he
    obtain ⟨ov, hN⟩ := HI6.out.gat
    obtain ⟨s1, s2, s3, s4⟩ := HSO.out he
    have hpl : ps.length ≤ 4000 := by have := HM.out.len; have := HLN.out.1; have := HLN.out.2; omega
    have hSM := sM_sm HM.out k (by omega) (fun i hi hl => HI6.out.ok i hl hi)
    have hrows : ∀ w', Keep w.heap.size TS (W5.alloc (.cells #[.int .i64 ok, .int .i64 on, .string ot, .slice oa ol.length oc] 40)) w' → AtRow w' (.slice oa ol.length oc) ol := fun w' hw => by
     rcases HRW.out with ⟨B, h⟩ | ⟨h1, h2⟩ | ⟨h1, h2⟩
     ·exact row_of_own (own_cells5 h fun i cs fr hi => hw.kept _ _ _ _ ((HB6.out.block i (lt_of_heap hi)).trans hi) (by decide))
     ·rw [show Value.slice oa ol.length oc = qv _ from h1, show ol = xa from h2]
      exact row_of_own (own_cells5 HOX.out.1 fun i cs fr hi => hw.kept _ _ _ _ ((HB6.out.block i (lt_of_heap ((HB5.out.block i (lt_of_heap hi)).trans hi))).trans ((HB5.out.block i (lt_of_heap hi)).trans hi)) (by decide))
     ·rw [show Value.slice oa ol.length oc = qv _ from h1, show ol = ya from h2]
      exact row_of_own (own_cells5 HOX.out.2 fun i cs fr hi => hw.kept _ _ _ _ ((HB6.out.block i (lt_of_heap ((HB5.out.block i (lt_of_heap hi)).trans hi))).trans ((HB5.out.block i (lt_of_heap hi)).trans hi)) (by decide))
    have HAD := Lib.hid (addG_any w.heap.size w1.heap.size ov (sM ps k) ⟨ok, on, ot, ol⟩ (.slice oa ol.length oc) (W5.alloc (.cells #[.int .i64 ok, .int .i64 on, .string ot, .slice oa ol.length oc] 40)) hN (by omega)
     (hSM.fits (by omega) (by omega) (by omega) s1 (by show on ≤ _; have : on ≤ 20000 := s2; omega) (by show ot.size ≤ _; have : ot.size ≤ 80000 := s3; omega) (small_one s4)) hrows)
    clear he hN s1 s2 s3 s4 hpl hSM hrows
    gi_wp2
    refine ⟨trivial, rfl, CallsIn.inRound _ ((callsIn_wide.2 HAD.out).mono ?_)⟩
    rintro e W7 ⟨rfl, ov', hN7, hK7⟩
    have HF := Lib.hid (show Rnd w.heap.size w3.heap.size TB5 W4 W7 ∧ StM w W7 w1.heap.size x0 (.slice ua un uc) qA qC ps (k + 1) from
     ⟨RB6.out.trans ((rnd_of_keep5 hK7.keep).more (by decide) (Nat.le_refl _)), {
      below := HI6.out.below.trans hK7.keep.below
      gat := ⟨ov', by rw [HSU.out]; exact hN7⟩
      ba := hK7.keep.kept _ _ _ _ HI6.out.ba (by decide)
      r4 := hK7.keep.kept _ _ _ _ HI6.out.r4 (by decide)
      r5 := hK7.keep.kept _ _ _ _ HI6.out.r5 (by decide)
      own := fun q hq => by obtain ⟨B, h⟩ := HI6.out.own q hq; exact ⟨B, own_cells5 h fun i cs fr hi => hK7.keep.kept _ _ _ _ hi (by decide)⟩
      ok := fun i h hi => by
       by_cases hik : i = k
       ·subst hik; rw [HEK.out]; exact HHE.out
       ·exact HI6.out.ok i h (by omega) }⟩)
    clear hN7 hK7
    gi_wp2
    exact ⟨HF.out.1, trivial, HF.out.2⟩
   ·have te : (ee != 0) = true := by rw [bne_iff_ne]; exact he
    have he3 : ee = 3 := by
     have : ee = 0 ∨ ee = 3 := HER.out
     omega
    have HHE := Lib.hid (And.intro he he3)
    clear he he3
    gi_wp2
    obtain ⟨q1, q2, q3⟩ := three_set5 (.int .i64 0) (.slice none 0 0) (.int .i64 ee) HR6.out.1 HR6.out.2
    refine ⟨RB6.out.trans ((rnd_of_keep5 (q3.mono (by omega))).more (by decide) (Nat.le_refl _)), rfl, ?_⟩
    exact { below := HI6.out.below.trans (q3.below.mono (by omega)), r4 := q1, r5 := by rw [← HHE.out.2]; exact q2, bad := ⟨ps[k], List.getElem_mem hk, by rw [HEK.out]; exact HHE.out.1⟩ }
 ·have te : (nrmE f g A C != 0) = true := by rw [bne_iff_ne]; exact hE
  have hC : cmpE f g A C = nrmE f g A C := by unfold cmpE; rw [if_pos hE]
  have HE0 := Lib.hid hE
  rw [hC, if_neg hE, if_neg hE]
  clear hC hE
  unfold Nrm5Out at HN
  generalize nrmE f g A C = z at te HE0 HN ⊢
  refine callsIn_of_wp_marks Try.func7 rfl trivial ?_ rfl
  simp only [Try.ntmps7, List.size_toArray, List.length_cons, List.length_nil, Nat.reduceAdd, Nat.reduceSub, Array.replicate_succ, Array.replicate_zero, List.push_toArray, List.append_toArray, List.nil_append, List.cons_append]
  gi_wp2
  rw [← HW.out]
  refine ⟨trivial, rfl, (callsIn_wide.2 HN.out).mono ?_⟩
  rintro e w1 ⟨b, x0, y0, ua, va', un, uc, vn, vc, rfl, _⟩
  have B1 := Lib.hid (BW.out.trans (b.mono BW.out.size))
  have z0 := (b.block _ (lt_of_heap HK.out.1)).trans HK.out.1
  have z1 := (b.block _ (lt_of_heap HK.out.2.1)).trans HK.out.2.1
  have z2 := (b.block _ (lt_of_heap HK.out.2.2.1)).trans HK.out.2.2.1
  have z3 := (b.block _ (lt_of_heap HK.out.2.2.2)).trans HK.out.2.2.2
  obtain ⟨p0, p1, p2, p3⟩ := cells2 z0
  obtain ⟨q0, q1, q2, q3⟩ := cells2 z1
  obtain ⟨r0, r1, r2, r3⟩ := cells2 z2
  have s0 := Boxed.cell z3
  have s1 := Boxed.frozen z3
  have l3 := lt_of_heap z3
  have hn1 : w.heap.size + 3 < w1.heap.size := l3
  have ZZ := Lib.hid (And.intro z0 (And.intro z1 (And.intro z2 z3)))
  clear b z0 z1 z2 z3 HN HK HW
  gi_wp2
  obtain ⟨Y, hY, y2, y3, yb⟩ : ∃ Y, Y = (((w1.setCell ⟨w.heap.size, 0, none⟩ (.int .i64 x0)).setCell ⟨w.heap.size, 1, none⟩ (.slice ua un uc)).setCell ⟨w.heap.size + 1, 0, none⟩ (.int .i64 y0)).setCell ⟨w.heap.size + 1, 1, none⟩ (.slice va' vn vc) ∧ Y.heap[w.heap.size + 1 + 1]? = some (.cells #[.int .i64 0, .slice none 0 0] 24 (0, 0)) ∧ Boxed Y (w.heap.size + 1 + 1 + 1) 28 (.int .i64 0) ∧ Below w.heap.size w Y :=
   ⟨_, rfl, (Below.heap_setCell _ _ _ _ (by simp)).trans ((Below.heap_setCell _ _ _ _ (by simp)).trans ((Below.heap_setCell _ _ _ _ (by simp; omega)).trans ((Below.heap_setCell _ _ _ _ (by simp; omega)).trans ZZ.out.2.2.1))),
    (Below.heap_setCell _ _ _ _ (by simp; omega)).trans ((Below.heap_setCell _ _ _ _ (by simp; omega)).trans ((Below.heap_setCell _ _ _ _ (by simp; omega)).trans ((Below.heap_setCell _ _ _ _ (by simp; omega)).trans ZZ.out.2.2.2))),
    (((B1.out.setCell (Nat.le_refl _) _).setCell (Nat.le_refl _) _).setCell (show w.heap.size ≤ w.heap.size + 1 by omega) _).setCell (show w.heap.size ≤ w.heap.size + 1 by omega) _⟩
  rw [← hY]
  clear hY
  obtain ⟨q1, q2, q3⟩ := agg_set (.int .i64 0) (.slice none 0 0) y2
  have y4 : Boxed _ (w.heap.size + 1 + 1 + 1) 28 (.int .i64 0) := (q3 _ (by omega)).trans y3
  have y5 := y4.set (.int .i64 z)
  have y6 := (Below.heap_setCell _ ⟨w.heap.size + 1 + 1 + 1, 0, none⟩ (.int .i64 z) _ (show w.heap.size + 1 + 1 ≠ w.heap.size + 1 + 1 + 1 by omega)).trans q1
  exact ⟨_, results_cmp rfl rfl rfl y6 y5, (yb.trans (q2.below.mono (by omega))).setCell (show w.heap.size ≤ w.heap.size + 1 + 1 + 1 by omega) _, none, 0, 0, rfl, [], rfl, World.ownsRow_nil _ _ _ _, fun p hp => (by cases hp)⟩
end Go.Proofs.Ytchceolbbkhnnaa

/- Compose, as the laws' walks take it: what follows where it tells no error. -/
namespace Go.Proofs.Ytchceolbbkhnnaa
open Go.RowKit Rn Ch
open At hiding put
open Cp (atms)

theorem okc_sized7 {f : Int} {ops : List OpD} (h : OkC f ops) : OSized ops := fun o ho => by
 have hv := vop_of h ho
 exact ⟨by have := hv.text; unfold maxLen; omega, hv.attrs.sized⟩
theorem nrmE_zero {f g : Int} {A C : List OpD} (h : nrmE f g A C = 0) : toE f A = 0 ∧ toE g C = 0 ∧ toN f A = g := by
 unfold nrmE at h
 by_cases h1 : toE f A = 0
 ·rw [if_neg (by rw [h1]; simp)] at h
  by_cases h2 : toE g C = 0
  ·rw [if_neg (by rw [h2]; simp)] at h
   by_cases h3 : toN f A = g
   ·exact ⟨h1, h2, h3⟩
   ·rw [if_pos h3] at h; omega
  ·rw [if_pos h2] at h; exact absurd h h2
 ·rw [if_pos h1] at h; exact absurd h h1
theorem nrmE_mk {f g : Int} {A C : List OpD} (h1 : toE f A = 0) (h2 : toE g C = 0) (h3 : toN f A = g) : nrmE f g A C = 0 := by
 unfold nrmE
 rw [if_neg (by rw [h1]; simp), if_neg (by rw [h2]; simp), if_neg (by rw [h3]; simp)]
/-- Where Compose tells no error. -/
structure CmpG (f g : Int) (A C R : List OpD) : Prop where
 a : toE f A = 0
 c : toE g C = 0
 n : toN f A = g
 fit : Cp.fit (atms (norm A)) (atms (norm C))
 eq : R = Cp.cmpN (norm A) (norm C)
 ok : OkC f R
 once : norm R = R
 tn : toN f R = toN g C
theorem CmpG.toE {f g : Int} {A C R : List OpD} (h : CmpG f g A C R) : toE f R = 0 := (toE_iff _ _).2 h.ok
theorem CmpG.is {f g : Int} {A C R : List OpD} (h : CmpG f g A C R) : isB f R = true := decide_eq_true ⟨h.toE, h.once.symm⟩
theorem CmpG.sized {f g : Int} {A C R : List OpD} (h : CmpG f g A C R) : OSized R := okc_sized7 h.ok
theorem cmp_ok {f g : Int} {A C : List OpD} (h : cmpE f g A C = 0) : CmpG f g A C (Cp.cmpN (norm A) (norm C)) := by
 have h0 : nrmE f g A C = 0 := by
  refine Classical.byContradiction fun hn => ?_
  unfold cmpE at h
  rw [if_pos hn] at h
  exact hn h
 obtain ⟨h1, h2, h3⟩ := nrmE_zero h0
 have hf : Cp.fit (atms (norm A)) (atms (norm C)) := by
  refine Classical.byContradiction fun hn => ?_
  rw [cmpE_unfit h0 hn] at h
  omega
 have hl : (Cp.cmpN (norm A) (norm C)).length ≤ 2000 := by
  rw [cmpE_fit h0 hf] at h
  refine Classical.byContradiction fun hn => ?_
  rw [if_pos (by omega)] at h
  omega
 have hc := nrm_zero h1 h2 h3
 obtain ⟨_, b2, _, b4, b5⟩ := hc.all hf
 have ok := b4 hl
 obtain ⟨_, d1, d2⟩ := norm_ok ((toE_iff _ _).1 h2)
 exact ⟨h1, h2, h3, hf, rfl, ok, b2, by rw [toN_ok ((toE_iff _ _).2 ok), toN_ok h2, b5, d1, d2]⟩
noncomputable def cmpR (f g : Int) (A C : List OpD) : List OpD := if cmpE f g A C = 0 then Cp.cmpN (norm A) (norm C) else []
theorem cmpR_ok {f g : Int} {A C : List OpD} (h : cmpE f g A C = 0) : CmpG f g A C (cmpR f g A C) := by
 unfold cmpR
 rw [if_pos h]
 exact cmp_ok h
/-- A changeset and an error, answered. -/
def ChHas (w : World) (F E : Int) (R : List OpD) (e : Ending) (w' : World) : Prop :=
 ∃ a c, e = .returned (.tuple #[chAgg F (.slice a R.length c), .int .i64 E]) ∧ OpRow w' (.slice a R.length c) R ∧ Below w.heap.size w w'
/-- .. of one's own. -/
def ChOwn (w : World) (F E : Int) (R : List OpD) (e : Ending) (w' : World) : Prop :=
 ∃ a c, e = .returned (.tuple #[chAgg F (.slice a R.length c), .int .i64 E]) ∧ OwnOps w' w.heap.size (.slice a R.length c) R ∧ Below w.heap.size w w'
theorem ChOwn.has {w : World} {F E : Int} {R : List OpD} {e : Ending} {w' : World} (h : ChOwn w F E R e w') : ChHas w F E R e w' := by
 obtain ⟨a, c, h1, h2, h3⟩ := h
 exact ⟨a, c, h1, h2.row, h3⟩
theorem OwnOps.keep7 {w w' : World} {B C : Nat} {ts : List TypeId} {v : Value} {l : List OpD} (h : OwnOps w B v l) (hk : Keep C ts w w') (h1 : 40 ∉ ts) (h2 : 81 ∉ ts) : OwnOps w' B v l := by
 obtain ⟨ps, e, hP⟩ := h
 exact ⟨ps, e, hP.keep hk h1 h2⟩
theorem ownOps_nil (w : World) (B : Nat) : OwnOps w B (.slice none 0 0) [] := ⟨[], rfl, World.ownsRow_nil _ _ _ _, fun p hp => (by cases hp)⟩
theorem cmpO {f g : Int} {va vb : Value} {A C : List OpD} {w : World} (hv : OpRow w va A) (hz : OSized A) (hu : OpRow w vb C) (hy : OSized C) :
 Calls Try.prog 7 #[chAgg f va, chAgg g vb] w (ChOwn w (if cmpE f g A C = 0 then f else 0) (cmpE f g A C) (cmpR f g A C)) :=
 (compose_any f g va vb A C w hv hz hu hy).mono fun e w' ⟨b, a, n, c, h1, h2⟩ => by
  have hr : OpRow w' (.slice a n c) (cmpR f g A C) := OwnOps.row h2
  obtain ⟨a2, c2, h3⟩ := hr.shape
  injection h3 with e1 e2 e3
  subst e2
  exact ⟨a, c, h1, h2, b⟩
theorem cmpH {f g : Int} {va vb : Value} {A C : List OpD} {w : World} (hv : OpRow w va A) (hz : OSized A) (hu : OpRow w vb C) (hy : OSized C) :
 Calls Try.prog 7 #[chAgg f va, chAgg g vb] w (ChHas w (if cmpE f g A C = 0 then f else 0) (cmpE f g A C) (cmpR f g A C)) :=
 (cmpO hv hz hu hy).mono fun _ _ h => h.has
theorem cmpH_ok {f g : Int} {va vb : Value} {A C : List OpD} {w : World} (hv : OpRow w va A) (hz : OSized A) (hu : OpRow w vb C) (hy : OSized C) (h : cmpE f g A C = 0) :
 Calls Try.prog 7 #[chAgg f va, chAgg g vb] w (ChHas w f 0 (cmpR f g A C)) := by
 have := cmpH (f := f) (g := g) hv hz hu hy
 rwa [h, if_pos rfl] at this
theorem cmpH_bad {f g : Int} {va vb : Value} {A C : List OpD} {w : World} (hv : OpRow w va A) (hz : OSized A) (hu : OpRow w vb C) (hy : OSized C) (h : cmpE f g A C ≠ 0) :
 Calls Try.prog 7 #[chAgg f va, chAgg g vb] w (ChHas w 0 (cmpE f g A C) []) := by
 have := cmpH (f := f) (g := g) hv hz hu hy
 unfold cmpR at this
 rwa [if_neg h, if_neg h] at this
theorem box2 (w : World) (o1 o2 : Obj) : ((w.alloc o1).alloc o2).heap[w.heap.size]? = some o1 ∧ ((w.alloc o1).alloc o2).heap[w.heap.size + 1]? = some o2 ∧ Below w.heap.size w ((w.alloc o1).alloc o2) := by
 refine ⟨(Below.heap_alloc _ _ _ (by simp)).trans (heap_new _ _), ?_, ((Below.refl _ _).alloc (Nat.le_refl _) _).alloc (by simp) _⟩
 have := heap_new (w.alloc o1) o2
 rwa [World.size_alloc] at this
theorem heap_up {w w' : World} {i : Nat} {o : Obj} (h : w.heap[i]? = some o) (hb : Below w.heap.size w w') : w'.heap[i]? = some o := (hb.block i (lt_of_heap h)).trans h
/-- A box of a changeset, as the walk wants it. -/
theorem box_at {W : World} {n : Nat} {t : TypeId} {a b : Value} (h : W.heap[n]? = some (.cells #[a, b] t (0, 0))) : W.cell? ⟨n, 0, none⟩ = some a ∧ W.cell? ⟨n, 1, none⟩ = some b ∧ n < W.heap.size :=
 ⟨(cells2 h).1, (cells2 h).2.1, lt_of_heap h⟩
end Go.Proofs.Ytchceolbbkhnnaa

/- The law's own awake of layer 6: the document's examples. -/
namespace Go.Proofs.Ytchceolbbkhnnaa
open Go.RowKit Rn Ch
open At hiding put
open Cp (atms)

abbrev bareO (k n : Int) : OpD := ⟨k, n, ⟨#[]⟩, []⟩
abbrev xText : ByteArray := ⟨#[120]⟩
abbrev nilV : Value := .slice none 0 0
abbrev yText : ByteArray := ⟨#[121]⟩
def e6a : List OpD := [⟨2, 0, xText, []⟩, bareO 3 1]
def e6b : List OpD := [bareO 1 1, ⟨2, 0, yText, []⟩, bareO 3 1]
def e6r : List OpD := [⟨2, 0, ⟨#[120, 121]⟩, []⟩, bareO 3 2]
theorem e6_to : toE 3 e6a = 0 ∧ toN 3 e6a = 3 ∧ toE 3 e6b = 0 ∧ toE 2 [] = 0 := by decide +kernel
theorem e6_norm : norm e6a = e6a ∧ norm e6b = e6b := by decide +kernel
theorem e6_atms : atms e6a = [.ins 120 [], .del] ∧ atms e6b = [.keep [], .ins 121 [], .del] := ⟨by rfl, by rfl⟩
theorem e6_comp : Cp.comp [.ins 120 [], .del] [.keep [], .ins 121 [], .del] = [.ins 120 [], .del, .ins 121 [], .del] := by
 rw [Cp.comp_ik, Cp.comp_del, Cp.comp_nil]; rfl
theorem e6_fit : Cp.fit [.ins 120 [], .del] [.keep [], .ins 121 [], .del] := by
 rw [Cp.fit_ik, Cp.fit_del]
 exact ⟨by decide, Cp.fit_nil _⟩
theorem e6_nrm : Cp.normA [.ins 120 [], .del, .ins 121 [], .del] = e6r := by decide +kernel
theorem e6_cmpN : Cp.cmpN (norm e6a) (norm e6b) = e6r := by
 rw [e6_norm.1, e6_norm.2]
 unfold Cp.cmpN
 rw [e6_atms.1, e6_atms.2, e6_comp, e6_nrm]
theorem e6_ok : cmpE 3 3 e6a e6b = 0 := by
 rw [cmpE_fit (nrmE_mk e6_to.1 e6_to.2.2.1 e6_to.2.1) (by rw [e6_norm.1, e6_norm.2, e6_atms.1, e6_atms.2]; exact e6_fit), e6_cmpN, if_neg (by decide)]
theorem e6_bad : cmpE 3 2 e6a [] = 31 := by
 have h : nrmE 3 2 e6a [] = 31 := by
  unfold nrmE
  rw [if_neg (by rw [e6_to.1]; simp), if_neg (by rw [e6_to.2.2.2]; simp), if_pos (by rw [e6_to.2.1]; decide)]
 unfold cmpE
 rw [h, if_pos (by decide)]
theorem e6a_sized : OSized e6a := okc_sized7 ((toE_iff _ _).1 e6_to.1)
theorem e6b_sized : OSized e6b := okc_sized7 ((toE_iff _ _).1 e6_to.2.2.1)
theorem nil_sized : OSized [] := fun o ho => by cases ho
theorem e6aRow (w : World) : OpRow (w.alloc (.cells #[.int .i64 2, .int .i64 0, .string xText, .slice none 0 0, .int .i64 3, .int .i64 1, .string ⟨#[]⟩, .slice none 0 0] 40)) (.slice (some ⟨w.heap.size, 0, none⟩) 2 2) e6a :=
 opRow_new w [(⟨2, 0, xText, []⟩, nilV), (bareO 3 1, nilV)] (fun p hp => by
  simp only [List.mem_cons, List.not_mem_nil, or_false] at hp
  rcases hp with rfl | rfl <;> exact ⟨rfl, rfl⟩) (by decide)
theorem e6bRow (w : World) : OpRow (w.alloc (.cells #[.int .i64 1, .int .i64 1, .string ⟨#[]⟩, .slice none 0 0, .int .i64 2, .int .i64 0, .string yText, .slice none 0 0, .int .i64 3, .int .i64 1, .string ⟨#[]⟩, .slice none 0 0] 40)) (.slice (some ⟨w.heap.size, 0, none⟩) 3 3) e6b :=
 opRow_new w [(bareO 1 1, nilV), (⟨2, 0, yText, []⟩, nilV), (bareO 3 1, nilV)] (fun p hp => by
  simp only [List.mem_cons, List.not_mem_nil, or_false] at hp
  rcases hp with rfl | rfl | rfl <;> exact ⟨rfl, rfl⟩) (by decide)
/-- A row's operation, cell by cell. -/
theorem row_at {w : World} {a : Option Addr} {n c : Nat} {ops : List OpD} (h : OpRow w (.slice a n c) ops) (i : Nat) (hi : i < ops.length) :
 ∃ b off, a = some ⟨b, off, none⟩ ∧ b < w.heap.size ∧ n = ops.length ∧ w.cell? ⟨b, off + i * 4, none⟩ = some (.int .i64 ops[i].kind) ∧ w.cell? ⟨b, off + i * 4 + 1, none⟩ = some (.int .i64 ops[i].n) ∧ w.cell? ⟨b, off + i * 4 + 2, none⟩ = some (.string ops[i].text) := by
 obtain ⟨a', cap, h0, _, _, h3⟩ := h
 obtain ⟨b, off, e, hb, av, _, _, c0, c1, c2, _⟩ := h3 i hi
 injection h0 with e1 e2 e3
 subst e1
 exact ⟨b, off, e, hb, e2, c0, c1, c2⟩
set_option maxRecDepth 100000 in
set_option maxHeartbeats 4000000 in
theorem awake6_any (w : World) : Calls Try.prog 5 #[] w (OutB w true) := by
 go_enter Try.func5, Try.ntmps5
 have B0 := Lib.hid (Below.refl w.heap.size w)
 go_wp2_with fail
 refine (lawPut_any ⟨#[120]⟩ _).mono ?_
 rintro e w1 ⟨rfl, b⟩
 have B1 := Lib.hid (B0.out.trans (b.mono B0.out.size))
 clear b
 go_wp2_with fail
 refine (lawCut_any 1 _).mono ?_
 rintro e w2 ⟨rfl, b⟩
 have B2 := Lib.hid (B1.out.trans (b.mono B1.out.size))
 clear b
 go_wp2_with fail
 obtain ⟨W3, hW3, r3, x3, b3⟩ : ∃ W3, W3 = (w2.alloc (.cells #[.int .i64 2, .int .i64 0, .string xText, .slice none 0 0, .int .i64 3, .int .i64 1, .string ⟨#[]⟩, .slice none 0 0] 40)).alloc (.cells #[.int .i64 3, .slice (some ⟨w2.heap.size, 0, none⟩) 2 2] 24) ∧
  OpRow W3 (.slice (some ⟨w2.heap.size, 0, none⟩) 2 2) e6a ∧ W3.heap[w2.heap.size + 1]? = some (.cells #[.int .i64 3, .slice (some ⟨w2.heap.size, 0, none⟩) 2 2] 24 (0, 0)) ∧ Below w2.heap.size w2 W3 :=
  ⟨_, rfl, (e6aRow w2).below (below_box _ _), (box2 _ _ _).2.1, (box2 _ _ _).2.2⟩
 rw [← hW3]
 have B3 := Lib.hid (B2.out.trans (b3.mono B2.out.size))
 have R3 := Lib.hid r3
 have X3 := Lib.hid x3
 clear hW3 r3 x3 b3 B0 B1
 refine (lawKeep_any 1 _).mono ?_
 rintro e w4 ⟨rfl, b⟩
 have B4 := Lib.hid b
 clear b
 go_wp2_with fail
 refine (lawPut_any ⟨#[121]⟩ _).mono ?_
 rintro e w5 ⟨rfl, b⟩
 have B5 := Lib.hid (B4.out.trans (b.mono B4.out.size))
 clear b
 go_wp2_with fail
 refine (lawCut_any 1 _).mono ?_
 rintro e w6 ⟨rfl, b⟩
 have B6 := Lib.hid (B5.out.trans (b.mono B5.out.size))
 obtain ⟨W7, hW7, r7, x7, b7⟩ : ∃ W7, W7 = (w6.alloc (.cells #[.int .i64 1, .int .i64 1, .string ⟨#[]⟩, .slice none 0 0, .int .i64 2, .int .i64 0, .string yText, .slice none 0 0, .int .i64 3, .int .i64 1, .string ⟨#[]⟩, .slice none 0 0] 40)).alloc (.cells #[.int .i64 3, .slice (some ⟨w6.heap.size, 0, none⟩) 3 3] 24) ∧
  OpRow W7 (.slice (some ⟨w6.heap.size, 0, none⟩) 3 3) e6b ∧ W7.heap[w6.heap.size + 1]? = some (.cells #[.int .i64 3, .slice (some ⟨w6.heap.size, 0, none⟩) 3 3] 24 (0, 0)) ∧ Below w6.heap.size w6 W7 :=
  ⟨_, rfl, (e6bRow w6).below (below_box _ _), (box2 _ _ _).2.1, (box2 _ _ _).2.2⟩
 have B7 := Lib.hid (B6.out.trans (b7.mono B6.out.size))
 have R7 := Lib.hid (And.intro (R3.out.below B7.out) r7)
 have y3 := heap_up X3.out B6.out
 have X7 := Lib.hid (And.intro (heap_up X3.out B7.out) x7)
 have c0 := (cells2 y3).1
 have c1 := (cells2 y3).2.1
 have l3 := lt_of_heap y3
 have l4 : w2.heap.size < w6.heap.size := by omega
 have HW7 := Lib.hid hW7
 have HC := Lib.hid (cmpH_ok (f := 3) (g := 3) R7.out.1 e6a_sized R7.out.2 e6b_sized e6_ok)
 have D7 := Lib.hid (B3.out.trans (B7.out.mono B3.out.size))
 clear b b7 r7 x7 y3 hW7 B4 B5 B6
 go_wp2_with fail
 rw [← HW7.out]
 refine HC.out.mono ?_
 rintro e w8 ⟨ra, rc, rfl, r8, b8⟩
 have hR : cmpR 3 3 e6a e6b = e6r := by unfold cmpR; rw [if_pos e6_ok, e6_cmpN]
 rw [hR] at r8 ⊢
 obtain ⟨kb, off, rfl, hkb, _, _, _, g2⟩ := row_at r8 0 (by decide)
 obtain ⟨kb', off', e8, _, _, _, g5, _⟩ := row_at r8 1 (by decide)
 injection e8 with e8
 injection e8 with e8 e9
 subst e8 e9
 have y3 := heap_up X7.out.1 b8
 obtain ⟨c0', c1', l8⟩ := box_at y3
 have D8 := Lib.hid (D7.out.trans (b8.mono D7.out.size))
 have R8 := Lib.hid (R7.out.1.below b8)
 have G8 := Lib.hid (And.intro hkb (And.intro g2 g5))
 clear b8 r8 y3 hR g2 g5 c0 c1 l3 l4
 go_wp2_with fail
 have HB := Lib.hid (fun W (h : Below w8.heap.size w8 W) => cmpH_bad (f := 3) (g := 2) (R8.out.below h) e6a_sized (OpRow.nil W) nil_sized (by rw [e6_bad]; decide))
 rw [e6_bad] at HB
 obtain ⟨W9, hW9, b9⟩ : ∃ W9, W9 = w8.alloc (.cells #[.int .i64 3, .slice (some ⟨kb, off, none⟩) e6r.length rc] 24) ∧ Below w8.heap.size w8 W9 := ⟨_, rfl, below_box _ _⟩
 rw [← hW9]
 refine (HB.out W9 b9).mono ?_
 rintro e w10 ⟨qa, qc, rfl, _, b10⟩
 have x9 := heap_up (hW9 ▸ heap_new w8 _ : W9.heap[w8.heap.size]? = some (.cells #[.int .i64 3, .slice (some ⟨kb, off, none⟩) e6r.length rc] 24 (0, 0))) b10
 obtain ⟨d0, d1, l9⟩ := box_at x9
 have b810 := b9.trans (b10.mono b9.size)
 have g2 : w10.cell? ⟨kb, off + 2, none⟩ = some (.string ⟨#[120, 121]⟩) := (b810.cell (by exact G8.out.1)).trans G8.out.2.1
 have g5 : w10.cell? ⟨kb, off + 5, none⟩ = some (.int .i64 2) := (b810.cell (by exact G8.out.1)).trans G8.out.2.2
 have lk : kb < w10.heap.size := Nat.lt_of_lt_of_le G8.out.1 b810.size
 have D10 := Lib.hid (D8.out.trans (b810.mono D8.out.size))
 clear x9 b9 b10 hW9 b810 c0' c1' l8 hkb
 go_wp2_with fail
 go_ret
 refine ⟨rfl, (D10.out.alloc D10.out.size _)⟩
end Go.Proofs.Ytchceolbbkhnnaa
