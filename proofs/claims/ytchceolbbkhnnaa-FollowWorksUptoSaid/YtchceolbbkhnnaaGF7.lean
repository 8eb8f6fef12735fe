import Derived.Test.YtchceolbbkhnnaaGF5
import Derived.Test.YtchceolbbkhnnaaGF6
import Derived.Test.YtchceolbbkhnnaaGF3
import Derived.Test.YtchceolbbkhnnaaGM6
import Derived.Test.YtchceolbbkhnnaaGM7
namespace Go.Proofs.Ytchceolbbkhnnaa
section
open Go.RowKit Go.Shelf Rn Ch
open At hiding put
open Cp (Piece zeroO atm atms alF pckO pckS smO FolF folN sizF)
attribute [local go_sem] Oper.semAt_some
def Mp (tb : Nat) (fi : Bool) (W : World) : Prop := ∃ cs fr, W.heap[tb]? = some (.cells cs 74 fr) ∧ cs[4]? = some (.bool fi)
theorem Mp.cell {tb : Nat} {fi : Bool} {W : World} (h : Mp tb fi W) : W.cell? ⟨tb, 4, none⟩ = some (.bool fi) := by
 obtain ⟨cs, fr, h1, h2⟩ := h; simp [World.cell?, h1, h2]
theorem mp_keep {tb : Nat} {fi : Bool} (A A' : World) (h : Mp tb fi A) (hk : ∀ (i : Nat) (cs : Array Value) (e : TypeId) (fr : Nat × Nat), A.heap[i]? = some (.cells cs e fr) → e ≠ 86 → e ≠ 92 → A'.heap[i]? = some (.cells cs e fr)) : Mp tb fi A' := by
 obtain ⟨cs, fr, h1, h2⟩ := h; exact ⟨cs, fr, hk _ _ _ _ h1 (by decide) (by decide), h2⟩
theorem mp_of {mx : Bool × Int} {w : World} {B b : Nat} {ov : Value} {l : List OpD} {g : Int} (h : Fm.NSt mx w B b ov l g) : Mp b mx.1 w := by
 obtain ⟨ad, bv, hN⟩ := h.blk; exact ⟨_, _, hN, rfl⟩
theorem NStm.step5 {mx : Bool × Int} {w w' : World} {B C N b : Nat} {own : List Nat} {ov : Value} {l : List OpD} {g : Int} (h : Fm.NSt mx w B b ov l g) (hs : Step C N WT5 own w w') : Fm.NSt mx w' B b ov l g := by
 obtain ⟨ps, ad, bv, bt, a1, a2, a3, a4, a5⟩ := h; have hk : ∀ {e : TypeId}, e ∉ WT5 → ∀ (i : Nat) (cs : Array Value) (fr : Nat × Nat), w.heap[i]? = some (.cells cs e fr) → w'.heap[i]? = some (.cells cs e fr) := fun he i cs fr hi => hs.cells _ _ _ _ hi (.inl he); exact ⟨ps, ad, bv, bt, hk (by decide) _ _ _ a1, a2, ⟨own_cells5 a3.1 (hk (by decide)), fun p hp => own_cells5 (a3.2 p hp) (hk (by decide))⟩, ⟨own_cells5 a4.1 (hk (by decide)), a4.2⟩, a5⟩
theorem nstm_new {W : World} {B b : Nat} {fi : Bool} {n : Int} (h : W.heap[b]? = some (.cells #[.slice none 0 0, .pointer none, .slice none 0 0, .int .i64 0, .bool fi, .int .i64 n] 74 (0, 0))) : Fm.NSt (fi, n) W B b (.slice none 0 0) [] 0 :=
 ⟨[], .pointer none, .slice none 0 0, [], h, .inl rfl, ⟨World.ownsRow_nil _ _ _ _, fun p hp => (by cases hp)⟩, holds8_nil _ _, .inl ⟨rfl, rfl, rfl⟩⟩
abbrev TBm : List TypeId := [40, 74, 5]
structure StG (w W : World) (tb : Nat) (fi : Bool) (n : Int) (qA qC : List QV5) (ps : List (QV5 × QV5)) (k : Nat) : Prop where
 below : Below w.heap.size w W
 gat : ∃ ov, Fm.NSt (fi, n + zG ps k) W w.heap.size tb ov (sG fi ps k).1 (sG fi ps k).2
 r6 : W.heap[w.heap.size + 1 + 1]? = some (.cells #[.int .i64 0, .slice none 0 0] 24 (0, 0))
 own : ∀ q, q ∈ qA ∨ q ∈ qC → ∃ B, W.ownsRow B 81 2 (qv q) q.1.attrs.length (flat q.1.attrs)
theorem StG.step {w W W' : World} {tb N : Nat} {fi : Bool} {n : Int} {qA qC : List QV5} {ps : List (QV5 × QV5)} {k : Nat} {own : List Nat} (h : StG w W tb fi n qA qC ps k) (hs : Step w.heap.size N WT5 own W W') : StG w W' tb fi n qA qC ps k where
 below := h.below.trans hs.below
 gat := by obtain ⟨ov, hg⟩ := h.gat; exact ⟨ov, NStm.step5 hg hs⟩
 r6 := hs.cells _ _ _ _ h.r6 (.inl (by decide))
 own := fun q hq => by obtain ⟨B, ho⟩ := h.own q hq; exact ⟨B, own_cells5 ho fun i cs fr hi => hs.cells _ _ _ _ hi (.inl (by decide))⟩
set_option maxRecDepth 100000 in
theorem meetM_any (f g : Int) (va vb : Value) (p : Value) (fn : Nat) (h1 : ∃ a n c, va = .slice a n c) (h2 : ∃ a n c, vb = .slice a n c) (w : World) :
 Calls Try.prog 25 #[chAgg f va, chAgg g vb, .func (.func fn) #[p] #[]] w fun e w' =>
  e = .returned (.func (.func 45) #[] #[.pointer (some ⟨w.heap.size, 0, none⟩), .pointer (some ⟨w.heap.size + 1, 0, none⟩), .pointer (some ⟨w.heap.size + 1 + 1, 0, none⟩)]) ∧
  w' = ((w.alloc (.cells #[.int .i64 f, va] 24)).alloc (.cells #[.int .i64 g, vb] 24)).alloc (.cells #[.func (.func fn) #[p] #[]] 48) := by
 obtain ⟨a, n, c, rfl⟩ := h1; obtain ⟨a', n', c', rfl⟩ := h2; go_enter Try.func25, Try.ntmps25
 go_wp2_with fail
 go_ret
 exact ⟨rfl, rfl⟩
theorem aloneB_any (fi : Bool) (ab b : Nat) (w : World) (hb : Boxed w ab 48 (.func (.func 40) #[.pointer (some ⟨b, 0, none⟩)] #[])) (hc : Mp b fi w) (x y : QV5) :
 Calls Try.prog 48 #[op5 x, op5 y, .pointer (some ⟨ab, 0, none⟩)] w fun e w' => e = .returned (.int .i64 (alF fi x.1 y.1)) ∧ Below w.heap.size w w' := by
 have hl := lt_of_heap hb; have cb := hb.cell; have eg : ∀ args w, (callFunc 40 args).run Try.prog w = .ok (.enter 40 args) w := enters_of Try.func40 (by kernel_rfl) rfl; have HAL := Lib.hid (fun W (h : Below w.heap.size w W) => aloneM_any fi b x y W ((h.cell (by obtain ⟨_, _, h1, _⟩ := hc; exact lt_of_heap h1)).trans hc.cell)); clear hb hc; go_enter Try.func48, Try.ntmps48
 go_wp2_with fail
 have bb := (show Below w.heap.size w ((w.alloc (.cells (cell5 x) 86)).alloc (.cells (cell5 y) 86)) from ((Below.refl _ _).alloc (Nat.le_refl _) _).alloc (by simp) _); refine (HAL.out _ bb).mono ?_; rintro e w1 ⟨rfl, b⟩; have B1 := Lib.hid (bb.trans (b.mono (by simp; omega))); clear b bb; go_wp2_with fail
 go_ret
 exact ⟨rfl, B1.out⟩
def folE (fi : Bool) (f g : Int) (A C : List OpD) : Int := if nrmF f g A C ≠ 0 then nrmF f g A C else if 20000 < sizF fi f (norm A) (norm C) then 3 else if 2000 < (folN fi (norm A) (norm C)).length then 2 else 0
def FolOut (w : World) (fi : Bool) (f g : Int) (A C : List OpD) (e : Ending) (w' : World) : Prop :=
 Below w.heap.size w w' ∧ ∃ a n c, e = .returned (.tuple #[chAgg (if folE fi f g A C = 0 then toN f A else 0) (.slice a n c), .int .i64 (folE fi f g A C)]) ∧ OwnOps w' w.heap.size (.slice a n c) (if folE fi f g A C = 0 then folN fi (norm A) (norm C) else [])
theorem nrmF_zero {f g : Int} {A C : List OpD} (h : nrmF f g A C = 0) : toE f A = 0 ∧ toE g C = 0 ∧ f = g := by
 unfold nrmF at h
 by_cases h1 : toE f A = 0
 ·rw [if_neg (by rw [h1]; simp)] at h
  by_cases h2 : toE g C = 0
  ·rw [if_neg (by rw [h2]; simp)] at h
   by_cases h3 : f = g
   ·exact ⟨h1, h2, h3⟩
   ·rw [if_pos h3] at h; omega
  ·rw [if_pos h2] at h; exact absurd h h2
 ·rw [if_pos h1] at h; exact absurd h h1
end
section
open Go.RowKit Go.Shelf Rn Ch
open At hiding put
open Cp (Piece zeroO atm atms alF pckO pckS smO FolF folN sizF)
open Lib (hid)
attribute [local go_sem] Oper.semAt_some
set_option maxRecDepth 100000 in
set_option maxHeartbeats 4000000 in
theorem follow_any (fi : Bool) (f g : Int) (va vb : Value) (A C : List OpD) (w : World) (hv : OpRow w va A) (hz : OSized A) (hu : OpRow w vb C) (hy : OSized C) :
 Calls Try.prog 15 #[chAgg f va, chAgg g vb, .bool fi] w (FolOut w fi f g A C) := by
 obtain ⟨W, hW, k0, k1, k2, bW⟩ : ∃ W, W = ((w.alloc (.cells #[.int .i64 f, va] 24)).alloc (.cells #[.int .i64 g, vb] 24)).alloc (.cells #[.int .i64 0, .slice none 0 0] 24) ∧
  W.heap[w.heap.size]? = some (.cells #[.int .i64 f, va] 24 (0, 0)) ∧ W.heap[w.heap.size + 1]? = some (.cells #[.int .i64 g, vb] 24 (0, 0)) ∧ W.heap[w.heap.size + 1 + 1]? = some (.cells #[.int .i64 0, .slice none 0 0] 24 (0, 0)) ∧ Below w.heap.size w W := by
  obtain ⟨h1, h2, h3⟩ := box2 w (.cells #[.int .i64 f, va] 24) (.cells #[.int .i64 g, vb] 24); have h4 := heap_new ((w.alloc (.cells #[.int .i64 f, va] 24)).alloc (.cells #[.int .i64 g, vb] 24)) (.cells #[.int .i64 0, .slice none 0 0] 24); rw [World.size_alloc, World.size_alloc] at h4; exact ⟨_, rfl, heap_up h1 (below_box _ _), heap_up h2 (below_box _ _), h4, h3.alloc (by simp; omega) _⟩
 have BW := hid bW; have HN := hid (normalF_any f g va vb A C W (hv.below bW) hz (hu.below bW) hy); have HK := hid (And.intro k0 (And.intro k1 k2)); obtain ⟨aa, ac, rfl⟩ := hv.shape; obtain ⟨ca, cc, rfl⟩ := hu.shape; have HW := hid hW; clear hW k0 k1 k2 bW hv hu hz hy; refine (callsIn_wide (n := 0)).1 ?_; unfold FolOut
 by_cases hE : nrmF f g A C = 0
 ·obtain ⟨hA, hC, hfg⟩ := nrmF_zero hE
  subst hfg; have HCF := hid (show FolF f (norm A) (norm C) from ⟨(norm_ok ((toE_iff _ _).1 hA)).1, (norm_ok ((toE_iff _ _).1 hC)).1⟩); have hto := norm_to hA; have HTN := hid (show toN f A = f - dl (norm A) + Ch.ins (norm A) by rw [← hto.2, toN_ok hto.1]); have HTO := hid hto; have HFE := hid (show folE fi f f A C = if 20000 < sizF fi f (norm A) (norm C) then 3 else if 2000 < (folN fi (norm A) (norm C)).length then 2 else 0 by unfold folE; rw [if_neg (by rw [hE]; simp)]); unfold NrmFOut at HN; rw [hE] at HN; clear hE hA hC hto; obtain ⟨E, hEE⟩ : ∃ E, E = folE fi f f A C := ⟨_, rfl⟩; obtain ⟨F, hFF⟩ : ∃ F, F = (if folE fi f f A C = 0 then toN f A else 0) := ⟨_, rfl⟩; obtain ⟨L, hLL⟩ : ∃ L, L = (if folE fi f f A C = 0 then folN fi (norm A) (norm C) else []) := ⟨_, rfl⟩; rw [← hEE] at hFF hLL ⊢; rw [← hFF, ← hLL]; have HEF := hid (And.intro hEE (And.intro hFF hLL)); clear hEE hFF hLL; refine callsIn_of_wp_marks Try.func15 rfl trivial ?_ rfl
  simp only [Try.ntmps15, List.size_toArray, List.length_cons, List.length_nil, Nat.reduceAdd, Nat.reduceSub, Array.replicate_succ, Array.replicate_zero, List.push_toArray, List.append_toArray, List.nil_append, List.cons_append]
  gi_wp2
  rw [← HW.out]; refine ⟨trivial, rfl, (callsIn_wide.2 HN.out).mono ?_⟩; rintro e w1 ⟨b, x0, y0, ua, va', un, uc, vn, vc, rfl, hO⟩; obtain ⟨rfl, rfl, ⟨pA, hpA, oA⟩, ⟨pC, hpC, oC⟩⟩ := hO trivial; have B1 := hid (BW.out.trans (b.mono BW.out.size)); have z0 := heap_up HK.out.1 b; have z1 := heap_up HK.out.2.1 b; have z2 := heap_up HK.out.2.2 b; obtain ⟨p0, p1, p2, p3⟩ := cells2 z0; obtain ⟨q0, q1, q2, q3⟩ := cells2 z1; have l0 := lt_of_heap z0; have l1 := lt_of_heap z1; have l2 := lt_of_heap z2; have ZZ := hid (And.intro z0 (And.intro z1 z2)); obtain ⟨Y1, hY1, s1, s1', s2, s3⟩ : ∃ Y1, Y1 = (((w1.setCell ⟨w.heap.size, 0, none⟩ (.int .i64 y0)).setCell ⟨w.heap.size, 1, none⟩ (.slice ua un uc)).setCell ⟨w.heap.size + 1, 0, none⟩ (.int .i64 y0)).setCell ⟨w.heap.size + 1, 1, none⟩ (.slice va' vn vc) ∧ Y1.heap[w.heap.size]? = some (.cells #[.int .i64 y0, .slice ua un uc] 24 (0, 0)) ∧ Y1.heap[w.heap.size + 1]? = some (.cells #[.int .i64 y0, .slice va' vn vc] 24 (0, 0)) ∧ Y1.heap[w.heap.size + 1 + 1]? = some (.cells #[.int .i64 0, .slice none 0 0] 24 (0, 0)) ∧ Keep w.heap.size [24] w1 Y1 := by
   obtain ⟨r1, r2, r3⟩ := set22 (B := w.heap.size) (u0 := .int .i64 y0) (u1 := .slice ua un uc) (v0 := .int .i64 y0) (v1 := .slice va' vn vc) ZZ.out.1 ZZ.out.2.1 (show w.heap.size + 1 ≠ w.heap.size by omega) (Nat.le_refl _) (by omega); exact ⟨_, rfl, r1, r2, (Below.heap_setCell _ _ _ _ (show w.heap.size + 1 + 1 ≠ w.heap.size + 1 by omega)).trans ((Below.heap_setCell _ _ _ _ (show w.heap.size + 1 + 1 ≠ w.heap.size + 1 by omega)).trans ((Below.heap_setCell _ _ _ _ (show w.heap.size + 1 + 1 ≠ w.heap.size by omega)).trans ((Below.heap_setCell _ _ _ _ (show w.heap.size + 1 + 1 ≠ w.heap.size by omega)).trans ZZ.out.2.2))), r3⟩
  have BY1 := hid (B1.out.trans s3.below); have HO1 := hid (And.intro (oA.keep s3 (by decide) (by decide)) (oC.keep s3 (by decide) (by decide))); have HPE := hid (And.intro hpA hpC); have HS1 := hid (And.intro s1 (And.intro s1' s2)); have HY1 := hid hY1; have hra : OpRow Y1 (.slice ua un uc) (norm A) := by rw [← hpA]; exact HO1.out.1.row
  have hrs : OSized (norm A) := okc_sized7 HCF.out.okA; have HT := hid (to_any y0 (.slice ua un uc) (norm A) Y1 hra hrs); unfold ToOut at HT; rw [HTO.out.1, HTO.out.2] at HT; obtain ⟨n, hn⟩ : ∃ n, n = toN y0 A := ⟨_, rfl⟩; rw [← hn] at HT HTN HEF; have HNN := hid hn; clear b z0 z1 z2 HN HK HW hO hpA hpC oA oC s1 s1' s2 s3 hY1 hra hrs hn
  gi_wp2
  rw [← HY1.out]; refine ⟨trivial, rfl, (callsIn_wide.2 HT.out).mono ?_⟩; rintro e w2 ⟨rfl, b⟩; have B2 := hid (BY1.out.trans (b.mono BY1.out.size)); obtain ⟨p0, p1, pl⟩ := box_at (heap_up HS1.out.1 b); obtain ⟨q0, q1, ql⟩ := box_at (heap_up HS1.out.2.1 b); obtain ⟨Y, hY⟩ : ∃ Y, Y = w2.alloc (.cells #[.slice none 0 0, .pointer none, .slice none 0 0, .int .i64 0, .bool fi, .int .i64 n] 74) := ⟨_, rfl⟩; have bY : Below w2.heap.size w2 Y := by rw [hY]; exact below_box w2 _
  have gY : Y.heap[w2.heap.size]? = some (.cells #[.slice none 0 0, .pointer none, .slice none 0 0, .int .i64 0, .bool fi, .int .i64 n] 74 (0, 0)) := by rw [hY]; exact heap_new _ _
  have bY1 : Below Y1.heap.size Y1 Y := b.trans (bY.mono b.size); have oA' := HO1.out.1.keep (keep_below (ts := []) bY1 (Nat.le_refl _)) (by simp) (by simp); have oC' := HO1.out.2.keep (keep_below (ts := []) bY1 (Nat.le_refl _)) (by simp) (by simp); obtain ⟨qA, eA, rA, tA⟩ := qs_of oA'; obtain ⟨qC, eC, rC, tC⟩ := qs_of oC'; have eA' := eA.trans HPE.out.1; have eC' := eC.trans HPE.out.2; have vA := vq_of HCF.out.okA eA'; have vC := vq_of HCF.out.okB eC'; have lA : qA.length ≤ 2000 := by have := congrArg List.length eA'; rw [List.length_map] at this; rw [this]; exact HCF.out.okA.2.2.1
  have lC : qC.length ≤ 2000 := by have := congrArg List.length eC'; rw [List.length_map] at this; rw [this]; exact HCF.out.okB.2.2.1
  obtain ⟨ps, hM⟩ := met_exG fi (qA.length + qC.length) qA qC (Nat.le_refl _) vA vC; have BY := hid (B2.out.trans (bY.mono B2.out.size))
  have S0 : StG w Y w2.heap.size fi n qA qC ps 0 := {
   below := BY.out
   gat := ⟨_, by have := nstm_new (B := w.heap.size) gY; rwa [show n = n + zG ps 0 by show n = n + 0; omega] at this⟩
   r6 := heap_up HS1.out.2.2 bY1
   own := fun q hq => hq.elim (fun h => ⟨_, tA q h⟩) (fun h => ⟨_, tC q h⟩) }
  have hsY : w2.heap.size < Y.heap.size := lt_of_heap gY; have HYE := hid hY; have HS0 := hid S0; have HM := hid hM; have HRQ := hid (And.intro rA rC); have HVQ := hid (And.intro (And.intro vA vC) (And.intro eA' eC')); have hn4 : w.heap.size + 1 + 1 < Y.heap.size := lt_of_heap S0.r6; have hn2 : w.heap.size ≤ w2.heap.size := B2.out.size; have HLN := hid (And.intro lA lC); clear b hY bY gY bY1 oA' oC' eA eC eA' eC' rA rC tA tC S0 hM vA vC
  gi_wp2
  rw [← HYE.out]; refine ⟨trivial, rfl, (callsIn_wide.2 (meetM_any y0 y0 (.slice ua un uc) (.slice va' vn vc) (.pointer (some ⟨w2.heap.size, 0, none⟩)) 40 ⟨_, _, _, rfl⟩ ⟨_, _, _, rfl⟩ Y)).mono ?_⟩; rintro e w3 ⟨rfl, hw3⟩; have b3 : Below Y.heap.size Y w3 := by rw [hw3]; exact (((Below.refl _ _).alloc (Nat.le_refl _) _).alloc (by simp) _).alloc (by simp; omega) _
  have h30 : w3.heap[Y.heap.size]? = some (.cells #[.int .i64 y0, .slice ua un uc] 24 (0, 0)) := by rw [hw3]; exact (Below.heap_alloc _ _ _ (by simp; omega)).trans ((Below.heap_alloc _ _ _ (by simp)).trans (heap_new _ _))
  have h31 : w3.heap[Y.heap.size + 1]? = some (.cells #[.int .i64 y0, .slice va' vn vc] 24 (0, 0)) := by
   rw [hw3]; have := heap_new (Y.alloc (.cells #[.int .i64 y0, .slice ua un uc] 24)) (.cells #[.int .i64 y0, .slice va' vn vc] 24); rw [World.size_alloc] at this; exact (Below.heap_alloc _ _ _ (by simp)).trans this
  have h32 : Boxed w3 (Y.heap.size + 1 + 1) 48 (.func (.func 40) #[.pointer (some ⟨w2.heap.size, 0, none⟩)] #[]) := by
   rw [hw3]; have := heap_new ((Y.alloc (.cells #[.int .i64 y0, .slice ua un uc] 24)).alloc (.cells #[.int .i64 y0, .slice va' vn vc] 24)) (.cells #[.func (.func 40) #[.pointer (some ⟨w2.heap.size, 0, none⟩)] #[]] 48); rw [World.size_alloc, World.size_alloc] at this; exact this
  have S3 := hid (HS0.out.step (step_below (N := 0) (own := []) WT5 b3 (by omega))); have H3 := hid (And.intro h30 (And.intro h31 h32)); have HB3 := hid b3; have hs3 := b3.size
  have HIT := hid (meet_iter w.heap.size Y.heap.size (Y.heap.size + 1) (Y.heap.size + 1 + 1) y0 y0 (.slice ua un uc) (.slice va' vn vc) qA qC ps (alF fi) (.func (.func 40) #[.pointer (some ⟨w2.heap.size, 0, none⟩)] #[]) TBm (fun _ _ => True) (fun W _ => Mp w2.heap.size fi W) HM.out.met HVQ.out.1.1 HVQ.out.1.2 lA lC ⟨fun _ _ => trivial, fun _ => trivial, fun _ _ _ _ _ _ => trivial⟩ (by decide) (by decide) (by decide) (by decide) (by decide) (Mp w2.heap.size fi) (fun W h => h W.heap.size (Nat.le_refl _)) mp_keep
   (fun X hb hc x y => aloneB_any fi _ _ X hb hc x y))
  clear hw3 b3 h30 h31 h32 lA lC p0 p1 pl q0 q1 ql
  gi_wp2
  refine range_it HIT.out rfl (enters_of Try.func45 (by kernel_rfl) rfl) (fun _ => rfl) (by omega) ?hS (fun _ _ => trivial) (fun _ _ _ _ _ _ => trivial)
   (fun k W' => StG w W' w2.heap.size fi n qA qC ps k) (fun _ _ _ => False)
   (fun _ _ _ h hs => h.step hs) (fun _ _ _ _ h hs => h) (fun k A i h hi => by obtain ⟨ov, hg⟩ := h.gat; exact mp_of hg) S3.out ?rnd ?done ?stop (fun _ _ _ _ => trivial)
  case hS =>
   intro X hb; have hbY := HB3.out.trans (hb.mono hs3); exact ⟨heap_up H3.out.1 hb, heap_up H3.out.2.1 hb, heap_up H3.out.2.2 hb, HRQ.out.1.below hbY, HRQ.out.2.below hbY⟩
  case stop =>
   rintro D c k X hle hk hx hD; exact hx.elim
  case done =>
   rintro D X hle hI _ hD; have hpl : ps.length ≤ 4000 := by have := HM.out.len; have := HLN.out.1; have := HLN.out.2; omega
   obtain ⟨ov, hN⟩ := hI.gat; have hz : n + zG ps ps.length = sizF fi y0 (norm A) (norm C) := by
    rw [zG_all HM.out, HVQ.out.2.1, HVQ.out.2.2, HTN.out]; unfold Cp.net sizF; omega
   rw [hz] at hN; obtain ⟨_, t5, _⟩ := hN.tail; simp only at t5; have hrX := hI.r6; obtain ⟨r0, r1, rl⟩ := box_at hrX; have f0 := (cells2 hrX).2.2.1; have f1 := (cells2 hrX).2.2.2; have tbl : w2.heap.size < X.heap.size := hN.lt
   by_cases hbig : 20000 < sizF fi y0 (norm A) (norm C)
   ·have hE3 : E = 3 := by rw [HEF.out.1, HFE.out, if_pos hbig]
    have hF0 : F = 0 := by rw [HEF.out.2.1, if_neg (by omega)]
    have hL0 : L = [] := by rw [HEF.out.2.2, if_neg (by omega)]
    generalize sizF fi y0 (norm A) (norm C) = z at *; have c1 : (20000 : Int) < z := hbig; have HI := hid hI; have HD := hid hD; have HEE := hid (And.intro hE3 (And.intro hF0 hL0)); have HRX := hid hrX; clear hI hD hpl hN hz hE3 hF0 hL0 hbig hrX
    gi_wp2
    obtain ⟨u1, u2, u3⟩ := agg_set (.int .i64 0) (.slice none 0 0) HRX.out; have qD := u2.all _ _ HD.out (out_not5 rfl); refine ⟨by simp, .inl ⟨_, _, rfl, run_takeDeferred qD, ?_⟩⟩; have e4 := putObj_cells (o' := .deferred none) qD rfl u1; rw [HEE.out.1, HEE.out.2.1, HEE.out.2.2]; exact ⟨_, results_chgN rfl rfl rfl (cells2 e4).1 (cells2 e4).2.1, (HI.out.below.trans (u2.below.mono (by omega))).trans (below_put (by omega) qD), none, 0, 0, rfl, ownOps_nil _ _⟩
   ·have hEi : E = if 2000 < (folN fi (norm A) (norm C)).length then 2 else 0 := by rw [HEF.out.1, HFE.out, if_neg hbig]
    have hif : ∀ {α : Type} (x y : α), (if 2000 < (folN fi (norm A) (norm C)).length then y else x) = if E = 0 then x else y := fun x y => by
     rw [hEi]
     by_cases h2 : 2000 < (folN fi (norm A) (norm C)).length
     ·rw [if_pos h2, if_pos h2, if_neg (by omega)]
     ·rw [if_neg h2, if_neg h2, if_pos rfl]
    have hF : F = if E = 0 then n else 0 := HEF.out.2.1; have hL : L = if E = 0 then folN fi (norm A) (norm C) else [] := HEF.out.2.2; obtain ⟨g0, g1, g2⟩ := (sG_sm HM.out ps.length (Nat.le_refl _)).fin (by omega) (by omega) (by omega); have HCH := Fm.changeG_any w.heap.size w2.heap.size ov (sG fi ps ps.length) n X hN hn2 g0 g1 g2; have hchg : chgL (sG fi ps ps.length) = folN fi (norm A) (norm C) := by rw [sG_all HM.out, HVQ.out.2.1, HVQ.out.2.2]
    unfold Fm.ChgOut at HCH; rw [hchg] at HCH; rw [← hEi, hif] at HCH; rw [← hF] at HCH; simp only [hif] at HCH; rw [← hL] at HCH; have HCH := hid HCH; generalize sizF fi y0 (norm A) (norm C) = z at *; have c1 : ¬ (20000 : Int) < z := hbig; have HI := hid hI; have HD := hid hD; have HRX := hid hrX; clear hI hD hpl hN hz hbig hrX hif hEi hF hL g0 g1 g2 hchg
    gi_wp2
    refine ⟨trivial, rfl, (callsIn_wide.2 HCH.out).mono ?_⟩; rintro e W9 ⟨cv, rfl, hO, hK⟩; have hD2 : W9.heap[D]? = some (.deferred (some [])) := hK.all _ _ HD.out (out_not5 rfl); have r6 := hK.kept _ _ _ _ HRX.out (by decide); have HB4 := hid (HI.out.below.trans hK.below); have HR2 := hid r6; have HD2 := hid hD2; have hDl := lt_of_heap hD2; obtain ⟨cps, hcp, hcO⟩ := hO; obtain ⟨ka, kc, rfl⟩ := own_slice hcO.1; have HO := hid (And.intro hcp hcO); obtain ⟨c4, c4', c4l⟩ := box_at r6; have g4 := (cells2 r6).2.2.1; have g4' := (cells2 r6).2.2.2; clear hK hD2 r6 HI HD HCH hcp hcO r0 r1 rl f0 f1
    gi_wp2
    obtain ⟨u1, u2, u3⟩ := agg_set (.int .i64 F) (.slice ka cps.length kc) HR2.out; have qD := u2.all _ _ HD2.out (out_not5 rfl); refine ⟨by simp, .inl ⟨_, _, rfl, run_takeDeferred qD, ?_⟩⟩; have e4 := putObj_cells (o' := .deferred none) qD rfl u1; refine ⟨_, results_chgN rfl rfl rfl (cells2 e4).1 (cells2 e4).2.1, (HB4.out.trans (u2.below.mono (by omega))).trans (below_put (by omega) qD), ka, cps.length, kc, rfl, cps, HO.out.1, ?_⟩; exact (HO.out.2.keep u2 (by decide) (by decide)).cells5 fun _ _ _ _ hi => putObj_cells qD rfl hi
  case rnd =>
   rintro l' k hk W2 hle hI; have hmem : ps[k] ∈ ps := List.getElem_mem hk; have hsr := HM.out.src _ hmem; have hsm := HM.out.small _ hmem; have hst := HM.out.step _ hmem; have hpi := HM.out.pie _ hmem; have hsuc := sG_succ (fi := fi) hk; have hzuc := zG_succ hk; generalize hpk : ps[k] = p at hsr hsm hst hpi hsuc hzuc hmem ⊢; obtain ⟨x, y⟩ := p; have sx : Sized x.1.attrs := src_sized hsr.1 HVQ.out.1.1; have sy : Sized y.1.attrs := src_sized hsr.2 HVQ.out.1.2; have HSR := hid hsr; have HSO := hid hsm; have HST := hid (And.intro hst hpi); have HSU := hid (And.intro hsuc hzuc); have HI := hid hI; have HSZ := hid (And.intro sx sy); have hW2 : w.heap.size + 3 ≤ W2.heap.size := by have := lt_of_heap hI.r6; omega
   clear hI hmem hsr hsm hst hpi hsuc hzuc hpk sx sy; obtain ⟨⟨xk, xn, xt, xa⟩, xp, xc⟩ := x; obtain ⟨⟨yk, yn, yt, ya⟩, yp, yc⟩ := y; unfold opA4
   gi_wp2
   obtain ⟨W3, hW3⟩ : ∃ W3, W3 = (W2.alloc (.cells #[.int .i64 xk, .int .i64 xn, .string xt, .slice xp xa.length xc] 40)).alloc (.cells #[.int .i64 yk, .int .i64 yn, .string yt, .slice yp ya.length yc] 40) := ⟨_, rfl⟩; rw [← hW3]; have B3 : Below W2.heap.size W2 W3 := by rw [hW3]; exact ((Below.refl _ W2).alloc (Nat.le_refl _) _).alloc (by simp) _
   have o3 : W3.heap[W2.heap.size]? = some (.cells #[.int .i64 xk, .int .i64 xn, .string xt, .slice xp xa.length xc] 40 (0, 0)) := by
    rw [hW3, Below.heap_alloc _ _ _ (by simp)]; exact heap_new _ _
   have x3 : W3.heap[W2.heap.size + 1]? = some (.cells #[.int .i64 yk, .int .i64 yn, .string yt, .slice yp ya.length yc] 40 (0, 0)) := by
    rw [hW3]; have := heap_new (W2.alloc (.cells #[.int .i64 xk, .int .i64 xn, .string xt, .slice xp xa.length xc] 40)) (.cells #[.int .i64 yk, .int .i64 yn, .string yt, .slice yp ya.length yc] 40)
    rwa [World.size_alloc] at this
   have HI3 := HI.out.step (step_below (N := 0) (own := []) WT5 B3 (by omega)); refine ⟨rnd_below TBm B3 (by omega), HI3, fun W4 hs hsz4 r4 hr4 => ?_⟩; have HI4 := hid (HI3.step (hs.more (own' := []) (fun _ h => by cases h) (fun _ _ h => by cases h) (Nat.le_refl _))); have o4 := hs.cells _ _ _ _ o3 (.inl (by simp)); have x4 := hs.cells _ _ _ _ x3 (.inl (by simp)); obtain ⟨bx, ox⟩ := src_row HSR.out.1 (fun z hz => HI4.out.own z (.inl hz)); obtain ⟨by', oy⟩ := src_row HSR.out.2 (fun z hz => HI4.out.own z (.inr hz)); have HOX := hid (And.intro ox oy); have HPI := hid (pick_any fi w2.heap.size (⟨xk, xn, xt, xa⟩, xp, xc) (⟨yk, yn, yt, ya⟩, yp, yc) W4); obtain ⟨p0, p1, p2, p3, _, pl⟩ := cells4 o4; obtain ⟨q0, q1, q2, q3, _, ql⟩ := cells4 x4; have HOB := hid (And.intro o4 x4); clear hs hsz4 hr4 o4 x4 o3 x3 B3 HI3 hW3 ox oy
   gi_wp2
   refine ⟨trivial, rfl, CallsIn.inRound _ ((callsIn_wide.2 HPI.out).mono ?_)⟩; rintro e W5 ⟨Fn, rfl, b5, hMC⟩; have hs45 := b5.size; have HI5 := hid (HI4.out.step (step_below (N := 0) (own := []) WT5 b5 (by omega))); have HOY := hid (And.intro (own_cells5 HOX.out.1 fun i cs fr hi => heap_up hi b5) (own_cells5 HOX.out.2 fun i cs fr hi => heap_up hi b5)); obtain ⟨ov, hN⟩ := HI5.out.gat; have hpl : ps.length ≤ 4000 := by have := HM.out.len; have := HLN.out.1; have := HLN.out.2; omega
   have hSM := sG_sm HM.out k (by omega); have hzl := zG_lim HM.out k (by omega); have hnb : 0 ≤ n ∧ n ≤ 20000 := by
    have := (HCF.out.all fi); rw [HTN.out]; exact ⟨this.2.2.2.2.1, this.2.2.2.2.2.1⟩
   have HMI : MadeIn fi W5 w.heap.size w2.heap.size ov (sG fi ps k) (n + zG ps k) (⟨xk, xn, xt, xa⟩, xp, xc) (⟨yk, yn, yt, ya⟩, yp, yc) := {
    st := hN
    base := hn2
    fits := hSM.fits (by omega) (by omega) (by omega) HSO.out.1 (Int.le_trans HSO.out.2.1 (by decide)) (Nat.le_trans HSO.out.2.2.1 (by decide)) (small_one HSO.out.2.2.2)
    rx := fun w' hw => row_of_own (hw.own HOY.out.1 (by decide))
    ry := fun w' hw => row_of_own (hw.own HOY.out.2 (by decide))
    sx := HSZ.out.1
    sy := HSZ.out.2
    px := HST.out.2.1
    py := HST.out.2.2
    z0 := by omega
    z1 := by omega
    d0 := HST.out.1.1
    d1 := HST.out.1.2 }
   have HMT := hid (hMC.meets _ _ _ _ _ HMI); have eg := hMC.enters; obtain ⟨p0', p1', p2', p3', _, pl'⟩ := cells4 (heap_up HOB.out.1 b5); obtain ⟨q0', q1', q2', q3', _, ql'⟩ := cells4 (heap_up HOB.out.2 b5); have RB5 := hid (rnd_below (B := w.heap.size) (N := w3.heap.size) TBm b5 (by omega)); clear b5 hMC hN hSM hzl HMI p0 p1 p2 p3 pl q0 q1 q2 q3 ql hpl hnb
   gi_wp2
   refine ⟨trivial, rfl, CallsIn.inRound _ ((callsIn_wide.2 HMT.out).mono ?_)⟩; rintro e W7 ⟨rfl, ov', hN7, hK7⟩
   have HF := hid (show Rnd w.heap.size w3.heap.size TBm W4 W7 ∧ StG w W7 w2.heap.size fi n qA qC ps (k + 1) from
    ⟨RB5.out.trans ((rnd_of_keep5 hK7.keep).more (by decide) (Nat.le_refl _)), {
     below := HI5.out.below.trans hK7.keep.below
     gat := ⟨ov', by rw [HSU.out.1, HSU.out.2, ← Int.add_assoc]; exact hN7⟩
     r6 := hK7.keep.kept _ _ _ _ HI5.out.r6 (by decide)
     own := fun q hq => by obtain ⟨B, h⟩ := HI5.out.own q hq; exact ⟨B, own_cells5 h fun i cs fr hi => hK7.keep.kept _ _ _ _ hi (by decide)⟩ }⟩)
   clear hN7 hK7
   gi_wp2
   exact ⟨HF.out.1, trivial, HF.out.2⟩
 ·have te : (nrmF f g A C != 0) = true := by rw [bne_iff_ne]; exact hE
  have hC : folE fi f g A C = nrmF f g A C := by unfold folE; rw [if_pos hE]
  have HE0 := hid hE; rw [hC, if_neg hE, if_neg hE]; clear hC hE; unfold NrmFOut at HN; generalize nrmF f g A C = z at te HE0 HN ⊢; refine callsIn_of_wp_marks Try.func15 rfl trivial ?_ rfl; simp only [Try.ntmps15, List.size_toArray, List.length_cons, List.length_nil, Nat.reduceAdd, Nat.reduceSub, Array.replicate_succ, Array.replicate_zero, List.push_toArray, List.append_toArray, List.nil_append, List.cons_append]
  gi_wp2
  rw [← HW.out]; refine ⟨trivial, rfl, (callsIn_wide.2 HN.out).mono ?_⟩; rintro e w1 ⟨b, x0, y0, ua, va', un, uc, vn, vc, rfl, _⟩; have B1 := hid (BW.out.trans (b.mono BW.out.size)); have z0 := heap_up HK.out.1 b; have z1 := heap_up HK.out.2.1 b; have z2 := heap_up HK.out.2.2 b; obtain ⟨p0, p1, p2, p3⟩ := cells2 z0; obtain ⟨q0, q1, q2, q3⟩ := cells2 z1; obtain ⟨r0, r1, r2, r3⟩ := cells2 z2; have l0 := lt_of_heap z0; have l1 := lt_of_heap z1; have l2 := lt_of_heap z2; have ZZ := hid (And.intro z0 (And.intro z1 z2)); clear b z0 z1 z2 HN HK HW
  gi_wp2
  obtain ⟨Y, hY, y2, yb⟩ : ∃ Y, Y = (((w1.setCell ⟨w.heap.size, 0, none⟩ (.int .i64 x0)).setCell ⟨w.heap.size, 1, none⟩ (.slice ua un uc)).setCell ⟨w.heap.size + 1, 0, none⟩ (.int .i64 y0)).setCell ⟨w.heap.size + 1, 1, none⟩ (.slice va' vn vc) ∧ Y.heap[w.heap.size + 1 + 1]? = some (.cells #[.int .i64 0, .slice none 0 0] 24 (0, 0)) ∧ Below w.heap.size w Y :=
   ⟨_, rfl, (Below.heap_setCell _ _ _ _ (show w.heap.size + 1 + 1 ≠ w.heap.size + 1 by omega)).trans ((Below.heap_setCell _ _ _ _ (show w.heap.size + 1 + 1 ≠ w.heap.size + 1 by omega)).trans ((Below.heap_setCell _ _ _ _ (show w.heap.size + 1 + 1 ≠ w.heap.size by omega)).trans ((Below.heap_setCell _ _ _ _ (show w.heap.size + 1 + 1 ≠ w.heap.size by omega)).trans ZZ.out.2.2))),
    (((B1.out.setCell (Nat.le_refl _) _).setCell (Nat.le_refl _) _).setCell (show w.heap.size ≤ w.heap.size + 1 by omega) _).setCell (show w.heap.size ≤ w.heap.size + 1 by omega) _⟩
  rw [← hY]; clear hY; obtain ⟨u1, u2, u3⟩ := agg_set (.int .i64 0) (.slice none 0 0) y2; exact ⟨_, results_chgN rfl rfl rfl (cells2 u1).1 (cells2 u1).2.1, yb.trans (u2.below.mono (by omega)), none, 0, 0, rfl, ownOps_nil _ _⟩
end
end Go.Proofs.Ytchceolbbkhnnaa
