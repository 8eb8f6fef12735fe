import Derived.Test.YtchceolbbkhnnaaGC3
import Derived.Test.YtchceolbbkhnnaaGC2
import Derived.Test.YtchceolbbkhnnaaGC1
import Derived.RangeFuncNested
import Derived.RangeFuncBound
import Derived.RangeFuncLeaves
import Derived.WalkKit
namespace Go.Proofs.Ytchceolbbkhnnaa
section
open Go.RowKit Ch
open Lib (hid)
def tot : List OpD → Int
 | [] => 0
 | o :: r => o.n + tot r
def ttx : List OpD → Nat
 | [] => 0
 | o :: r => o.text.size + ttx r
structure SmI (T : Int) (M k : Nat) (s : List OpD × Int) : Prop where
 len : s.1.length ≤ 2 * k
 g0 : 0 ≤ s.2
 all : ∀ x ∈ s.1, 0 ≤ x.n
 ft : tot s.1 + s.2 ≤ T
 fx : ttx s.1 ≤ M
theorem tot_put (l : List OpD) (o : OpD) : tot (put l o) = tot l + o.n := by
 cases l with
 | nil => simp [put, tot]
 | cons x r => rw [put]; split <;> simp only [tot] <;> omega
theorem ttx_put (l : List OpD) (o : OpD) : ttx (put l o) = ttx l + o.text.size := by
 cases l with
 | nil => simp [put, ttx]
 | cons x r =>
   rw [put]; split
   ·simp only [ttx]; rw [cat_size]; omega
   ·simp only [ttx]; omega
theorem all_put {l : List OpD} {o : OpD} (h : ∀ x ∈ l, 0 ≤ x.n) (ho : 0 ≤ o.n) : ∀ x ∈ put l o, 0 ≤ x.n := by
 cases l with
 | nil => intro x hx; rw [put, List.mem_singleton] at hx; rw [hx]; exact ho
 | cons y r =>
   intro x hx; have hy := h y (List.mem_cons_self ..); rw [put] at hx; split at hx
   ·rcases List.mem_cons.1 hx with rfl | hx
    ·show 0 ≤ y.n + o.n; omega
    ·exact h x (List.mem_cons_of_mem _ hx)
   ·rcases List.mem_cons.1 hx with rfl | hx
    ·exact ho
    ·exact h x hx
theorem tot_flush {s : List OpD × Int} (h : 0 ≤ s.2) : tot (flush s) = tot s.1 + s.2 := by
 unfold flush; split
 ·rw [tot_put]; rfl
 ·omega
theorem ttx_flush (s : List OpD × Int) : ttx (flush s) = ttx s.1 := by
 unfold flush; split
 ·rw [ttx_put]; rfl
 ·rfl
theorem len_flush (s : List OpD × Int) : (flush s).length ≤ s.1.length + 1 := by
 unfold flush; split
 ·exact put_len_le _ _
 ·omega
theorem all_flush {s : List OpD × Int} (h : 0 ≤ s.2) (ha : ∀ x ∈ s.1, 0 ≤ x.n) : ∀ x ∈ flush s, 0 ≤ x.n := by
 unfold flush; split
 ·exact all_put ha h
 ·exact ha
theorem smI_nil : SmI 0 0 0 ([], 0) := ⟨Nat.le_refl _, Int.le_refl _, (fun x hx => by cases hx), Int.le_refl _, Nat.le_refl _⟩
theorem SmI.add {T : Int} {M k : Nat} {s : List OpD × Int} {o : OpD} (h : SmI T M k s) (h0 : 0 ≤ o.n) : SmI (T + o.n) (M + o.text.size) (k + 1) (Ch.add s o) := by
 obtain ⟨a, b, c, d, e⟩ := h; unfold Ch.add; split
 ·exact ⟨by show s.1.length ≤ _; omega, by show 0 ≤ s.2 + o.n; omega, c, by show Go.Proofs.Ytchceolbbkhnnaa.tot s.1 + (s.2 + o.n) ≤ _; omega, by show Go.Proofs.Ytchceolbbkhnnaa.ttx s.1 ≤ _; omega⟩
 ·split
  ·have f1 := len_flush s
   have f2 := put_len_le (flush s) o; refine ⟨by show (put (flush s) o).length ≤ _; omega, Int.le_refl _, all_put (all_flush b c) h0, ?_, ?_⟩
   ·show Go.Proofs.Ytchceolbbkhnnaa.tot (put (flush s) o) + 0 ≤ _
    rw [tot_put, tot_flush b]; omega
   ·show Go.Proofs.Ytchceolbbkhnnaa.ttx (put (flush s) o) ≤ _
    rw [ttx_put, ttx_flush]; omega
  ·have f2 := put_len_le s.1 o
   refine ⟨by show (put s.1 o).length ≤ _; omega, b, all_put c h0, ?_, ?_⟩
   ·show Go.Proofs.Ytchceolbbkhnnaa.tot (put s.1 o) + s.2 ≤ _
    rw [tot_put]; omega
   ·show Go.Proofs.Ytchceolbbkhnnaa.ttx (put s.1 o) ≤ _
    rw [ttx_put]; omega
theorem SmI.more {T T' : Int} {M M' k k' : Nat} {s : List OpD × Int} (h : SmI T M k s) (h1 : T ≤ T') (h2 : M ≤ M') (h3 : k ≤ k') : SmI T' M' k' s := by
 obtain ⟨a, b, c, d, e⟩ := h; exact ⟨by omega, b, c, by omega, by omega⟩
theorem SmI.addG {T : Int} {M k : Nat} {s : List OpD × Int} {o : OpD} (h : SmI T M k s) (h0 : 0 ≤ o.n) : SmI (T + o.n) (M + o.text.size) (k + 1) (Go.Proofs.Ytchceolbbkhnnaa.addG s o) := by
 unfold Go.Proofs.Ytchceolbbkhnnaa.addG; split
 ·exact h.more (by omega) (by omega) (by omega)
 ·exact h.add h0
theorem last_le {l : List OpD} {x : OpD} {r : List OpD} (ha : ∀ x ∈ l, 0 ≤ x.n) (e : l = x :: r) : 0 ≤ x.n ∧ x.n ≤ tot l ∧ x.text.size ≤ ttx l := by
 subst e; have hr : ∀ r : List OpD, (∀ x ∈ r, 0 ≤ x.n) → 0 ≤ tot r := by
  intro r hr; induction r with
  | nil => exact Int.le_refl _
  | cons y s ih =>
    have h1 := hr y (List.mem_cons_self ..); have h2 := ih fun z hz => hr z (List.mem_cons_of_mem _ hz); rw [tot]; omega
 have h1 := hr r fun z hz => ha z (List.mem_cons_of_mem _ hz); refine ⟨ha x (List.mem_cons_self ..), by rw [tot]; omega, by rw [ttx]; omega⟩
theorem tot_nn {l : List OpD} (h : ∀ x ∈ l, 0 ≤ x.n) : 0 ≤ tot l := by
 induction l with
 | nil => exact Int.le_refl _
 | cons y s ih =>
   have h1 := h y (List.mem_cons_self ..); have h2 := ih fun z hz => h z (List.mem_cons_of_mem _ hz); rw [tot]; omega
theorem SmI.fits {T : Int} {M k : Nat} {s : List OpD × Int} {o : OpD} (h : SmI T M k s) (hT : T ≤ 536870912) (hM : M ≤ 1073741824) (hk : k ≤ 400000) (h0 : 0 ≤ o.n) (h1 : o.n ≤ 536870912) (h2 : o.text.size ≤ 1073741824) (h3 : SmallA o.attrs) : FitsS s o := by
 obtain ⟨a, b, c, d, e⟩ := h; have t0 := tot_nn c; have l1 : ∀ x r, s.1 = x :: r → 0 ≤ x.n ∧ x.n ≤ 1073741824 ∧ x.text.size ≤ 1073741824 := fun x r e' => by
  obtain ⟨h1, h2, h3⟩ := last_le c e'; exact ⟨h1, by omega, by omega⟩
 have l2 : ∀ x r, flush s = x :: r → 0 ≤ x.n ∧ x.n ≤ 1073741824 ∧ x.text.size ≤ 1073741824 := fun x r e' => by
  obtain ⟨h1, h2, h3⟩ := last_le (all_flush b c) e'; rw [tot_flush b] at h2; rw [ttx_flush] at h3; exact ⟨h1, by omega, by omega⟩
 have f1 := len_flush s; exact ⟨b, by omega, ⟨by omega, l1, b, by show s.2 ≤ _; omega, by show (0 : Nat) ≤ _; omega, small_nil⟩, ⟨by omega, l1, h0, by omega, h2, h3⟩, ⟨by omega, l2, h0, by omega, h2, h3⟩, h1⟩
theorem SmI.fin {T : Int} {M k : Nat} {s : List OpD × Int} (h : SmI T M k s) (hT : T ≤ 536870912) (hM : M ≤ 1073741824) (hk : k ≤ 400000) : 0 ≤ s.2 ∧ Fits s.1 (delO s.2) ∧ (flush s).length ≤ 1000000 := by
 have hf := h.fits (o := delO 0) hT hM hk (Int.le_refl _) (by show (0 : Int) ≤ _; omega) (by show (0 : Nat) ≤ _; omega) small_nil; have f1 := len_flush s; have := h.len; exact ⟨h.g0, hf.del, by omega⟩
theorem trim_len (l : List OpD) : (trim l).length ≤ l.length := by
 cases l with
 | nil => exact Nat.le_refl _
 | cons x r => rw [trim]; split <;> simp
theorem keep_new {B : Nat} {ts : List TypeId} {w Y Z : World} {o : Obj} (h : Keep B ts (w.alloc o) Y) (hB : B ≤ w.heap.size) (hz : ∀ i, i ≠ w.heap.size → Z.heap[i]? = Y.heap[i]?) (hb : Below w.heap.size Y Z) : Keep B ts w Z :=
 ⟨(((Below.refl w.heap.size w).alloc (Nat.le_refl _) o).mono hB).trans (h.below.trans (hb.mono hB)), fun i x hi ho => by
   have hlt := lt_of_heap hi; rw [hz i (by omega)]; exact h.all i x ((((Below.refl w.heap.size w).alloc (Nat.le_refl _) o).block i hlt).trans hi) ho⟩
theorem results_chg {fn : Func} (h : fn.results = #[.cell 4 24, .tmp 5]) {tmps : Array Value} {w : World} {b4 : Nat} {v x y : Value} (h4 : tmps.getD 4 undef = .pointer (some ⟨b4, 0, none⟩)) (h5 : tmps.getD 5 undef = v)
 (z4 : w.cell? ⟨b4, 0, none⟩ = some x) (z5 : w.cell? ⟨b4, 1, none⟩ = some y) : (results fn tmps).run Try.prog w = .ok (.tuple #[.agg #[x, y], v]) w := by
 rw [Array.getD_eq_getD_getElem?] at h4 h5; simp [results, h, h4, h5, go_sem, z4, z5]
theorem agg_set {W : World} {n : Nat} {t : TypeId} {a b : Value} (x y : Value) (h : W.heap[n]? = some (.cells #[a, b] t (0, 0))) :
 ((W.setCell ⟨n, 0, none⟩ x).setCell ⟨n, 1, none⟩ y).heap[n]? = some (.cells #[x, y] t (0, 0)) ∧ Keep n [t] W ((W.setCell ⟨n, 0, none⟩ x).setCell ⟨n, 1, none⟩ y) ∧ ∀ i, i ≠ n → ((W.setCell ⟨n, 0, none⟩ x).setCell ⟨n, 1, none⟩ y).heap[i]? = W.heap[i]? := by
 have h1 : (W.setCell ⟨n, 0, none⟩ x).heap[n]? = some (.cells #[x, b] t (0, 0)) := nblk_set h; have h2 : ((W.setCell ⟨n, 0, none⟩ x).setCell ⟨n, 1, none⟩ y).heap[n]? = some (.cells #[x, y] t (0, 0)) := nblk_set h1; exact ⟨h2, (keep_set (B := n) (ts := [t]) h (by simp) (Nat.le_refl _) ⟨n, 0, none⟩ rfl x).trans (keep_set (B := n) (ts := [t]) h1 (by simp) (Nat.le_refl _) ⟨n, 1, none⟩ rfl y), fun i hi => (Below.heap_setCell _ _ _ _ hi).trans (Below.heap_setCell _ _ _ _ hi)⟩
theorem cells2 {W : World} {n : Nat} {t : TypeId} {a b : Value} (h : W.heap[n]? = some (.cells #[a, b] t (0, 0))) : W.cell? ⟨n, 0, none⟩ = some a ∧ W.cell? ⟨n, 1, none⟩ = some b ∧ W.frozen? ⟨n, 0, none⟩ = false ∧ W.frozen? ⟨n, 1, none⟩ = false :=
 ⟨by simp [World.cell?, h], by simp [World.cell?, h], by simp [World.frozen?, h], by simp [World.frozen?, h]⟩
def chgL (s : List OpD × Int) : List OpD := (trim (flush s)).reverse
def ChgOut (w : World) (B : Nat) (s : List OpD × Int) (from_ : Int) (e : Ending) (w' : World) : Prop :=
 ∃ v, e = .returned (.tuple #[chAgg (if 2000 < (chgL s).length then 0 else from_) v, .int .i64 (if 2000 < (chgL s).length then 2 else 0)]) ∧ OwnOps w' B v (if 2000 < (chgL s).length then [] else chgL s) ∧ Keep B TS w w'
set_option maxHeartbeats 4000000 in
set_option maxRecDepth 100000 in
theorem changeG_any (B b : Nat) (ov : Value) (s : List OpD × Int) (from_ : Int) (w : World) (h : NSt w B b ov s.1 s.2) (hB : B ≤ b) (hg : 0 ≤ s.2) (hf : Fits s.1 (delO s.2)) (hl : (flush s).length ≤ 1000000) :
 Calls Try.prog 28 #[.pointer (some ⟨b, 0, none⟩), .int .i64 from_] w (ChgOut w B s from_) := by
 have hBw : B ≤ w.heap.size := Nat.le_trans hB (Nat.le_of_lt h.lt); have bA := below_box w (.cells #[.int .i64 0, .slice none 0 0] 24); have HE := hid (end_any B b ov s (w.alloc (.cells #[.int .i64 0, .slice none 0 0] 24)) (h.below bA) hB hg hf hl); have hX : (w.alloc (.cells #[.int .i64 0, .slice none 0 0] 24)).heap[w.heap.size]? = some (.cells #[.int .i64 0, .slice none 0 0] 24 (0, 0)) := heap_new _ _; have HX := hid hX; clear h hg hf hl bA hX; go_enter Try.func28, Try.ntmps28
 go_wp2_with fail
 refine HE.out.mono ?_; rintro e w1 ⟨v, rfl, hO, hK⟩; have x1 := hK.kept _ _ _ _ HX.out (by decide); have hlen : (chgL s).length = (trim (flush s)).reverse.length := rfl; obtain ⟨ps, hps, hP⟩ := hO; obtain ⟨va, vc, rfl⟩ := own_slice hP.1; have hpl : ps.length = (chgL s).length := by rw [hlen, ← hps, List.length_map]
 have HP := hid hP; have HPS := hid (show ps.map (·.1) = chgL s from hps); have HK := hid hK; have s1 := lt_of_heap x1; have p0 : w1.cell? ⟨w.heap.size, 0, none⟩ = some (.int .i64 0) := by simp [World.cell?, x1]
 have p1 : w1.cell? ⟨w.heap.size, 1, none⟩ = some (.slice none 0 0) := by simp [World.cell?, x1]
 have p2 : w1.frozen? ⟨w.heap.size, 0, none⟩ = false := by simp [World.frozen?, x1]
 have p3 : w1.frozen? ⟨w.heap.size, 1, none⟩ = false := by simp [World.frozen?, x1]
 have HX1 := hid x1; rw [hpl]; clear hP hps hK x1 hpl hlen
 by_cases h2 : 2000 < (chgL s).length
 ·have t2 : (2000 : Int) < ((chgL s).length : Int) := by omega
  have t3 : decide ((2000 : Int) < ((chgL s).length : Int)) = true := decide_eq_true t2; have HH := hid h2; clear h2; go_wp2_with fail
  obtain ⟨q1, q2, q3⟩ := agg_set (.int .i64 0) (.slice none 0 0) HX1.out; refine bodyPost_ret (results_chg rfl rfl rfl (cells2 q1).1 (cells2 q1).2.1) rfl ?_; refine ⟨.slice none 0 0, ?_, ?_, keep_new HK.out hBw q3 q2.below⟩
  ·rw [if_pos HH.out, if_pos HH.out]; rfl
  ·rw [if_pos HH.out]
   exact ⟨[], rfl, World.ownsRow_nil _ _ _ _, fun p hp => by cases hp⟩
 ·have t2 : ¬ (2000 : Int) < ((chgL s).length : Int) := by omega
  have t3 : decide ((2000 : Int) < ((chgL s).length : Int)) = false := decide_eq_false t2; have HH := hid h2; clear h2; go_wp2_with fail
  obtain ⟨q1, q2, q3⟩ := agg_set (.int .i64 from_) (.slice va (chgL s).length vc) HX1.out; obtain ⟨Z, hZ⟩ : ∃ Z, Z = (w1.setCell ⟨w.heap.size, 0, none⟩ (.int .i64 from_)).setCell ⟨w.heap.size, 1, none⟩ (.slice va (chgL s).length vc) := ⟨_, rfl⟩; rw [← hZ] at q1 q2 q3 ⊢; clear hZ; refine bodyPost_ret (results_chg rfl rfl rfl (cells2 q1).1 (cells2 q1).2.1) rfl ?_; refine ⟨.slice va (chgL s).length vc, ?_, ?_, keep_new HK.out hBw q3 q2.below⟩
  ·rw [if_neg HH.out, if_neg HH.out]; rfl
  ·rw [if_neg HH.out]
   have hpl : (chgL s).length = ps.length := by rw [← HPS.out, List.length_map]
   rw [hpl]; exact ⟨ps, HPS.out, q2.own HP.out.1 (by decide), fun p hp => q2.own (HP.out.2 p hp) (by decide)⟩
theorem foldG_all (ops : List OpD) (h : ∀ o ∈ ops, ¬ (o.n = 0 ∧ o.text.size = 0)) : ∀ s : List OpD × Int, ops.foldl addG s = ops.foldl Ch.add s := by
 induction ops with
 | nil => intro s; rfl
 | cons o r ih =>
   intro s; have e : addG s o = Ch.add s o := by unfold addG; rw [if_neg (h o (List.mem_cons_self ..))]
   rw [List.foldl_cons, List.foldl_cons, e, ih fun x hx => h x (List.mem_cons_of_mem _ hx)]
theorem results_chgN {fn : Func} {i j : Nat} (h : fn.results = #[.cell i 24, .tmp j]) {tmps : Array Value} {w : World} {b4 : Nat} {v x y : Value} (h4 : tmps.getD i undef = .pointer (some ⟨b4, 0, none⟩)) (h5 : tmps.getD j undef = v)
 (z4 : w.cell? ⟨b4, 0, none⟩ = some x) (z5 : w.cell? ⟨b4, 1, none⟩ = some y) : (results fn tmps).run Try.prog w = .ok (.tuple #[.agg #[x, y], v]) w := by
 rw [Array.getD_eq_getD_getElem?] at h4 h5; simp [results, h, h4, h5, go_sem, z4, z5]
theorem nst_new {W : World} {B b : Nat} (h : W.heap[b]? = some (.cells #[.slice none 0 0, .pointer none, .slice none 0 0, .int .i64 0] 56 (0, 0))) : NSt W B b (.slice none 0 0) [] 0 :=
 ⟨[], .pointer none, .slice none 0 0, [], h, .inl rfl, ⟨World.ownsRow_nil _ _ _ _, fun p hp => by cases hp⟩, holds8_nil _ _, .inl ⟨rfl, rfl, rfl⟩⟩
end
section
open Go.RowKit Rn Ch
open Lib (hid)
def nS (ops : List OpD) (k : Nat) : List OpD × Int := (ops.take k).foldl addG ([], 0)
theorem nS_succ {l : List OpD} {k : Nat} (h : k < l.length) : nS l (k + 1) = addG (nS l k) l[k] := by
 unfold nS; rw [List.take_succ_eq_append_getElem h, List.foldl_append]; rfl
theorem nS_sm {l : List OpD} (hv : ∀ o ∈ l, VOp o) : ∀ k, k ≤ l.length → SmI (20000 * (k : Int)) (80000 * k) k (nS l k) := by
 intro k; induction k with
 | zero => intro _; exact smI_nil
 | succ k ih =>
   intro h; have h1 := hv l[k] (List.getElem_mem (by omega)); have h2 := h1.n0; have h3 := h1.n1; have h4 := h1.text; rw [nS_succ (by omega)]; exact ((ih (by omega)).addG h2).more (by rw [Int.natCast_add]; omega) (by omega) (Nat.le_refl _)
theorem nS_all {f : Int} {l : List OpD} (h : OkC f l) : chgL (nS l l.length) = norm l := by
 unfold nS chgL norm fold; rw [List.take_length, foldG_all]; intro o ho; have he := h.2.2.2.1 o ho; rcases opE_kind he with k | k | k
 ·have := (opE_keep k).1 he; omega
 ·have := (opE_put k).1 he; omega
 ·have := (opE_cut k).1 he; omega
set_option maxRecDepth 100000 in
set_option maxHeartbeats 4000000 in
theorem normalG_ok (f : Int) (v : Value) (ops : List OpD) (w : World) (hv : OpRow w v ops) (he : toE f ops = 0) :
 Calls Try.prog 43 #[chAgg f v] w fun e w' => ∃ u, e = .returned (.tuple #[chAgg f u, .int .i64 0]) ∧ OwnOps w' w.heap.size u (norm ops) ∧ Below w.heap.size w w' := by
 have HOK := hid ((toE_iff f ops).1 he); obtain ⟨W, hW⟩ : ∃ W, W = (w.alloc (.cells #[.int .i64 f, v] 24)).alloc (.cells #[.int .i64 0, .slice none 0 0] 24) := ⟨_, rfl⟩; have BW := hid (show Below w.heap.size w W by rw [hW]; exact ((Below.refl _ _).alloc (Nat.le_refl _) _).alloc (by simp) _); have r0 : W.heap[w.heap.size + 1]? = some (.cells #[.int .i64 0, .slice none 0 0] 24 (0, 0)) := by
  rw [hW]; have := heap_new (w.alloc (.cells #[.int .i64 f, v] 24)) (.cells #[.int .i64 0, .slice none 0 0] 24)
  rwa [World.size_alloc] at this
 have b0 : W.heap[w.heap.size]? = some (.cells #[.int .i64 f, v] 24 (0, 0)) := by
  rw [hW, Below.heap_alloc _ _ _ (by simp)]; exact heap_new _ _
 have hlW : w.heap.size + 2 = W.heap.size := by rw [hW]; simp
 have HR := changeRight_any f v ops W (hv.below BW.out) (fun o ho => by
  have hvo := vop_of HOK.out ho; exact ⟨by have := hvo.text; unfold maxLen; omega, hvo.attrs.sized⟩)
 rw [he] at HR; have HR := hid HR; have HW := hid hW; have HR0 := hid r0; have HB0 := hid b0; obtain ⟨aa, acap, rfl, v1, v2, v3⟩ := hv; have V3 := hid v3; have hn : ops.length ≤ 9223372036854775807 := Nat.le_trans v1 v2; have hl2 : ops.length ≤ 2000 := HOK.out.2.2.1; have c0 := (cells2 HB0.out).1; have c1 := (cells2 HB0.out).2.1; clear hW v1 v2 v3 r0 b0 he; go_enter Try.func43, Try.ntmps43
 go_wp2_with fail
 rw [← HW.out]; go_wp2_with fail
 refine HR.out.mono ?_; rintro e w1 ⟨rfl, b⟩; have HB := hid (BW.out.trans (b.mono BW.out.size)); have HC1 := hid ((b.block _ (lt_of_heap HB0.out)).trans HB0.out); have HA1 := hid ((b.block _ (lt_of_heap HR0.out)).trans HR0.out); have hs := HB.out.size; have hs1 := lt_of_heap HA1.out; have hlt0 : w.heap.size < w1.heap.size := by omega
 clear b c0 c1 HR0 HB0 HR; have c0 := (cells2 HC1.out).1; have c1 := (cells2 HC1.out).2.1; go_wp2_with fail
 go_loopw [17] (fun i wr => ∃ (k : Nat) (ov : Value), i = .int .i64 (k : Int) ∧ k ≤ ops.length ∧ Below w.heap.size w wr ∧ wr.heap[w.heap.size]? = some (.cells #[.int .i64 f, .slice aa ops.length acap] 24 (0, 0)) ∧ wr.heap[w.heap.size + 1]? = some (.cells #[.int .i64 0, .slice none 0 0] 24 (0, 0)) ∧ NSt wr w1.heap.size w1.heap.size ov (nS ops k).1 (nS ops k).2) (fun i _ => ops.length - (intOf i).toNat)
 case atStart => exact ⟨0, .slice none 0 0, rfl, Nat.zero_le _, HB.out.alloc hs _, (Below.heap_alloc _ _ _ (by omega)).trans HC1.out, (Below.heap_alloc _ _ _ (by omega)).trans HA1.out, nst_new (heap_new _ _)⟩
 case round =>
  obtain ⟨k, ov, rfl, hk, hb, hC, hA, hN⟩ := hrel; have HBW := hid hb; have HCW := hid hC; have HAW := hid hA; have HN := hid hN; have HSM := hid (nS_sm (fun o ho => vop_of HOK.out ho) k hk); have hlt1 := hN.lt
  by_cases hlt : k < ops.length
  ·have hlt' : (k : Int) < (ops.length : Int) := by omega
   obtain ⟨b, off, rfl, hbl, xv, hra, _, x0', x1', x2', x3'⟩ := V3.out k hlt; have hnext := nS_succ hlt; have hvo := vop_of HOK.out (List.getElem_mem hlt); obtain ⟨o, ho⟩ : ∃ q, q = ops[k] := ⟨_, rfl⟩; rw [← ho] at x0' x1' x2' hra hnext hvo; obtain ⟨ra, rc, rfl⟩ := hra.shape; have hs0 := hb.size; have x0 : wr.cell? ⟨b, off + k * 4, none⟩ = some (.int .i64 o.kind) := (hb.cell (by exact hbl)).trans x0'; have x1 : wr.cell? ⟨b, off + k * 4 + 1, none⟩ = some (.int .i64 o.n) := (hb.cell (by exact hbl)).trans x1'; have x2 : wr.cell? ⟨b, off + k * 4 + 2, none⟩ = some (.string o.text) := (hb.cell (by exact hbl)).trans x2'; have x3 : wr.cell? ⟨b, off + k * 4 + 3, none⟩ = some (.slice ra o.attrs.length rc) := (hb.cell (by exact hbl)).trans x3'; have hbr : b < wr.heap.size := Nat.lt_of_lt_of_le hbl hs0; have HNX := hid hnext; have HRA := hid (fun W (h : Below w.heap.size w W) => hra.below h); have HVO := hid hvo
   clear hb hC hA hN x0' x1' x2' x3' hra ho hnext hvo c0 c1; have bx := below_box wr (.cells #[.int .i64 o.kind, .int .i64 o.n, .string o.text, .slice ra o.attrs.length rc] 40); have HX := hid bx
   have HAD := hid (addG_any w1.heap.size w1.heap.size ov (nS ops k) o (.slice ra o.attrs.length rc) _ (HN.out.below bx) (Nat.le_refl _)
    (HSM.out.fits (by omega) (by omega) (by omega) HVO.out.n0 (by have := HVO.out.n1; omega) (by have := HVO.out.text; omega) HVO.out.attrs) (fun w' hw => HRA.out w' (HBW.out.trans ((HX.out.mono hs0).trans (hw.below.mono hs)))))
   clear bx; go_wp2_with fail
   refine HAD.out.mono ?_; rintro e w2 ⟨rfl, ov', hN2, hK2⟩; have HB2 := hid (HBW.out.trans ((HX.out.mono hs0).trans (hK2.keep.below.mono hs))); have HA2 := hid (hK2.keep.kept _ _ _ _ ((HX.out.block _ (lt_of_heap HAW.out)).trans HAW.out) (by decide)); have HC2 := hid (hK2.keep.kept _ _ _ _ ((HX.out.block _ (lt_of_heap HCW.out)).trans HCW.out) (by decide)); have HN2 := hid hN2; clear hN2 hK2; go_wp2_with fail
   go_roundw
   case rel => exact ⟨k + 1, ov', by go_num, by omega, HB2.out, HC2.out, HA2.out, by rw [HNX.out]; exact HN2.out⟩
   case measure => simp [intOf]; omega
  ·have hkn : k = ops.length := by omega
   have hlt' : ¬ (k : Int) < (ops.length : Int) := by omega
   obtain ⟨f0, f1, f2⟩ := HSM.out.fin (by omega) (by omega) (by omega); have HCH := hid (changeG_any w1.heap.size w1.heap.size ov (nS ops k) f wr hN (Nat.le_refl _) f0 f1 f2); have hchg : chgL (nS ops k) = norm ops := by rw [hkn]; exact nS_all HOK.out
   have hln : ¬ 2000 < (norm ops).length := by have := norm_len ops; omega
   have HCG := hid hchg; have HLN := hid hln; have c0 := (cells2 HCW.out).1; clear hb hC hA hN f0 f1 f2 hchg hln; go_wp2_with fail
   refine HCH.out.mono ?_; rintro e w2 ⟨u, rfl, hO, hK⟩; rw [HCG.out, if_neg HLN.out] at hO; rw [HCG.out, if_neg HLN.out, if_neg HLN.out]; have x1 := hK.kept _ _ _ _ HAW.out (by decide); have p0 : w2.cell? ⟨w.heap.size + 1, 0, none⟩ = some (.int .i64 0) := (cells2 x1).1; have p1 : w2.cell? ⟨w.heap.size + 1, 1, none⟩ = some (.slice none 0 0) := (cells2 x1).2.1; have p2 : w2.frozen? ⟨w.heap.size + 1, 0, none⟩ = false := (cells2 x1).2.2.1; have p3 : w2.frozen? ⟨w.heap.size + 1, 1, none⟩ = false := (cells2 x1).2.2.2; have HX1 := hid x1; obtain ⟨cps, hcp, hcO⟩ := hO; obtain ⟨ca, cc, rfl⟩ := own_slice hcO.1; have HO := hid (And.intro hcp hcO); have HBE := hid (HBW.out.trans (hK.below.mono hs)); clear hK x1 hcp hcO c0; go_wp2_with fail
   obtain ⟨q1, q2, q3⟩ := agg_set (.int .i64 f) (.slice ca cps.length cc) HX1.out; refine bodyPost_ret (results_chgN rfl rfl rfl (cells2 q1).1 (cells2 q1).2.1) rfl ?_; exact ⟨.slice ca cps.length cc, rfl, ⟨cps, HO.out.1, (HO.out.2.keep q2 (by decide) (by decide)).base (by omega)⟩, HBE.out.trans (q2.below.mono (by omega))⟩
end
section
open Go.RowKit Ch
open Lib (hid)
def NormOut (w : World) (f : Int) (ops : List OpD) (e : Ending) (w' : World) : Prop :=
 (toE f ops ≠ 0 ∧ e = .returned (.tuple #[chAgg 0 (.slice none 0 0), .int .i64 (toE f ops)]) ∧ Below w.heap.size w w') ∨
 (toE f ops = 0 ∧ ∃ v, e = .returned (.tuple #[chAgg f v, .int .i64 0]) ∧ OwnOps w' w.heap.size v (norm ops) ∧ Below w.heap.size w w')
set_option maxRecDepth 100000 in
set_option maxHeartbeats 4000000 in
theorem normal_any (f : Int) (v : Value) (ops : List OpD) (w : World) (hv : OpRow w v ops) (hz : OSized ops) :
 Calls Try.prog 43 #[chAgg f v] w (NormOut w f ops) := by
 by_cases he : toE f ops = 0
 ·exact (normalG_ok f v ops w hv he).mono fun e w' h => .inr ⟨he, h⟩
 ·have HE := hid he
  obtain ⟨W, hW⟩ : ∃ W, W = (w.alloc (.cells #[.int .i64 f, v] 24)).alloc (.cells #[.int .i64 0, .slice none 0 0] 24) := ⟨_, rfl⟩; have BW := hid (show Below w.heap.size w W by rw [hW]; exact ((Below.refl _ _).alloc (Nat.le_refl _) _).alloc (by simp) _); have r0 : W.heap[w.heap.size + 1]? = some (.cells #[.int .i64 0, .slice none 0 0] 24 (0, 0)) := by
   rw [hW]; have := heap_new (w.alloc (.cells #[.int .i64 f, v] 24)) (.cells #[.int .i64 0, .slice none 0 0] 24)
   rwa [World.size_alloc] at this
  have b0 : W.heap[w.heap.size]? = some (.cells #[.int .i64 f, v] 24 (0, 0)) := by
   rw [hW, Below.heap_alloc _ _ _ (by simp)]; exact heap_new _ _
  have HR := hid (changeRight_any f v ops W (hv.below BW.out) hz); have HW := hid hW; have HR0 := hid r0; have c0 := (cells2 b0).1; have c1 := (cells2 b0).2.1; have te : (toE f ops != 0) = true := by rw [bne_iff_ne]; exact he
  obtain ⟨aa, acap, rfl⟩ := hv.shape; have hlt := lt_of_heap b0; clear hW r0 b0 he hv hz; go_enter Try.func43, Try.ntmps43
  go_wp2_with fail
  rw [← HW.out]; go_wp2_with fail
  refine HR.out.mono ?_; rintro e w1 ⟨rfl, b⟩; have HB := hid (BW.out.trans (b.mono BW.out.size)); have HA1 := hid ((b.block _ (lt_of_heap HR0.out)).trans HR0.out); obtain ⟨p0, p1, p2, p3⟩ := cells2 HA1.out; have hs1 := lt_of_heap HA1.out; clear b c0 c1 HR0 HR; go_wp2_with fail
  obtain ⟨q1, q2, q3⟩ := agg_set (.int .i64 0) (.slice none 0 0) HA1.out; refine bodyPost_ret (results_chgN rfl rfl rfl (cells2 q1).1 (cells2 q1).2.1) rfl ?_; exact .inl ⟨HE.out, rfl, HB.out.trans (q2.below.mono (by omega))⟩
end
section
open Go.RowKit Ch
theorem NormOut.row {w w' : World} {_f : Int} {ops : List OpD} {v : Value} (h : OwnOps w' w.heap.size v (norm ops)) : OpRow w' v (norm ops) := h.row
theorem normal_ok (f : Int) (v : Value) (ops : List OpD) (w : World) (hv : OpRow w v ops) (hz : OSized ops) (he : toE f ops = 0) :
 Calls Try.prog 43 #[chAgg f v] w fun e w' => ∃ v', e = .returned (.tuple #[chAgg f v', .int .i64 0]) ∧ OwnOps w' w.heap.size v' (norm ops) ∧ Below w.heap.size w w' :=
 (normal_any f v ops w hv hz).mono fun e w' h => by
  rcases h with ⟨h0, _⟩ | ⟨_, h⟩
  ·exact absurd he h0
  ·exact h
theorem normal_bad (f : Int) (v : Value) (ops : List OpD) (w : World) (hv : OpRow w v ops) (hz : OSized ops) (he : toE f ops ≠ 0) :
 Calls Try.prog 43 #[chAgg f v] w fun e w' => e = .returned (.tuple #[chAgg 0 (.slice none 0 0), .int .i64 (toE f ops)]) ∧ Below w.heap.size w w' :=
 (normal_any f v ops w hv hz).mono fun e w' h => by
  rcases h with ⟨_, h⟩ | ⟨h0, _⟩
  ·exact h
  ·exact absurd h0 he
end
section
open Go.RowKit Ch
end
section
open Go.RowKit Ch
def OutV (w : World) (v : Value) (e : Ending) (w' : World) : Prop := e = .returned v ∧ Below w.heap.size w w'
set_option maxRecDepth 100000 in
set_option maxHeartbeats 1000000 in
theorem lawPut_any (s : ByteArray) (w : World) : Calls Try.prog 19 #[.string s, .slice none 0 0] w (OutV w (opAgg ⟨2, 0, s, []⟩ (.slice none 0 0))) := by
 go_enter Try.func19, Try.ntmps19
 go_wp2_with fail
 exact bodyPost_ret (v := opAgg ⟨2, 0, s, []⟩ (.slice none 0 0)) (by simp [results, Try.results19, go_sem]) rfl ⟨rfl, below_box _ _⟩
theorem opRow_new (w : World) (ps : List (OpD × Value)) (h : ∀ p ∈ ps, p.1.attrs = [] ∧ p.2 = .slice none 0 0) (hm : ps.length ≤ maxLen) :
 OpRow (w.alloc (.cells (flatO ps).toArray 40)) (.slice (some ⟨w.heap.size, 0, none⟩) ps.length ps.length) (ps.map (·.1)) := by
 refine OwnP.row (B := w.heap.size) ⟨⟨flatO_len ps, .inr ⟨w.heap.size, ps.length, (flatO ps).toArray, rfl, Nat.le_refl _, heap_new _ _, Nat.le_refl _, hm, by simp [flatO_len], ?_⟩⟩, fun p hp => ?_⟩
 ·rw [List.take_of_length_le (by simp [flatO_len])]
 ·obtain ⟨h1, h2⟩ := h p hp
  rw [h1, h2]; exact World.ownsRow_nil _ _ _ _
end
section
open Go.RowKit Ch
end
section
open Go.RowKit
structure Step (B N : Nat) (ts : List TypeId) (own : List Nat) (w w' : World) : Prop where
 below : Below B w w'
 cells : ∀ (i : Nat) (cs : Array Value) (e : TypeId) (fr : Nat × Nat), w.heap[i]? = some (Obj.cells cs e fr) → (e ∉ ts ∨ (i < N ∧ i ∉ own)) → w'.heap[i]? = some (Obj.cells cs e fr)
 other : ∀ (i : Nat) (o : Obj), i < N → w.heap[i]? = some o → o.isCells = false → w'.heap[i]? = some o
structure Rnd (B N : Nat) (ts : List TypeId) (w w' : World) : Prop where
 below : Below B w w'
 cells : ∀ (i : Nat) (cs : Array Value) (e : TypeId) (fr : Nat × Nat), w.heap[i]? = some (Obj.cells cs e fr) → e ∉ ts → w'.heap[i]? = some (Obj.cells cs e fr)
 other : ∀ (i : Nat) (o : Obj), N ≤ i → w.heap[i]? = some o → o.isCells = false → w'.heap[i]? = some o
theorem Step.refl (B N : Nat) (ts : List TypeId) (own : List Nat) (w : World) : Step B N ts own w w := ⟨Below.refl _ _, fun _ _ _ _ h _ => h, fun _ _ _ h _ => h⟩
theorem Step.trans {B N : Nat} {ts : List TypeId} {own : List Nat} {a b c : World} (h : Step B N ts own a b) (k : Step B N ts own b c) : Step B N ts own a c :=
 ⟨h.below.trans k.below, fun i cs e fr hi he => k.cells i cs e fr (h.cells i cs e fr hi he) he, fun i o hi ho hc => k.other i o hi (h.other i o hi ho hc) hc⟩
theorem Step.more {B N M : Nat} {ts us : List TypeId} {own own' : List Nat} {w w' : World} (h : Step B N ts own w w') (hs : ∀ t, t ∈ ts → t ∈ us) (ho : ∀ i, i < M → i ∈ own → i ∈ own') (hN : M ≤ N) : Step B M us own' w w' :=
 ⟨h.below, fun i cs e fr hi he => h.cells i cs e fr hi (he.imp (fun h1 ht => h1 (hs _ ht)) fun ⟨h1, h2⟩ => ⟨Nat.lt_of_lt_of_le h1 hN, fun h3 => h2 (ho _ h1 h3)⟩), fun i o hi ho hc => h.other i o (Nat.lt_of_lt_of_le hi hN) ho hc⟩
theorem Step.mono {B C N : Nat} {ts : List TypeId} {own : List Nat} {w w' : World} (h : Step B N ts own w w') (hc : C ≤ B) : Step C N ts own w w' := ⟨h.below.mono hc, h.cells, h.other⟩
theorem Rnd.refl (B N : Nat) (ts : List TypeId) (w : World) : Rnd B N ts w w := ⟨Below.refl _ _, fun _ _ _ _ h _ => h, fun _ _ _ h _ => h⟩
theorem Rnd.trans {B N : Nat} {ts : List TypeId} {a b c : World} (h : Rnd B N ts a b) (k : Rnd B N ts b c) : Rnd B N ts a c :=
 ⟨h.below.trans k.below, fun i cs e fr hi he => k.cells i cs e fr (h.cells i cs e fr hi he) he, fun i o hi ho hc => k.other i o hi (h.other i o hi ho hc) hc⟩
theorem Rnd.more {B N M : Nat} {ts us : List TypeId} {w w' : World} (h : Rnd B N ts w w') (hs : ∀ t, t ∈ ts → t ∈ us) (hN : N ≤ M) : Rnd B M us w w' :=
 ⟨h.below, fun i cs e fr hi he => h.cells i cs e fr hi fun ht => he (hs _ ht), fun i o hi ho hc => h.other i o (Nat.le_trans hN hi) ho hc⟩
theorem putObj_other {w : World} {l k : Nat} {o o' x : Obj} (_hl : w.heap[l]? = some o) (hk : w.heap[k]? = some x) (hne : k ≠ l) : (w.putObj l o').heap[k]? = some x := (World.putObj_heap_other hne).trans hk
theorem putObj_cells {w : World} {l k : Nat} {o o' : Obj} {cs : Array Value} {e : TypeId} {fr : Nat × Nat} (hl : w.heap[l]? = some o) (ho : o.isCells = false) (hk : w.heap[k]? = some (.cells cs e fr)) : (w.putObj l o').heap[k]? = some (.cells cs e fr) :=
 putObj_other hl hk fun e' => by subst e'; rw [hl] at hk; cases hk; cases ho
theorem below_put {B l : Nat} {w : World} {o o' : Obj} (hB : B ≤ l) (hl : w.heap[l]? = some o) : Below B w (w.putObj l o') :=
 (Below.refl B w).grown (grownBy_putObj' w l o') (by have := (Array.getElem?_eq_some_iff.1 hl).1; omega) fun k e => by cases e; exact hB
theorem step_put {B N l : Nat} {w : World} {o : Obj} {own : List Nat} (ts : List TypeId) (o' : Obj) (hN : N ≤ l) (hB : B ≤ l) (hl : w.heap[l]? = some o) (ho : o.isCells = false) : Step B N ts own w (w.putObj l o') :=
 ⟨below_put hB hl, fun _ _ _ _ hi _ => putObj_cells hl ho hi, fun _ _ hi hx _ => putObj_other hl hx (by omega)⟩
theorem rnd_put {B N l : Nat} {w : World} {o : Obj} (ts : List TypeId) (o' : Obj) (hN : l < N) (hB : B ≤ l) (hl : w.heap[l]? = some o) (ho : o.isCells = false) : Rnd B N ts w (w.putObj l o') :=
 ⟨below_put hB hl, fun _ _ _ _ hi _ => putObj_cells hl ho hi, fun _ _ hi hx _ => putObj_other hl hx (by omega)⟩
theorem step_below {B N : Nat} {w w' : World} {own : List Nat} (ts : List TypeId) (hb : Below w.heap.size w w') (hB : B ≤ w.heap.size) : Step B N ts own w w' :=
 ⟨hb.mono hB, fun i _ _ _ hi _ => (hb.block i (Array.getElem?_eq_some_iff.1 hi).1).trans hi, fun i _ _ hi _ => (hb.block i (Array.getElem?_eq_some_iff.1 hi).1).trans hi⟩
theorem rnd_below {B N : Nat} {w w' : World} (ts : List TypeId) (hb : Below w.heap.size w w') (hB : B ≤ w.heap.size) : Rnd B N ts w w' :=
 ⟨hb.mono hB, fun i _ _ _ hi _ => (hb.block i (Array.getElem?_eq_some_iff.1 hi).1).trans hi, fun i _ _ hi _ => (hb.block i (Array.getElem?_eq_some_iff.1 hi).1).trans hi⟩
def Iter {α : Type} (P : Program) (g : Nat) (lb : Array Value) (encs : α → Array Value) (xs : List α) (B : Nat) (tI : List TypeId) (own : List Nat) (tB : List TypeId) (Kp : World → World → Prop) (Fr : World → Nat → Prop) (S0 S1 : World → Prop) : Prop :=
 ∀ (l : Nat) (J Jx : Nat → World → Prop) (W : World), B ≤ W.heap.size → S0 W →
  (∀ k A A', J k A → Step B W.heap.size tI own A A' → J k A') → (∀ k A A', Jx k A → Step B W.heap.size tI own A A' → Jx k A') →
  (∀ k A i, J k A → A.heap.size ≤ i → Fr A i) →
  (∀ k (h : k < xs.length) W1, J k W1 → YieldAt Fence.wide 0 P l (encs xs[k]) W1 fun e W' =>
   (e = .returned (.bool true) ∧ J (k + 1) W' ∧ Rnd B W.heap.size tB W1 W' ∧ Kp W1 W') ∨ (e = .returned (.bool false) ∧ Jx k W' ∧ Rnd B W.heap.size tB W1 W')) →
  J 0 W →
  CallsIn Fence.wide 0 P g (#[.func (.yield l) #[] #[]] ++ lb) W fun e W' => (∃ v, e = .returned v) ∧ ((J xs.length W' ∧ S1 W') ∨ (∃ k, k < xs.length ∧ Jx k W'))
def bodyEnd (B N : Nat) (tB : List TypeId) (Kp : World → World → Prop) (I : Nat → World → Prop) (Ix : Code → Nat → World → Prop) (k : Nat) (W : World) : Exit → Act → World → Prop
 | .normal, _, W' => Rnd B N tB W W' ∧ Kp W W' ∧ I (k + 1) W'
 | .ret, _, W' => Rnd B N tB W W' ∧ Ix .ret k W'
 | .exit id, _, W' => Rnd B N tB W W' ∧ Ix (.exit id) k W'
 | .goto t, _, W' => Rnd B N tB W W' ∧ Ix (.goto t) k W'
 | .panic _, _, _ => False
 | .outgrown, _, _ => False
theorem range_it {α : Type} {P : Program} {g : Operand} {ps : Array Tmp} {assign body : Code} {Q : Exit → Act → World → Prop} {a : Act} {w : World}
 {gf : Nat} {lb : Array Value} {encs : α → Array Value} {xs : List α} {B : Nat} {tI : List TypeId} {own : List Nat} {tB : List TypeId} {Kp : World → World → Prop} {Fr : World → Nat → Prop} {S0 S1 : World → Prop}
 (hit : Iter P gf lb encs xs B tI own tB Kp Fr S0 S1) (hg : a.eval g = .func (.func gf) #[] lb) (eg : ∀ args w, (callFunc gf args).run P w = .ok (.enter gf args) w) (hps : ∀ x, (encs x).size = ps.size)
 (hB : B ≤ w.heap.size) (hS : ∀ W, Below w.heap.size w W → S0 W)
 (hKt : ∀ {A C D : World}, Kp A C → Kp C D → Kp A D) (hKb : ∀ (W : World) (l : Nat) (o o' : Obj), W.heap[l]? = some o → o.isCells = false → Kp W (W.putObj l o'))
 (I : Nat → World → Prop) (Ix : Code → Nat → World → Prop)
 (hI : ∀ k A A', I k A → Step B w.heap.size tI own A A' → I k A') (hIx : ∀ c k A A', Ix c k A → Step B w.heap.size tI own A A' → Ix c k A') (hFr : ∀ k A i, I k A → A.heap.size ≤ i → Fr A i) (h0 : I 0 w)
 (hround : ∀ (l k : Nat) (h : k < xs.length) (W : World), w.heap.size ≤ l → I k W →
  assign.wpIn (Fence.wide.inRound l) 0 P (Exit.then (fun a₁ W1 => Rnd B w.heap.size tB W W1 ∧ Kp W W1 ∧ I k W1 ∧
   ∀ W2, Step B w.heap.size [] [] W1 W2 → W2.heap.size = W1.heap.size → (∃ r, W2.heap[l]? = some (.loop r)) → body.wpIn (Fence.wide.inRound l) 0 P (bodyEnd B w.heap.size tB Kp I Ix k W2) a₁ W2)
   (fun _ _ _ => False)) { tmps := (ps.zip (encs xs[k])).foldl (fun t (p, v) => t.setIfInBounds p v) a.tmps, defers := [] } W)
 (hdone : ∀ (D : Nat) (W : World), w.heap.size ≤ D → I xs.length W → S1 W → W.heap[D]? = some (.deferred (some [])) → Q .normal { a with defers := { target := .collected D, args := #[] } :: a.defers } W)
 (hstop : ∀ (D : Nat) (c : Code) (k : Nat) (W : World), w.heap.size ≤ D → k < xs.length → Ix c k W → W.heap[D]? = some (.deferred (some [])) → c.wpIn Fence.wide 0 P Q { a with defers := { target := .collected D, args := #[] } :: a.defers } W)
 (hS1 : ∀ A A', S1 A → Step B w.heap.size [] [] A A' → S1 A') :
 (Code.rangeFunc g ps assign body).wpIn Fence.wide 0 P Q a w := by
 refine wpIn_rangeFunc fun fn hfn => ?_
 show ∃ (l : Nat) (mark : List Deferred) (w₁ : World) (d : Deferred) (w₁' : World) (f : FuncId) (args : Array Value) (w₂ : World),
  (Instr.enterLoop fn a.tmps ps assign body none).run P w = .ok (l, mark) w₁ ∧ _
 obtain ⟨rec, hrec⟩ : ∃ rec : LoopState → Option Code → Loop, rec = fun st pe => { state := st, pending := pe, fn, tmps := a.tmps, params := ps, assign, body, defers := w.heap.size } := ⟨_, rfl⟩; obtain ⟨W1, hW1⟩ : ∃ W1, (w.alloc (.deferred (some []))).alloc (.loop (rec .ready none)) = W1 := ⟨_, rfl⟩; have hsz : W1.heap.size = w.heap.size + 1 + 1 := by rw [← hW1]; simp
 have hL1 : W1.heap[w.heap.size + 1]? = some (.loop (rec .ready none)) := by
  rw [← hW1]; have := World.alloc_heap_new (w.alloc (.deferred (some []))) (.loop (rec .ready none)); rwa [World.size_alloc] at this
 have hD1 : W1.heap[w.heap.size]? = some (.deferred (some [])) := by
  rw [← hW1]; exact (Below.heap_alloc _ _ _ (by simp)).trans (World.alloc_heap_new w _)
 have hb1 : Below w.heap.size w W1 := by
  rw [← hW1]; exact ((Below.refl _ w).alloc (Nat.le_refl _) _).alloc (by simp) _
 have hI1 : I 0 W1 := hI _ _ _ h0 (step_below _ hb1 hB)
 refine ⟨w.heap.size + 1, [{ target := .collected w.heap.size, args := #[] }], W1, { target := .fn (.func gf) lb, args := #[.func (.yield (w.heap.size + 1)) #[] #[]] }, W1, gf,
  #[.func (.yield (w.heap.size + 1)) #[] #[]] ++ lb, W1, ?_, ?_, fun _ _ => trivial, ?_, fun h => (by cases h), ?_⟩
 ·rw [← hW1, hrec]; exact run_enterLoop_outer _ _ _ _ _
 ·simp only [resolve, hg]
  simp [go_sem]
 ·simp [invoke, go_sem, eg]
 ·refine (hit (w.heap.size + 1)
   (fun k W => I k W ∧ W.heap[w.heap.size + 1]? = some (.loop (rec .ready none)) ∧ W.heap[w.heap.size]? = some (.deferred (some [])))
   (fun k W => ∃ c, Ix c k W ∧ W.heap[w.heap.size + 1]? = some (.loop (rec .done (some c))) ∧ W.heap[w.heap.size]? = some (.deferred (some [])))
   W1 (by omega) (hS _ hb1)
   (fun k A A' hs ht => ⟨hI k A A' hs.1 (ht.more (fun _ h => h) (fun _ _ h => h) (by omega)), ht.other _ _ (by omega) hs.2.1 rfl, ht.other _ _ (by omega) hs.2.2 rfl⟩)
   (fun k A A' hs ht => by
    obtain ⟨c, hc, hl, hk⟩ := hs; exact ⟨c, hIx c k A A' hc (ht.more (fun _ h => h) (fun _ _ h => h) (by omega)), ht.other _ _ (by omega) hl rfl, ht.other _ _ (by omega) hk rfl⟩)
   (fun k A i hs hi => hFr k A i hs.1 hi) ?_ ⟨hI1, hL1, hD1⟩).mono ?_
  ·rintro k hk W ⟨hi, hl, hd⟩
   have hy := run_yield (P := P) (args := encs xs[k]) hl (by rw [hrec]; exact hps _); rw [hrec] at hy; refine ⟨fn, _, assign, body, hy, roundIn_of_wpIn hfn ?_⟩; clear hy; refine wpIn_mono (hround _ k hk W (by omega) hi) ?_; intro e a₁ W2 hq; cases e with
   | normal =>
     obtain ⟨r1, kp1, hi2, hbody⟩ := hq; have hl2 := r1.other _ _ (by omega) hl rfl; have hd2 := r1.other _ _ (Nat.le_refl _) hd rfl; have hlt2 : w.heap.size + 1 < W2.heap.size := (Array.getElem?_eq_some_iff.1 hl2).1; refine ⟨_, run_beginRound hl2 (by rw [hrec]), ?_⟩; have hl3 : (W2.putObj (w.heap.size + 1) (.loop { rec .ready none with state := .busy })).heap[w.heap.size + 1]? = some (.loop { rec .ready none with state := .busy }) := World.putObj_heap_same hlt2; have hd3 : (W2.putObj (w.heap.size + 1) (.loop { rec .ready none with state := .busy })).heap[w.heap.size]? = some (.deferred (some [])) := putObj_other hl2 hd2 (by omega); have kp2 : Kp W (W2.putObj (w.heap.size + 1) (.loop { rec .ready none with state := .busy })) := hKt kp1 (hKb _ _ _ _ hl2 rfl); have r2 : Rnd B W1.heap.size tB W (W2.putObj (w.heap.size + 1) (.loop { rec .ready none with state := .busy })) := (r1.more (fun _ h => h) (by omega)).trans (rnd_put tB _ (by omega) (by omega) hl2 rfl)
     refine wpIn_mono (hbody _ (step_put [] _ (by omega) (by omega) hl2 rfl) World.putObj_size ⟨_, hl3⟩) ?_
     have fin : ∀ (jump : Option Code) (W3 : World), Rnd B w.heap.size tB (W2.putObj (w.heap.size + 1) (.loop { rec .ready none with state := .busy })) W3 →
      (Instr.endRound (w.heap.size + 1) jump).run P W3 = .ok (.bool jump.isNone) (W3.putObj (w.heap.size + 1) (.loop (rec (if jump.isNone then .ready else .done) jump))) ∧
      W3.heap[w.heap.size + 1]? = some (.loop { rec .ready none with state := .busy }) ∧
      (W3.putObj (w.heap.size + 1) (.loop (rec (if jump.isNone then .ready else .done) jump))).heap[w.heap.size + 1]? = some (.loop (rec (if jump.isNone then .ready else .done) jump)) ∧
      (W3.putObj (w.heap.size + 1) (.loop (rec (if jump.isNone then .ready else .done) jump))).heap[w.heap.size]? = some (.deferred (some [])) := fun jump W3 hr => by
      have h3 := hr.other _ _ (by omega) hl3 rfl; have := run_endRound (P := P) jump h3; rw [hrec] at this ⊢; exact ⟨this, by rw [hrec] at h3; exact h3, World.putObj_heap_same (Array.getElem?_eq_some_iff.1 h3).1, putObj_other h3 (hr.other _ _ (Nat.le_refl _) hd3 rfl) (by omega)⟩
     rintro e a3 W3 hp; cases e with
     | normal =>
       obtain ⟨r3, kp3, hi3⟩ := hp; obtain ⟨hr, h3, h4, h5⟩ := fin none W3 r3; exact ⟨_, _, hr, .inl ⟨rfl, ⟨hI _ _ _ hi3 (step_put _ _ (by omega) (by omega) h3 rfl), h4, h5⟩, (r2.trans (r3.more (fun _ h => h) (by omega))).trans (rnd_put tB _ (by omega) (by omega) h3 rfl), hKt (hKt kp2 kp3) (hKb _ _ _ _ h3 rfl)⟩⟩
     | ret =>
       obtain ⟨r3, hi3⟩ := hp; obtain ⟨hr, h3, h4, h5⟩ := fin (some .ret) W3 r3; exact ⟨_, _, hr, .inr ⟨rfl, ⟨.ret, hIx _ _ _ _ hi3 (step_put _ _ (by omega) (by omega) h3 rfl), h4, h5⟩, (r2.trans (r3.more (fun _ h => h) (by omega))).trans (rnd_put tB _ (by omega) (by omega) h3 rfl)⟩⟩
     | exit id =>
       obtain ⟨r3, hi3⟩ := hp; obtain ⟨hr, h3, h4, h5⟩ := fin (some (.exit id)) W3 r3; exact ⟨_, _, hr, .inr ⟨rfl, ⟨.exit id, hIx _ _ _ _ hi3 (step_put _ _ (by omega) (by omega) h3 rfl), h4, h5⟩, (r2.trans (r3.more (fun _ h => h) (by omega))).trans (rnd_put tB _ (by omega) (by omega) h3 rfl)⟩⟩
     | goto t =>
       obtain ⟨r3, hi3⟩ := hp; obtain ⟨hr, h3, h4, h5⟩ := fin (some (.goto t)) W3 r3; exact ⟨_, _, hr, .inr ⟨rfl, ⟨.goto t, hIx _ _ _ _ hi3 (step_put _ _ (by omega) (by omega) h3 rfl), h4, h5⟩, (r2.trans (r3.more (fun _ h => h) (by omega))).trans (rnd_put tB _ (by omega) (by omega) h3 rfl)⟩⟩
     | panic ch => exact hp.elim
     | outgrown => exact hp.elim
   | exit id => exact hq.elim
   | goto t => exact hq.elim
   | ret => exact hq.elim
   | panic ch => exact hq.elim
   | outgrown => exact hq.elim
  ·rintro e W2 ⟨⟨v, rfl⟩, (⟨⟨hi, hl, hk⟩, hs⟩ | ⟨k, hkl, c, hi, hl, hk⟩)⟩
   ·exact ⟨none, _, by have := run_endLoop (P := P) hl (by rw [hrec]; simp); rw [hrec] at this; exact this, hdone _ _ (Nat.le_refl _) (hI _ _ _ hi (step_put _ _ (by omega) (by omega) hl rfl)) (hS1 _ _ hs (step_put _ _ (by omega) (by omega) hl rfl)) (putObj_other hl hk (by omega))⟩
   ·exact ⟨some c, _, by have := run_endLoop (P := P) hl (by rw [hrec]; simp); rw [hrec] at this; exact this, hstop _ c k _ (Nat.le_refl _) hkl (hIx _ _ _ _ hi (step_put _ _ (by omega) (by omega) hl rfl)) (putObj_other hl hk (by omega))⟩
end
end Go.Proofs.Ytchceolbbkhnnaa
