import Derived.Test.YtadookafnfnaoaaGreatDoorGS10
import Derived.Test.YtadookafnfnaoaaGreatDoorGS7
import Derived.Test.YtadookafnfnaoaaGreatDoorGS3
import Derived.Test.YtadookafnfnaoaaGreatDoorGS4
/- The program's gather: a changeset of all that was added; how large it is on the way. -/
namespace Go.Proofs.YtadookafnfnaoaaGreatDoor
open Go.RowKit Ch

def tot : List OpD → Int
  | [] => 0
  | o :: r => o.n + tot r
def ttx : List OpD → Nat
  | [] => 0
  | o :: r => o.text.size + ttx r
/-- So much at most: runes by number, bytes, operations. -/
structure SmI (T : Int) (M k : Nat) (s : List OpD × Int) : Prop where
  len : s.1.length ≤ 2 * k
  g0 : 0 ≤ s.2
  all : ∀ x ∈ s.1, 0 ≤ x.n
  ft : tot s.1 + s.2 ≤ T
  fx : ttx s.1 ≤ M
theorem tot_put (l : List OpD) (o : OpD) : tot (put l o) = tot l + o.n := by
  cases l with
  | nil => simp [put, tot]
  | cons x r => rw [put]; split <;> simp only [tot] <;> omega
theorem ttx_put (l : List OpD) (o : OpD) : ttx (put l o) = ttx l + o.text.size := by
  cases l with
  | nil => simp [put, ttx]
  | cons x r =>
    rw [put]
    split
    · simp only [ttx]; rw [cat_size]; omega
    · simp only [ttx]; omega
theorem all_put {l : List OpD} {o : OpD} (h : ∀ x ∈ l, 0 ≤ x.n) (ho : 0 ≤ o.n) : ∀ x ∈ put l o, 0 ≤ x.n := by
  cases l with
  | nil => intro x hx; rw [put, List.mem_singleton] at hx; rw [hx]; exact ho
  | cons y r =>
    intro x hx
    have hy := h y (List.mem_cons_self ..)
    rw [put] at hx
    split at hx
    · rcases List.mem_cons.1 hx with rfl | hx
      · show 0 ≤ y.n + o.n; omega
      · exact h x (List.mem_cons_of_mem _ hx)
    · rcases List.mem_cons.1 hx with rfl | hx
      · exact ho
      · exact h x hx
theorem tot_flush {s : List OpD × Int} (h : 0 ≤ s.2) : tot (flush s) = tot s.1 + s.2 := by
  unfold flush
  split
  · rw [tot_put]; rfl
  · omega
theorem ttx_flush (s : List OpD × Int) : ttx (flush s) = ttx s.1 := by
  unfold flush
  split
  · rw [ttx_put]; rfl
  · rfl
theorem len_flush (s : List OpD × Int) : (flush s).length ≤ s.1.length + 1 := by
  unfold flush
  split
  · exact put_len_le _ _
  · omega
theorem all_flush {s : List OpD × Int} (h : 0 ≤ s.2) (ha : ∀ x ∈ s.1, 0 ≤ x.n) : ∀ x ∈ flush s, 0 ≤ x.n := by
  unfold flush
  split
  · exact all_put ha h
  · exact ha
theorem smI_nil : SmI 0 0 0 ([], 0) := ⟨Nat.le_refl _, Int.le_refl _, (fun x hx => by cases hx), Int.le_refl _, Nat.le_refl _⟩
/-- One more. -/
theorem SmI.add {T : Int} {M k : Nat} {s : List OpD × Int} {o : OpD} (h : SmI T M k s) (h0 : 0 ≤ o.n) : SmI (T + o.n) (M + o.text.size) (k + 1) (Ch.add s o) := by
  obtain ⟨a, b, c, d, e⟩ := h
  unfold Ch.add
  split
  · exact ⟨by show s.1.length ≤ _; omega, by show 0 ≤ s.2 + o.n; omega, c, by show Go.Proofs.YtadookafnfnaoaaGreatDoor.tot s.1 + (s.2 + o.n) ≤ _; omega, by show Go.Proofs.YtadookafnfnaoaaGreatDoor.ttx s.1 ≤ _; omega⟩
  · split
    · have f1 := len_flush s
      have f2 := put_len_le (flush s) o
      refine ⟨by show (put (flush s) o).length ≤ _; omega, Int.le_refl _, all_put (all_flush b c) h0, ?_, ?_⟩
      · show Go.Proofs.YtadookafnfnaoaaGreatDoor.tot (put (flush s) o) + 0 ≤ _
        rw [tot_put, tot_flush b]; omega
      · show Go.Proofs.YtadookafnfnaoaaGreatDoor.ttx (put (flush s) o) ≤ _
        rw [ttx_put, ttx_flush]; omega
    · have f2 := put_len_le s.1 o
      refine ⟨by show (put s.1 o).length ≤ _; omega, b, all_put c h0, ?_, ?_⟩
      · show Go.Proofs.YtadookafnfnaoaaGreatDoor.tot (put s.1 o) + s.2 ≤ _
        rw [tot_put]; omega
      · show Go.Proofs.YtadookafnfnaoaaGreatDoor.ttx (put s.1 o) ≤ _
        rw [ttx_put]; omega
theorem SmI.more {T T' : Int} {M M' k k' : Nat} {s : List OpD × Int} (h : SmI T M k s) (h1 : T ≤ T') (h2 : M ≤ M') (h3 : k ≤ k') : SmI T' M' k' s := by
  obtain ⟨a, b, c, d, e⟩ := h
  exact ⟨by omega, b, c, by omega, by omega⟩
theorem SmI.addG {T : Int} {M k : Nat} {s : List OpD × Int} {o : OpD} (h : SmI T M k s) (h0 : 0 ≤ o.n) : SmI (T + o.n) (M + o.text.size) (k + 1) (Go.Proofs.YtadookafnfnaoaaGreatDoor.addG s o) := by
  unfold Go.Proofs.YtadookafnfnaoaaGreatDoor.addG
  split
  · exact h.more (by omega) (by omega) (by omega)
  · exact h.add h0
theorem last_le {l : List OpD} {x : OpD} {r : List OpD} (ha : ∀ x ∈ l, 0 ≤ x.n) (e : l = x :: r) : 0 ≤ x.n ∧ x.n ≤ tot l ∧ x.text.size ≤ ttx l := by
  subst e
  have hr : ∀ r : List OpD, (∀ x ∈ r, 0 ≤ x.n) → 0 ≤ tot r := by
    intro r hr
    induction r with
    | nil => exact Int.le_refl _
    | cons y s ih =>
      have h1 := hr y (List.mem_cons_self ..)
      have h2 := ih fun z hz => hr z (List.mem_cons_of_mem _ hz)
      rw [tot]; omega
  have h1 := hr r fun z hz => ha z (List.mem_cons_of_mem _ hz)
  refine ⟨ha x (List.mem_cons_self ..), by rw [tot]; omega, by rw [ttx]; omega⟩
theorem tot_nn {l : List OpD} (h : ∀ x ∈ l, 0 ≤ x.n) : 0 ≤ tot l := by
  induction l with
  | nil => exact Int.le_refl _
  | cons y s ih =>
    have h1 := h y (List.mem_cons_self ..)
    have h2 := ih fun z hz => h z (List.mem_cons_of_mem _ hz)
    rw [tot]; omega
theorem SmI.fits {T : Int} {M k : Nat} {s : List OpD × Int} {o : OpD} (h : SmI T M k s) (hT : T ≤ 536870912) (hM : M ≤ 1073741824) (hk : k ≤ 400000) (h0 : 0 ≤ o.n) (h1 : o.n ≤ 536870912) (h2 : o.text.size ≤ 1073741824) (h3 : SmallA o.attrs) : FitsS s o := by
  obtain ⟨a, b, c, d, e⟩ := h
  have t0 := tot_nn c
  have l1 : ∀ x r, s.1 = x :: r → 0 ≤ x.n ∧ x.n ≤ 1073741824 ∧ x.text.size ≤ 1073741824 := fun x r e' => by
    obtain ⟨h1, h2, h3⟩ := last_le c e'
    exact ⟨h1, by omega, by omega⟩
  have l2 : ∀ x r, flush s = x :: r → 0 ≤ x.n ∧ x.n ≤ 1073741824 ∧ x.text.size ≤ 1073741824 := fun x r e' => by
    obtain ⟨h1, h2, h3⟩ := last_le (all_flush b c) e'
    rw [tot_flush b] at h2
    rw [ttx_flush] at h3
    exact ⟨h1, by omega, by omega⟩
  have f1 := len_flush s
  exact ⟨b, by omega, ⟨by omega, l1, b, by show s.2 ≤ _; omega, by show (0 : Nat) ≤ _; omega, small_nil⟩, ⟨by omega, l1, h0, by omega, h2, h3⟩, ⟨by omega, l2, h0, by omega, h2, h3⟩, h1⟩
theorem SmI.fin {T : Int} {M k : Nat} {s : List OpD × Int} (h : SmI T M k s) (hT : T ≤ 536870912) (hM : M ≤ 1073741824) (hk : k ≤ 400000) : 0 ≤ s.2 ∧ Fits s.1 (delO s.2) ∧ (flush s).length ≤ 1000000 := by
  have hf := h.fits (o := delO 0) hT hM hk (Int.le_refl _) (by show (0 : Int) ≤ _; omega) (by show (0 : Nat) ≤ _; omega) small_nil
  have f1 := len_flush s
  have := h.len
  exact ⟨h.g0, hf.del, by omega⟩
theorem trim_len (l : List OpD) : (trim l).length ≤ l.length := by
  cases l with
  | nil => exact Nat.le_refl _
  | cons x r => rw [trim]; split <;> simp

theorem keep_new {B : Nat} {ts : List TypeId} {w Y Z : World} {o : Obj} (h : Keep B ts (w.alloc o) Y) (hB : B ≤ w.heap.size) (hz : ∀ i, i ≠ w.heap.size → Z.heap[i]? = Y.heap[i]?) (hb : Below w.heap.size Y Z) : Keep B ts w Z :=
  ⟨(((Below.refl w.heap.size w).alloc (Nat.le_refl _) o).mono hB).trans (h.below.trans (hb.mono hB)), fun i x hi ho => by
    have hlt := lt_of_heap hi
    rw [hz i (by omega)]
    exact h.all i x ((((Below.refl w.heap.size w).alloc (Nat.le_refl _) o).block i hlt).trans hi) ho⟩
theorem results_chg {fn : Func} (h : fn.results = #[.cell 4 24, .tmp 5]) {tmps : Array Value} {w : World} {b4 : Nat} {v x y : Value} (h4 : tmps.getD 4 undef = .pointer (some ⟨b4, 0, none⟩)) (h5 : tmps.getD 5 undef = v)
    (z4 : w.cell? ⟨b4, 0, none⟩ = some x) (z5 : w.cell? ⟨b4, 1, none⟩ = some y) : (results fn tmps).run Tryz.prog w = .ok (.tuple #[.agg #[x, y], v]) w := by
  rw [Array.getD_eq_getD_getElem?] at h4 h5
  simp [results, h, h4, h5, go_sem, z4, z5]
theorem agg_set {W : World} {n : Nat} {t : TypeId} {a b : Value} (x y : Value) (h : W.heap[n]? = some (.cells #[a, b] t (0, 0))) :
    ((W.setCell ⟨n, 0, none⟩ x).setCell ⟨n, 1, none⟩ y).heap[n]? = some (.cells #[x, y] t (0, 0)) ∧ Keep n [t] W ((W.setCell ⟨n, 0, none⟩ x).setCell ⟨n, 1, none⟩ y) ∧ ∀ i, i ≠ n → ((W.setCell ⟨n, 0, none⟩ x).setCell ⟨n, 1, none⟩ y).heap[i]? = W.heap[i]? := by
  have h1 : (W.setCell ⟨n, 0, none⟩ x).heap[n]? = some (.cells #[x, b] t (0, 0)) := nblk_set h
  have h2 : ((W.setCell ⟨n, 0, none⟩ x).setCell ⟨n, 1, none⟩ y).heap[n]? = some (.cells #[x, y] t (0, 0)) := nblk_set h1
  exact ⟨h2, (keep_set (B := n) (ts := [t]) h (by simp) (Nat.le_refl _) ⟨n, 0, none⟩ rfl x).trans (keep_set (B := n) (ts := [t]) h1 (by simp) (Nat.le_refl _) ⟨n, 1, none⟩ rfl y), fun i hi => (Below.heap_setCell _ _ _ _ hi).trans (Below.heap_setCell _ _ _ _ hi)⟩
theorem cells2 {W : World} {n : Nat} {t : TypeId} {a b : Value} (h : W.heap[n]? = some (.cells #[a, b] t (0, 0))) : W.cell? ⟨n, 0, none⟩ = some a ∧ W.cell? ⟨n, 1, none⟩ = some b ∧ W.frozen? ⟨n, 0, none⟩ = false ∧ W.frozen? ⟨n, 1, none⟩ = false :=
  ⟨by simp [World.cell?, h], by simp [World.cell?, h], by simp [World.frozen?, h], by simp [World.frozen?, h]⟩
def chgL (s : List OpD × Int) : List OpD := (trim (flush s)).reverse
/-- What Change answers. -/
def ChgOut (w : World) (B : Nat) (s : List OpD × Int) (from_ : Int) (e : Ending) (w' : World) : Prop :=
  ∃ v, e = .returned (.tuple #[chAgg (if 2000 < (chgL s).length then 0 else from_) v, .int .i64 (if 2000 < (chgL s).length then 2 else 0)]) ∧ OwnOps w' B v (if 2000 < (chgL s).length then [] else chgL s) ∧ Keep B TS w w'
set_option maxHeartbeats 4000000 in
set_option maxRecDepth 100000 in
theorem changeG_any (B b : Nat) (ov : Value) (s : List OpD × Int) (from_ : Int) (w : World) (h : NSt w B b ov s.1 s.2) (hB : B ≤ b) (hg : 0 ≤ s.2) (hf : Fits s.1 (delO s.2)) (hl : (flush s).length ≤ 1000000) :
    Calls Tryz.prog 58 #[.pointer (some ⟨b, 0, none⟩), .int .i64 from_] w (ChgOut w B s from_) := by
  have hBw : B ≤ w.heap.size := Nat.le_trans hB (Nat.le_of_lt h.lt)
  have bA := below_box w (.cells #[.int .i64 0, .slice none 0 0] 24)
  have HE := Lib.hid (end_any B b ov s (w.alloc (.cells #[.int .i64 0, .slice none 0 0] 24)) (h.below bA) hB hg hf hl)
  have hX : (w.alloc (.cells #[.int .i64 0, .slice none 0 0] 24)).heap[w.heap.size]? = some (.cells #[.int .i64 0, .slice none 0 0] 24 (0, 0)) := heap_new _ _
  have HX := Lib.hid hX
  clear h hg hf hl bA hX
  go_enter Tryz.func58, Tryz.ntmps58
  go_wp2_with fail
  refine HE.out.mono ?_
  rintro e w1 ⟨v, rfl, hO, hK⟩
  have x1 := hK.kept _ _ _ _ HX.out (by decide)
  have hlen : (chgL s).length = (trim (flush s)).reverse.length := rfl
  obtain ⟨ps, hps, hP⟩ := hO
  obtain ⟨va, vc, rfl⟩ := own_slice hP.1
  have hpl : ps.length = (chgL s).length := by rw [hlen, ← hps, List.length_map]
  have HP := Lib.hid hP
  have HPS := Lib.hid (show ps.map (·.1) = chgL s from hps)
  have HK := Lib.hid hK
  have s1 := lt_of_heap x1
  have p0 : w1.cell? ⟨w.heap.size, 0, none⟩ = some (.int .i64 0) := by simp [World.cell?, x1]
  have p1 : w1.cell? ⟨w.heap.size, 1, none⟩ = some (.slice none 0 0) := by simp [World.cell?, x1]
  have p2 : w1.frozen? ⟨w.heap.size, 0, none⟩ = false := by simp [World.frozen?, x1]
  have p3 : w1.frozen? ⟨w.heap.size, 1, none⟩ = false := by simp [World.frozen?, x1]
  have HX1 := Lib.hid x1
  rw [hpl]
  clear hP hps hK x1 hpl hlen
  by_cases h2 : 2000 < (chgL s).length
  · have t2 : (2000 : Int) < ((chgL s).length : Int) := by omega
    have t3 : decide ((2000 : Int) < ((chgL s).length : Int)) = true := decide_eq_true t2
    have HH := Lib.hid h2
    clear h2
    go_wp2_with fail
    obtain ⟨q1, q2, q3⟩ := agg_set (.int .i64 0) (.slice none 0 0) HX1.out
    refine bodyPost_ret (results_chg rfl rfl rfl (cells2 q1).1 (cells2 q1).2.1) rfl ?_
    refine ⟨.slice none 0 0, ?_, ?_, keep_new HK.out hBw q3 q2.below⟩
    · rw [if_pos HH.out, if_pos HH.out]; rfl
    · rw [if_pos HH.out]
      exact ⟨[], rfl, World.ownsRow_nil _ _ _ _, fun p hp => by cases hp⟩
  · have t2 : ¬ (2000 : Int) < ((chgL s).length : Int) := by omega
    have t3 : decide ((2000 : Int) < ((chgL s).length : Int)) = false := decide_eq_false t2
    have HH := Lib.hid h2
    clear h2
    go_wp2_with fail
    obtain ⟨q1, q2, q3⟩ := agg_set (.int .i64 from_) (.slice va (chgL s).length vc) HX1.out
    obtain ⟨Z, hZ⟩ : ∃ Z, Z = (w1.setCell ⟨w.heap.size, 0, none⟩ (.int .i64 from_)).setCell ⟨w.heap.size, 1, none⟩ (.slice va (chgL s).length vc) := ⟨_, rfl⟩
    rw [← hZ] at q1 q2 q3 ⊢
    clear hZ
    refine bodyPost_ret (results_chg rfl rfl rfl (cells2 q1).1 (cells2 q1).2.1) rfl ?_
    refine ⟨.slice va (chgL s).length vc, ?_, ?_, keep_new HK.out hBw q3 q2.below⟩
    · rw [if_neg HH.out, if_neg HH.out]; rfl
    · rw [if_neg HH.out]
      have hpl : (chgL s).length = ps.length := by rw [← HPS.out, List.length_map]
      rw [hpl]
      exact ⟨ps, HPS.out, q2.own HP.out.1 (by decide), fun p hp => q2.own (HP.out.2 p hp) (by decide)⟩
theorem foldG_all (ops : List OpD) (h : ∀ o ∈ ops, ¬ (o.n = 0 ∧ o.text.size = 0)) : ∀ s : List OpD × Int, ops.foldl addG s = ops.foldl Ch.add s := by
  induction ops with
  | nil => intro s; rfl
  | cons o r ih =>
    intro s
    have e : addG s o = Ch.add s o := by unfold addG; rw [if_neg (h o (List.mem_cons_self ..))]
    rw [List.foldl_cons, List.foldl_cons, e, ih fun x hx => h x (List.mem_cons_of_mem _ hx)]
theorem results_chgN {fn : Func} {i j : Nat} (h : fn.results = #[.cell i 24, .tmp j]) {tmps : Array Value} {w : World} {b4 : Nat} {v x y : Value} (h4 : tmps.getD i undef = .pointer (some ⟨b4, 0, none⟩)) (h5 : tmps.getD j undef = v)
    (z4 : w.cell? ⟨b4, 0, none⟩ = some x) (z5 : w.cell? ⟨b4, 1, none⟩ = some y) : (results fn tmps).run Tryz.prog w = .ok (.tuple #[.agg #[x, y], v]) w := by
  rw [Array.getD_eq_getD_getElem?] at h4 h5
  simp [results, h, h4, h5, go_sem, z4, z5]
theorem nst_new {W : World} {B b : Nat} (h : W.heap[b]? = some (.cells #[.slice none 0 0, .pointer none, .slice none 0 0, .int .i64 0] 90 (0, 0))) : NSt W B b (.slice none 0 0) [] 0 :=
  ⟨[], .pointer none, .slice none 0 0, [], h, .inl rfl, ⟨World.ownsRow_nil _ _ _ _, fun p hp => by cases hp⟩, holds8_nil _ _, .inl ⟨rfl, rfl, rfl⟩⟩
end Go.Proofs.YtadookafnfnaoaaGreatDoor
/- The program's Normal, of a changeset that may be; its To, Nothing. -/
namespace Go.Proofs.YtadookafnfnaoaaGreatDoor
open Go.RowKit Rn Ch

def nS (ops : List OpD) (k : Nat) : List OpD × Int := (ops.take k).foldl addG ([], 0)
theorem nS_succ {l : List OpD} {k : Nat} (h : k < l.length) : nS l (k + 1) = addG (nS l k) l[k] := by
  unfold nS
  rw [List.take_succ_eq_append_getElem h, List.foldl_append]; rfl
theorem nS_sm {l : List OpD} (hv : ∀ o ∈ l, VOp o) : ∀ k, k ≤ l.length → SmI (20000 * (k : Int)) (80000 * k) k (nS l k) := by
  intro k
  induction k with
  | zero => intro _; exact smI_nil
  | succ k ih =>
    intro h
    have h1 := hv l[k] (List.getElem_mem (by omega))
    have h2 := h1.n0
    have h3 := h1.n1
    have h4 := h1.text
    rw [nS_succ (by omega)]
    exact ((ih (by omega)).addG h2).more (by rw [Int.natCast_add]; omega) (by omega) (Nat.le_refl _)
theorem nS_all {f : Int} {l : List OpD} (h : OkC f l) : chgL (nS l l.length) = norm l := by
  unfold nS chgL norm fold
  rw [List.take_length, foldG_all]
  intro o ho
  have he := h.2.2.2.1 o ho
  rcases opE_kind he with k | k | k
  · have := (opE_keep k).1 he; omega
  · have := (opE_put k).1 he; omega
  · have := (opE_cut k).1 he; omega
set_option maxRecDepth 100000 in
set_option maxHeartbeats 4000000 in
theorem normalG_ok (f : Int) (v : Value) (ops : List OpD) (w : World) (hv : OpRow w v ops) (he : toE f ops = 0) :
    Calls Tryz.prog 30 #[chAgg f v] w fun e w' => ∃ u, e = .returned (.tuple #[chAgg f u, .int .i64 0]) ∧ OwnOps w' w.heap.size u (norm ops) ∧ Below w.heap.size w w' := by
  have HOK := Lib.hid ((toE_iff f ops).1 he)
  obtain ⟨W, hW⟩ : ∃ W, W = (w.alloc (.cells #[.int .i64 f, v] 24)).alloc (.cells #[.int .i64 0, .slice none 0 0] 24) := ⟨_, rfl⟩
  have BW := Lib.hid (show Below w.heap.size w W by rw [hW]; exact ((Below.refl _ _).alloc (Nat.le_refl _) _).alloc (by simp) _)
  have r0 : W.heap[w.heap.size + 1]? = some (.cells #[.int .i64 0, .slice none 0 0] 24 (0, 0)) := by
    rw [hW]
    have := heap_new (w.alloc (.cells #[.int .i64 f, v] 24)) (.cells #[.int .i64 0, .slice none 0 0] 24)
    rwa [World.size_alloc] at this
  have b0 : W.heap[w.heap.size]? = some (.cells #[.int .i64 f, v] 24 (0, 0)) := by
    rw [hW, Below.heap_alloc _ _ _ (by simp)]
    exact heap_new _ _
  have hlW : w.heap.size + 2 = W.heap.size := by rw [hW]; simp
  have HR := changeRight_any f v ops W (hv.below BW.out) (fun o ho => by
    have hvo := vop_of HOK.out ho
    exact ⟨by have := hvo.text; unfold maxLen; omega, hvo.attrs.sized⟩)
  rw [he] at HR
  have HR := Lib.hid HR
  have HW := Lib.hid hW
  have HR0 := Lib.hid r0
  have HB0 := Lib.hid b0
  obtain ⟨aa, acap, rfl, v1, v2, v3⟩ := hv
  have V3 := Lib.hid v3
  have hn : ops.length ≤ 9223372036854775807 := Nat.le_trans v1 v2
  have hl2 : ops.length ≤ 2000 := HOK.out.2.2.1
  have c0 := (cells2 HB0.out).1
  have c1 := (cells2 HB0.out).2.1
  clear hW v1 v2 v3 r0 b0 he
  go_enter Tryz.func30, Tryz.ntmps30
  go_wp2_with fail
  rw [← HW.out]
  go_wp2_with fail
  refine HR.out.mono ?_
  rintro e w1 ⟨rfl, b⟩
  have HB := Lib.hid (BW.out.trans (b.mono BW.out.size))
  have HC1 := Lib.hid ((b.block _ (lt_of_heap HB0.out)).trans HB0.out)
  have HA1 := Lib.hid ((b.block _ (lt_of_heap HR0.out)).trans HR0.out)
  have hs := HB.out.size
  have hs1 := lt_of_heap HA1.out
  have hlt0 : w.heap.size < w1.heap.size := by omega
  clear b c0 c1 HR0 HB0 HR
  have c0 := (cells2 HC1.out).1
  have c1 := (cells2 HC1.out).2.1
  go_wp2_with fail
  go_loopw [17] (fun i wr => ∃ (k : Nat) (ov : Value), i = .int .i64 (k : Int) ∧ k ≤ ops.length ∧ Below w.heap.size w wr ∧ wr.heap[w.heap.size]? = some (.cells #[.int .i64 f, .slice aa ops.length acap] 24 (0, 0)) ∧ wr.heap[w.heap.size + 1]? = some (.cells #[.int .i64 0, .slice none 0 0] 24 (0, 0)) ∧ NSt wr w1.heap.size w1.heap.size ov (nS ops k).1 (nS ops k).2) (fun i _ => ops.length - (intOf i).toNat)
  case atStart => exact ⟨0, .slice none 0 0, rfl, Nat.zero_le _, HB.out.alloc hs _, (Below.heap_alloc _ _ _ (by omega)).trans HC1.out, (Below.heap_alloc _ _ _ (by omega)).trans HA1.out, nst_new (heap_new _ _)⟩
  case round =>
    obtain ⟨k, ov, rfl, hk, hb, hC, hA, hN⟩ := hrel
    have HBW := Lib.hid hb
    have HCW := Lib.hid hC
    have HAW := Lib.hid hA
    have HN := Lib.hid hN
    have HSM := Lib.hid (nS_sm (fun o ho => vop_of HOK.out ho) k hk)
    have hlt1 := hN.lt
    by_cases hlt : k < ops.length
    · have hlt' : (k : Int) < (ops.length : Int) := by omega
      obtain ⟨b, off, rfl, hbl, xv, hra, _, x0', x1', x2', x3'⟩ := V3.out k hlt
      have hnext := nS_succ hlt
      have hvo := vop_of HOK.out (List.getElem_mem hlt)
      obtain ⟨o, ho⟩ : ∃ q, q = ops[k] := ⟨_, rfl⟩
      rw [← ho] at x0' x1' x2' hra hnext hvo
      obtain ⟨ra, rc, rfl⟩ := hra.shape
      have hs0 := hb.size
      have x0 : wr.cell? ⟨b, off + k * 4, none⟩ = some (.int .i64 o.kind) := (hb.cell (by exact hbl)).trans x0'
      have x1 : wr.cell? ⟨b, off + k * 4 + 1, none⟩ = some (.int .i64 o.n) := (hb.cell (by exact hbl)).trans x1'
      have x2 : wr.cell? ⟨b, off + k * 4 + 2, none⟩ = some (.string o.text) := (hb.cell (by exact hbl)).trans x2'
      have x3 : wr.cell? ⟨b, off + k * 4 + 3, none⟩ = some (.slice ra o.attrs.length rc) := (hb.cell (by exact hbl)).trans x3'
      have hbr : b < wr.heap.size := Nat.lt_of_lt_of_le hbl hs0
      have HNX := Lib.hid hnext
      have HRA := Lib.hid (fun W (h : Below w.heap.size w W) => hra.below h)
      have HVO := Lib.hid hvo
      clear hb hC hA hN x0' x1' x2' x3' hra ho hnext hvo c0 c1
      have bx := below_box wr (.cells #[.int .i64 o.kind, .int .i64 o.n, .string o.text, .slice ra o.attrs.length rc] 48)
      have HX := Lib.hid bx
      have HAD := Lib.hid (addG_any w1.heap.size w1.heap.size ov (nS ops k) o (.slice ra o.attrs.length rc) _ (HN.out.below bx) (Nat.le_refl _)
        (HSM.out.fits (by omega) (by omega) (by omega) HVO.out.n0 (by have := HVO.out.n1; omega) (by have := HVO.out.text; omega) HVO.out.attrs) (fun w' hw => HRA.out w' (HBW.out.trans ((HX.out.mono hs0).trans (hw.below.mono hs)))))
      clear bx
      go_wp2_with fail
      refine HAD.out.mono ?_
      rintro e w2 ⟨rfl, ov', hN2, hK2⟩
      have HB2 := Lib.hid (HBW.out.trans ((HX.out.mono hs0).trans (hK2.keep.below.mono hs)))
      have HA2 := Lib.hid (hK2.keep.kept _ _ _ _ ((HX.out.block _ (lt_of_heap HAW.out)).trans HAW.out) (by decide))
      have HC2 := Lib.hid (hK2.keep.kept _ _ _ _ ((HX.out.block _ (lt_of_heap HCW.out)).trans HCW.out) (by decide))
      have HN2 := Lib.hid hN2
      clear hN2 hK2
      go_wp2_with fail
      go_roundw
      case rel => exact ⟨k + 1, ov', by go_num, by omega, HB2.out, HC2.out, HA2.out, by rw [HNX.out]; exact HN2.out⟩
      case measure => simp [intOf]; omega
    · have hkn : k = ops.length := by omega
      have hlt' : ¬ (k : Int) < (ops.length : Int) := by omega
      obtain ⟨f0, f1, f2⟩ := HSM.out.fin (by omega) (by omega) (by omega)
      have HCH := Lib.hid (changeG_any w1.heap.size w1.heap.size ov (nS ops k) f wr hN (Nat.le_refl _) f0 f1 f2)
      have hchg : chgL (nS ops k) = norm ops := by rw [hkn]; exact nS_all HOK.out
      have hln : ¬ 2000 < (norm ops).length := by have := norm_len ops; omega
      have HCG := Lib.hid hchg
      have HLN := Lib.hid hln
      have c0 := (cells2 HCW.out).1
      clear hb hC hA hN f0 f1 f2 hchg hln
      go_wp2_with fail
      refine HCH.out.mono ?_
      rintro e w2 ⟨u, rfl, hO, hK⟩
      rw [HCG.out, if_neg HLN.out] at hO
      rw [HCG.out, if_neg HLN.out, if_neg HLN.out]
      have x1 := hK.kept _ _ _ _ HAW.out (by decide)
      have p0 : w2.cell? ⟨w.heap.size + 1, 0, none⟩ = some (.int .i64 0) := (cells2 x1).1
      have p1 : w2.cell? ⟨w.heap.size + 1, 1, none⟩ = some (.slice none 0 0) := (cells2 x1).2.1
      have p2 : w2.frozen? ⟨w.heap.size + 1, 0, none⟩ = false := (cells2 x1).2.2.1
      have p3 : w2.frozen? ⟨w.heap.size + 1, 1, none⟩ = false := (cells2 x1).2.2.2
      have HX1 := Lib.hid x1
      obtain ⟨cps, hcp, hcO⟩ := hO
      obtain ⟨ca, cc, rfl⟩ := own_slice hcO.1
      have HO := Lib.hid (And.intro hcp hcO)
      have HBE := Lib.hid (HBW.out.trans (hK.below.mono hs))
      clear hK x1 hcp hcO c0
      go_wp2_with fail
      obtain ⟨q1, q2, q3⟩ := agg_set (.int .i64 f) (.slice ca cps.length cc) HX1.out
      refine bodyPost_ret (results_chgN rfl rfl rfl (cells2 q1).1 (cells2 q1).2.1) rfl ?_
      exact ⟨.slice ca cps.length cc, rfl, ⟨cps, HO.out.1, (HO.out.2.keep q2 (by decide) (by decide)).base (by omega)⟩, HBE.out.trans (q2.below.mono (by omega))⟩
end Go.Proofs.YtadookafnfnaoaaGreatDoor
/- The program's Normal (as it stands since 08bd5ca: by gather's Add and Change). XChNormal3 is the text for 3458f5b, 26bcfd8. -/
namespace Go.Proofs.YtadookafnfnaoaaGreatDoor
open Go.RowKit Ch

def NormOut (w : World) (f : Int) (ops : List OpD) (e : Ending) (w' : World) : Prop :=
  (toE f ops ≠ 0 ∧ e = .returned (.tuple #[chAgg 0 (.slice none 0 0), .int .i64 (toE f ops)]) ∧ Below w.heap.size w w') ∨
  (toE f ops = 0 ∧ ∃ v, e = .returned (.tuple #[chAgg f v, .int .i64 0]) ∧ OwnOps w' w.heap.size v (norm ops) ∧ Below w.heap.size w w')

set_option maxRecDepth 100000 in
set_option maxHeartbeats 4000000 in
theorem normal_any (f : Int) (v : Value) (ops : List OpD) (w : World) (hv : OpRow w v ops) (hz : OSized ops) :
    Calls Tryz.prog 30 #[chAgg f v] w (NormOut w f ops) := by
  by_cases he : toE f ops = 0
  · exact (normalG_ok f v ops w hv he).mono fun e w' h => .inr ⟨he, h⟩
  · have HE := Lib.hid he
    obtain ⟨W, hW⟩ : ∃ W, W = (w.alloc (.cells #[.int .i64 f, v] 24)).alloc (.cells #[.int .i64 0, .slice none 0 0] 24) := ⟨_, rfl⟩
    have BW := Lib.hid (show Below w.heap.size w W by rw [hW]; exact ((Below.refl _ _).alloc (Nat.le_refl _) _).alloc (by simp) _)
    have r0 : W.heap[w.heap.size + 1]? = some (.cells #[.int .i64 0, .slice none 0 0] 24 (0, 0)) := by
      rw [hW]
      have := heap_new (w.alloc (.cells #[.int .i64 f, v] 24)) (.cells #[.int .i64 0, .slice none 0 0] 24)
      rwa [World.size_alloc] at this
    have b0 : W.heap[w.heap.size]? = some (.cells #[.int .i64 f, v] 24 (0, 0)) := by
      rw [hW, Below.heap_alloc _ _ _ (by simp)]
      exact heap_new _ _
    have HR := Lib.hid (changeRight_any f v ops W (hv.below BW.out) hz)
    have HW := Lib.hid hW
    have HR0 := Lib.hid r0
    have c0 := (cells2 b0).1
    have c1 := (cells2 b0).2.1
    have te : (toE f ops != 0) = true := by rw [bne_iff_ne]; exact he
    obtain ⟨aa, acap, rfl⟩ := hv.shape
    have hlt := lt_of_heap b0
    clear hW r0 b0 he hv hz
    go_enter Tryz.func30, Tryz.ntmps30
    go_wp2_with fail
    rw [← HW.out]
    go_wp2_with fail
    refine HR.out.mono ?_
    rintro e w1 ⟨rfl, b⟩
    have HB := Lib.hid (BW.out.trans (b.mono BW.out.size))
    have HA1 := Lib.hid ((b.block _ (lt_of_heap HR0.out)).trans HR0.out)
    obtain ⟨p0, p1, p2, p3⟩ := cells2 HA1.out
    have hs1 := lt_of_heap HA1.out
    clear b c0 c1 HR0 HR
    go_wp2_with fail
    obtain ⟨q1, q2, q3⟩ := agg_set (.int .i64 0) (.slice none 0 0) HA1.out
    refine bodyPost_ret (results_chgN rfl rfl rfl (cells2 q1).1 (cells2 q1).2.1) rfl ?_
    exact .inl ⟨HE.out, rfl, HB.out.trans (q2.below.mono (by omega))⟩
end Go.Proofs.YtadookafnfnaoaaGreatDoor
/- Normal where it answers, and where it refuses. -/
namespace Go.Proofs.YtadookafnfnaoaaGreatDoor
open Go.RowKit Ch

def isB (f : Int) (ops : List OpD) : Bool := decide (toE f ops = 0 ∧ ops = norm ops)
theorem NormOut.row {w w' : World} {_f : Int} {ops : List OpD} {v : Value} (h : OwnOps w' w.heap.size v (norm ops)) : OpRow w' v (norm ops) := h.row
theorem normal_ok (f : Int) (v : Value) (ops : List OpD) (w : World) (hv : OpRow w v ops) (hz : OSized ops) (he : toE f ops = 0) :
    Calls Tryz.prog 30 #[chAgg f v] w fun e w' => ∃ v', e = .returned (.tuple #[chAgg f v', .int .i64 0]) ∧ OwnOps w' w.heap.size v' (norm ops) ∧ Below w.heap.size w w' :=
  (normal_any f v ops w hv hz).mono fun e w' h => by
    rcases h with ⟨h0, _⟩ | ⟨_, h⟩
    · exact absurd he h0
    · exact h
theorem normal_bad (f : Int) (v : Value) (ops : List OpD) (w : World) (hv : OpRow w v ops) (hz : OSized ops) (he : toE f ops ≠ 0) :
    Calls Tryz.prog 30 #[chAgg f v] w fun e w' => e = .returned (.tuple #[chAgg 0 (.slice none 0 0), .int .i64 (toE f ops)]) ∧ Below w.heap.size w w' :=
  (normal_any f v ops w hv hz).mono fun e w' h => by
    rcases h with ⟨_, h⟩ | ⟨h0, _⟩
    · exact h
    · exact absurd h0 he

end Go.Proofs.YtadookafnfnaoaaGreatDoor
/- Print: a changeset's text. -/
namespace Go.Proofs.YtadookafnfnaoaaGreatDoor
open Go.RowKit Ch

theorem pOps_take (l : List OpD) (k : Nat) (h : k < l.length) : (l.take (k + 1)).flatMap Sp.pOp = (l.take k).flatMap Sp.pOp ++ Sp.pOp l[k] := by
  rw [List.take_succ_eq_append_getElem h, List.flatMap_append]
  simp
theorem printF_bad {f : Int} {ops : List OpD} (h : toE f ops ≠ 0) : Sp.printF f ops = (toE f ops, []) := by unfold Sp.printF; rw [if_pos h]
theorem printF_big {f : Int} {ops : List OpD} (h : toE f ops = 0) (h2 : 262144 < (Sp.pCh f (norm ops)).length) : Sp.printF f ops = (3, []) := by unfold Sp.printF; rw [if_neg (by simpa using h), if_pos h2]
theorem printF_ok {f : Int} {ops : List OpD} (h : toE f ops = 0) (h2 : ¬ 262144 < (Sp.pCh f (norm ops)).length) : Sp.printF f ops = (0, Sp.pCh f (norm ops)) := by unfold Sp.printF; rw [if_neg (by simpa using h), if_neg h2]

def PrintOut (w : World) (f : Int) (ops : List OpD) (e : Ending) (w' : World) : Prop := e = .returned (.tuple #[.string (Sp.ba (Sp.printF f ops).2), .int .i64 (Sp.printF f ops).1]) ∧ Below w.heap.size w w'

set_option maxHeartbeats 8000000 in
theorem print_any (f : Int) (v : Value) (ops : List OpD) (w : World) (hv : OpRow w v ops) (hz : OSized ops) (hp : Pow w) (hpB : 2 < w.heap.size) :
    Calls Tryz.prog 12 #[chAgg f v] w (PrintOut w f ops) := by
  obtain ⟨aa, acap, rfl⟩ := hv.shape
  obtain ⟨W, hW⟩ : ∃ W, W = w.alloc (.cells #[.int .i64 f, .slice aa ops.length acap] 24) := ⟨_, rfl⟩
  have bw := show Below w.heap.size w W by rw [hW]; exact below_box _ _
  have BW := Lib.hid bw
  have HW := Lib.hid hW
  have hvW := hv.below bw
  have sW : w.heap.size < W.heap.size := by rw [hW]; simp
  have hpW := hp.below bw hpB
  clear hW bw hv
  by_cases he : toE f ops = 0
  · have HN := Lib.hid (normal_ok f _ ops W hvW hz he)
    have hok := (toE_iff f ops).1 he
    have HOK := Lib.hid (norm_ok hok).1
    have HE1 := Lib.hid (printF_ok he)
    have HE2 := Lib.hid (printF_big he)
    have hf0 := hok.1
    have hf1 := hok.2.1
    have HP := Lib.hid hpW
    have hn2000 := (norm_ok hok).1.2.2.1
    clear hvW hz he hok hp hpW
    generalize norm ops = ns at *
    go_enter Tryz.func12, Tryz.ntmps12
    go_wp2_with fail
    rw [← HW.out]
    refine HN.out.mono ?_
    rintro e w1 ⟨v1, rfl, o1, b1⟩
    have O1 := Lib.hid o1
    have B1 := Lib.hid (BW.out.trans (b1.mono (Nat.le_of_lt sW)))
    have HP1 := Lib.hid (HP.out.below b1 (Nat.lt_trans hpB sW))
    have s1 : W.heap.size ≤ w1.heap.size := b1.size
    obtain ⟨na, ncap, rfl⟩ := o1.row.shape
    have HR := Lib.hid o1.row
    clear o1 b1
    obtain ⟨X0, hX0⟩ : ∃ X0, X0 = w1.alloc (.cells #[.int .i64 f, .slice na ns.length ncap] 24) := ⟨_, rfl⟩
    have x0 : X0.heap.size = w1.heap.size + 1 := by rw [hX0]; simp
    obtain ⟨X, hX⟩ : ∃ X, X = X0.alloc (.cells #[.pointer none, .slice none 0 0] 59) := ⟨_, rfl⟩
    have bx := show Below w1.heap.size w1 X by rw [hX, hX0]; exact ((Below.refl _ _).alloc (Nat.le_refl _) _).alloc (by simp) _
    have BX := Lib.hid bx
    have iX := Lib.hid (show IsB X X0.heap.size X0.heap.size [] by rw [hX]; exact IsB.fresh X0)
    have nX := Lib.hid (show X.heap[w1.heap.size]? = some (.cells #[.int .i64 f, .slice na ns.length ncap] 24 (0, 0)) by
      rw [hX, Lib.alloc_old X0 _ _ (by omega), hX0]; exact heap_new _ _)
    have sX : X.heap.size = w1.heap.size + 2 := by rw [hX, hX0]; simp
    have HX := Lib.hid (show X = (w1.alloc (.cells #[.int .i64 f, .slice na ns.length ncap] 24)).alloc (.cells #[.pointer none, .slice none 0 0] 59) by rw [hX, hX0])
    have HI := Lib.hid (itoa_any f hf0 hf1 X (HP1.out.below bx (Nat.lt_of_lt_of_le (Nat.lt_trans hpB sW) s1)))
    have hlen := Lib.hid (Sp.pCh_le HOK.out)
    have hpX : 2 < X0.heap.size := by have := Nat.lt_of_lt_of_le (Nat.lt_trans hpB sW) s1; omega
    have HPX := Lib.hid (HP1.out.below bx (Nat.lt_of_lt_of_le (Nat.lt_trans hpB sW) s1))
    clear hX0 hX bx
    go_wp2_with fail
    rw [← HX.out]
    refine HI.out.mono ?_
    rintro e w2 ⟨rfl, b2⟩
    have i2 := iX.out.below b2
    have K2 := Lib.hid (keep_below (ts := BT) b2 (show X0.heap.size ≤ X.heap.size by omega))
    have HS := Lib.hid (wS X0.heap.size X0.heap.size [] (Sp.ba (Lib.itoa f)) w2 i2 (by have := hlen.out.1; rw [size_data, Sp.data_ba]; simp only [List.length_nil]; omega))
    clear b2 i2
    rw [x0] at HS
    go_wp2_with fail
    refine HS.out.mono ?_
    rintro e w3 ⟨rfl, q3⟩
    rw [← x0] at q3
    have H3 := Lib.hid (show Wr X0.heap.size X0.heap.size (Lib.itoa f) X w3 from ⟨by simpa [Sp.data_ba] using q3.is, K2.out.trans q3.keep⟩)
    have n3 := Lib.hid (H3.out.keep.kept _ _ _ _ nX.out (by decide))
    have y1 : w3.cell? ⟨w1.heap.size, 1, none⟩ = some (.slice na ns.length ncap) := (Lib.cell_of_heap n3.out 1).trans rfl
    clear q3
    go_wp2_with fail
    go_loopw [24] (fun i wr => ∃ k : Nat, i = .int .i64 (k : Int) ∧ k ≤ ns.length ∧ Wr X0.heap.size X0.heap.size (Lib.itoa f ++ (ns.take k).flatMap Sp.pOp) X wr) (fun i _ => ns.length - (intOf i).toNat)
    case atStart => exact ⟨0, rfl, Nat.zero_le _, by simpa using H3.out⟩
    case round =>
      obtain ⟨k, rfl, hk, hwr⟩ := hrel
      have Hwr := Lib.hid hwr
      have hpre : ((ns.take k).flatMap Sp.pOp).length ≤ 800000000 := by
        have h1 := hlen.out.2
        have h2 : (ns.flatMap Sp.pOp).length = ((ns.take k).flatMap Sp.pOp).length + ((ns.drop k).flatMap Sp.pOp).length := by rw [← List.length_append, ← List.flatMap_append, List.take_append_drop]
        omega
      have bwr := Lib.hid (BX.out.trans (hwr.keep.below.mono (by omega)) : Below w1.heap.size w1 wr)
      clear hwr
      by_cases hlt : k < ns.length
      · have hlt' : (k : Int) < (ns.length : Int) := by omega
        have HT := Lib.hid (pOps_take ns k hlt)
        obtain ⟨L, hL⟩ : ∃ L, L = Lib.itoa f ++ (ns.take k).flatMap Sp.pOp := ⟨_, rfl⟩
        have hLl : L.length + 400000 ≤ 140737488355328 := by have := hlen.out.1; rw [hL, List.length_append]; omega
        rw [← hL] at Hwr
        have HL := Lib.hid hL
        obtain ⟨_, _, he, g1, g2, g3⟩ := HR.out
        simp only [Value.slice.injEq, true_and] at he
        obtain ⟨rfl, rfl⟩ := he
        obtain ⟨b, off, rfl, hbl, av, hav, hpr, x0', x1', x2', x3'⟩ := g3 k hlt
        have hvo := vop_of HOK.out (List.getElem_mem hlt)
        have hao := Sp.attrs_of (HOK.out.2.2.2.1 _ (List.getElem_mem hlt))
        obtain ⟨o, ho⟩ : ∃ o, o = ns[k] := ⟨_, rfl⟩
        rw [← ho] at hav x0' x1' x2' HT hvo hao
        have z0 : wr.cell? ⟨b, off + k * 4, none⟩ = some (.int .i64 o.kind) := by rw [bwr.out.cell (by exact hbl)]; exact x0'
        have z1 : wr.cell? ⟨b, off + k * 4 + 1, none⟩ = some (.int .i64 o.n) := by rw [bwr.out.cell (by exact hbl)]; exact x1'
        have z2 : wr.cell? ⟨b, off + k * 4 + 2, none⟩ = some (.string o.text) := by rw [bwr.out.cell (by exact hbl)]; exact x2'
        have z3 : wr.cell? ⟨b, off + k * 4 + 3, none⟩ = some av := by rw [bwr.out.cell (by exact hbl)]; exact x3'
        obtain ⟨va, vc, rfl⟩ := hav.shape
        have Hav := Lib.hid hav
        obtain ⟨Y, hY⟩ : ∃ Y, Y = wr.alloc (.cells #[.int .i64 o.kind, .int .i64 o.n, .string o.text, .slice va o.attrs.length vc] 48) := ⟨_, rfl⟩
        have bY := show Below wr.heap.size wr Y by rw [hY]; exact below_box _ _
        have HY := Lib.hid hY
        have BB := isB_lt Hwr.out.is
        have bz : w1.heap.size ≤ wr.heap.size := bwr.out.size
        have KY := Lib.hid (keep_below (ts := BT) bY BB)
        have b0 := show Y.heap[wr.heap.size]? = some (.cells #[.int .i64 o.kind, .int .i64 o.n, .string o.text, .slice va o.attrs.length vc] 48 (0, 0)) by rw [hY]; exact heap_new _ _
        have HPY := Lib.hid ((HPX.out.below Hwr.out.keep.below hpX).below KY.out.below hpX)
        have HO := Lib.hid (printOp_any X0.heap.size X0.heap.size L o _ Y (Hwr.out.is.below bY) (fun Z hZ => Hav.out.below (bwr.out.trans ((KY.out.trans hZ).below.mono (by omega)))) hvo.kind hao.1 (fun y hy => (hao.2 y hy).2) hvo.n0 hvo.n1 hvo.text HPY.out hpX hLl)
        have c0 : Y.cell? ⟨wr.heap.size, 0, none⟩ = some (.int .i64 o.kind) := (Lib.cell_of_heap b0 0).trans rfl
        have c1 : Y.cell? ⟨wr.heap.size, 1, none⟩ = some (.int .i64 o.n) := (Lib.cell_of_heap b0 1).trans rfl
        have c2 : Y.cell? ⟨wr.heap.size, 2, none⟩ = some (.string o.text) := (Lib.cell_of_heap b0 2).trans rfl
        have c3 : Y.cell? ⟨wr.heap.size, 3, none⟩ = some (.slice va o.attrs.length vc) := (Lib.cell_of_heap b0 3).trans rfl
        rw [x0] at HO
        clear hav hL hY bY b0 BB x0' x1' x2' x3' g1 g2 g3 ho hvo hao hpr
        go_wp2_with fail
        rw [← HY.out]
        go_wp2_with fail
        refine HO.out.mono ?_
        rintro e w4 ⟨rfl, q4⟩
        rw [← x0] at q4
        have H4 := Lib.hid q4
        clear q4
        go_wp2_with fail
        go_roundw
        case measure => simp only [intOf]; omega
        case rel =>
          refine ⟨k + 1, rfl, hlt, ?_, Hwr.out.keep.trans (KY.out.trans H4.out.keep)⟩
          rw [HT.out, ← List.append_assoc, ← HL.out]
          exact H4.out.is
      · have hlt' : decide ((k : Int) < (ns.length : Int)) = false := decide_eq_false (by omega)
        have hks : k = ns.length := by omega
        subst hks
        rw [List.take_length] at Hwr hpre
        have HLn := Lib.hid (Tryz.Builder_Len_f X0.heap.size X0.heap.size (Lib.byteCells (Lib.itoa f ++ ns.flatMap Sp.pOp)) wr Hwr.out.is)
        have HST := Lib.hid (Tryz.Builder_String_any_k X0.heap.size X0.heap.size (Lib.itoa f ++ ns.flatMap Sp.pOp) wr Hwr.out.is (isB_lt Hwr.out.is))
        have hln : (Lib.byteCells (Lib.itoa f ++ ns.flatMap Sp.pOp)).length = (Sp.pCh f ns).length := by simp [Lib.byteCells, Sp.pCh]
        rw [hln] at HLn
        rw [show Lib.itoa f ++ ns.flatMap Sp.pOp = Sp.pCh f ns from rfl] at HST
        have BF := Lib.hid (B1.out.trans (bwr.out.mono (by omega)))
        have hw1 : w.heap.size ≤ w1.heap.size := by omega
        rw [x0] at HLn HST
        clear hln
        by_cases hbig : 262144 < (Sp.pCh f ns).length
        · have HE := Lib.hid (HE2.out hbig)
          have hb : (262144 : Int) < ((Sp.pCh f ns).length : Int) := by omega
          clear hbig
          go_wp2_with fail
          refine HLn.out.mono ?_
          rintro e w4 ⟨rfl, rfl⟩
          go_wp2_with fail
          refine bodyPost_ret (v := .tuple #[.string ⟨#[]⟩, .int .i64 3]) (by simp [results, Tryz.results12, go_sem]) rfl ?_
          rw [PrintOut, HE.out]
          exact ⟨rfl, BF.out⟩
        · have HE := Lib.hid (HE1.out hbig)
          have hb : ¬ (262144 : Int) < ((Sp.pCh f ns).length : Int) := by omega
          clear hbig
          go_wp2_with fail
          refine HLn.out.mono ?_
          rintro e w4 ⟨rfl, rfl⟩
          go_wp2_with fail
          refine HST.out.mono ?_
          rintro e w5 ⟨rfl, _, b5, _⟩
          go_wp2_with fail
          refine bodyPost_ret (v := .tuple #[.string (Sp.ba (Sp.pCh f ns)), .int .i64 0]) (by simp [results, Tryz.results12, go_sem, Sp.ba]) rfl ?_
          rw [PrintOut, HE.out]
          exact ⟨rfl, BF.out.trans (b5.mono (by omega))⟩
  · have HN := Lib.hid (normal_bad f _ ops W hvW hz he)
    have HE := Lib.hid (printF_bad he)
    have hb : (toE f ops == 0) = false := by rw [beq_eq_false_iff_ne]; exact he
    generalize toE f ops = t at *
    clear hvW hz he hp hpW
    go_enter Tryz.func12, Tryz.ntmps12
    go_wp2_with fail
    rw [← HW.out]
    refine HN.out.mono ?_
    rintro e w1 ⟨rfl, b1⟩
    have B1 := Lib.hid (BW.out.trans (b1.mono (Nat.le_of_lt sW)))
    clear b1
    go_wp2_with fail
    refine bodyPost_ret (v := .tuple #[.string ⟨#[]⟩, .int .i64 t]) (by simp [results, Tryz.results12, go_sem]) rfl ?_
    rw [PrintOut, HE.out]
    exact ⟨rfl, below_alloc B1.out (Nat.le_refl _) _⟩
end Go.Proofs.YtadookafnfnaoaaGreatDoor
