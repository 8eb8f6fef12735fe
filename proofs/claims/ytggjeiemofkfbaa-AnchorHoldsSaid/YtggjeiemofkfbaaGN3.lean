/- Texts of this seat, put together: ItLaw, Dc, Rc, Rk. -/
import Derived.Test.YtggjeiemofkfbaaGC1
import Derived.RangeFuncNested
import Derived.RangeFuncBound
import Derived.RangeFuncLeaves
import Derived.WalkKit
import Derived.StillTailTactics
import Derived.Deep.QuietTactic
import Derived.Deep.AppendLies
/- Ranges over functions whose iterators keep their state in cells: what a step of an iterator keeps, what a round keeps, an iterator's contract over them, and the law of the statement. -/
namespace Go.Proofs.Ytggjeiemofkfbaa
open Go.RowKit

/-- What an iterator's step keeps: all below B; blocks of cells of other types than ts, and those that lay ahead of N but for its own; whatever is no cells and lies ahead of N. -/
structure Step (B N : Nat) (ts : List TypeId) (own : List Nat) (w w' : World) : Prop where
  below : Below B w w'
  cells : ∀ (i : Nat) (cs : Array Value) (e : TypeId) (fr : Nat × Nat), w.heap[i]? = some (Obj.cells cs e fr) → (e ∉ ts ∨ (i < N ∧ i ∉ own)) → w'.heap[i]? = some (Obj.cells cs e fr)
  other : ∀ (i : Nat) (o : Obj), i < N → w.heap[i]? = some o → o.isCells = false → w'.heap[i]? = some o
/-- What a round keeps: .. whatever is no cells and lies at or behind N. -/
structure Rnd (B N : Nat) (ts : List TypeId) (w w' : World) : Prop where
  below : Below B w w'
  cells : ∀ (i : Nat) (cs : Array Value) (e : TypeId) (fr : Nat × Nat), w.heap[i]? = some (Obj.cells cs e fr) → e ∉ ts → w'.heap[i]? = some (Obj.cells cs e fr)
  other : ∀ (i : Nat) (o : Obj), N ≤ i → w.heap[i]? = some o → o.isCells = false → w'.heap[i]? = some o

theorem Step.refl (B N : Nat) (ts : List TypeId) (own : List Nat) (w : World) : Step B N ts own w w := ⟨Below.refl _ _, fun _ _ _ _ h _ => h, fun _ _ _ h _ => h⟩
theorem Step.trans {B N : Nat} {ts : List TypeId} {own : List Nat} {a b c : World} (h : Step B N ts own a b) (k : Step B N ts own b c) : Step B N ts own a c :=
  ⟨h.below.trans k.below, fun i cs e fr hi he => k.cells i cs e fr (h.cells i cs e fr hi he) he, fun i o hi ho hc => k.other i o hi (h.other i o hi ho hc) hc⟩
theorem Step.more {B N M : Nat} {ts us : List TypeId} {own own' : List Nat} {w w' : World} (h : Step B N ts own w w') (hs : ∀ t, t ∈ ts → t ∈ us) (ho : ∀ i, i < M → i ∈ own → i ∈ own') (hN : M ≤ N) : Step B M us own' w w' :=
  ⟨h.below, fun i cs e fr hi he => h.cells i cs e fr hi (he.imp (fun h1 ht => h1 (hs _ ht)) fun ⟨h1, h2⟩ => ⟨Nat.lt_of_lt_of_le h1 hN, fun h3 => h2 (ho _ h1 h3)⟩), fun i o hi ho hc => h.other i o (Nat.lt_of_lt_of_le hi hN) ho hc⟩
theorem Step.mono {B C N : Nat} {ts : List TypeId} {own : List Nat} {w w' : World} (h : Step B N ts own w w') (hc : C ≤ B) : Step C N ts own w w' := ⟨h.below.mono hc, h.cells, h.other⟩
theorem Rnd.refl (B N : Nat) (ts : List TypeId) (w : World) : Rnd B N ts w w := ⟨Below.refl _ _, fun _ _ _ _ h _ => h, fun _ _ _ h _ => h⟩
theorem Rnd.trans {B N : Nat} {ts : List TypeId} {a b c : World} (h : Rnd B N ts a b) (k : Rnd B N ts b c) : Rnd B N ts a c :=
  ⟨h.below.trans k.below, fun i cs e fr hi he => k.cells i cs e fr (h.cells i cs e fr hi he) he, fun i o hi ho hc => k.other i o hi (h.other i o hi ho hc) hc⟩
theorem Rnd.more {B N M : Nat} {ts us : List TypeId} {w w' : World} (h : Rnd B N ts w w') (hs : ∀ t, t ∈ ts → t ∈ us) (hN : N ≤ M) : Rnd B M us w w' :=
  ⟨h.below, fun i cs e fr hi he => h.cells i cs e fr hi fun ht => he (hs _ ht), fun i o hi ho hc => h.other i o (Nat.le_trans hN hi) ho hc⟩

theorem putObj_other {w : World} {l k : Nat} {o o' x : Obj} (_hl : w.heap[l]? = some o) (hk : w.heap[k]? = some x) (hne : k ≠ l) : (w.putObj l o').heap[k]? = some x := (World.putObj_heap_other hne).trans hk
theorem putObj_cells {w : World} {l k : Nat} {o o' : Obj} {cs : Array Value} {e : TypeId} {fr : Nat × Nat} (hl : w.heap[l]? = some o) (ho : o.isCells = false) (hk : w.heap[k]? = some (.cells cs e fr)) : (w.putObj l o').heap[k]? = some (.cells cs e fr) :=
  putObj_other hl hk fun e' => by subst e'; rw [hl] at hk; cases hk; cases ho
theorem below_put {B l : Nat} {w : World} {o o' : Obj} (hB : B ≤ l) (hl : w.heap[l]? = some o) : Below B w (w.putObj l o') :=
  (Below.refl B w).grown (grownBy_putObj' w l o') (by have := (Array.getElem?_eq_some_iff.1 hl).1; omega) fun k e => by cases e; exact hB
/-- A turn of a block that is no cells and lies at or behind N is a step. -/
theorem step_put {B N l : Nat} {w : World} {o : Obj} {own : List Nat} (ts : List TypeId) (o' : Obj) (hN : N ≤ l) (hB : B ≤ l) (hl : w.heap[l]? = some o) (ho : o.isCells = false) : Step B N ts own w (w.putObj l o') :=
  ⟨below_put hB hl, fun _ _ _ _ hi _ => putObj_cells hl ho hi, fun _ _ hi hx _ => putObj_other hl hx (by omega)⟩
/-- .. and of one that lies ahead of it a round's. -/
theorem rnd_put {B N l : Nat} {w : World} {o : Obj} (ts : List TypeId) (o' : Obj) (hN : l < N) (hB : B ≤ l) (hl : w.heap[l]? = some o) (ho : o.isCells = false) : Rnd B N ts w (w.putObj l o') :=
  ⟨below_put hB hl, fun _ _ _ _ hi _ => putObj_cells hl ho hi, fun _ _ hi hx _ => putObj_other hl hx (by omega)⟩
theorem step_alloc {B N : Nat} {w : World} {own : List Nat} (ts : List TypeId) (o : Obj) (hB : B ≤ w.heap.size) : Step B N ts own w (w.alloc o) := by
  have hb := (Below.refl w.heap.size w).alloc (Nat.le_refl _) o
  exact ⟨hb.mono hB, fun i _ _ _ hi _ => (hb.block i (Array.getElem?_eq_some_iff.1 hi).1).trans hi, fun i _ _ hi _ => (hb.block i (Array.getElem?_eq_some_iff.1 hi).1).trans hi⟩
theorem step_below {B N : Nat} {w w' : World} {own : List Nat} (ts : List TypeId) (hb : Below w.heap.size w w') (hB : B ≤ w.heap.size) : Step B N ts own w w' :=
  ⟨hb.mono hB, fun i _ _ _ hi _ => (hb.block i (Array.getElem?_eq_some_iff.1 hi).1).trans hi, fun i _ _ hi _ => (hb.block i (Array.getElem?_eq_some_iff.1 hi).1).trans hi⟩
theorem rnd_below {B N : Nat} {w w' : World} (ts : List TypeId) (hb : Below w.heap.size w w') (hB : B ≤ w.heap.size) : Rnd B N ts w w' :=
  ⟨hb.mono hB, fun i _ _ _ hi _ => (hb.block i (Array.getElem?_eq_some_iff.1 hi).1).trans hi, fun i _ _ hi _ => (hb.block i (Array.getElem?_eq_some_iff.1 hi).1).trans hi⟩

/-- The contract of an iterator's value that tells just the list xs: called at the yield of a loop, at whatever the caller says of its own memory, J, that abides the iterator's steps; each round goes on, and has kept what a round keeps (Kp says more of it, at need), or says 'no more'. -/
def Iter {α : Type} (P : Program) (g : Nat) (lb : Array Value) (encs : α → Array Value) (xs : List α) (B : Nat) (tI : List TypeId) (own : List Nat) (tB : List TypeId) (Kp : World → World → Prop) (Fr : World → Nat → Prop) (S0 S1 : World → Prop) : Prop :=
  ∀ (l : Nat) (J Jx : Nat → World → Prop) (W : World), B ≤ W.heap.size → S0 W →
    (∀ k A A', J k A → Step B W.heap.size tI own A A' → J k A') → (∀ k A A', Jx k A → Step B W.heap.size tI own A A' → Jx k A') →
    (∀ k A i, J k A → A.heap.size ≤ i → Fr A i) →
    (∀ k (h : k < xs.length) W1, J k W1 → YieldAt Fence.wide 0 P l (encs xs[k]) W1 fun e W' =>
      (e = .returned (.bool true) ∧ J (k + 1) W' ∧ Rnd B W.heap.size tB W1 W' ∧ Kp W1 W') ∨ (e = .returned (.bool false) ∧ Jx k W' ∧ Rnd B W.heap.size tB W1 W')) →
    J 0 W →
    CallsIn Fence.wide 0 P g (#[.func (.yield l) #[] #[]] ++ lb) W fun e W' => (∃ v, e = .returned v) ∧ ((J xs.length W' ∧ S1 W') ∨ (∃ k, k < xs.length ∧ Jx k W'))

/-- How the body of a round may be left: what it keeps, told of the world W in which it began. -/
def bodyEnd (B N : Nat) (tB : List TypeId) (Kp : World → World → Prop) (I : Nat → World → Prop) (Ix : Code → Nat → World → Prop) (k : Nat) (W : World) : Exit → Act → World → Prop
  | .normal, _, W' => Rnd B N tB W W' ∧ Kp W W' ∧ I (k + 1) W'
  | .ret, _, W' => Rnd B N tB W W' ∧ Ix .ret k W'
  | .exit id, _, W' => Rnd B N tB W W' ∧ Ix (.exit id) k W'
  | .goto t, _, W' => Rnd B N tB W W' ∧ Ix (.goto t) k W'
  | .panic _, _, _ => False
  | .outgrown, _, _ => False

/-- The statement 'for .. := range g { .. }' in a function's own frame. -/
theorem range_it {α : Type} {P : Program} {g : Operand} {ps : Array Tmp} {assign body : Code} {Q : Exit → Act → World → Prop} {a : Act} {w : World}
    {gf : Nat} {lb : Array Value} {encs : α → Array Value} {xs : List α} {B : Nat} {tI : List TypeId} {own : List Nat} {tB : List TypeId} {Kp : World → World → Prop} {Fr : World → Nat → Prop} {S0 S1 : World → Prop}
    (hit : Iter P gf lb encs xs B tI own tB Kp Fr S0 S1) (hg : a.eval g = .func (.func gf) #[] lb) (eg : ∀ args w, (callFunc gf args).run P w = .ok (.enter gf args) w) (hps : ∀ x, (encs x).size = ps.size)
    (hB : B ≤ w.heap.size) (hS : ∀ W, Below w.heap.size w W → S0 W)
    (hKt : ∀ {A C D : World}, Kp A C → Kp C D → Kp A D) (hKb : ∀ (W : World) (l : Nat) (o o' : Obj), W.heap[l]? = some o → o.isCells = false → Kp W (W.putObj l o'))
    (I : Nat → World → Prop) (Ix : Code → Nat → World → Prop)
    (hI : ∀ k A A', I k A → Step B w.heap.size tI own A A' → I k A') (hIx : ∀ c k A A', Ix c k A → Step B w.heap.size tI own A A' → Ix c k A') (hFr : ∀ k A i, I k A → A.heap.size ≤ i → Fr A i) (h0 : I 0 w)
    (hround : ∀ (l k : Nat) (h : k < xs.length) (W : World), w.heap.size ≤ l → I k W →
      assign.wpIn (Fence.wide.inRound l) 0 P (Exit.then (fun a₁ W1 => Rnd B w.heap.size tB W W1 ∧ Kp W W1 ∧ I k W1 ∧
          ∀ W2, Step B w.heap.size [] [] W1 W2 → W2.heap.size = W1.heap.size → (∃ r, W2.heap[l]? = some (.loop r)) → body.wpIn (Fence.wide.inRound l) 0 P (bodyEnd B w.heap.size tB Kp I Ix k W2) a₁ W2)
        (fun _ _ _ => False)) { tmps := (ps.zip (encs xs[k])).foldl (fun t (p, v) => t.setIfInBounds p v) a.tmps, defers := [] } W)
    (hdone : ∀ (D : Nat) (W : World), w.heap.size ≤ D → I xs.length W → S1 W → W.heap[D]? = some (.deferred (some [])) → Q .normal { a with defers := { target := .collected D, args := #[] } :: a.defers } W)
    (hstop : ∀ (D : Nat) (c : Code) (k : Nat) (W : World), w.heap.size ≤ D → k < xs.length → Ix c k W → W.heap[D]? = some (.deferred (some [])) → c.wpIn Fence.wide 0 P Q { a with defers := { target := .collected D, args := #[] } :: a.defers } W)
    (hS1 : ∀ A A', S1 A → Step B w.heap.size [] [] A A' → S1 A') :
    (Code.rangeFunc g ps assign body).wpIn Fence.wide 0 P Q a w := by
  refine wpIn_rangeFunc fun fn hfn => ?_
  show ∃ (l : Nat) (mark : List Deferred) (w₁ : World) (d : Deferred) (w₁' : World) (f : FuncId) (args : Array Value) (w₂ : World),
      (Instr.enterLoop fn a.tmps ps assign body none).run P w = .ok (l, mark) w₁ ∧ _
  obtain ⟨rec, hrec⟩ : ∃ rec : LoopState → Option Code → Loop, rec = fun st pe => { state := st, pending := pe, fn, tmps := a.tmps, params := ps, assign, body, defers := w.heap.size } := ⟨_, rfl⟩
  obtain ⟨W1, hW1⟩ : ∃ W1, (w.alloc (.deferred (some []))).alloc (.loop (rec .ready none)) = W1 := ⟨_, rfl⟩
  have hsz : W1.heap.size = w.heap.size + 1 + 1 := by rw [← hW1]; simp
  have hL1 : W1.heap[w.heap.size + 1]? = some (.loop (rec .ready none)) := by
    rw [← hW1]; have := World.alloc_heap_new (w.alloc (.deferred (some []))) (.loop (rec .ready none)); rwa [World.size_alloc] at this
  have hD1 : W1.heap[w.heap.size]? = some (.deferred (some [])) := by
    rw [← hW1]; exact (Below.heap_alloc _ _ _ (by simp)).trans (World.alloc_heap_new w _)
  have hb1 : Below w.heap.size w W1 := by
    rw [← hW1]; exact ((Below.refl _ w).alloc (Nat.le_refl _) _).alloc (by simp) _
  have hI1 : I 0 W1 := hI _ _ _ h0 (step_below _ hb1 hB)
  refine ⟨w.heap.size + 1, [{ target := .collected w.heap.size, args := #[] }], W1, { target := .fn (.func gf) lb, args := #[.func (.yield (w.heap.size + 1)) #[] #[]] }, W1, gf,
    #[.func (.yield (w.heap.size + 1)) #[] #[]] ++ lb, W1, ?_, ?_, fun _ _ => trivial, ?_, fun h => (by cases h), ?_⟩
  · rw [← hW1, hrec]; exact run_enterLoop_outer _ _ _ _ _
  · simp only [resolve, hg]
    simp [go_sem]
  · simp [invoke, go_sem, eg]
  · refine (hit (w.heap.size + 1)
      (fun k W => I k W ∧ W.heap[w.heap.size + 1]? = some (.loop (rec .ready none)) ∧ W.heap[w.heap.size]? = some (.deferred (some [])))
      (fun k W => ∃ c, Ix c k W ∧ W.heap[w.heap.size + 1]? = some (.loop (rec .done (some c))) ∧ W.heap[w.heap.size]? = some (.deferred (some [])))
      W1 (by omega) (hS _ hb1)
      (fun k A A' hs ht => ⟨hI k A A' hs.1 (ht.more (fun _ h => h) (fun _ _ h => h) (by omega)), ht.other _ _ (by omega) hs.2.1 rfl, ht.other _ _ (by omega) hs.2.2 rfl⟩)
      (fun k A A' hs ht => by
        obtain ⟨c, hc, hl, hk⟩ := hs
        exact ⟨c, hIx c k A A' hc (ht.more (fun _ h => h) (fun _ _ h => h) (by omega)), ht.other _ _ (by omega) hl rfl, ht.other _ _ (by omega) hk rfl⟩)
      (fun k A i hs hi => hFr k A i hs.1 hi) ?_ ⟨hI1, hL1, hD1⟩).mono ?_
    · rintro k hk W ⟨hi, hl, hd⟩
      have hy := run_yield (P := P) (args := encs xs[k]) hl (by rw [hrec]; exact hps _)
      rw [hrec] at hy
      refine ⟨fn, _, assign, body, hy, roundIn_of_wpIn hfn ?_⟩
      clear hy
      refine wpIn_mono (hround _ k hk W (by omega) hi) ?_
      intro e a₁ W2 hq
      cases e with
      | normal =>
        obtain ⟨r1, kp1, hi2, hbody⟩ := hq
        have hl2 := r1.other _ _ (by omega) hl rfl
        have hd2 := r1.other _ _ (Nat.le_refl _) hd rfl
        have hlt2 : w.heap.size + 1 < W2.heap.size := (Array.getElem?_eq_some_iff.1 hl2).1
        refine ⟨_, run_beginRound hl2 (by rw [hrec]), ?_⟩
        have hl3 : (W2.putObj (w.heap.size + 1) (.loop { rec .ready none with state := .busy })).heap[w.heap.size + 1]? = some (.loop { rec .ready none with state := .busy }) := World.putObj_heap_same hlt2
        have hd3 : (W2.putObj (w.heap.size + 1) (.loop { rec .ready none with state := .busy })).heap[w.heap.size]? = some (.deferred (some [])) := putObj_other hl2 hd2 (by omega)
        have kp2 : Kp W (W2.putObj (w.heap.size + 1) (.loop { rec .ready none with state := .busy })) := hKt kp1 (hKb _ _ _ _ hl2 rfl)
        have r2 : Rnd B W1.heap.size tB W (W2.putObj (w.heap.size + 1) (.loop { rec .ready none with state := .busy })) := (r1.more (fun _ h => h) (by omega)).trans (rnd_put tB _ (by omega) (by omega) hl2 rfl)
        refine wpIn_mono (hbody _ (step_put [] _ (by omega) (by omega) hl2 rfl) World.putObj_size ⟨_, hl3⟩) ?_
        have fin : ∀ (jump : Option Code) (W3 : World), Rnd B w.heap.size tB (W2.putObj (w.heap.size + 1) (.loop { rec .ready none with state := .busy })) W3 →
            (Instr.endRound (w.heap.size + 1) jump).run P W3 = .ok (.bool jump.isNone) (W3.putObj (w.heap.size + 1) (.loop (rec (if jump.isNone then .ready else .done) jump))) ∧
            W3.heap[w.heap.size + 1]? = some (.loop { rec .ready none with state := .busy }) ∧
            (W3.putObj (w.heap.size + 1) (.loop (rec (if jump.isNone then .ready else .done) jump))).heap[w.heap.size + 1]? = some (.loop (rec (if jump.isNone then .ready else .done) jump)) ∧
            (W3.putObj (w.heap.size + 1) (.loop (rec (if jump.isNone then .ready else .done) jump))).heap[w.heap.size]? = some (.deferred (some [])) := fun jump W3 hr => by
          have h3 := hr.other _ _ (by omega) hl3 rfl
          have := run_endRound (P := P) jump h3
          rw [hrec] at this ⊢
          exact ⟨this, by rw [hrec] at h3; exact h3, World.putObj_heap_same (Array.getElem?_eq_some_iff.1 h3).1, putObj_other h3 (hr.other _ _ (Nat.le_refl _) hd3 rfl) (by omega)⟩
        rintro e a3 W3 hp
        cases e with
        | normal =>
          obtain ⟨r3, kp3, hi3⟩ := hp
          obtain ⟨hr, h3, h4, h5⟩ := fin none W3 r3
          exact ⟨_, _, hr, .inl ⟨rfl, ⟨hI _ _ _ hi3 (step_put _ _ (by omega) (by omega) h3 rfl), h4, h5⟩, (r2.trans (r3.more (fun _ h => h) (by omega))).trans (rnd_put tB _ (by omega) (by omega) h3 rfl), hKt (hKt kp2 kp3) (hKb _ _ _ _ h3 rfl)⟩⟩
        | ret =>
          obtain ⟨r3, hi3⟩ := hp
          obtain ⟨hr, h3, h4, h5⟩ := fin (some .ret) W3 r3
          exact ⟨_, _, hr, .inr ⟨rfl, ⟨.ret, hIx _ _ _ _ hi3 (step_put _ _ (by omega) (by omega) h3 rfl), h4, h5⟩, (r2.trans (r3.more (fun _ h => h) (by omega))).trans (rnd_put tB _ (by omega) (by omega) h3 rfl)⟩⟩
        | exit id =>
          obtain ⟨r3, hi3⟩ := hp
          obtain ⟨hr, h3, h4, h5⟩ := fin (some (.exit id)) W3 r3
          exact ⟨_, _, hr, .inr ⟨rfl, ⟨.exit id, hIx _ _ _ _ hi3 (step_put _ _ (by omega) (by omega) h3 rfl), h4, h5⟩, (r2.trans (r3.more (fun _ h => h) (by omega))).trans (rnd_put tB _ (by omega) (by omega) h3 rfl)⟩⟩
        | goto t =>
          obtain ⟨r3, hi3⟩ := hp
          obtain ⟨hr, h3, h4, h5⟩ := fin (some (.goto t)) W3 r3
          exact ⟨_, _, hr, .inr ⟨rfl, ⟨.goto t, hIx _ _ _ _ hi3 (step_put _ _ (by omega) (by omega) h3 rfl), h4, h5⟩, (r2.trans (r3.more (fun _ h => h) (by omega))).trans (rnd_put tB _ (by omega) (by omega) h3 rfl)⟩⟩
        | panic ch => exact hp.elim
        | outgrown => exact hp.elim
      | exit id => exact hq.elim
      | goto t => exact hq.elim
      | ret => exact hq.elim
      | panic ch => exact hq.elim
      | outgrown => exact hq.elim
    · rintro e W2 ⟨⟨v, rfl⟩, (⟨⟨hi, hl, hk⟩, hs⟩ | ⟨k, hkl, c, hi, hl, hk⟩)⟩
      · exact ⟨none, _, by have := run_endLoop (P := P) hl (by rw [hrec]; simp); rw [hrec] at this; exact this, hdone _ _ (Nat.le_refl _) (hI _ _ _ hi (step_put _ _ (by omega) (by omega) hl rfl)) (hS1 _ _ hs (step_put _ _ (by omega) (by omega) hl rfl)) (putObj_other hl hk (by omega))⟩
      · exact ⟨some c, _, by have := run_endLoop (P := P) hl (by rw [hrec]; simp); rw [hrec] at this; exact this, hstop _ c k _ (Nat.le_refl _) hkl (hIx _ _ _ _ hi (step_put _ _ (by omega) (by omega) hl rfl)) (putObj_other hl hk (by omega))⟩
end Go.Proofs.Ytggjeiemofkfbaa

/- Documents: runs, their runes, their cells; rows of runs in memory; a text's runes at its offsets. -/
namespace Go.Proofs.Ytggjeiemofkfbaa
open Go.RowKit Rn Ch

theorem out_not {ts : List TypeId} {o : Obj} (h : o.isCells = false) : Out ts o := by cases o <;> first | trivial | cases h
theorem step_of_keep {B N : Nat} {ts : List TypeId} {own : List Nat} {w w' : World} (h : Keep B ts w w') (ho : ∀ i, i < N → i ∉ own → ∀ o, w.heap[i]? = some o → w'.heap[i]? = some o) : Step B N ts own w w' :=
  ⟨h.below, fun i cs e fr hi he => he.elim (fun h1 => h.kept i cs e fr hi h1) fun ⟨h1, h2⟩ => ho i h1 h2 _ hi, fun i o _ ho hc => h.all i o ho (out_not hc)⟩
theorem rnd_of_keep {B N : Nat} {ts : List TypeId} {w w' : World} (h : Keep B ts w w') : Rnd B N ts w w' :=
  ⟨h.below, h.kept, fun i o _ ho hc => h.all i o ho (out_not hc)⟩
structure RunD where
  text : ByteArray
  attrs : List (ByteArray × ByteArray)
/-- A run, and its row of attributes. -/
abbrev RP := RunD × Value
def rns (r : RunD) : List Nat := (rd r.text.data.toList).getD []
/-- Its text is one, and not empty. -/
def OkR (r : RunD) : Prop := ∃ cs, rd r.text.data.toList = some cs ∧ cs ≠ []
theorem OkR.rns {r : RunD} (h : OkR r) : allOk (rns r) ∧ r.text = T (rns r) ∧ rns r ≠ [] ∧ (rns r).length ≤ 20000 := by
  obtain ⟨cs, h1, h2⟩ := h
  have e : Go.Proofs.Ytggjeiemofkfbaa.rns r = cs := by unfold Go.Proofs.Ytggjeiemofkfbaa.rns; rw [h1]; rfl
  rw [e]
  exact ⟨(rd_some h1).1, rd_T h1, h2, (rd_some h1).2.2⟩
def E (c : Nat) : ByteArray := ⟨(enc c).toArray⟩
/-- A cell: a rune, and its run. -/
abbrev CellV := Nat × RP
def cellsR (p : RP) : List CellV := (rns p.1).map fun c => (c, p)
def cellsP (ps : List RP) : List CellV := ps.flatMap cellsR
theorem cellsP_cons (p : RP) (ps : List RP) : cellsP (p :: ps) = cellsR p ++ cellsP ps := rfl
theorem cellsR_len (p : RP) : (cellsR p).length = (rns p.1).length := by simp [cellsR]
theorem cellsR_at (p : RP) (k : Nat) (h : k < (rns p.1).length) : (cellsR p)[k]'(by rw [cellsR_len]; exact h) = ((rns p.1)[k], p) := by simp [cellsR]
abbrev cellAgg (x : CellV) : Value := .agg #[.string (E x.1), x.2.2]

/-- The rune at an offset of a text. -/
theorem at_rune {cs : List Nat} (h : allOk cs) (k : Nat) (hk : k < cs.length) : dec (((T cs).data.toList).drop (txt (cs.take k)).length) = (cs[k], (enc cs[k]).length) ∧
    (txt (cs.take (k + 1))).length = (txt (cs.take k)).length + (enc cs[k]).length ∧ (txt (cs.take k)).length + (enc cs[k]).length ≤ (T cs).size ∧
    (T cs).extract (txt (cs.take k)).length ((txt (cs.take k)).length + (enc cs[k]).length) = E cs[k] := by
  have e1 : cs = cs.take k ++ cs[k] :: cs.drop (k + 1) := by rw [← List.drop_eq_getElem_cons hk, List.take_append_drop]
  have e2 : txt cs = txt (cs.take k) ++ (enc cs[k] ++ txt (cs.drop (k + 1))) := by
    conv => lhs; rw [e1, txt_append, txt_cons]
  have e3 : (txt (cs.take (k + 1))).length = (txt (cs.take k)).length + (enc cs[k]).length := by
    rw [List.take_succ_eq_append_getElem hk, txt_append, List.length_append]
    congr 1
    simp [txt]
  have hs : (T cs).size = (txt (cs.take k)).length + ((enc cs[k]).length + (txt (cs.drop (k + 1))).length) := by
    rw [T_size, e2, List.length_append, List.length_append]
  refine ⟨?_, e3, by omega, ?_⟩
  · rw [T_data, e2, List.drop_left]
    exact dec_enc _ (h _ (List.getElem_mem hk)) _
  · have h1 := T_mid cs k (k + 1) (Nat.le_succ _)
    rw [e3] at h1
    rw [h1]
    have : (cs.take (k + 1)).drop k = [cs[k]] := by
      rw [List.take_succ_eq_append_getElem hk, List.drop_left' (by rw [List.length_take]; omega)]
    rw [this]
    apply ba_inj
    simp [T, E, txt]
theorem at_end {cs : List Nat} (h : allOk cs) (k : Nat) (hk : k < cs.length) : ((txt (cs.take (k + 1))).length = (T cs).size ↔ k + 1 = cs.length) := by
  rw [T_size]
  constructor
  · intro he
    by_cases hl : k + 1 = cs.length
    · exact hl
    · have hlt : k + 1 < cs.length := by omega
      have h2 := (at_rune h (k + 1) hlt).2.2.1
      have h3 := enc_pos cs[k + 1]
      rw [T_size] at h2
      omega
  · intro he
    rw [he, List.take_length]

/-- A row of runs, whosever it is. -/
def RunRow (w : World) (v : Value) (ps : List RP) : Prop :=
  (∃ a cap, v = .slice a ps.length cap ∧ ps.length ≤ cap ∧ cap ≤ maxLen ∧ ∀ i (h : i < ps.length), ∃ b off, a = some ⟨b, off, none⟩ ∧ b < w.heap.size ∧ w.cell? ⟨b, off + i * 2, none⟩ = some (.string ps[i].1.text) ∧ w.cell? ⟨b, off + i * 2 + 1, none⟩ = some ps[i].2) ∧
  ∀ p ∈ ps, AtRow w p.2 p.1.attrs
theorem RunRow.below {w w' : World} {v : Value} {ps : List RP} (h : RunRow w v ps) (hb : Below w.heap.size w w') : RunRow w' v ps := by
  obtain ⟨⟨a, cap, rfl, h1, h2, h3⟩, h4⟩ := h
  refine ⟨⟨a, cap, rfl, h1, h2, fun i hi => ?_⟩, fun p hp => (h4 p hp).below hb⟩
  obtain ⟨b, off, rfl, hlt, x, y⟩ := h3 i hi
  exact ⟨b, off, rfl, Nat.lt_of_lt_of_le hlt hb.size, by rw [hb.cell (by exact hlt)]; exact x, by rw [hb.cell (by exact hlt)]; exact y⟩
theorem RunRow.shape {w : World} {v : Value} {ps : List RP} (h : RunRow w v ps) : ∃ a cap, v = .slice a ps.length cap := by
  obtain ⟨⟨a, cap, rfl, _⟩, _⟩ := h
  exact ⟨a, cap, rfl⟩
/-- The row's own cells and those of its attributes, each told by itself: what keeps them. -/
theorem RunRow.head {w : World} {v : Value} {p : RP} {ps : List RP} (h : RunRow w v (p :: ps)) :
    ∃ b off cap, v = .slice (some ⟨b, off, none⟩) (ps.length + 1) cap ∧ b < w.heap.size ∧ w.cell? ⟨b, off, none⟩ = some (.string p.1.text) ∧ w.cell? ⟨b, off + 1, none⟩ = some p.2 ∧ AtRow w p.2 p.1.attrs ∧ ps.length + 1 ≤ cap ∧ cap ≤ maxLen ∧
      RunRow w (.slice (some (if cap = 1 then ⟨b, off, none⟩ else ⟨b, off + 2, none⟩)) ps.length (cap - 1)) ps := by
  obtain ⟨⟨a, cap, rfl, h1, h2, h3⟩, h4⟩ := h
  obtain ⟨b, off, rfl, hlt, x, y⟩ := h3 0 (Nat.succ_pos _)
  rw [List.length_cons] at h1
  refine ⟨b, off, cap, rfl, hlt, by simpa using x, by simpa using y, h4 p (List.mem_cons_self ..), h1, h2, ⟨_, cap - 1, rfl, by omega, by omega, fun i hi => ?_⟩, fun q hq => h4 q (List.mem_cons_of_mem _ hq)⟩
  obtain ⟨b', off', e, _, x', y'⟩ := h3 (i + 1) (by rw [List.length_cons]; omega)
  simp only [Option.some.injEq, Addr.mk.injEq, and_true] at e
  obtain ⟨rfl, rfl⟩ := e
  have hc : ¬ cap = 1 := by omega
  rw [if_neg hc]
  have e2 : off + 2 + i * 2 = off + (i + 1) * 2 := by omega
  exact ⟨b, off + 2, rfl, hlt, by rw [e2]; exact x', by rw [e2]; exact y'⟩

theorem others2 {w X : World} {b i : Nat} (hX : Below w.heap.size w X) (hi : i < w.heap.size) (hib : i ≠ b) {u1 u4 u5 : Value} :
    ((((X.setCell ⟨b, 1, none⟩ u1).setCell ⟨w.heap.size, 0, none⟩ u4).setCell ⟨w.heap.size, 1, none⟩ u5).drew).heap[i]? = w.heap[i]? := by
  have hn : i ≠ w.heap.size := Nat.ne_of_lt hi
  have h1 := hX.block i hi
  have h2 := Below.heap_setCell X ⟨b, 1, none⟩ u1 i hib
  have h3 := Below.heap_setCell (X.setCell ⟨b, 1, none⟩ u1) ⟨w.heap.size, 0, none⟩ u4 i hn
  have h4 := Below.heap_setCell ((X.setCell ⟨b, 1, none⟩ u1).setCell ⟨w.heap.size, 0, none⟩ u4) ⟨w.heap.size, 1, none⟩ u5 i hn
  exact (h4.trans (h3.trans (h2.trans h1)))
theorem others1 {w X : World} {b i : Nat} (hX : Below w.heap.size w X) (hi : i < w.heap.size) (hib : i ≠ b) {u1 u2 u3 u4 u5 : Value} :
    ((((((X.setCell ⟨b, 1, none⟩ u1).setCell ⟨b, 0, none⟩ u2).setCell ⟨b, 1, none⟩ u3).setCell ⟨w.heap.size, 0, none⟩ u4).setCell ⟨w.heap.size, 1, none⟩ u5).drew).heap[i]? = w.heap[i]? := by
  have hn : i ≠ w.heap.size := Nat.ne_of_lt hi
  have h1 := hX.block i hi
  generalize hy : X.setCell ⟨b, 1, none⟩ u1 = Y
  have h2 : Y.heap[i]? = X.heap[i]? := by rw [← hy]; exact Below.heap_setCell X ⟨b, 1, none⟩ u1 i hib
  generalize hz : Y.setCell ⟨b, 0, none⟩ u2 = Z
  have h3 : Z.heap[i]? = Y.heap[i]? := by rw [← hz]; exact Below.heap_setCell Y ⟨b, 0, none⟩ u2 i hib
  generalize hu : Z.setCell ⟨b, 1, none⟩ u3 = U
  have h4 : U.heap[i]? = Z.heap[i]? := by rw [← hu]; exact Below.heap_setCell Z ⟨b, 1, none⟩ u3 i hib
  have h5 := Below.heap_setCell U ⟨w.heap.size, 0, none⟩ u4 i hn
  have h6 := Below.heap_setCell (U.setCell ⟨w.heap.size, 0, none⟩ u4) ⟨w.heap.size, 1, none⟩ u5 i hn
  exact h6.trans (h5.trans (h4.trans (h3.trans (h2.trans h1))))
end Go.Proofs.Ytggjeiemofkfbaa

/- The document's own Chars: a text's runes, each as a text. -/
namespace Go.Proofs.Ytggjeiemofkfbaa
open Go.RowKit Rn Ch

def contB (b : UInt8) : Bool := decide (128 ≤ b.toNat ∧ b.toNat < 192)
def chS (l : List ByteArray) (b : UInt8) : List ByteArray := if contB b then l.dropLast ++ [l.getLastD ⟨#[]⟩ ++ ⟨#[b]⟩] else l ++ [⟨#[b]⟩]
def chF (l : List UInt8) : List ByteArray := l.foldl chS []
theorem chF_snoc (l : List UInt8) (b : UInt8) : chF (l ++ [b]) = chS (chF l) b := by simp [chF]
theorem chS_ne (l : List ByteArray) (b : UInt8) : chS l b ≠ [] := by unfold chS; split <;> simp
theorem chS_len (l : List ByteArray) (b : UInt8) : (chS l b).length ≤ l.length + 1 := by
  unfold chS; split <;> simp
theorem chF_from_len (l : List UInt8) (a : List ByteArray) : (l.foldl chS a).length ≤ a.length + l.length := by
  induction l generalizing a with
  | nil => exact Nat.le_refl _
  | cons b r ih => rw [List.foldl_cons]; have h1 := ih (chS a b); have h2 := chS_len a b; simp only [List.length_cons]; omega
theorem chF_len (l : List UInt8) : (chF l).length ≤ l.length := by have := chF_from_len l []; simpa [chF] using this
theorem chF_take {l : List UInt8} {n : Nat} (h : n < l.length) : chF (l.take (n + 1)) = chS (chF (l.take n)) l[n] := by rw [List.take_succ_eq_append_getElem h, chF_snoc]
theorem chF_ne {l : List UInt8} {n : Nat} (h : n < l.length) (h0 : 0 < n) : chF (l.take n) ≠ [] := by
  obtain ⟨m, rfl⟩ : ∃ m, n = m + 1 := ⟨n - 1, by omega⟩
  rw [chF_take (by omega)]
  exact chS_ne _ _
theorem chS_size {l : List ByteArray} {b : UInt8} {N : Nat} (h : ∀ x ∈ l, x.size ≤ N) : ∀ x ∈ chS l b, x.size ≤ N + 1 := by
  intro x hx
  unfold chS at hx
  split at hx
  · rcases List.mem_append.1 hx with h1 | h1
    · exact Nat.le_succ_of_le (h x (List.dropLast_subset l h1))
    · rw [List.mem_singleton] at h1
      subst h1
      rw [ByteArray.size_append]
      have : (l.getLastD ⟨#[]⟩).size ≤ N := by
        cases hl : l.getLast? with
        | none => rw [List.getLastD_eq_getLast?, hl]; exact Nat.zero_le _
        | some y => rw [List.getLastD_eq_getLast?, hl]; exact h y (List.mem_of_getLast? hl)
      have e : (⟨#[b]⟩ : ByteArray).size = 1 := rfl
      omega
  · rcases List.mem_append.1 hx with h1 | h1
    · exact Nat.le_succ_of_le (h x h1)
    · rw [List.mem_singleton] at h1
      subst h1
      have e : (⟨#[b]⟩ : ByteArray).size = 1 := rfl
      omega
theorem chF_from_size (l : List UInt8) (a : List ByteArray) (N : Nat) (h : ∀ x ∈ a, x.size ≤ N) : ∀ x ∈ l.foldl chS a, x.size ≤ N + l.length := by
  induction l generalizing a N with
  | nil => exact h
  | cons b r ih => rw [List.foldl_cons]; intro x hx; have := ih (chS a b) (N + 1) (chS_size h) x hx; simp only [List.length_cons]; omega
theorem chF_size (l : List UInt8) : ∀ x ∈ chF l, x.size ≤ l.length := fun x hx => by have := chF_from_size l [] 0 (fun y hy => by cases hy) x hx; omega
theorem one_byte (s : ByteArray) (n : Nat) (h : n < s.size) : s.extract n (n + 1) = ⟨#[s[n]]⟩ := by
  apply ba_inj
  have e : s.data.toList.length = s.size := rfl
  simp [ByteArray.data_extract, Array.toList_extract, List.extract_eq_take_drop]
  rw [List.drop_eq_getElem_cons (by rw [e]; exact h)]
  simp
  rfl
def strV (l : List ByteArray) : List Value := l.map .string
theorem infoStr : (Try.prog.info? 9).map (fun i => (i.zero, i.size, i.bytes)) = some (some (.string ⟨#[]⟩), 1, 16) := by kernel_rfl
set_option maxRecDepth 100000 in
set_option maxHeartbeats 2000000 in
theorem chars_any (s : ByteArray) (w : World) (hs : s.size ≤ 1048576) (h0 : ∀ h : 0 < s.size, contB s[0] = false) :
    Calls Try.prog 64 #[.string s] w fun e w' => ∃ v, e = .returned v ∧ w'.ownsRow w.heap.size 9 1 v (chF s.data.toList).length (strV (chF s.data.toList)) ∧ Below w.heap.size w w' := by
  go_enter Try.func64, Try.ntmps64
  go_wp2_with fail
  go_loopw [3, 4] (fun v i wr => ∃ n : Nat, i = .int .i64 (n : Int) ∧ n ≤ s.size ∧ wr.ownsRow w.heap.size 9 1 v (chF (s.data.toList.take n)).length (strV (chF (s.data.toList.take n))) ∧ Below w.heap.size w wr) (fun _ i _ => s.size - (intOf i).toNat)
  case atStart => exact ⟨0, rfl, Nat.zero_le _, World.ownsRow_nil _ _ _ _, Below.refl _ _⟩
  case round =>
    obtain ⟨n, rfl, hn, hown, hb⟩ := hrel
    have hsl : s.data.toList.length = s.size := rfl
    have Hown := Lib.hid hown
    clear hown
    by_cases hlt : n < s.size
    · have hlt' : (n : Int) < (s.size : Int) := by omega
      have hbb : s[n].toNat < 256 := UInt8.toNat_lt _
      have HT := Lib.hid (chF_take (l := s.data.toList) (n := n) (by rw [hsl]; exact hlt))
      have HL := Lib.hid (chF_len (s.data.toList.take n))
      have HLT := Lib.hid (List.length_take_le n s.data.toList)
      by_cases hc1 : 128 ≤ s[n].toNat
      · by_cases hc2 : s[n].toNat < 192
        · have hc1' : (128 : Int) ≤ (s[n].toNat : Int) := by omega
          have hc2' : (s[n].toNat : Int) < 192 := by omega
          have hcb : contB s.data.toList[n] = true := decide_eq_true (by have e : s.data.toList[n] = s[n] := rfl; rw [e]; exact ⟨hc1, hc2⟩)
          have hn0 : 0 < n := by
            rcases Nat.eq_zero_or_pos n with e | e
            · subst e
              have := h0 hlt
              rw [contB, decide_eq_false_iff_not] at this
              exact absurd ⟨hc1, hc2⟩ this
            · exact e
          have hne := chF_ne (l := s.data.toList) (n := n) (by rw [hsl]; exact hlt) hn0
          have hown := Hown.out
          have hll := HL.out
          have hl2 := HLT.out
          have hst := HT.out
          have hsz := chF_size (s.data.toList.take n)
          obtain ⟨l, hl⟩ : ∃ l, l = chF (s.data.toList.take n) := ⟨_, rfl⟩
          rw [← hl] at hown hll hne hst hsz
          obtain ⟨d, x, hdx⟩ : ∃ d x, l = d ++ [x] := ⟨_, _, (List.dropLast_concat_getLast hne).symm⟩
          subst hdx
          have HSZ := Lib.hid hsz
          clear hsz
          have hst' : chF (s.data.toList.take (n + 1)) = d ++ [x ++ s.extract n (n + 1)] := by rw [hst, chS, hcb, one_byte s n hlt]; simp; rfl
          have Hst := Lib.hid hst'
          rw [List.length_append, List.length_singleton] at hown hll
          obtain ⟨g, cap, rfl⟩ := ownsRow_succ hown
          have e0 : wr.cell? ⟨g, d.length, none⟩ = some (.string x) := by rw [hown.cellAt _ (by omega)]; simp [strV]
          have f0 := hown.frozenAt d.length
          have hwr : IntKind.i64.wrap (d.length : Int) = (d.length : Int) := IntWalk.i64_in _ (by omega)
          have hdn : (0 : Int) ≤ (d.length : Int) := by omega
          have hdl : (d.length : Int) < (d.length : Int) + 1 := by omega
          have hnr : IntKind.i64.wrap ((n : Int) + 1) = (n : Int) + 1 := IntWalk.i64_in _ (by omega)
          have hn1 : (0 : Int) ≤ (n : Int) + 1 := by omega
          have hn2 : ((n : Int) + 1).toNat = n + 1 := by omega
          obtain ⟨t, ht⟩ : ∃ t, t = s.extract n (n + 1) := ⟨_, rfl⟩
          have S2 : ∀ W, (Instr.sliceAt 9 (.string s) (some (.int .i64 (n : Nat))) (some (.int .i64 ((n : Nat) + 1))) none).run Try.prog W = .ok (.string t) W := fun W => by
            rw [run_sliceAt_string W _ _ _ _ _ Try.underlying9, run_slice_string W _ _ .i64 .i64 _ _ Try.underlying9 (by omega) (by omega) (by omega), Int.toNat_natCast, hn2, ht]
          have htz : t.size = 1 := by rw [ht, one_byte s n hlt]; rfl
          have HT2 := Lib.hid ht
          clear ht
          have hxs : x.size ≤ 1048576 := by have := HSZ.out x (by simp); omega
          have hbg : (9223372036854775807 < x.size + t.size) = False := eq_false (by omega)
          have hbg2 : (9223372036854775807 < x.size + 1) = False := eq_false (by omega)
          have Hown2 := Lib.hid hown
          clear hl hne hcb HT Hown HL HLT hst hst' hown hn0
          go_wp2_with fail
          go_still_tail 16, (by kernel_rfl)
          change wpList _ _ _ _ _ wr.drew
          go_wp2_with fail
          obtain ⟨h1, h2⟩ := Hown2.out.stored d.length (.string (x ++ t))
          refine ⟨⟨n + 1, by go_num, by omega, ?_, (hb.grown h2 (by have := hb.size; omega) (fun j hj => (Hown2.out.lt j hj).1)).drew⟩, by simp [intOf]; omega⟩
          rw [Hst.out, ← HT2.out]
          have e : (strV (d ++ [x])).set d.length (.string (x ++ t)) = strV (d ++ [x ++ t]) := by simp [strV]
          rw [e] at h1
          rw [List.length_append, List.length_singleton]
          exact h1.drew
        · have hc1' : (128 : Int) ≤ (s[n].toNat : Int) := by omega
          have hc2' : ¬ (s[n].toNat : Int) < 192 := by omega
          have hcb : contB s.data.toList[n] = false := decide_eq_false (fun h => by have e : s.data.toList[n] = s[n] := rfl; rw [e] at h; omega)
          have hne : chF (s.data.toList.take (n + 1)) = chF (s.data.toList.take n) ++ [s.extract n (n + 1)] := by rw [HT.out, chS, hcb, one_byte s n hlt]; rfl
          have Hne := Lib.hid hne
          obtain ⟨i0, hi, hz0, hz1, hz2⟩ := info_parts infoStr
          have hown := Hown.out
          have hll := HL.out
          have hl2 := HLT.out
          obtain ⟨l, hl⟩ : ∃ l, l = chF (s.data.toList.take n) := ⟨_, rfl⟩
          rw [← hl] at hown hll Hne
          clear hl hne hcb HT Hown HL HLT
          go_wp2_with (first | (at_builtin; refine wpList_append_own _ rfl _ _ 85 rfl w.heap.size 9 i0 (.string ⟨#[]⟩) 1 16 Try.underlying85 hi hz0 hz1 hz2 rfl (by decide) _ _ _ rfl (hown.alloc _) ⟨wr.heap.size, 0, none⟩ 1 1 [.string (s.extract n (n + 1))] rfl rfl ?_ ?_ ?_ ?_ ?_ ?_))
          all_goals
            first
              | rfl
              | (intro u hu; simp at hu; subst hu; rfl)
              | (unfold maxLen; omega)
              | omega
              | (have := hb.size; simp; omega)
              | (intro j u hj
                 match j, hj with
                 | 0, hj => simp at hj; subst hj; simp [Addr.add])
              | skip
          intro v' w1 hown' hgrow _
          have B1 := (hb.alloc hb.size _).grown hgrow (by have := hb.size; simp; omega) (fun j hj => (hown.lt j hj).1)
          have HB1 := Lib.hid B1
          have Hown' := Lib.hid hown'
          clear hown hown' hgrow hi hz0 hz1 hz2 B1
          go_wp2_with fail
          go_roundw
          case rel =>
            refine ⟨n + 1, by go_num, by omega, ?_, HB1.out⟩
            rw [Hne.out]
            have e : strV (l ++ [s.extract n (n + 1)]) = strV l ++ [.string (s.extract n (n + 1))] := by simp [strV]
            rw [e, List.length_append]
            exact Hown'.out
          case measure => simp [intOf]; omega
      · have hc1' : ¬ (128 : Int) ≤ (s[n].toNat : Int) := by omega
        have hcb : contB s.data.toList[n] = false := decide_eq_false (fun h => by have e : s.data.toList[n] = s[n] := rfl; rw [e] at h; omega)
        have hne : chF (s.data.toList.take (n + 1)) = chF (s.data.toList.take n) ++ [s.extract n (n + 1)] := by rw [HT.out, chS, hcb, one_byte s n hlt]; rfl
        have Hne := Lib.hid hne
        obtain ⟨i0, hi, hz0, hz1, hz2⟩ := info_parts infoStr
        have hown := Hown.out
        have hll := HL.out
        have hl2 := HLT.out
        obtain ⟨l, hl⟩ : ∃ l, l = chF (s.data.toList.take n) := ⟨_, rfl⟩
        rw [← hl] at hown hll Hne
        clear hl hne hcb HT Hown HL HLT
        go_wp2_with (first | (at_builtin; refine wpList_append_own _ rfl _ _ 85 rfl w.heap.size 9 i0 (.string ⟨#[]⟩) 1 16 Try.underlying85 hi hz0 hz1 hz2 rfl (by decide) _ _ _ rfl (hown.alloc _) ⟨wr.heap.size, 0, none⟩ 1 1 [.string (s.extract n (n + 1))] rfl rfl ?_ ?_ ?_ ?_ ?_ ?_))
        all_goals
          first
            | rfl
            | (intro u hu; simp at hu; subst hu; rfl)
            | (unfold maxLen; omega)
            | omega
            | (have := hb.size; simp; omega)
            | (intro j u hj
               match j, hj with
               | 0, hj => simp at hj; subst hj; simp [Addr.add])
            | skip
        intro v' w1 hown' hgrow _
        have B1 := (hb.alloc hb.size _).grown hgrow (by have := hb.size; simp; omega) (fun j hj => (hown.lt j hj).1)
        have HB1 := Lib.hid B1
        have Hown' := Lib.hid hown'
        clear hown hown' hgrow hi hz0 hz1 hz2 B1
        go_wp2_with fail
        go_roundw
        case rel =>
          refine ⟨n + 1, by go_num, by omega, ?_, HB1.out⟩
          rw [Hne.out]
          have e : strV (l ++ [s.extract n (n + 1)]) = strV l ++ [.string (s.extract n (n + 1))] := by simp [strV]
          rw [e, List.length_append]
          exact Hown'.out
        case measure => simp [intOf]; omega
    · have hkn : n = s.size := by omega
      have ht : s.data.toList.take n = s.data.toList := List.take_of_length_le (by omega)
      rw [ht] at Hown
      subst hkn
      go_wp2_with fail
      go_ret
      exact ⟨_, rfl, Hown.out, hb⟩
end Go.Proofs.Ytggjeiemofkfbaa

/- The document's own Chars of a text: its runes. -/
namespace Go.Proofs.Ytggjeiemofkfbaa
open Go.RowKit Rn Ch

theorem contB_ofNat {k : Nat} (h : k < 256) : contB (UInt8.ofNat k) = decide (128 ≤ k ∧ k < 192) := by
  unfold contB
  rw [UInt8.toNat_ofNat', Nat.mod_eq_of_lt (by simpa using h)]
theorem chS_cont {l : List ByteArray} {x : ByteArray} {b : UInt8} (h : contB b = true) : chS (l ++ [x]) b = l ++ [x ++ ⟨#[b]⟩] := by
  unfold chS; rw [h]; simp
theorem chS_first {l : List ByteArray} {b : UInt8} (h : contB b = false) : chS l b = l ++ [⟨#[b]⟩] := by
  unfold chS; rw [h]; simp
theorem enc_head {c : Nat} (hc : ok c) : ∃ b t, enc c = b :: t ∧ contB b = false ∧ ∀ x ∈ t, contB x = true := by
  unfold ok at hc
  unfold enc
  split
  · exact ⟨_, _, rfl, by rw [contB_ofNat (by omega)]; exact decide_eq_false (by omega), fun x hx => by cases hx⟩
  · split
    · refine ⟨_, _, rfl, by rw [contB_ofNat (by omega)]; exact decide_eq_false (by omega), fun x hx => ?_⟩
      simp only [List.mem_singleton] at hx
      subst hx
      rw [contB_ofNat (by omega)]; exact decide_eq_true (by omega)
    · split
      · refine ⟨_, _, rfl, by rw [contB_ofNat (by omega)]; exact decide_eq_false (by omega), fun x hx => ?_⟩
        simp only [List.mem_cons, List.not_mem_nil, or_false] at hx
        rcases hx with rfl | rfl
        all_goals rw [contB_ofNat (by omega)]; exact decide_eq_true (by omega)
      · refine ⟨_, _, rfl, by rw [contB_ofNat (by omega)]; exact decide_eq_false (by omega), fun x hx => ?_⟩
        simp only [List.mem_cons, List.not_mem_nil, or_false] at hx
        rcases hx with rfl | rfl | rfl
        all_goals rw [contB_ofNat (by omega)]; exact decide_eq_true (by omega)
theorem fold_cont {t : List UInt8} (h : ∀ x ∈ t, contB x = true) (l : List ByteArray) (x : ByteArray) : t.foldl chS (l ++ [x]) = l ++ [⟨(x.data.toList ++ t).toArray⟩] := by
  induction t generalizing x with
  | nil =>
    rw [List.foldl_nil]
    congr 2
    apply ba_inj
    simp
  | cons b r ih =>
    rw [List.foldl_cons, chS_cont (h b (List.mem_cons_self ..)), ih (fun y hy => h y (List.mem_cons_of_mem _ hy))]
    congr 2
    apply ba_inj
    simp [ByteArray.data_append]
theorem fold_enc {c : Nat} (hc : ok c) (l : List ByteArray) : (enc c).foldl chS l = l ++ [E c] := by
  obtain ⟨b, t, he, h1, h2⟩ := enc_head hc
  unfold E
  rw [he, List.foldl_cons, chS_first h1, fold_cont h2]
  rfl
theorem fold_txt {cs : List Nat} (h : allOk cs) (l : List ByteArray) : (txt cs).foldl chS l = l ++ cs.map E := by
  induction cs generalizing l with
  | nil => simp [txt]
  | cons c r ih =>
    rw [txt_cons, List.foldl_append, fold_enc (h c (List.mem_cons_self ..)), ih (fun x hx => h x (List.mem_cons_of_mem _ hx))]
    simp
theorem chF_txt {cs : List Nat} (h : allOk cs) : chF (txt cs) = cs.map E := by
  unfold chF; rw [fold_txt h]; rfl
theorem first_txt {cs : List Nat} (h : allOk cs) (h0 : 0 < (T cs).size) : contB (T cs)[0] = false := by
  cases cs with
  | nil => rw [T_size, txt_nil] at h0; cases h0
  | cons c r =>
    obtain ⟨b, t, he, h1, _⟩ := enc_head (h c (List.mem_cons_self ..))
    have e : (T (c :: r)).data.toList = b :: (t ++ txt r) := by rw [T_data, txt_cons, he]; rfl
    have e2 : (T (c :: r))[0] = (T (c :: r)).data.toList[0]'(by rw [e]; simp) := rfl
    rw [e2]
    simp only [e, List.getElem_cons_zero]
    exact h1
/-- Chars of a text that is one. -/
theorem charsT_any (s : ByteArray) (cs : List Nat) (w : World) (hs : s.size ≤ 1048576) (h : rd s.data.toList = some cs) :
    Calls Try.prog 64 #[.string s] w fun e w' => ∃ v, e = .returned v ∧ w'.ownsRow w.heap.size 9 1 v cs.length (strV (cs.map E)) ∧ Below w.heap.size w w' := by
  have hT := rd_T h
  have hok := (rd_some h).1
  have hf : chF s.data.toList = cs.map E := by rw [(rd_some h).2.1]; exact chF_txt hok
  have hc := chars_any s w hs (fun h0 => by subst hT; exact first_txt hok h0)
  rw [hf, List.length_map] at hc
  exact hc
end Go.Proofs.Ytggjeiemofkfbaa
