/- Ranges over functions whose iterators keep their state in cells: what a step of an iterator keeps, what a round keeps, an iterator's contract over them, and the law of the statement. -/
import Derived.RangeFuncNested
import Derived.RangeFuncBound
import Derived.RangeFuncLeaves
import Derived.WalkKit
namespace Go.Proofs.Ytigdmgpejmfceaa
open Go.RowKit

/-- What an iterator's step keeps: all below B; blocks of cells of other types than ts, and those that lay ahead of N but for its own; whatever is no cells and lies ahead of N. -/
structure Step (B N : Nat) (ts : List TypeId) (own : List Nat) (w w' : World) : Prop where
  below : Below B w w'
  cells : ∀ (i : Nat) (cs : Array Value) (e : TypeId) (fr : Nat × Nat), w.heap[i]? = some (Obj.cells cs e fr) → (e ∉ ts ∨ (i < N ∧ i ∉ own)) → w'.heap[i]? = some (Obj.cells cs e fr)
  other : ∀ (i : Nat) (o : Obj), i < N → w.heap[i]? = some o → o.isCells = false → w'.heap[i]? = some o
/-- What a round keeps: .. whatever is no cells and lies at or behind N. -/
structure Rnd (B N : Nat) (ts : List TypeId) (w w' : World) : Prop where
  below : Below B w w'
  cells : ∀ (i : Nat) (cs : Array Value) (e : TypeId) (fr : Nat × Nat), w.heap[i]? = some (Obj.cells cs e fr) → e ∉ ts → w'.heap[i]? = some (Obj.cells cs e fr)
  other : ∀ (i : Nat) (o : Obj), N ≤ i → w.heap[i]? = some o → o.isCells = false → w'.heap[i]? = some o

theorem Step.refl (B N : Nat) (ts : List TypeId) (own : List Nat) (w : World) : Step B N ts own w w := ⟨Below.refl _ _, fun _ _ _ _ h _ => h, fun _ _ _ h _ => h⟩
theorem Step.trans {B N : Nat} {ts : List TypeId} {own : List Nat} {a b c : World} (h : Step B N ts own a b) (k : Step B N ts own b c) : Step B N ts own a c :=
  ⟨h.below.trans k.below, fun i cs e fr hi he => k.cells i cs e fr (h.cells i cs e fr hi he) he, fun i o hi ho hc => k.other i o hi (h.other i o hi ho hc) hc⟩
theorem Step.more {B N M : Nat} {ts us : List TypeId} {own own' : List Nat} {w w' : World} (h : Step B N ts own w w') (hs : ∀ t, t ∈ ts → t ∈ us) (ho : ∀ i, i < M → i ∈ own → i ∈ own') (hN : M ≤ N) : Step B M us own' w w' :=
  ⟨h.below, fun i cs e fr hi he => h.cells i cs e fr hi (he.imp (fun h1 ht => h1 (hs _ ht)) fun ⟨h1, h2⟩ => ⟨Nat.lt_of_lt_of_le h1 hN, fun h3 => h2 (ho _ h1 h3)⟩), fun i o hi ho hc => h.other i o (Nat.lt_of_lt_of_le hi hN) ho hc⟩
theorem Step.mono {B C N : Nat} {ts : List TypeId} {own : List Nat} {w w' : World} (h : Step B N ts own w w') (hc : C ≤ B) : Step C N ts own w w' := ⟨h.below.mono hc, h.cells, h.other⟩
theorem Rnd.refl (B N : Nat) (ts : List TypeId) (w : World) : Rnd B N ts w w := ⟨Below.refl _ _, fun _ _ _ _ h _ => h, fun _ _ _ h _ => h⟩
theorem Rnd.trans {B N : Nat} {ts : List TypeId} {a b c : World} (h : Rnd B N ts a b) (k : Rnd B N ts b c) : Rnd B N ts a c :=
  ⟨h.below.trans k.below, fun i cs e fr hi he => k.cells i cs e fr (h.cells i cs e fr hi he) he, fun i o hi ho hc => k.other i o hi (h.other i o hi ho hc) hc⟩
theorem Rnd.more {B N M : Nat} {ts us : List TypeId} {w w' : World} (h : Rnd B N ts w w') (hs : ∀ t, t ∈ ts → t ∈ us) (hN : N ≤ M) : Rnd B M us w w' :=
  ⟨h.below, fun i cs e fr hi he => h.cells i cs e fr hi fun ht => he (hs _ ht), fun i o hi ho hc => h.other i o (Nat.le_trans hN hi) ho hc⟩

theorem putObj_other {w : World} {l k : Nat} {o o' x : Obj} (_hl : w.heap[l]? = some o) (hk : w.heap[k]? = some x) (hne : k ≠ l) : (w.putObj l o').heap[k]? = some x := (World.putObj_heap_other hne).trans hk
theorem putObj_cells {w : World} {l k : Nat} {o o' : Obj} {cs : Array Value} {e : TypeId} {fr : Nat × Nat} (hl : w.heap[l]? = some o) (ho : o.isCells = false) (hk : w.heap[k]? = some (.cells cs e fr)) : (w.putObj l o').heap[k]? = some (.cells cs e fr) :=
  putObj_other hl hk fun e' => by subst e'; rw [hl] at hk; cases hk; cases ho
theorem below_put {B l : Nat} {w : World} {o o' : Obj} (hB : B ≤ l) (hl : w.heap[l]? = some o) : Below B w (w.putObj l o') :=
  (Below.refl B w).grown (grownBy_putObj' w l o') (by have := (Array.getElem?_eq_some_iff.1 hl).1; omega) fun k e => by cases e; exact hB
/-- A turn of a block that is no cells and lies at or behind N is a step. -/
theorem step_put {B N l : Nat} {w : World} {o : Obj} {own : List Nat} (ts : List TypeId) (o' : Obj) (hN : N ≤ l) (hB : B ≤ l) (hl : w.heap[l]? = some o) (ho : o.isCells = false) : Step B N ts own w (w.putObj l o') :=
  ⟨below_put hB hl, fun _ _ _ _ hi _ => putObj_cells hl ho hi, fun _ _ hi hx _ => putObj_other hl hx (by omega)⟩
/-- .. and of one that lies ahead of it a round's. -/
theorem rnd_put {B N l : Nat} {w : World} {o : Obj} (ts : List TypeId) (o' : Obj) (hN : l < N) (hB : B ≤ l) (hl : w.heap[l]? = some o) (ho : o.isCells = false) : Rnd B N ts w (w.putObj l o') :=
  ⟨below_put hB hl, fun _ _ _ _ hi _ => putObj_cells hl ho hi, fun _ _ hi hx _ => putObj_other hl hx (by omega)⟩
theorem step_alloc {B N : Nat} {w : World} {own : List Nat} (ts : List TypeId) (o : Obj) (hB : B ≤ w.heap.size) : Step B N ts own w (w.alloc o) := by
  have hb := (Below.refl w.heap.size w).alloc (Nat.le_refl _) o
  exact ⟨hb.mono hB, fun i _ _ _ hi _ => (hb.block i (Array.getElem?_eq_some_iff.1 hi).1).trans hi, fun i _ _ hi _ => (hb.block i (Array.getElem?_eq_some_iff.1 hi).1).trans hi⟩
theorem step_below {B N : Nat} {w w' : World} {own : List Nat} (ts : List TypeId) (hb : Below w.heap.size w w') (hB : B ≤ w.heap.size) : Step B N ts own w w' :=
  ⟨hb.mono hB, fun i _ _ _ hi _ => (hb.block i (Array.getElem?_eq_some_iff.1 hi).1).trans hi, fun i _ _ hi _ => (hb.block i (Array.getElem?_eq_some_iff.1 hi).1).trans hi⟩
theorem rnd_below {B N : Nat} {w w' : World} (ts : List TypeId) (hb : Below w.heap.size w w') (hB : B ≤ w.heap.size) : Rnd B N ts w w' :=
  ⟨hb.mono hB, fun i _ _ _ hi _ => (hb.block i (Array.getElem?_eq_some_iff.1 hi).1).trans hi, fun i _ _ hi _ => (hb.block i (Array.getElem?_eq_some_iff.1 hi).1).trans hi⟩

/-- The contract of an iterator's value that tells just the list xs: called at the yield of a loop, at whatever the caller says of its own memory, J, that abides the iterator's steps; each round goes on, and has kept what a round keeps (Kp says more of it, at need), or says 'no more'. -/
def Iter {α : Type} (P : Program) (g : Nat) (lb : Array Value) (encs : α → Array Value) (xs : List α) (B : Nat) (tI : List TypeId) (own : List Nat) (tB : List TypeId) (Kp : World → World → Prop) (Fr : World → Nat → Prop) (S0 S1 : World → Prop) : Prop :=
  ∀ (l : Nat) (J Jx : Nat → World → Prop) (W : World), B ≤ W.heap.size → S0 W →
    (∀ k A A', J k A → Step B W.heap.size tI own A A' → J k A') → (∀ k A A', Jx k A → Step B W.heap.size tI own A A' → Jx k A') →
    (∀ k A i, J k A → A.heap.size ≤ i → Fr A i) →
    (∀ k (h : k < xs.length) W1, J k W1 → YieldAt Fence.wide 0 P l (encs xs[k]) W1 fun e W' =>
      (e = .returned (.bool true) ∧ J (k + 1) W' ∧ Rnd B W.heap.size tB W1 W' ∧ Kp W1 W') ∨ (e = .returned (.bool false) ∧ Jx k W' ∧ Rnd B W.heap.size tB W1 W')) →
    J 0 W →
    CallsIn Fence.wide 0 P g (#[.func (.yield l) #[] #[]] ++ lb) W fun e W' => (∃ v, e = .returned v) ∧ ((J xs.length W' ∧ S1 W') ∨ (∃ k, k < xs.length ∧ Jx k W'))

/-- How the body of a round may be left: what it keeps, told of the world W in which it began. -/
def bodyEnd (B N : Nat) (tB : List TypeId) (Kp : World → World → Prop) (I : Nat → World → Prop) (Ix : Code → Nat → World → Prop) (k : Nat) (W : World) : Exit → Act → World → Prop
  | .normal, _, W' => Rnd B N tB W W' ∧ Kp W W' ∧ I (k + 1) W'
  | .ret, _, W' => Rnd B N tB W W' ∧ Ix .ret k W'
  | .exit id, _, W' => Rnd B N tB W W' ∧ Ix (.exit id) k W'
  | .goto t, _, W' => Rnd B N tB W W' ∧ Ix (.goto t) k W'
  | .panic _, _, _ => False
  | .outgrown, _, _ => False

/-- The statement 'for .. := range g { .. }' in a function's own frame. -/
theorem range_it {α : Type} {P : Program} {g : Operand} {ps : Array Tmp} {assign body : Code} {Q : Exit → Act → World → Prop} {a : Act} {w : World}
    {gf : Nat} {lb : Array Value} {encs : α → Array Value} {xs : List α} {B : Nat} {tI : List TypeId} {own : List Nat} {tB : List TypeId} {Kp : World → World → Prop} {Fr : World → Nat → Prop} {S0 S1 : World → Prop}
    (hit : Iter P gf lb encs xs B tI own tB Kp Fr S0 S1) (hg : a.eval g = .func (.func gf) #[] lb) (eg : ∀ args w, (callFunc gf args).run P w = .ok (.enter gf args) w) (hps : ∀ x, (encs x).size = ps.size)
    (hB : B ≤ w.heap.size) (hS : ∀ W, Below w.heap.size w W → S0 W)
    (hKt : ∀ {A C D : World}, Kp A C → Kp C D → Kp A D) (hKb : ∀ (W : World) (l : Nat) (o o' : Obj), W.heap[l]? = some o → o.isCells = false → Kp W (W.putObj l o'))
    (I : Nat → World → Prop) (Ix : Code → Nat → World → Prop)
    (hI : ∀ k A A', I k A → Step B w.heap.size tI own A A' → I k A') (hIx : ∀ c k A A', Ix c k A → Step B w.heap.size tI own A A' → Ix c k A') (hFr : ∀ k A i, I k A → A.heap.size ≤ i → Fr A i) (h0 : I 0 w)
    (hround : ∀ (l k : Nat) (h : k < xs.length) (W : World), w.heap.size ≤ l → I k W →
      assign.wpIn (Fence.wide.inRound l) 0 P (Exit.then (fun a₁ W1 => Rnd B w.heap.size tB W W1 ∧ Kp W W1 ∧ I k W1 ∧
          ∀ W2, Step B w.heap.size [] [] W1 W2 → W2.heap.size = W1.heap.size → (∃ r, W2.heap[l]? = some (.loop r)) → body.wpIn (Fence.wide.inRound l) 0 P (bodyEnd B w.heap.size tB Kp I Ix k W2) a₁ W2)
        (fun _ _ _ => False)) { tmps := (ps.zip (encs xs[k])).foldl (fun t (p, v) => t.setIfInBounds p v) a.tmps, defers := [] } W)
    (hdone : ∀ (D : Nat) (W : World), w.heap.size ≤ D → I xs.length W → S1 W → W.heap[D]? = some (.deferred (some [])) → Q .normal { a with defers := { target := .collected D, args := #[] } :: a.defers } W)
    (hstop : ∀ (D : Nat) (c : Code) (k : Nat) (W : World), w.heap.size ≤ D → k < xs.length → Ix c k W → W.heap[D]? = some (.deferred (some [])) → c.wpIn Fence.wide 0 P Q { a with defers := { target := .collected D, args := #[] } :: a.defers } W)
    (hS1 : ∀ A A', S1 A → Step B w.heap.size [] [] A A' → S1 A') :
    (Code.rangeFunc g ps assign body).wpIn Fence.wide 0 P Q a w := by
  refine wpIn_rangeFunc fun fn hfn => ?_
  show ∃ (l : Nat) (mark : List Deferred) (w₁ : World) (d : Deferred) (w₁' : World) (f : FuncId) (args : Array Value) (w₂ : World),
      (Instr.enterLoop fn a.tmps ps assign body none).run P w = .ok (l, mark) w₁ ∧ _
  obtain ⟨rec, hrec⟩ : ∃ rec : LoopState → Option Code → Loop, rec = fun st pe => { state := st, pending := pe, fn, tmps := a.tmps, params := ps, assign, body, defers := w.heap.size } := ⟨_, rfl⟩
  obtain ⟨W1, hW1⟩ : ∃ W1, (w.alloc (.deferred (some []))).alloc (.loop (rec .ready none)) = W1 := ⟨_, rfl⟩
  have hsz : W1.heap.size = w.heap.size + 1 + 1 := by rw [← hW1]; simp
  have hL1 : W1.heap[w.heap.size + 1]? = some (.loop (rec .ready none)) := by
    rw [← hW1]; have := World.alloc_heap_new (w.alloc (.deferred (some []))) (.loop (rec .ready none)); rwa [World.size_alloc] at this
  have hD1 : W1.heap[w.heap.size]? = some (.deferred (some [])) := by
    rw [← hW1]; exact (Below.heap_alloc _ _ _ (by simp)).trans (World.alloc_heap_new w _)
  have hb1 : Below w.heap.size w W1 := by
    rw [← hW1]; exact ((Below.refl _ w).alloc (Nat.le_refl _) _).alloc (by simp) _
  have hI1 : I 0 W1 := hI _ _ _ h0 (step_below _ hb1 hB)
  refine ⟨w.heap.size + 1, [{ target := .collected w.heap.size, args := #[] }], W1, { target := .fn (.func gf) lb, args := #[.func (.yield (w.heap.size + 1)) #[] #[]] }, W1, gf,
    #[.func (.yield (w.heap.size + 1)) #[] #[]] ++ lb, W1, ?_, ?_, fun _ _ => trivial, ?_, fun h => (by cases h), ?_⟩
  · rw [← hW1, hrec]; exact run_enterLoop_outer _ _ _ _ _
  · simp only [resolve, hg]
    simp [go_sem]
  · simp [invoke, go_sem, eg]
  · refine (hit (w.heap.size + 1)
      (fun k W => I k W ∧ W.heap[w.heap.size + 1]? = some (.loop (rec .ready none)) ∧ W.heap[w.heap.size]? = some (.deferred (some [])))
      (fun k W => ∃ c, Ix c k W ∧ W.heap[w.heap.size + 1]? = some (.loop (rec .done (some c))) ∧ W.heap[w.heap.size]? = some (.deferred (some [])))
      W1 (by omega) (hS _ hb1)
      (fun k A A' hs ht => ⟨hI k A A' hs.1 (ht.more (fun _ h => h) (fun _ _ h => h) (by omega)), ht.other _ _ (by omega) hs.2.1 rfl, ht.other _ _ (by omega) hs.2.2 rfl⟩)
      (fun k A A' hs ht => by
        obtain ⟨c, hc, hl, hk⟩ := hs
        exact ⟨c, hIx c k A A' hc (ht.more (fun _ h => h) (fun _ _ h => h) (by omega)), ht.other _ _ (by omega) hl rfl, ht.other _ _ (by omega) hk rfl⟩)
      (fun k A i hs hi => hFr k A i hs.1 hi) ?_ ⟨hI1, hL1, hD1⟩).mono ?_
    · rintro k hk W ⟨hi, hl, hd⟩
      have hy := run_yield (P := P) (args := encs xs[k]) hl (by rw [hrec]; exact hps _)
      rw [hrec] at hy
      refine ⟨fn, _, assign, body, hy, roundIn_of_wpIn hfn ?_⟩
      clear hy
      refine wpIn_mono (hround _ k hk W (by omega) hi) ?_
      intro e a₁ W2 hq
      cases e with
      | normal =>
        obtain ⟨r1, kp1, hi2, hbody⟩ := hq
        have hl2 := r1.other _ _ (by omega) hl rfl
        have hd2 := r1.other _ _ (Nat.le_refl _) hd rfl
        have hlt2 : w.heap.size + 1 < W2.heap.size := (Array.getElem?_eq_some_iff.1 hl2).1
        refine ⟨_, run_beginRound hl2 (by rw [hrec]), ?_⟩
        have hl3 : (W2.putObj (w.heap.size + 1) (.loop { rec .ready none with state := .busy })).heap[w.heap.size + 1]? = some (.loop { rec .ready none with state := .busy }) := World.putObj_heap_same hlt2
        have hd3 : (W2.putObj (w.heap.size + 1) (.loop { rec .ready none with state := .busy })).heap[w.heap.size]? = some (.deferred (some [])) := putObj_other hl2 hd2 (by omega)
        have kp2 : Kp W (W2.putObj (w.heap.size + 1) (.loop { rec .ready none with state := .busy })) := hKt kp1 (hKb _ _ _ _ hl2 rfl)
        have r2 : Rnd B W1.heap.size tB W (W2.putObj (w.heap.size + 1) (.loop { rec .ready none with state := .busy })) := (r1.more (fun _ h => h) (by omega)).trans (rnd_put tB _ (by omega) (by omega) hl2 rfl)
        refine wpIn_mono (hbody _ (step_put [] _ (by omega) (by omega) hl2 rfl) World.putObj_size ⟨_, hl3⟩) ?_
        have fin : ∀ (jump : Option Code) (W3 : World), Rnd B w.heap.size tB (W2.putObj (w.heap.size + 1) (.loop { rec .ready none with state := .busy })) W3 →
            (Instr.endRound (w.heap.size + 1) jump).run P W3 = .ok (.bool jump.isNone) (W3.putObj (w.heap.size + 1) (.loop (rec (if jump.isNone then .ready else .done) jump))) ∧
            W3.heap[w.heap.size + 1]? = some (.loop { rec .ready none with state := .busy }) ∧
            (W3.putObj (w.heap.size + 1) (.loop (rec (if jump.isNone then .ready else .done) jump))).heap[w.heap.size + 1]? = some (.loop (rec (if jump.isNone then .ready else .done) jump)) ∧
            (W3.putObj (w.heap.size + 1) (.loop (rec (if jump.isNone then .ready else .done) jump))).heap[w.heap.size]? = some (.deferred (some [])) := fun jump W3 hr => by
          have h3 := hr.other _ _ (by omega) hl3 rfl
          have := run_endRound (P := P) jump h3
          rw [hrec] at this ⊢
          exact ⟨this, by rw [hrec] at h3; exact h3, World.putObj_heap_same (Array.getElem?_eq_some_iff.1 h3).1, putObj_other h3 (hr.other _ _ (Nat.le_refl _) hd3 rfl) (by omega)⟩
        rintro e a3 W3 hp
        cases e with
        | normal =>
          obtain ⟨r3, kp3, hi3⟩ := hp
          obtain ⟨hr, h3, h4, h5⟩ := fin none W3 r3
          exact ⟨_, _, hr, .inl ⟨rfl, ⟨hI _ _ _ hi3 (step_put _ _ (by omega) (by omega) h3 rfl), h4, h5⟩, (r2.trans (r3.more (fun _ h => h) (by omega))).trans (rnd_put tB _ (by omega) (by omega) h3 rfl), hKt (hKt kp2 kp3) (hKb _ _ _ _ h3 rfl)⟩⟩
        | ret =>
          obtain ⟨r3, hi3⟩ := hp
          obtain ⟨hr, h3, h4, h5⟩ := fin (some .ret) W3 r3
          exact ⟨_, _, hr, .inr ⟨rfl, ⟨.ret, hIx _ _ _ _ hi3 (step_put _ _ (by omega) (by omega) h3 rfl), h4, h5⟩, (r2.trans (r3.more (fun _ h => h) (by omega))).trans (rnd_put tB _ (by omega) (by omega) h3 rfl)⟩⟩
        | exit id =>
          obtain ⟨r3, hi3⟩ := hp
          obtain ⟨hr, h3, h4, h5⟩ := fin (some (.exit id)) W3 r3
          exact ⟨_, _, hr, .inr ⟨rfl, ⟨.exit id, hIx _ _ _ _ hi3 (step_put _ _ (by omega) (by omega) h3 rfl), h4, h5⟩, (r2.trans (r3.more (fun _ h => h) (by omega))).trans (rnd_put tB _ (by omega) (by omega) h3 rfl)⟩⟩
        | goto t =>
          obtain ⟨r3, hi3⟩ := hp
          obtain ⟨hr, h3, h4, h5⟩ := fin (some (.goto t)) W3 r3
          exact ⟨_, _, hr, .inr ⟨rfl, ⟨.goto t, hIx _ _ _ _ hi3 (step_put _ _ (by omega) (by omega) h3 rfl), h4, h5⟩, (r2.trans (r3.more (fun _ h => h) (by omega))).trans (rnd_put tB _ (by omega) (by omega) h3 rfl)⟩⟩
        | panic ch => exact hp.elim
        | outgrown => exact hp.elim
      | exit id => exact hq.elim
      | goto t => exact hq.elim
      | ret => exact hq.elim
      | panic ch => exact hq.elim
      | outgrown => exact hq.elim
    · rintro e W2 ⟨⟨v, rfl⟩, (⟨⟨hi, hl, hk⟩, hs⟩ | ⟨k, hkl, c, hi, hl, hk⟩)⟩
      · exact ⟨none, _, by have := run_endLoop (P := P) hl (by rw [hrec]; simp); rw [hrec] at this; exact this, hdone _ _ (Nat.le_refl _) (hI _ _ _ hi (step_put _ _ (by omega) (by omega) hl rfl)) (hS1 _ _ hs (step_put _ _ (by omega) (by omega) hl rfl)) (putObj_other hl hk (by omega))⟩
      · exact ⟨some c, _, by have := run_endLoop (P := P) hl (by rw [hrec]; simp); rw [hrec] at this; exact this, hstop _ c k _ (Nat.le_refl _) hkl (hIx _ _ _ _ hi (step_put _ _ (by omega) (by omega) hl rfl)) (putObj_other hl hk (by omega))⟩
end Go.Proofs.Ytigdmgpejmfceaa
