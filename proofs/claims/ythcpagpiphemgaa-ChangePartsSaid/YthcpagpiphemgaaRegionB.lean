/- Regions that draw their order, in which what is loaded is written at the end: a condition on the world that holds up to the operations that break it, each of which waits for every load that leans on it. -/
import Derived.Test.YthcpagpiphemgaaProg
import Derived.Deep.RegionHeld3
namespace Go.Proofs.Ythcpagpiphemgaa
open Go

section
variable {P : Program} {ops : Array Oper} {Q : Exit → Act → World → Prop} {md : Region.Mode} {S : World → Prop} {brk : List Nat}

/-- Has one of brk come up? -/
def brokenB (brk : List Nat) (listed : Array Bool) : Bool := brk.any fun k => listed.getD k false
/-- Whatever order is picked from here on; S holds behind every operation till one of brk has come up. -/
def wpAnyB (P : Program) (md : Region.Mode) (ops : Array Oper) (Q : Exit → Act → World → Prop) (S : World → Prop) (brk : List Nat) : Nat → Array Bool → Act → World → Prop
  | 0, listed, a, w => Region.ready md ops listed = [] ∧ Q .normal a w
  | fuel + 1, listed, a, w =>
    (Region.ready md ops listed = [] → Q .normal a w) ∧
    ∀ i ∈ Region.ready md ops listed, wpOp P ops Q i (fun a' w' => (brokenB brk (listed.setIfInBounds i true) = true ∨ S w') ∧ wpAnyB P md ops Q S brk fuel (listed.setIfInBounds i true) a' w') a w
theorem wpAny_of_B : ∀ (fuel : Nat) (listed : Array Bool) (a : Act) (w : World), wpAnyB P md ops Q S brk fuel listed a w → wpAny P md ops Q fuel listed a w
  | 0, _, _, _, h => h
  | fuel + 1, _, _, _, h => ⟨h.1, fun i hi => wpOp_mono (fun a' w' h' => wpAny_of_B fuel _ a' w' h'.2) (h.2 i hi)⟩
theorem broken_set {listed : Array Bool} {i : Nat} (h : i ∉ brk) : brokenB brk (listed.setIfInBounds i true) = brokenB brk listed := by
  unfold brokenB
  rw [Bool.eq_iff_iff, List.any_eq_true, List.any_eq_true]
  constructor
  · rintro ⟨k, hk, h1⟩
    refine ⟨k, hk, ?_⟩
    rw [getD_set_ne false (fun e => h (by rw [e]; exact hk))] at h1
    exact h1
  · rintro ⟨k, hk, h1⟩
    refine ⟨k, hk, ?_⟩
    rw [getD_set_ne false (fun e => h (by rw [e]; exact hk))]
    exact h1

/-- Does j wait for i? -/
def waitsB (md : Region.Mode) (ops : Array Oper) (j i : Nat) : Bool :=
  match ops[j]? with
  | some oj => oj.after.any fun e => Region.binds md e && e.on == i
  | none => false
theorem not_ready {listed : Array Bool} {c p : Nat} (hw : waitsB md ops c p = true) (hp : listed.getD p true = false) : c ∉ Region.ready md ops listed := fun hc => by
  obtain ⟨_, oc, hoc, hall⟩ := mem_ready.1 hc
  unfold waitsB at hw
  rw [hoc] at hw
  obtain ⟨e, he, hb⟩ := Array.any_eq_true'.1 hw
  rw [Bool.and_eq_true, beq_iff_eq] at hb
  have h1 := hall e he hb.1
  rw [hb.2] at h1
  rcases Nat.lt_or_ge p listed.size with h' | h'
  · simp [h'] at hp h1; rw [hp] at h1; cases h1
  · simp [Array.getElem?_eq_none h'] at h1

/-- What may come up, and yields in every world that meets T, may be taken first: T is nothing; or S, and as long as it is to come none of brk may (chain: from it up to them). -/
theorem wpAnyB_first {i : Nat} {oi : Oper} {v : Value} {T : World → Prop} (chain : List Nat) (hib : i ∉ brk) (hT : (∀ w, T w) ∨ ((∀ w, S w → T w) ∧ (∀ c ∈ chain, c ≠ i → ∃ p ∈ chain, waitsB md ops c p = true) ∧ ∀ j ∈ brk, j ∈ chain))
    (hi : ops[i]? = some oi) (hsel : ∀ (j : Nat) (o : Oper) cs b, ops[j]? = some o → o.op ≠ .select cs b) (hQ : ∀ c a w, Q (.panic c) (a.put oi.dst v) w → Q (.panic c) a w) :
    ∀ (fuel : Nat) (listed : Array Bool) (a : Act) (w : World),
      (∀ j oj, ops[j]? = some oj → j ≠ i → listed.getD j true = false → (∀ e ∈ oj.after, Region.binds md e = true → e.on ≠ i) → oi.apart ops oj = true) →
      ((∀ w, T w) ∨ ∀ c ∈ chain, listed.getD c true = false) →
      i ∈ Region.ready md ops listed → YieldsIf P ops T oi v a →
      wpAnyB P md ops Q S brk fuel (listed.setIfInBounds i true) (a.put oi.dst v) w → (brokenB brk listed = true ∨ S w) → wpAnyB P md ops Q S brk (fuel + 1) listed a w := by
  have key : ∀ (listed : Array Bool) (w : World), ((∀ w, T w) ∨ ∀ c ∈ chain, listed.getD c true = false) → (brokenB brk listed = true ∨ S w) → T w := fun listed w hun hb => by
    rcases hT with h | ⟨h, _, hbk⟩
    · exact h w
    · rcases hun with h' | hun
      · exact h' w
      · rcases hb with hb | hb
        · unfold brokenB at hb
          obtain ⟨k, hk, h1⟩ := List.any_eq_true.1 hb
          have h2 := hun k (hbk k hk)
          rcases Nat.lt_or_ge k listed.size with h' | h'
          · simp [h'] at h1 h2; rw [h2] at h1; cases h1
          · simp [Array.getElem?_eq_none h'] at h1
        · exact h w hb
  intro fuel
  induction fuel with
  | zero =>
    intro listed a w _ hun hr hy H hb
    refine ⟨fun h => (by rw [h] at hr; cases hr), fun j hj => ?_⟩
    by_cases hji : j = i
    · subst hji
      exact hy.wpOp hi (key listed w hun hb) ⟨by rw [broken_set hib]; exact hb, H⟩
    · have := ready_mono hj hji
      rw [H.1] at this
      cases this
  | succ fuel ih =>
    intro listed a w hfree hun0 hr hy H hb
    refine ⟨fun h => (by rw [h] at hr; cases hr), fun j hj => ?_⟩
    by_cases hji : j = i
    · subst hji; exact hy.wpOp hi (key listed w hun0 hb) ⟨by rw [broken_set hib]; exact hb, H⟩
    · have h1 := H.2 j (ready_mono hj hji)
      obtain ⟨hjun, oj, hoj, hall⟩ := mem_ready.1 hj
      have hnot : ∀ e ∈ oj.after, Region.binds md e = true → e.on ≠ i := fun e he hb heq => by
        have h1 := hall e he hb
        have h0 := (mem_ready.1 hr).1
        rw [heq] at h1
        rcases Nat.lt_or_ge i listed.size with h' | h'
        · simp [h'] at h0 h1; rw [h0] at h1; cases h1
        · simp [Array.getElem?_eq_none h'] at h1
      have h2 := wpOp_putIf hoj (hfree j oj hoj hji hjun hnot) (fun cs b => hsel i oi cs b hi) (fun cs b => hsel j oj cs b hoj) hQ hy h1
      have hfree' : ∀ k ok, ops[k]? = some ok → k ≠ i → (listed.setIfInBounds j true).getD k true = false →
          (∀ e ∈ ok.after, Region.binds md e = true → e.on ≠ i) → oi.apart ops ok = true := fun k ok hk hki hun hno => by
        refine hfree k ok hk hki ?_ hno
        by_cases hjk : j = k
        · subst hjk; exact hjun
        · rw [getD_set_ne true hjk] at hun; exact hun
      have hjc : (∀ w, T w) ∨ j ∉ chain := by
        rcases hT with h | ⟨_, hcw, _⟩
        · exact .inl h
        · rcases hun0 with h | hun
          · exact .inl h
          · refine .inr fun hc => ?_
            obtain ⟨p, hp, hw⟩ := hcw j hc hji
            exact not_ready hw (hun p hp) hj
      have hcomm : (listed.setIfInBounds i true).setIfInBounds j true = (listed.setIfInBounds j true).setIfInBounds i true := Array.setIfInBounds_comm _ _ (fun e => hji e.symm)
      rw [hcomm] at h2
      refine wpOp_mono (fun a' w' h3 => ?_) h2
      have hb3 : brokenB brk (listed.setIfInBounds j true) = true ∨ S w' := by
        have := h3.2.1
        rwa [broken_set hib] at this
      refine ⟨hb3, ih (listed.setIfInBounds j true) a' w' hfree' ?_ (ready_mono hr (Ne.symm hji)) h3.1 h3.2.2 hb3⟩
      rcases hjc with h | h
      · exact .inl h
      · rcases hun0 with h' | hun
        · exact .inl h'
        · refine .inr fun c hc => ?_
          rw [getD_set_ne true (fun e => h (by rw [e]; exact hc))]
          exact hun c hc

/-- The moves: what looks at no memory. -/
theorem wpAnyB_free {i : Nat} {oi : Oper} {v : Value} {fuel : Nat} {listed : Array Bool} {a : Act} {w : World} (hi : ops[i]? = some oi)
    (hib : brk.contains i = false) (hs : Region.noSelect ops = true) (hf : Region.free md ops listed i = true) (hr : (Region.ready md ops listed).contains i = true)
    (hQ : ∀ c a w, Q (.panic c) (a.put oi.dst v) w → Q (.panic c) a w) (hb : brokenB brk listed = true ∨ S w) (hy : ∀ w, (execOp a.eval oi).run P w = .ok (.value v) w) (hw : Region.wanted oi (yielded ops a.tmps) = true)
    (h : wpAnyB P md ops Q S brk fuel (listed.setIfInBounds i true) (a.put oi.dst v) w) : wpAnyB P md ops Q S brk (fuel + 1) listed a w :=
  wpAnyB_first (T := fun _ => True) [] (fun hh => by rw [List.contains_iff_mem.2 hh] at hib; cases hib) (.inl fun _ => trivial) hi (Region.noSelect_spec hs) hQ fuel listed a w (Region.free_spec hi hf) (.inl fun _ => trivial) (by simpa using hr) (.inl ⟨hw, fun w _ => hy w⟩) h hb
/-- .. what looks at memory of which S tells. -/
def chainOk (md : Region.Mode) (ops : Array Oper) (listed : Array Bool) (brk : List Nat) (i : Nat) (chain : List Nat) : Bool :=
  (chain.all fun c => c == i || chain.any fun p => waitsB md ops c p) && (brk.all fun j => chain.contains j) && chain.all fun c => !(listed.getD c true)
theorem wpAnyB_load (chain : List Nat) {i : Nat} {oi : Oper} {v : Value} {fuel : Nat} {listed : Array Bool} {a : Act} {w : World} (hi : ops[i]? = some oi)
    (hib : brk.contains i = false) (hs : Region.noSelect ops = true) (hf : Region.free md ops listed i = true) (hr : (Region.ready md ops listed).contains i = true) (hc : chainOk md ops listed brk i chain = true)
    (hQ : ∀ c a w, Q (.panic c) (a.put oi.dst v) w → Q (.panic c) a w) (hb : brokenB brk listed = true ∨ S w) (hy : ∀ w, S w → (execOp a.eval oi).run P w = .ok (.value v) w) (hw : Region.wanted oi (yielded ops a.tmps) = true)
    (h : wpAnyB P md ops Q S brk fuel (listed.setIfInBounds i true) (a.put oi.dst v) w) : wpAnyB P md ops Q S brk (fuel + 1) listed a w := by
  unfold chainOk at hc
  rw [Bool.and_eq_true, Bool.and_eq_true, List.all_eq_true, List.all_eq_true, List.all_eq_true] at hc
  obtain ⟨⟨h1, h2⟩, h3⟩ := hc
  refine wpAnyB_first (T := S) chain (fun hh => by rw [List.contains_iff_mem.2 hh] at hib; cases hib) (.inr ⟨fun _ h => h, fun c hc hne => ?_, fun j hj => List.contains_iff_mem.1 (h2 j hj)⟩) hi (Region.noSelect_spec hs) hQ fuel listed a w (Region.free_spec hi hf) (.inr fun c hc => by simpa using h3 c hc) (by simpa using hr) (.inl ⟨hw, hy⟩) h hb
  have := h1 c hc
  rw [Bool.or_eq_true, beq_iff_eq, List.any_eq_true] at this
  exact this.resolve_left hne
/-- The one that may come up. -/
theorem wpAnyB_one {i : Nat} {o : Oper} {fuel : Nat} {listed : Array Bool} {a : Act} {w : World} (ho : ops[i]? = some o) (hr : Region.ready md ops listed = [i])
    (h : ∀ K' : Act → World → Prop, (∀ a w, (brokenB brk (listed.setIfInBounds i true) = true ∨ S w) → wpAnyB P md ops Q S brk fuel (listed.setIfInBounds i true) a w → K' a w) → if Region.wanted o (yielded ops a.tmps) = true then Oper.wp P o a w K' Q else K' (a.put o.dst undef) w) :
    wpAnyB P md ops Q S brk (fuel + 1) listed a w :=
  ⟨fun h0 => (by rw [hr] at h0; cases h0), fun j hj => by
    rw [hr] at hj
    obtain rfl : j = i := by simpa using hj
    exact wpOp_step ho (fun K' hK => h K' (fun a w hS hW => hK a w ⟨hS, hW⟩))⟩
theorem wpAnyB_done {listed : Array Bool} {a : Act} {w : World} (hr : Region.ready md ops listed = []) (h : Q .normal a w) : wpAnyB P md ops Q S brk 0 listed a w := ⟨hr, h⟩
theorem wp_region_B (S : World → Prop) (brk : List Nat) {id : Nat} {a : Act} {w : World} (hm : P.follows .mixedOrders = true)
    (h : wpAnyB P .any ops Q S brk ops.size (Array.replicate ops.size false) a w.drew) : (Code.region id ops true).wp P Q a w :=
  wp_region_any hm (wpAny_of_B _ _ _ _ h)
end
end Go.Proofs.Ythcpagpiphemgaa
