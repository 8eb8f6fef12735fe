/- Texts of this seat, put together in build order: OpenIntA, AtLent, AtKept, ChSpan, ChLent, ChKept, ChBox, RqR, RqS, RqQ, RqT, RqV, RqW, RqX, RqY, RqYa, RqZ, Rr0, SpPs, SpellParsesUptoProof. -/
import Derived.Test.YtacgkbdldbppjaaGreatDoorZ6
import Derived.OwnWalk
import Derived.BigRegion
import Derived.LoopTactic
import Derived.Deep.LoopGhost
import Derived.Test.YtacgkbdldbppjaaGreatDoorCards
import Derived.Test.YtacgkbdldbppjaaGreatDoorTie
import Derived.ProofKit
import Derived.OpenShut
import Derived.Deep.DeepHandedRow
import Derived.Lay
import Derived.SevenTiedAt
/- An argument opened: a whole number. -/
namespace Go.Proofs.YtacgkbdldbppjaaGreatDoor
open Go.RowKit Go.ChangeShapes Go.WideShapes Go.Deep Go.Joins

set_option maxRecDepth 100000 in
theorem open_intC {H : Type} {enc : TypeId × Value → H} {W : World} {base : Nat} {v : Value} {d : DataW H} {p : List MemPlace} (hv : Value.okWide Tryz.prog W .any base 3 v)
    (h : DataW.Trod enc Tryz.prog W 0 (fun _ => true) true 3 v d p) : ∃ n : Int, v = .int .i64 n ∧ -9223372036854775808 ≤ n ∧ n ≤ 9223372036854775807 := by
  obtain ⟨n, e, _, _, hw⟩ := open_int Tryz.underlying3 hv h
  simp only [Lit.wf, IntKind.min, IntKind.max, IntKind.signed, IntKind.bits, Bool.and_eq_true, decide_eq_true_eq, if_true] at hw
  exact ⟨n, e, by omega, by omega⟩
end Go.Proofs.YtacgkbdldbppjaaGreatDoor

/- Lent, Kept, Spoil: attributes in memory of their own, whether they were kept, and their owner writes over them. -/
namespace Go.Proofs.YtacgkbdldbppjaaGreatDoor
open Go.RowKit At

def mark : ByteArray × ByteArray := (⟨#[109, 97, 114, 107]⟩, ⟨#[]⟩)
def LentOut (W : World) (l : List (ByteArray × ByteArray)) (e : Ending) (w' : World) : Prop :=
  ∃ g, e = .returned (.slice (some ⟨g, 0, none⟩) l.length (l.length + 1)) ∧ w'.ownsRow W.heap.size 52 2 (.slice (some ⟨g, 0, none⟩) (l.length + 1) (l.length + 1)) (l.length + 1) (flat (l ++ [mark])) ∧ Below W.heap.size W w'

set_option maxRecDepth 100000 in
set_option maxHeartbeats 4000000 in
theorem lent_any (v : Value) (l : List (ByteArray × ByteArray)) (w : World) (hv : AtRow w v l) (hp : Proper v) (hr : l.length * 32 ≤ 140737488351232) :
    Calls Tryz.prog 28 #[v] w (LentOut w l) := by
  have Hv := Lib.hid hv
  have Hp := Lib.hid hp
  obtain ⟨ao, cap, rfl, _⟩ := hv
  have hnone := fun h : ao = none => by subst h; exact hp _ _ rfl
  have Hnone := Lib.hid hnone
  have Hr := Lib.hid hr
  have hn : l.length ≤ 4398046511104 := by omega
  have e0 : ([] : List Value) ++ flat l = flat l := rfl
  have e1 : 0 + l.length = l.length := Nat.zero_add _
  have E1 := Lib.hid (And.intro e0 e1)
  obtain ⟨i0, hi, hz0, hz1, hz2⟩ := info_parts infoAttr
  have Hi := Lib.hid (And.intro hi (And.intro hz0 (And.intro hz1 hz2)))
  have b1 : i0.bytes * (l.length + 1) ≤ 281474976710656 := by rw [hz2]; omega
  have b2 : l.length + 1 ≤ maxLen := by unfold maxLen; omega
  have Hb := Lib.hid (And.intro b1 b2)
  clear hp hr hnone hi hz0 hz1 hz2 b1 b2 e0 e1
  go_enter Tryz.func28, Tryz.ntmps28
  go_wp2_with (first
    | (at_make; refine wpList_make_own _ rfl _ _ 46 rfl w.heap.size 52 i0 (.agg #[.string ⟨#[]⟩, .string ⟨#[]⟩]) 2 Tryz.underlying46 Hi.out.1 Hi.out.2.1 Hi.out.2.2.1 .i64 .i64 _ (l.length + 1) rfl rfl rfl Hb.out.1 Hb.out.2 (Nat.le_refl _) ?_; intro w1 o1 g1; have O1 := Lib.hid o1; have B1 := Lib.hid ((Below.refl w.heap.size w).grown g1 (Nat.le_refl _) (fun k hk => by cases hk)); clear o1 g1)
    | (at_builtin; refine wpList_append_fits_any _ rfl (.tmp 7) (.tmp 8) 46 rfl w.heap.size 52 i0 2 Tryz.underlying46 Hi.out.1 Hi.out.2.2.1 w.heap.size 0 (l.length + 1) [] rfl O1.out ao l.length cap (flat l) rfl (flat_len l) Hnone.out (news_any (Hv.out.below B1.out)) flat_one (by omega) ?_; intro w2 o2 g2; rw [E1.out.1, E1.out.2] at o2; have O2 := Lib.hid o2; have B2 := Lib.hid (B1.out.grown g2 B1.out.size (fun k hk => by cases hk; exact Nat.le_refl _)); clear o2 g2)
    | (at_builtin; refine wpList_append_fits _ rfl (.tmp 10) (.tmp 12) 46 rfl w.heap.size 52 i0 2 Tryz.underlying46 Hi.out.1 Hi.out.2.2.1 w.heap.size l.length (l.length + 1) (flat l) rfl (O2.out.alloc _) ⟨w2.heap.size, 0, none⟩ 1 1 [.string mark.1, .string mark.2] rfl rfl (new_at2 _ _ _ _) (fun u hu => by simp at hu; rcases hu with rfl | rfl <;> rfl) (Nat.le_refl _) ?_; intro w3 o3 g3; rw [← flat_snoc] at o3; have O3 := Lib.hid o3; have B3 := Lib.hid ((B2.out.alloc B2.out.size _).grown g3 (Nat.le_trans B2.out.size (by simp)) (fun k hk => by cases hk; exact Nat.le_refl _)); clear o3 g3)
    | (refine wpList_sliced (.slice (some ⟨w.heap.size, 0, none⟩) (l.length + 1) (l.length + 1)) (.slice (some ⟨w.heap.size, 0, none⟩) l.length (l.length + 1)) rfl (slice_own _ _ _ _ (Nat.le_succ _) _) ?_))
  go_ret
  exact ⟨_, rfl, O3.out, B3.out⟩

/-- One cell pair written over in one's own row. -/
theorem own_stored2 {w : World} {B g n cap j : Nat} {xs : List Value} (h : w.ownsRow B 52 2 (.slice (some ⟨g, 0, none⟩) n cap) n xs) (u v : Value) :
    ∃ ys, ((w.setCell ⟨g, j * 2, none⟩ u).setCell ⟨g, j * 2 + 1, none⟩ v).ownsRow B 52 2 (.slice (some ⟨g, 0, none⟩) n cap) n ys :=
  ⟨_, ((h.stored (j * 2) u).1.stored (j * 2 + 1) v).1⟩
theorem own_cell {w : World} {B g n cap j : Nat} {xs : List Value} (h : w.ownsRow B 52 2 (.slice (some ⟨g, 0, none⟩) n cap) n xs) (hj : j < n * 2) : ∃ u, w.cell? ⟨g, j, none⟩ = some u := by
  have hl : j < xs.length := by rw [h.1]; exact hj
  exact ⟨xs[j], by rw [h.cellAt j hj]; exact List.getElem?_eq_getElem hl⟩

def SpoilOut (W : World) (v : Value) (n : Nat) (e : Ending) (w' : World) : Prop := e = .returned (.int .i64 ((n + 1 : Nat) : Int)) ∧ W.grownBy w' v.ownBlock
set_option maxRecDepth 100000 in
set_option maxHeartbeats 4000000 in
theorem spoil_any (v : Value) (B n : Nat) (xs : List Value) (w : World) (h : w.ownsRow B 52 2 v n xs) (hn : n ≤ 64) (hB : B ≤ w.heap.size) :
    Calls Tryz.prog 51 #[v] w (SpoilOut w v n) := by
  have H := Lib.hid h
  obtain ⟨ao, cap, rfl⟩ := own_slice h
  have hn' : n ≤ 9223372036854775807 := by omega
  have h63 : n + 1 ≤ 4096 := by omega
  have H63 := Lib.hid h63
  clear h h63
  go_enter Tryz.func51, Tryz.ntmps51
  go_wp2_with fail
  go_loopw [3] (fun i wr => ∃ (k : Nat) (ys : List Value), i = .int .i64 (k : Int) ∧ k ≤ n ∧ wr.ownsRow B 52 2 (.slice ao n cap) n ys ∧ w.grownBy wr (Value.slice ao n cap).ownBlock) (fun i _ => n - (intOf i).toNat)
  case atStart => exact ⟨0, xs, rfl, Nat.zero_le _, H.out, grown_refl _ _⟩
  case round =>
    obtain ⟨k, ys, rfl, hk, hown, hg⟩ := hrel
    by_cases hlt : k < n
    · have hlt' : (k : Int) < (n : Int) := by omega
      obtain ⟨g, cap', he⟩ := ownsRow_open hown (by omega)
      simp only [Value.slice.injEq, true_and] at he
      obtain ⟨rfl, rfl⟩ := he
      obtain ⟨u1, c1⟩ := own_cell hown (j := k * 2) (by omega)
      obtain ⟨u2, c2⟩ := own_cell hown (j := k * 2 + 1) (by omega)
      have f1 : wr.frozen? ⟨g, k * 2, none⟩ = false := hown.frozenAt _
      have f2 : wr.frozen? ⟨g, k * 2 + 1, none⟩ = false := hown.frozenAt _
      obtain ⟨zs, hz⟩ := own_stored2 (j := k) hown (.string ⟨#[115, 112, 111, 105, 108, 116]⟩) (.string ⟨#[]⟩)
      have Hz := Lib.hid hz
      have Hg := Lib.hid (only_setCell (only_setCell hg (p := ⟨g, k * 2, none⟩) rfl (.string ⟨#[115, 112, 111, 105, 108, 116]⟩)) (p := ⟨g, k * 2 + 1, none⟩) rfl (.string ⟨#[]⟩))
      clear hown hg hz
      go_wp2_with fail
      go_roundw
      case rel => exact ⟨k + 1, zs, by go_num, by omega, Hz.out, Hg.out⟩
      case measure => simp [intOf]; omega
    · have hkn : k = n := by omega
      subst hkn
      have Hown := Lib.hid hown
      have Hg := Lib.hid hg
      have hBw : B ≤ wr.heap.size := Nat.le_trans hB hg.size
      clear hown hg hk hlt
      go_wp2_with (at_builtin; refine wpList_append_one rfl (.tmp 14) (.tmp 16) rfl B (.slice ao k cap) k ys (⟨#[109, 111, 114, 101]⟩, ⟨#[]⟩) rfl rfl Hown.out (k + 1) _ rfl rfl H63.out hBw ?_; intro u2 w2 o2 g2; obtain ⟨a2, c2, rfl⟩ := own_slice o2; have G2 := Lib.hid (grown_trans (grown_trans Hg.out (World.grownBy_alloc _ _ _)) g2); clear o2 g2)
      go_ret
      exact ⟨by simp, G2.out⟩
end Go.Proofs.YtacgkbdldbppjaaGreatDoor

/- Kept: were the attributes kept, and the mark behind them? -/
namespace Go.Proofs.YtacgkbdldbppjaaGreatDoor
open Go.RowKit At

theorem row_lent {w : World} {B g : Nat} {l : List (ByteArray × ByteArray)} (h : w.ownsRow B 52 2 (.slice (some ⟨g, 0, none⟩) (l.length + 1) (l.length + 1)) (l.length + 1) (flat (l ++ [mark]))) :
    AtRow w (.slice (some ⟨g, 0, none⟩) l.length (l.length + 1)) l := by
  have hlt := (h.lt g rfl).2
  have hm : l.length + 1 ≤ maxLen := by
    rcases h.2 with ⟨h0, _⟩ | ⟨g', cap, cur, h0, _, _, _, hm, _⟩
    · simp at h0
    · simp only [Value.slice.injEq] at h0
      omega
  refine ⟨_, l.length + 1, rfl, Nat.le_succ _, hm, fun i hi => ⟨g, 0, rfl, hlt, ?_, ?_⟩⟩
  · rw [Nat.zero_add, h.cellAt _ (by omega), flat_append, List.getElem?_append_left (by rw [flat_len]; omega), flat_at0 hi]
  · rw [Nat.zero_add, h.cellAt _ (by omega), flat_append, List.getElem?_append_left (by rw [flat_len]; omega), flat_at1 hi]
theorem mark_lent {w : World} {B g : Nat} {l : List (ByteArray × ByteArray)} (h : w.ownsRow B 52 2 (.slice (some ⟨g, 0, none⟩) (l.length + 1) (l.length + 1)) (l.length + 1) (flat (l ++ [mark]))) :
    w.cell? ⟨g, l.length * 2, none⟩ = some (.string ⟨#[109, 97, 114, 107]⟩) := by
  rw [h.cellAt _ (by omega), flat_append, List.getElem?_append_right (by rw [flat_len]; omega), flat_len, Nat.sub_self]
  rfl

def KeptOut (W : World) (g : Nat) (e : Ending) (w' : World) : Prop := e = .returned (.bool true) ∧ W.grownBy w' (some g)
set_option maxRecDepth 100000 in
set_option maxHeartbeats 4000000 in
theorem kept_any (v : Value) (B g : Nat) (l : List (ByteArray × ByteArray)) (w : World) (h : w.ownsRow B 52 2 (.slice (some ⟨g, 0, none⟩) (l.length + 1) (l.length + 1)) (l.length + 1) (flat (l ++ [mark]))) (hv : AtRow w v l) (hr : l.length ≤ 4398046511104) :
    Calls Tryz.prog 35 #[.slice (some ⟨g, 0, none⟩) l.length (l.length + 1), v] w (KeptOut w g) := by
  have H := Lib.hid h
  have hs : sameB l l = true := decide_eq_true rfl
  have Hs := Lib.hid (refSame_any _ v l l w (row_lent h) hv)
  rw [hs] at Hs
  have hmk := mark_lent h
  have hn' : l.length + 1 ≤ 9223372036854775807 := by omega
  clear h hv hs
  go_enter Tryz.func35, Tryz.ntmps35
  go_wp2_with fail
  refine Hs.out.mono ?_
  rintro e w1 ⟨rfl, m, rfl⟩
  go_wp2_with (refine wpList_sliced (.slice (some ⟨g, 0, none⟩) l.length (l.length + 1)) (.slice (some ⟨g, 0, none⟩) (l.length + 1) (l.length + 1)) rfl (slice_own _ _ _ _ (Nat.le_refl _) _) ?_)
  go_loopw [8] (fun i wr => ∃ (k : Nat) (ys : List Value), i = .int .i64 (k : Int) ∧ k ≤ l.length + 1 ∧ wr.ownsRow B 52 2 (.slice (some ⟨g, 0, none⟩) (l.length + 1) (l.length + 1)) (l.length + 1) ys ∧ w.grownBy wr (some g)) (fun i _ => l.length + 1 - (intOf i).toNat)
  case atStart => exact ⟨0, _, rfl, Nat.zero_le _, row_below H.out (below_drewN (Below.refl _ _) _), only_drewN (grown_refl _ _) _⟩
  case round =>
    obtain ⟨k, ys, rfl, hk, hown, hg⟩ := hrel
    by_cases hlt : k < l.length + 1
    · have hlt' : (k : Int) < (l.length : Int) + 1 := by omega
      obtain ⟨u1, c1⟩ := own_cell hown (j := k * 2) (by omega)
      obtain ⟨u2, c2⟩ := own_cell hown (j := k * 2 + 1) (by omega)
      have f1 : wr.frozen? ⟨g, k * 2, none⟩ = false := hown.frozenAt _
      have f2 : wr.frozen? ⟨g, k * 2 + 1, none⟩ = false := hown.frozenAt _
      obtain ⟨zs, hz⟩ := own_stored2 (j := k) hown (.string ⟨#[115, 112, 111, 105, 108, 116]⟩) (.string ⟨#[]⟩)
      have Hz := Lib.hid hz
      have Hg := Lib.hid (only_setCell (only_setCell hg (p := ⟨g, k * 2, none⟩) rfl (.string ⟨#[115, 112, 111, 105, 108, 116]⟩)) (p := ⟨g, k * 2 + 1, none⟩) rfl (.string ⟨#[]⟩))
      clear hown hg hz hmk
      go_wp2_with fail
      go_roundw
      case rel => exact ⟨k + 1, zs, by go_num, by omega, Hz.out, Hg.out⟩
      case measure => simp [intOf]; omega
    · have hkn : k = l.length + 1 := by omega
      subst hkn
      have Hg := Lib.hid hg
      have t1 : decide ((l.length : Int) + 1 < (l.length : Int) + 1) = false := decide_eq_false (by omega)
      clear hown hg hk hlt hmk
      go_wp2_with fail
      go_ret
      exact ⟨rfl, Hg.out⟩
end Go.Proofs.YtacgkbdldbppjaaGreatDoor

/- What a call keeps that writes over rows that it was given: a span of blocks; the blocks' shapes. -/
namespace Go.Proofs.YtacgkbdldbppjaaGreatDoor
open Go.RowKit Ch At

/-- Below lo, and from hi on, all that was there stays. -/
structure Span (lo hi : Nat) (w w' : World) : Prop where
  below : Below lo w w'
  block : ∀ i, i < w.heap.size → hi ≤ i → w'.heap[i]? = w.heap[i]?
theorem Span.refl (lo hi : Nat) (w : World) : Span lo hi w w := ⟨Below.refl _ _, fun _ _ _ => rfl⟩
theorem Span.trans {lo hi : Nat} {a b c : World} (h : Span lo hi a b) (k : Span lo hi b c) : Span lo hi a c :=
  ⟨h.below.trans k.below, fun i hi' hh => (k.block i (Nat.lt_of_lt_of_le hi' h.below.size) hh).trans (h.block i hi' hh)⟩
theorem span_below {lo hi : Nat} {w w' : World} (h : Below w.heap.size w w') (hl : lo ≤ w.heap.size) : Span lo hi w w' := ⟨h.mono hl, fun i hi' _ => h.block i hi'⟩
theorem span_set {lo hi : Nat} {w : World} {p : Addr} (h1 : lo ≤ p.block) (h2 : p.block < hi) (u : Value) : Span lo hi w (w.setCell p u) :=
  ⟨(Below.refl _ _).setCell h1 u, fun i _ hh => Below.heap_setCell w p u i (by omega)⟩
theorem span_grown {lo hi : Nat} {w w' : World} {row : Option Nat} (hg : w.grownBy w' row) (hl : lo ≤ w.heap.size) (hr : ∀ k, row = some k → lo ≤ k ∧ k < hi) : Span lo hi w w' :=
  ⟨(Below.refl _ _).grown hg hl fun k hk => (hr k hk).1, fun i hi' hh => hg.block i hi' (fun e => by have := (hr i e.symm).2; omega)⟩
theorem Span.drew {lo hi : Nat} {a w : World} (h : Span lo hi a w) : Span lo hi a w.drew := ⟨h.below.drew, h.block⟩
theorem Span.own {lo hi B k n : Nat} {w w' : World} {e : TypeId} {v : Value} {xs : List Value} (hs : Span lo hi w w') (h : w.ownsRow B e k v n xs) (hb : hi ≤ B) : w'.ownsRow B e k v n xs :=
  ⟨h.1, h.2.imp id fun ⟨g, cap, cur, a, b, c, d⟩ => ⟨g, cap, cur, a, b, (hs.block g (lt_of_heap c) (Nat.le_trans hb b)).trans c, d⟩⟩
theorem OwnP.span {lo hi B : Nat} {w w' : World} {v : Value} {ps : List PA} (h : OwnP w B v ps) (hs : Span lo hi w w') (hb : hi ≤ B) : OwnP w' B v ps :=
  ⟨hs.own h.1 hb, fun p hp => hs.own (h.2 p hp) hb⟩
theorem OwnOps.span {lo hi B : Nat} {w w' : World} {v : Value} {l : List OpD} (h : OwnOps w B v l) (hs : Span lo hi w w') (hb : hi ≤ B) : OwnOps w' B v l := by
  obtain ⟨ps, e, h⟩ := h
  exact ⟨ps, e, h.span hs hb⟩

/-- Each block of cells stays one, of so many cells. -/
def Shape (w w' : World) : Prop := ∀ (i : Nat) (cs : Array Value) (e : TypeId) (fr : Nat × Nat), w.heap[i]? = some (.cells cs e fr) → ∃ cs' : Array Value, w'.heap[i]? = some (.cells cs' e fr) ∧ cs'.size = cs.size
theorem Shape.refl (w : World) : Shape w w := fun _ cs _ _ h => ⟨cs, h, rfl⟩
theorem Shape.trans {a b c : World} (h : Shape a b) (k : Shape b c) : Shape a c := fun i cs e fr hi => by
  obtain ⟨cs1, h1, s1⟩ := h i cs e fr hi
  obtain ⟨cs2, h2, s2⟩ := k i cs1 e fr h1
  exact ⟨cs2, h2, s2.trans s1⟩
theorem shape_below {w w' : World} (h : Below w.heap.size w w') : Shape w w' := fun i cs _ _ hi => ⟨cs, (h.block i (lt_of_heap hi)).trans hi, rfl⟩
theorem shape_set (w : World) (p : Addr) (u : Value) : Shape w (w.setCell p u) := fun i cs e fr hi => by
  by_cases h : i = p.block
  · subst h
    by_cases hsp : p.spot.isSome = true
    · exact ⟨cs, by simp [World.setCell, Array.getElem?_modify, hi, hsp], rfl⟩
    · exact ⟨cs.setIfInBounds p.off u, by simp [World.setCell, Array.getElem?_modify, hi, hsp], by simp⟩
  · exact ⟨cs, (Below.heap_setCell w p u i h).trans hi, rfl⟩
theorem shape_sets (b : Nat) (news : List Value) : ∀ (off : Nat) (w : World), Shape w (w.setCells b off news) := by
  induction news with
  | nil => intro off w; exact Shape.refl w
  | cons x r ih =>
    intro off w
    exact (shape_set w _ x).trans (ih _ _)
theorem shape_grown {w w' : World} (h : w.grownBy w' none) : Shape w w' := fun i cs _ _ hi => ⟨cs, (h.block i (lt_of_heap hi) (by simp)).trans hi, rfl⟩
theorem Shape.own {w w' : World} (hs : Shape w w') {B k n : Nat} {e : TypeId} {v : Value} {xs : List Value} (h : w.ownsRow B e k v n xs) : ∃ ys, w'.ownsRow B e k v n ys := by
  rcases h.2 with ⟨hv, h0⟩ | ⟨g, cap, cur, hv, hb, hg, h1, h2, h3, h4⟩
  · exact ⟨xs, h.1, .inl ⟨hv, h0⟩⟩
  · obtain ⟨cs', h', hs'⟩ := hs g cur e (0, 0) hg
    have hsz : cs'.size = cap * k := hs'.trans h3
    refine ⟨cs'.toList.take (n * k), ?_, .inr ⟨g, cap, cs', hv, hb, h', h1, h2, hsz, rfl⟩⟩
    rw [List.length_take, Array.length_toList, hsz]
    exact Nat.min_eq_left (Nat.mul_le_mul_right _ h1)

theorem run_append_shape {P : Program} (w : World) (base : Nat) (t ty e : TypeId) (i : TypeInfo) (z : Value) (size bytes : Nat) (ht : P.underlying t = some (.slice e)) (hi : P.info? e = some i) (hz : i.zero = some z)
    (hsize : i.size = size) (hby : i.bytes = bytes) (hzs : z.cells.size = size) (hsz : 0 < size)
    (v : Value) (n : Nat) (xs : List Value) (hown : w.ownsRow base e size v n xs)
    (a : Addr) (m c : Nat) (news : List Value) (hl : news.length = m * size) (hnews : ∀ j u, news[j]? = some u → w.cell? (a.add j) = some u) (h1 : ∀ u ∈ news, u.oneCell' = true)
    (h63 : n + m ≤ maxLen) (hbytes : (n + m) * bytes ≤ 140737488355328) (hbase : base ≤ w.heap.size) :
    ∃ v' w', (Builtin.append_ #[t, t] ty #[v, .slice (some a) m c]).run P w = .ok v' w' ∧ w'.ownsRow base e size v' (n + m) (xs ++ news) ∧ w.grownBy w' v.ownBlock ∧ Shape w w' := by
  obtain ⟨v', w', hrun, h2, h3, _⟩ := run_append_own (P := P) w base t ty e i z size bytes ht hi hz hsize hby hzs hsz v n xs hown a m c news hl hnews h1 h63 hbytes hbase
  refine ⟨v', w', hrun, h2, h3, ?_⟩
  rcases hown.2 with ⟨rfl, rfl⟩ | ⟨g, cap, cur, rfl, hb, hg, hn, hm, hc, ht2⟩
  · exact shape_grown h3
  · by_cases hroom : n + m ≤ cap
    · have hrr := run_append_room_cells (P := P) w t ty e i ht hi g 0 n cap a m c news (by rw [hsize]; exact hl) hnews h1 hroom
        (fun k hk => by
          have hk2 : n * i.size + k < cur.size := by
            rw [hc, hsize]
            have : n * size + m * size ≤ cap * size := by rw [← Nat.add_mul]; exact Nat.mul_le_mul_right _ hroom
            omega
          simp [World.cell?, hg, Array.getElem?_eq_getElem hk2])
        (fun k hk => by simp [World.frozen?, hg])
      rw [hrun] at hrr
      simp only [Result.ok.injEq] at hrr
      obtain ⟨_, rfl⟩ := hrr
      exact shape_sets _ _ _ _
    · obtain ⟨v2, w2, hrun2, k2, k3⟩ := run_append_arg_grows (P := P) w t ty e i z size bytes ht hi hz hsize hby hzs hsz ⟨g, 0, none⟩ n cap xs hown.1 (hown.cells (g := g) rfl) a m c news hl hnews (by omega) h63 hbytes
      rw [hrun] at hrun2
      simp only [Result.ok.injEq] at hrun2
      obtain ⟨rfl, rfl⟩ := hrun2
      exact shape_grown k3
theorem wpList_append_shape {P : Program} {ops : Array Oper} {rest : List Oper} {o : Oper} {a : Act} {w : World} {Q : Exit → Act → World → Prop}
    (hgd : o.guard = none) (s x : Operand) (t : TypeId) (hop : o.op = Op.call { callee := Callee.builtin Builtin.append, args := #[s, x], argTypes := #[t, t] })
    (e : TypeId) (i : TypeInfo) (z : Value) (size bytes : Nat) (h1 : P.underlying t = some (.slice e)) (h2 : P.info? e = some i) (h3 : i.zero = some z) (h4 : i.size = size) (h5 : i.bytes = bytes) (h6 : z.cells.size = size) (h7 : 0 < size)
    (base : Nat) (v : Value) (n : Nat) (xs : List Value) (hs : a.eval s = v) (hown : w.ownsRow base e size v n xs)
    (ad : Addr) (m c : Nat) (news : List Value) (hx : a.eval x = .slice (some ad) m c) (hn : news.length = m * size) (hc : ∀ j u, news[j]? = some u → w.cell? (ad.add j) = some u) (h1c : ∀ u ∈ news, u.oneCell' = true)
    (b1 : n + m ≤ maxLen) (b2 : (n + m) * bytes ≤ 140737488355328) (hbase : base ≤ w.heap.size)
    (h : ∀ v' w', w'.ownsRow base e size v' (n + m) (xs ++ news) → w.grownBy w' v.ownBlock → Shape w w' → wpList P ops Q rest (a.put o.dst v') w') : wpList P ops Q (o :: rest) a w := by
  refine wpList_plain hgd fun K hK => ?_
  obtain ⟨v', w', hr, r1, r2, r3⟩ := run_append_shape (P := P) w base t o.type e i z size bytes h1 h2 h3 h4 h5 h6 h7 v n xs hown ad m c news hn hc h1c b1 b2 hbase
  unfold Oper.wp execOp
  simp only [hop, resolve, invoke, builtin, Sem.run_bind, Sem.run_pure, Result.andThen_ok, List.map_toArray, List.map_cons, List.map_nil, hs, hx, hr]
  exact hK _ _ (h v' w' r1 r2 r3)

def SpoilOut2 (W : World) (v : Value) (n : Nat) (e : Ending) (w' : World) : Prop := e = .returned (.int .i64 ((n + 1 : Nat) : Int)) ∧ W.grownBy w' v.ownBlock ∧ Shape W w'
set_option maxHeartbeats 4000000 in
theorem spoil2_any (v : Value) (B n : Nat) (xs : List Value) (w : World) (h : w.ownsRow B 52 2 v n xs) (hn : n ≤ 1048576) (hB : B ≤ w.heap.size) :
    Calls Tryz.prog 51 #[v] w (SpoilOut2 w v n) := by
  have H := Lib.hid h
  obtain ⟨ao, cap, rfl⟩ := own_slice h
  have hn' : n ≤ 9223372036854775807 := by omega
  have h63 : n + 1 ≤ 1048577 := by omega
  have H63 := Lib.hid h63
  obtain ⟨i0, hi, hz0, hz1, hz2⟩ := info_parts infoAttr
  have Hi := Lib.hid (And.intro hi (And.intro hz0 (And.intro hz1 hz2)))
  clear h h63 hi hz0 hz1 hz2
  go_enter Tryz.func51, Tryz.ntmps51
  go_wp2_with fail
  go_loopw [3] (fun i wr => ∃ (k : Nat) (ys : List Value), i = .int .i64 (k : Int) ∧ k ≤ n ∧ wr.ownsRow B 52 2 (.slice ao n cap) n ys ∧ w.grownBy wr (Value.slice ao n cap).ownBlock ∧ Shape w wr) (fun i _ => n - (intOf i).toNat)
  case atStart => exact ⟨0, xs, rfl, Nat.zero_le _, H.out, grown_refl _ _, Shape.refl _⟩
  case round =>
    obtain ⟨k, ys, rfl, hk, hown, hg, hsh⟩ := hrel
    by_cases hlt : k < n
    · have hlt' : (k : Int) < (n : Int) := by omega
      obtain ⟨g, cap', he⟩ := ownsRow_open hown (by omega)
      simp only [Value.slice.injEq, true_and] at he
      obtain ⟨rfl, rfl⟩ := he
      obtain ⟨u1, c1⟩ := own_cell hown (j := k * 2) (by omega)
      obtain ⟨u2, c2⟩ := own_cell hown (j := k * 2 + 1) (by omega)
      have f1 : wr.frozen? ⟨g, k * 2, none⟩ = false := hown.frozenAt _
      have f2 : wr.frozen? ⟨g, k * 2 + 1, none⟩ = false := hown.frozenAt _
      obtain ⟨zs, hz⟩ := own_stored2 (j := k) hown (.string ⟨#[115, 112, 111, 105, 108, 116]⟩) (.string ⟨#[]⟩)
      have Hz := Lib.hid hz
      have Hg := Lib.hid (And.intro (only_setCell (only_setCell hg (p := ⟨g, k * 2, none⟩) rfl (.string ⟨#[115, 112, 111, 105, 108, 116]⟩)) (p := ⟨g, k * 2 + 1, none⟩) rfl (.string ⟨#[]⟩)) ((hsh.trans (shape_set _ ⟨g, k * 2, none⟩ (.string ⟨#[115, 112, 111, 105, 108, 116]⟩))).trans (shape_set _ ⟨g, k * 2 + 1, none⟩ (.string ⟨#[]⟩))))
      clear hown hg hz hsh
      go_wp2_with fail
      go_roundw
      case rel => exact ⟨k + 1, zs, by go_num, by omega, Hz.out, Hg.out.1, Hg.out.2⟩
      case measure => simp [intOf]; omega
    · have hkn : k = n := by omega
      subst hkn
      have Hown := Lib.hid hown
      have Hg := Lib.hid hg
      have Hs := Lib.hid hsh
      have hBw : B ≤ wr.heap.size := Nat.le_trans hB hg.size
      clear hown hg hk hlt hsh
      go_wp2_with (at_builtin; refine wpList_append_shape rfl (.tmp 14) (.tmp 16) 46 rfl 52 i0 (.agg #[.string ⟨#[]⟩, .string ⟨#[]⟩]) 2 32 Tryz.underlying46 Hi.out.1 Hi.out.2.1 Hi.out.2.2.1 Hi.out.2.2.2 rfl (by decide) B (.slice ao k cap) k ys rfl (Hown.out.alloc _) ⟨wr.heap.size, 0, none⟩ 1 1 [.string ⟨#[109, 111, 114, 101]⟩, .string ⟨#[]⟩] rfl rfl (new_at2 _ _ _ _) (fun u hu => by simp at hu; rcases hu with rfl | rfl <;> rfl) (by unfold maxLen; omega) (by omega) (by simp; omega) ?_; intro u2 w2 o2 g2 s2; obtain ⟨a2, c2, rfl⟩ := own_slice o2; have G2 := Lib.hid (And.intro (grown_trans (grown_trans Hg.out (World.grownBy_alloc _ _ _)) g2) ((Hs.out.trans (shape_below (below_box _ _))).trans s2)); clear o2 g2 s2)
      go_ret
      exact ⟨by simp, G2.out.1, G2.out.2⟩
end Go.Proofs.YtacgkbdldbppjaaGreatDoor

/- The law's Lent: a changeset in memory of its own, with marks behind its operations and their attributes. -/
namespace Go.Proofs.YtacgkbdldbppjaaGreatDoor
open Go.RowKit Ch At

def markO : OpD := ⟨99, 0, ⟨#[]⟩, []⟩
def LAtt (w : World) (B : Nat) (q : PA) : Prop :=
  ∃ g, q.2 = .slice (some ⟨g, 0, none⟩) q.1.attrs.length (q.1.attrs.length + 1) ∧ w.ownsRow B 52 2 (.slice (some ⟨g, 0, none⟩) (q.1.attrs.length + 1) (q.1.attrs.length + 1)) (q.1.attrs.length + 1) (flat (q.1.attrs ++ [mark]))
def LPw (ps : List PA) : Prop := ps.Pairwise fun x y => x.2.ownBlock ≠ y.2.ownBlock
structure LRow (w : World) (B gg gc : Nat) (ps : List PA) : Prop where
  row : w.ownsRow B 48 4 (.slice (some ⟨gg, 0, none⟩) (ps.length + 1) gc) (ps.length + 1) (flatO (ps ++ [(markO, .slice none 0 0)]))
  att : ∀ q ∈ ps, LAtt w B q
  pw : LPw ps
theorem LAtt.keep {w w' : World} {B C : Nat} {ts : List TypeId} {q : PA} (h : LAtt w B q) (hk : Keep C ts w w') (h1 : 52 ∉ ts) : LAtt w' B q := by
  obtain ⟨g, e, h⟩ := h
  exact ⟨g, e, hk.own h h1⟩
theorem LAtt.lt {w : World} {B : Nat} {q : PA} (h : LAtt w B q) : ∀ j, q.2.ownBlock = some j → B ≤ j ∧ j < w.heap.size := by
  obtain ⟨g, e, h⟩ := h
  intro j hj
  rw [e] at hj
  exact h.lt j hj
theorem LRow.keep {w w' : World} {B C gg gc : Nat} {ts : List TypeId} {ps : List PA} (h : LRow w B gg gc ps) (hk : Keep C ts w w') (h1 : 48 ∉ ts) (h2 : 52 ∉ ts) : LRow w' B gg gc ps :=
  ⟨hk.own h.row h1, fun q hq => (h.att q hq).keep hk h2, h.pw⟩
theorem LRow.below {w w' : World} {B gg gc : Nat} {ps : List PA} (h : LRow w B gg gc ps) (hb : Below w.heap.size w w') : LRow w' B gg gc ps := h.keep (keep_below (ts := []) hb (Nat.le_refl _)) (by simp) (by simp)
theorem LRow.cap {w : World} {B gg gc : Nat} {ps : List PA} (h : LRow w B gg gc ps) : ps.length + 1 ≤ gc ∧ gc ≤ maxLen := by
  rcases h.row.2 with ⟨h', _⟩ | ⟨g', cap', cur', h', _, _, hn2, hm, _⟩
  · simp at h'
  · simp only [Value.slice.injEq] at h'
    omega
/-- What is lent is a row of operations. -/
theorem LRow.ops {w : World} {B gg gc : Nat} {ps : List PA} (h : LRow w B gg gc ps) : OpRow w (.slice (some ⟨gg, 0, none⟩) ps.length gc) (ps.map (·.1)) := by
  have hl : (ps.map (·.1)).length = ps.length := by simp
  obtain ⟨_, cs, hcs⟩ := own_heap h.row
  have hc := h.cap
  refine ⟨_, gc, by rw [hl], by omega, hc.2, fun i hi => ?_⟩
  have hi' : i < ps.length := by omega
  obtain ⟨g, e, hr⟩ := h.att _ (List.getElem_mem hi')
  refine ⟨gg, 0, rfl, lt_of_heap hcs, ps[i].2, ?_, ?_, ?_⟩
  · rw [List.getElem_map, e]
    exact row_lent hr
  · intro n' c' he
    rw [e] at he
    simp at he
  · have e4 : ∀ j, j < 4 → w.cell? ⟨gg, 0 + i * 4 + j, none⟩ = (opCells ps[i])[j]? := fun j hj => by
      rw [Nat.zero_add, h.row.cellAt _ (by omega), flatO_at (ps := ps ++ [(markO, Value.slice none 0 0)]) (i := i) (by simp; omega) j hj, List.getElem_append_left hi']
    rw [List.getElem_map]
    exact ⟨e4 0 (by omega), e4 1 (by omega), e4 2 (by omega), e4 3 (by omega)⟩

/-- Operations few and short enough to be lent. -/
def LentOutC (w : World) (f : Int) (ops : List OpD) (e : Ending) (w' : World) : Prop :=
  ∃ gg gc ps, e = .returned (chAgg f (.slice (some ⟨gg, 0, none⟩) ops.length gc)) ∧ ps.map (·.1) = ops ∧ LRow w' w.heap.size gg gc ps ∧ Below w.heap.size w w'
/-- On the way. -/
structure LWay (w : World) (B ob : Nat) (f : Int) (cv : Value) (n : Nat) (oa : Option Addr) (oc : Nat) (ps : List PA) : Prop where
  out : w.heap[ob]? = some (.cells #[.int .i64 f, .slice oa ps.length oc] 24 (0, 0))
  c : w.heap[B]? = some (.cells #[.int .i64 f, cv] 24 (0, 0))
  res : w.heap[B + 1]? = some (.cells #[.int .i64 0, .slice none 0 0] 24 (0, 0))
  row : w.ownsRow B 48 4 (.slice oa ps.length oc) ps.length (flatO ps)
  att : ∀ q ∈ ps, LAtt w B q
  pw : LPw ps
theorem LWay.keep {w w' : World} {B C ob n : Nat} {f : Int} {cv : Value} {oa : Option Addr} {oc : Nat} {ps : List PA} {ts : List TypeId} (h : LWay w B ob f cv n oa oc ps) (hk : Keep C ts w w') (h1 : 48 ∉ ts) (h2 : 52 ∉ ts) (h3 : 24 ∉ ts) : LWay w' B ob f cv n oa oc ps :=
  ⟨hk.kept _ _ _ _ h.out h3, hk.kept _ _ _ _ h.c h3, hk.kept _ _ _ _ h.res h3, hk.own h.row h1, fun q hq => (h.att q hq).keep hk h2, h.pw⟩
theorem LWay.below {w w' : World} {B ob n : Nat} {f : Int} {cv : Value} {oa : Option Addr} {oc : Nat} {ps : List PA} (h : LWay w B ob f cv n oa oc ps) (hb : Below w.heap.size w w') : LWay w' B ob f cv n oa oc ps := h.keep (keep_below (ts := []) hb (Nat.le_refl _)) (by simp) (by simp) (by simp)
theorem lpw_snoc {ps : List PA} {q : PA} : LPw (ps ++ [q]) ↔ LPw ps ∧ ∀ x ∈ ps, x.2.ownBlock ≠ q.2.ownBlock := by
  unfold LPw
  rw [List.pairwise_append]
  simp

theorem own_set_other {w : World} {B k n : Nat} {e : TypeId} {v : Value} {xs : List Value} (h : w.ownsRow B e k v n xs) (p : Addr) (hne : v.ownBlock ≠ some p.block) (u : Value) : (w.setCell p u).ownsRow B e k v n xs :=
  ⟨h.1, h.2.imp id fun ⟨g, cap, cur, a, b, c, d⟩ => ⟨g, cap, cur, a, b, (Below.heap_setCell w p u g (fun e => hne (by rw [a, ← e]; rfl))).trans c, d⟩⟩
theorem lway_put {w w5 : World} {B ob n : Nat} {f : Int} {cv : Value} {oa oa' : Option Addr} {oc oc' : Nat} {ps : List PA} {o : OpD} {av : Value} (h : LWay w B ob f cv n oa oc ps) (hK : KeepO B w w5 (.slice oa ps.length oc) (.slice oa' (ps.length + 1) oc'))
    (h5 : w5.ownsRow B 48 4 (.slice oa' (ps.length + 1) oc') (ps.length + 1) (flatO ps ++ [.int .i64 o.kind, .int .i64 o.n, .string o.text, av])) (hq : LAtt w5 B (o, av)) (hne : ∀ x ∈ ps, x.2.ownBlock ≠ av.ownBlock) (hob : B + 2 ≤ ob) :
    LWay (w5.setCell ⟨ob, 1, none⟩ (.slice oa' (ps.length + 1) oc')) B ob f cv n oa' oc' (ps ++ [(o, av)]) ∧ Keep B [24] w5 (w5.setCell ⟨ob, 1, none⟩ (.slice oa' (ps.length + 1) oc')) := by
  have b1 := hK.keep.kept _ _ _ _ h.out (by decide)
  have c1 := hK.keep.kept _ _ _ _ h.c (by decide)
  have r1 := hK.keep.kept _ _ _ _ h.res (by decide)
  have kk : Keep B [24] w5 (w5.setCell ⟨ob, 1, none⟩ (.slice oa' (ps.length + 1) oc')) := keep_set b1 (by simp) (by omega) _ rfl _
  refine ⟨⟨?_, ?_, ?_, ?_, fun x hx => ?_, lpw_snoc.2 ⟨h.pw, hne⟩⟩, kk⟩
  · rw [List.length_append, List.length_singleton]; exact nblk_set b1
  · rw [Below.heap_setCell _ _ _ _ (show B ≠ ob by omega)]; exact c1
  · rw [Below.heap_setCell _ _ _ _ (show B + 1 ≠ ob by omega)]; exact r1
  · rw [List.length_append, List.length_singleton, flatO_snoc]; exact kk.own h5 (by decide)
  · rcases List.mem_append.1 hx with hx | hx
    · exact ((h.att x hx).keep hK.keep (by decide)).keep kk (by decide)
    · rw [List.mem_singleton.1 hx]; exact hq.keep kk (by decide)

set_option maxRecDepth 100000 in
set_option maxHeartbeats 8000000 in
theorem lentC_any (f : Int) (v : Value) (ops : List OpD) (w : World) (hv : OpRow w v ops) (hz : SmallO ops) :
    Calls Tryz.prog 10 #[chAgg f v] w (LentOutC w f ops) := by
  obtain ⟨aa, acap, rfl, v1, v2, v3⟩ := hv
  have V3 := Lib.hid v3
  have Hz := Lib.hid hz
  have hn : ops.length ≤ 1048576 := hz.1
  obtain ⟨W, hW⟩ : ∃ W, W = (w.alloc (.cells #[.int .i64 f, .slice aa ops.length acap] 24)).alloc (.cells #[.int .i64 0, .slice none 0 0] 24) := ⟨_, rfl⟩
  have BW := Lib.hid (show Below w.heap.size w W by rw [hW]; exact ((Below.refl _ _).alloc (Nat.le_refl _) _).alloc (by simp) _)
  have r0 : W.heap[w.heap.size + 1]? = some (.cells #[.int .i64 0, .slice none 0 0] 24 (0, 0)) := by
    rw [hW]
    have := heap_new (w.alloc (.cells #[.int .i64 f, .slice aa ops.length acap] 24)) (.cells #[.int .i64 0, .slice none 0 0] 24)
    simpa using this
  have b0 : W.heap[w.heap.size]? = some (.cells #[.int .i64 f, .slice aa ops.length acap] 24 (0, 0)) := by
    rw [hW, Below.heap_alloc _ _ _ (by simp)]
    exact heap_new _ _
  have c0 : W.cell? ⟨w.heap.size, 0, none⟩ = some (.int .i64 f) := (Lib.cell_of_heap b0 0).trans rfl
  have c1 : W.cell? ⟨w.heap.size, 1, none⟩ = some (.slice aa ops.length acap) := (Lib.cell_of_heap b0 1).trans rfl
  have HW := Lib.hid hW
  have HR0 := Lib.hid r0
  have HB0 := Lib.hid b0
  have hWs : w.heap.size + 2 = W.heap.size := by rw [hW]; simp
  obtain ⟨i0, hi, hz0, hz1, hz2⟩ := info_parts infoOp
  have Hi := Lib.hid (And.intro hi (And.intro hz0 (And.intro hz1 hz2)))
  obtain ⟨M, hM, hmk⟩ : ∃ M : Array Value, M.size = (ops.length + 1) * 4 ∧ ∀ X : World, (Instr.makeSlice 22 (.int .i64 0) (.int .i64 ((ops.length : Int) + 1))).run Tryz.prog X = .ok (.slice (some ⟨X.heap.size, 0, none⟩) 0 (ops.length + 1)) (X.alloc (.cells M 48)) := by
    refine ⟨madeCells (Value.agg #[.int .i64 0, .int .i64 0, .string ⟨#[]⟩, .slice none 0 0]).cells ((ops.length + 1) * 4), size_madeCells _ _, fun X => ?_⟩
    have := run_make (P := Tryz.prog) X 22 48 i0 (.agg #[.int .i64 0, .int .i64 0, .string ⟨#[]⟩, .slice none 0 0]) Tryz.underlying22 hi hz0 .i64 .i64 0 ((ops.length : Int) + 1) (Int.le_refl _) (by omega) (by rw [hz2]; omega) (by omega)
    rw [this, hz1]
    have e : ((ops.length : Int) + 1).toNat = ops.length + 1 := by omega
    rw [e]; rfl
  have HM := Lib.hid hM
  have MK : ∀ (X : World), w.heap.size ≤ X.heap.size → (X.alloc (.cells M 48)).ownsRow w.heap.size 48 4 (.slice (some ⟨X.heap.size, 0, none⟩) 0 (ops.length + 1)) 0 [] := fun X hX => World.ownsRow_made X M (ops.length + 1) hX (by unfold maxLen; omega) HM.out
  have HMK := Lib.hid MK
  have nn0 := World.new_ne W ⟨w.heap.size, 0, none⟩ c0
  have nn1 := World.new_ne W ⟨w.heap.size, 1, none⟩ c1
  have hW0 : w.heap.size < W.heap.size := by omega
  clear hz hW v1 v2 v3 r0 b0 hi hz0 hz1 hz2 hM MK
  go_enter Tryz.func10, Tryz.ntmps10
  go_wp2_with fail
  rw [← HW.out]
  go_wp2_with fail
  go_region
  · have BZ : Below W.heap.size W ((W.alloc (.cells M 48)).alloc (.cells #[.int .i64 f, .slice (some ⟨W.heap.size, 0, none⟩) 0 (ops.length + 1)] 24)).drew := (((Below.refl _ _).alloc (Nat.le_refl _) _).alloc (by simp) _).drew
    have hz0 : LWay ((W.alloc (.cells M 48)).alloc (.cells #[.int .i64 f, .slice (some ⟨W.heap.size, 0, none⟩) 0 (ops.length + 1)] 24)).drew w.heap.size (W.heap.size + 1) f (.slice aa ops.length acap) 0 (some ⟨W.heap.size, 0, none⟩) (ops.length + 1) [] := by
      refine ⟨?_, (BZ.block _ (by omega)).trans HB0.out, (BZ.block _ (by omega)).trans HR0.out, ?_, (fun q hq => by cases hq), List.Pairwise.nil⟩
      · have := heap_new (W.alloc (.cells M 48)) (.cells #[.int .i64 f, .slice (some ⟨W.heap.size, 0, none⟩) 0 (ops.length + 1)] 24); show ((W.alloc (.cells M 48)).alloc (.cells #[.int .i64 f, .slice (some ⟨W.heap.size, 0, none⟩) 0 (ops.length + 1)] 24)).heap[W.heap.size + 1]? = _; simpa using this
      · exact ((HMK.out W (by omega)).alloc _)
    have hob1 : w.heap.size + 2 ≤ W.heap.size + 1 := by omega
    have HBZ := Lib.hid (BW.out.trans (BZ.mono BW.out.size))
    obtain ⟨Z, hZ⟩ : ∃ Z, Z = ((W.alloc (.cells M 48)).alloc (.cells #[.int .i64 f, .slice (some ⟨W.heap.size, 0, none⟩) 0 (ops.length + 1)] 24)).drew := ⟨_, rfl⟩
    obtain ⟨ob, hob⟩ : ∃ ob, ob = W.heap.size + 1 := ⟨_, rfl⟩
    obtain ⟨oa0, hoa⟩ : ∃ oa0, oa0 = some (⟨W.heap.size, 0, none⟩ : Addr) := ⟨_, rfl⟩
    go_wp2_with fail
    rw [← hZ] at hz0 HBZ ⊢
    rw [← hoa] at hz0
    rw [← hob] at hz0 hob1 ⊢
    have HZ0 := Lib.hid hz0
    clear BZ hz0 hZ hob hoa c0 c1 nn0 nn1 hmk
    go_loopw [4] (fun i wr => ∃ (ps : List PA) (oa : Option Addr) (oc : Nat), i = .int .i64 (ps.length : Int) ∧ ps.length ≤ ops.length ∧ ps.map (·.1) = ops.take ps.length ∧ LWay wr w.heap.size ob f (.slice aa ops.length acap) 0 oa oc ps ∧ Below w.heap.size w wr) (fun i _ => ops.length - (intOf i).toNat)
    case atStart => exact ⟨[], oa0, ops.length + 1, rfl, Nat.zero_le _, rfl, HZ0.out, HBZ.out⟩
    case round =>
      obtain ⟨ps, oa, oc, rfl, hk, hps, hL, hB⟩ := hrel
      have s0 : wr.cell? ⟨w.heap.size, 0, none⟩ = some (.int .i64 f) := (Lib.cell_of_heap hL.c 0).trans rfl
      have s1 : wr.cell? ⟨w.heap.size, 1, none⟩ = some (.slice aa ops.length acap) := (Lib.cell_of_heap hL.c 1).trans rfl
      have s2 : wr.cell? ⟨ob, 1, none⟩ = some (.slice oa ps.length oc) := (Lib.cell_of_heap hL.out 1).trans rfl
      have hobl := lt_of_heap hL.out
      have hbw := lt_of_heap hL.c
      by_cases hlt : ps.length < ops.length
      · have hlt' : (ps.length : Int) < (ops.length : Int) := by omega
        obtain ⟨b, off, rfl, hbl, av, q0, qp, x0, x1, x2, x3⟩ := V3.out ps.length hlt
        obtain ⟨z1, z2⟩ := Hz.out.2 _ (List.getElem_mem hlt)
        have htk : ops.take (ps.length + 1) = ops.take ps.length ++ [ops[ps.length]] := List.take_succ_eq_append_getElem hlt
        obtain ⟨o, ho⟩ : ∃ o, o = ops[ps.length] := ⟨_, rfl⟩
        rw [← ho] at q0 x0 x1 x2 z1 z2 htk
        obtain ⟨ar, cr, rfl⟩ := q0.shape
        have y0 : wr.cell? ⟨b, off + ps.length * 4, none⟩ = some (.int .i64 o.kind) := (hB.cell (by exact hbl)).trans x0
        have y1 : wr.cell? ⟨b, off + ps.length * 4 + 1, none⟩ = some (.int .i64 o.n) := (hB.cell (by exact hbl)).trans x1
        have y2 : wr.cell? ⟨b, off + ps.length * 4 + 2, none⟩ = some (.string o.text) := (hB.cell (by exact hbl)).trans x2
        have y3 : wr.cell? ⟨b, off + ps.length * 4 + 3, none⟩ = some (.slice ar o.attrs.length cr) := (hB.cell (by exact hbl)).trans x3
        obtain ⟨X, hX⟩ : ∃ X, X = wr.alloc (.cells #[.int .i64 o.kind, .int .i64 o.n, .string o.text, .slice ar o.attrs.length cr] 48) := ⟨_, rfl⟩
        have BX : Below wr.heap.size wr X := by rw [hX]; exact below_box _ _
        have hbox : X.heap[wr.heap.size]? = some (.cells #[.int .i64 o.kind, .int .i64 o.n, .string o.text, .slice ar o.attrs.length cr] 48 (0, 0)) := by rw [hX]; exact heap_new _ _
        have d3 : X.cell? ⟨wr.heap.size, 3, none⟩ = some (.slice ar o.attrs.length cr) := (Lib.cell_of_heap hbox 3).trans rfl
        have hXs : wr.heap.size < X.heap.size := lt_of_heap hbox
        have HX := Lib.hid hX
        have HLX := Lib.hid (hL.below BX)
        have HBX := Lib.hid (hB.trans (BX.mono hB.size))
        have HBOX := Lib.hid hbox
        have HTK := Lib.hid htk
        have HPS := Lib.hid hps
        have HOLD := Lib.hid (fun q (hq : q ∈ ps) j (hj : q.2.ownBlock = some j) => ((hL.att q hq).lt j hj).2)
        have HOWN := Lib.hid (fun j (hj : (Value.slice oa ps.length oc).ownBlock = some j) => (hL.row.lt j hj).2)
        have HLN := Lib.hid (lent_any (.slice ar o.attrs.length cr) o.attrs X (q0.below (hB.trans (BX.mono hB.size))) qp (by have := z2.1; omega))
        clear q0 qp x0 x1 x2 x3 z1 z2 htk hps hL ho BX hX hbox s0
        go_wp2_with fail
        rw [← HX.out]
        go_wp2_with fail
        refine HLN.out.mono ?_
        rintro e w2 ⟨g, rfl, o2, b2⟩
        have hg := (o2.lt g rfl)
        have bx2 := (b2.block _ hXs).trans HBOX.out
        have g3 : w2.cell? ⟨wr.heap.size, 3, none⟩ = some (.slice ar o.attrs.length cr) := (Lib.cell_of_heap bx2 3).trans rfl
        have fz3 : w2.frozen? ⟨wr.heap.size, 3, none⟩ = false := Lib.frozen_of_heap bx2 3
        have hs2 := b2.size
        have kY : Keep w.heap.size [48] w2 (w2.setCell ⟨wr.heap.size, 3, none⟩ (.slice (some ⟨g, 0, none⟩) o.attrs.length (o.attrs.length + 1))) := keep_set bx2 (by simp) (by omega) _ rfl _
        have bY : (w2.setCell ⟨wr.heap.size, 3, none⟩ (.slice (some ⟨g, 0, none⟩) o.attrs.length (o.attrs.length + 1))).heap[wr.heap.size]? = some (.cells #[.int .i64 o.kind, .int .i64 o.n, .string o.text, .slice (some ⟨g, 0, none⟩) o.attrs.length (o.attrs.length + 1)] 48 (0, 0)) := nblk_set bx2
        have LY : LWay (w2.setCell ⟨wr.heap.size, 3, none⟩ (.slice (some ⟨g, 0, none⟩) o.attrs.length (o.attrs.length + 1))) w.heap.size ob f (.slice (some ⟨b, off, none⟩) ops.length acap) 0 oa oc ps := by
          have h2 := HLX.out.below b2
          exact ⟨kY.kept _ _ _ _ h2.out (by decide), kY.kept _ _ _ _ h2.c (by decide), kY.kept _ _ _ _ h2.res (by decide), own_set_other h2.row _ (fun hj => absurd (HOWN.out _ hj) (Nat.lt_irrefl _)) _, fun q hq => (h2.att q hq).keep kY (by decide), h2.pw⟩
        have LQ : LAtt (w2.setCell ⟨wr.heap.size, 3, none⟩ (.slice (some ⟨g, 0, none⟩) o.attrs.length (o.attrs.length + 1))) w.heap.size (o, .slice (some ⟨g, 0, none⟩) o.attrs.length (o.attrs.length + 1)) := ⟨g, rfl, kY.own (own_base o2 (by omega)) (by decide)⟩
        have hsY : X.heap.size ≤ (w2.setCell ⟨wr.heap.size, 3, none⟩ (.slice (some ⟨g, 0, none⟩) o.attrs.length (o.attrs.length + 1))).heap.size := by simpa [World.setCell] using hs2
        have m0 : w2.cell? ⟨wr.heap.size, 0, none⟩ = some (.int .i64 o.kind) := (Lib.cell_of_heap bx2 0).trans rfl
        have m1 : w2.cell? ⟨wr.heap.size, 1, none⟩ = some (.int .i64 o.n) := (Lib.cell_of_heap bx2 1).trans rfl
        have m2 : w2.cell? ⟨wr.heap.size, 2, none⟩ = some (.string o.text) := (Lib.cell_of_heap bx2 2).trans rfl
        have m4 : w2.cell? ⟨ob, 1, none⟩ = some (.slice oa ps.length oc) := (Lib.cell_of_heap (HLX.out.below b2).out 1).trans rfl
        have HLY := Lib.hid LY
        have HLQ := Lib.hid LQ
        have HBY := Lib.hid (HBX.out.trans ((b2.mono HBX.out.size).trans kY.below))
        have hBYs : w.heap.size ≤ (w2.setCell ⟨wr.heap.size, 3, none⟩ (.slice (some ⟨g, 0, none⟩) o.attrs.length (o.attrs.length + 1))).heap.size := by omega
        have hgX : X.heap.size ≤ g := hg.1
        clear o2 b2 bx2 kY bY LY LQ hg
        have HSZ := Lib.hid (show (w2.setCell ⟨wr.heap.size, 3, none⟩ (.slice (some ⟨g, 0, none⟩) o.attrs.length (o.attrs.length + 1))).heap.size = w2.heap.size by simp [World.setCell])
        have hA : ((w2.setCell ⟨wr.heap.size, 3, none⟩ (.slice (some ⟨g, 0, none⟩) o.attrs.length (o.attrs.length + 1))).alloc (.cells #[.int .i64 o.kind, .int .i64 o.n, .string o.text, .slice (some ⟨g, 0, none⟩) o.attrs.length (o.attrs.length + 1)] 48)).heap.size = (w2.setCell ⟨wr.heap.size, 3, none⟩ (.slice (some ⟨g, 0, none⟩) o.attrs.length (o.attrs.length + 1))).heap.size + 1 := by simp
        have HA := Lib.hid hA
        clear hA
        go_wp2_with (at_builtin; refine wpList_append_new rfl (.tmp 31) (.tmp 33) 22 rfl 48 i0 (.agg #[.int .i64 0, .int .i64 0, .string ⟨#[]⟩, .slice none 0 0]) 4 56 Tryz.underlying22 Hi.out.1 Hi.out.2.1 Hi.out.2.2.1 Hi.out.2.2.2 rfl (by decide) w.heap.size (.slice oa ps.length oc) ps.length (flatO ps) rfl (HLY.out.row.alloc _) ⟨w2.heap.size, 0, none⟩ 1 1 [.int .i64 o.kind, .int .i64 o.n, .string o.text, .slice (some ⟨g, 0, none⟩) o.attrs.length (o.attrs.length + 1)] rfl rfl (by have := new_at4 (w2.setCell ⟨wr.heap.size, 3, none⟩ (.slice (some ⟨g, 0, none⟩) o.attrs.length (o.attrs.length + 1))) (.int .i64 o.kind) (.int .i64 o.n) (.string o.text) (.slice (some ⟨g, 0, none⟩) o.attrs.length (o.attrs.length + 1)) 48; rw [HSZ.out] at this; exact this) (fun u hu => by simp at hu; rcases hu with rfl | rfl | rfl | rfl <;> rfl) (by unfold maxLen; omega) (by omega) (by have := HA.out; omega) ?_; intro v' w5 oC gC nC; obtain ⟨oa', oc', rfl⟩ := own_slice oC; have LA := HLY.out.below (below_box (w2.setCell ⟨wr.heap.size, 3, none⟩ (.slice (some ⟨g, 0, none⟩) o.attrs.length (o.attrs.length + 1))) (.cells #[.int .i64 o.kind, .int .i64 o.n, .string o.text, .slice (some ⟨g, 0, none⟩) o.attrs.length (o.attrs.length + 1)] 48)); have KC := keepO_grown LA.row gC (by have := HA.out; omega) nC; have e5 := KC.keep.kept _ _ _ _ LA.out (by decide); have e1 : w5.cell? ⟨ob, 1, none⟩ = some (.slice oa ps.length oc) := (Lib.cell_of_heap e5 1).trans rfl; have e2 : w5.frozen? ⟨ob, 1, none⟩ = false := Lib.frozen_of_heap e5 1; have NX := Lib.hid (lway_put LA KC oC ((HLQ.out.keep (keep_below (B := w.heap.size) (ts := []) (below_box (w2.setCell ⟨wr.heap.size, 3, none⟩ (.slice (some ⟨g, 0, none⟩) o.attrs.length (o.attrs.length + 1))) _) hBYs) (by simp)).keep KC.keep (by decide)) (fun x hx hh => by have := HOLD.out x hx g (hh.trans rfl); omega) hob1); have HB5 := Lib.hid ((HBY.out.trans ((below_box (w2.setCell ⟨wr.heap.size, 3, none⟩ (.slice (some ⟨g, 0, none⟩) o.attrs.length (o.attrs.length + 1))) _).mono HBY.out.size)).trans KC.keep.below); clear oC gC nC LA KC e5)
        go_roundw
        case rel => exact ⟨ps ++ [(o, .slice (some ⟨g, 0, none⟩) o.attrs.length (o.attrs.length + 1))], oa', oc', by rw [List.length_append, List.length_singleton]; go_num, by rw [List.length_append, List.length_singleton]; omega, by rw [List.map_append, List.length_append, List.length_singleton, HTK.out, HPS.out]; rfl, NX.out.1, HB5.out.trans NX.out.2.below⟩
        case measure => simp [intOf]; omega
      · have hkn : ps.length = ops.length := by omega
        rw [hkn, List.take_length] at hps
        have HPS := Lib.hid hps
        have hLw := hL
        have HBX := Lib.hid hB
        have hobN : ob < wr.heap.size := hobl
        have hcN : w.heap.size < wr.heap.size := hbw
        obtain ⟨N, hN⟩ : ∃ N, N = ops.length := ⟨_, rfl⟩
        have HN := Lib.hid hN
        rw [hkn] at s2
        clear hps hL hB hlt hk
        go_wp2_with fail
        have HKN := Lib.hid hkn
        have HLX' := Lib.hid hLw
        have S0 : wr.drew.cell? ⟨w.heap.size, 0, none⟩ = some (.int .i64 f) ∧ wr.drew.cell? ⟨w.heap.size, 1, none⟩ = some (.slice aa ops.length acap) ∧ wr.drew.cell? ⟨ob, 1, none⟩ = some (.slice oa ops.length oc) := ⟨s0, s1, s2⟩
        clear hkn hLw
        refine wp_region_B (fun w' => w'.cell? ⟨w.heap.size, 0, none⟩ = some (.int .i64 f) ∧ w'.cell? ⟨w.heap.size, 1, none⟩ = some (.slice aa ops.length acap) ∧ w'.cell? ⟨ob, 1, none⟩ = some (.slice oa ops.length oc)) [12] (by kernel_rfl) (?_ : wpAnyB _ _ _ _ _ _ 13 (Array.replicate 13 false) _ _)
        refine wpAnyB_free (fuel := 12) (i := 0) (v := ?_) rfl (by kernel_rfl) (by kernel_rfl) (by kernel_rfl) (by kernel_rfl) (fun _ _ _ h => h) (.inr S0) ?_ (by rfl) ?_
        rotate_left
        · intro w'; go_simp; (try with_reducible rfl)
        simp only [Act.put, List.getElem_toArray, List.getElem_cons_zero, List.setIfInBounds_toArray, List.set_cons_zero, List.set_cons_succ]
        refine wpAnyB_load [1,11,12] (fuel := 11) (i := 1) (v := ?_) rfl (by kernel_rfl) (by kernel_rfl) (by kernel_rfl) (by kernel_rfl) (by kernel_rfl) (fun _ _ _ h => h) (.inr S0) ?_ (by rfl) ?_
        rotate_left
        · intro w' hw'; obtain ⟨m0, m1, m2⟩ := hw'; go_simp; (try with_reducible rfl)
        simp only [Act.put, List.getElem_toArray, List.getElem_cons_zero, List.getElem_cons_succ, List.setIfInBounds_toArray, List.set_cons_zero, List.set_cons_succ]
        refine wpAnyB_free (fuel := 10) (i := 2) (v := ?_) rfl (by kernel_rfl) (by kernel_rfl) (by kernel_rfl) (by kernel_rfl) (fun _ _ _ h => h) (.inr S0) ?_ (by rfl) ?_
        rotate_left
        · intro w'; go_simp; (try with_reducible rfl)
        simp only [Act.put, List.getElem_toArray, List.getElem_cons_zero, List.getElem_cons_succ, List.setIfInBounds_toArray, List.set_cons_zero, List.set_cons_succ]
        refine wpAnyB_load [3,6,10,11,12] (fuel := 9) (i := 3) (v := ?_) rfl (by kernel_rfl) (by kernel_rfl) (by kernel_rfl) (by kernel_rfl) (by kernel_rfl) (fun _ _ _ h => h) (.inr S0) ?_ (by rfl) ?_
        rotate_left
        · intro w' hw'; obtain ⟨m0, m1, m2⟩ := hw'; go_simp; (try with_reducible rfl)
        simp only [Act.put, List.getElem_toArray, List.getElem_cons_zero, List.getElem_cons_succ, List.setIfInBounds_toArray, List.set_cons_zero, List.set_cons_succ]
        refine wpAnyB_free (fuel := 8) (i := 4) (v := ?_) rfl (by kernel_rfl) (by kernel_rfl) (by kernel_rfl) (by kernel_rfl) (fun _ _ _ h => h) (.inr S0) ?_ (by rfl) ?_
        rotate_left
        · intro w'; go_simp; (try with_reducible rfl)
        simp only [Act.put, List.getElem_toArray, List.getElem_cons_zero, List.getElem_cons_succ, List.setIfInBounds_toArray, List.set_cons_zero, List.set_cons_succ]
        refine wpAnyB_free (fuel := 7) (i := 7) (v := ?_) rfl (by kernel_rfl) (by kernel_rfl) (by kernel_rfl) (by kernel_rfl) (fun _ _ _ h => h) (.inr S0) ?_ (by rfl) ?_
        rotate_left
        · intro w'; go_simp; (try with_reducible rfl)
        simp only [Act.put, List.getElem_toArray, List.getElem_cons_zero, List.getElem_cons_succ, List.setIfInBounds_toArray, List.set_cons_zero, List.set_cons_succ]
        refine wpAnyB_load [8,9,10,11,12] (fuel := 6) (i := 8) (v := ?_) rfl (by kernel_rfl) (by kernel_rfl) (by kernel_rfl) (by kernel_rfl) (by kernel_rfl) (fun _ _ _ h => h) (.inr S0) ?_ (by rfl) ?_
        rotate_left
        · intro w' hw'; obtain ⟨m0, m1, m2⟩ := hw'; go_simp; (try with_reducible rfl)
        simp only [Act.put, List.getElem_toArray, List.getElem_cons_zero, List.getElem_cons_succ, List.setIfInBounds_toArray, List.set_cons_zero, List.set_cons_succ]
        refine wpAnyB_free (fuel := 5) (i := 9) (v := ?_) rfl (by kernel_rfl) (by kernel_rfl) (by kernel_rfl) (by kernel_rfl) (fun _ _ _ h => h) (.inr S0) ?_ (by rfl) ?_
        rotate_left
        · intro w'; go_simp; (try with_reducible rfl)
        simp only [Act.put, List.getElem_toArray, List.getElem_cons_zero, List.getElem_cons_succ, List.setIfInBounds_toArray, List.set_cons_zero, List.set_cons_succ]
        refine wpAnyB_one (fuel := 4) (i := 5) rfl (by kernel_rfl) ?_
        intro KB hKB
        go_simp
        have SB : (wr.drew.alloc (.cells #[.int .i64 99, .int .i64 0, .string ⟨#[]⟩, .slice none 0 0] 48)).cell? ⟨w.heap.size, 0, none⟩ = some (.int .i64 f) ∧ (wr.drew.alloc (.cells #[.int .i64 99, .int .i64 0, .string ⟨#[]⟩, .slice none 0 0] 48)).cell? ⟨w.heap.size, 1, none⟩ = some (.slice aa ops.length acap) ∧ (wr.drew.alloc (.cells #[.int .i64 99, .int .i64 0, .string ⟨#[]⟩, .slice none 0 0] 48)).cell? ⟨ob, 1, none⟩ = some (.slice oa ops.length oc) := ⟨((below_box wr.drew _).cell (by exact hcN)).trans s0, ((below_box wr.drew _).cell (by exact hcN)).trans s1, ((below_box wr.drew _).cell (by exact hobN)).trans s2⟩
        have HLA := Lib.hid ((show LWay wr.drew w.heap.size ob f (.slice aa ops.length acap) 0 oa oc ps from HLX'.out.below (Below.refl _ _).drew).below (below_box wr.drew (.cells #[.int .i64 99, .int .i64 0, .string ⟨#[]⟩, .slice none 0 0] 48)))
        refine hKB _ _ (.inr SB) ?_
        (try simp only [Act.put, List.getElem_toArray, List.getElem_cons_zero, List.getElem_cons_succ, List.setIfInBounds_toArray, List.set_cons_zero, List.set_cons_succ])
        refine wpAnyB_one (fuel := 3) (i := 6) rfl (by kernel_rfl) ?_
        intro KB hKB
        refine step_append_new rfl (.tmp 39) (.tmp 41) 22 rfl 48 i0 (.agg #[.int .i64 0, .int .i64 0, .string ⟨#[]⟩, .slice none 0 0]) 4 56 Tryz.underlying22 Hi.out.1 Hi.out.2.1 Hi.out.2.2.1 Hi.out.2.2.2 rfl (by decide) w.heap.size (.slice oa ops.length oc) ops.length (flatO ps) rfl (by have := HLA.out.row; rwa [HKN.out] at this) ⟨wr.heap.size, 0, none⟩ 1 1 (opCells (markO, .slice none 0 0)) rfl rfl (new_at4 _ _ _ _ _ _) (fun u hu => by simp [opCells, markO] at hu; rcases hu with rfl | rfl | rfl | rfl <;> rfl) (by unfold maxLen; omega) (by omega) (by simp; omega) ?_
        intro v' w5 oC gC nC
        obtain ⟨gg, gc, rfl⟩ := ownsRow_open oC (Nat.succ_pos _)
        have KC := keepO_grown (show (wr.drew.alloc (.cells #[.int .i64 99, .int .i64 0, .string ⟨#[]⟩, .slice none 0 0] 48)).ownsRow w.heap.size 48 4 (.slice oa ops.length oc) ops.length (flatO ps) by have := HLA.out.row; rwa [HKN.out] at this) gC (by simp; omega) nC
        have ec := KC.keep.kept _ _ _ _ HLA.out.c (by decide)
        have eo := KC.keep.kept _ _ _ _ HLA.out.out (by decide)
        have er := KC.keep.kept _ _ _ _ HLA.out.res (by decide)
        rw [HKN.out] at eo
        have SC : w5.cell? ⟨w.heap.size, 0, none⟩ = some (.int .i64 f) ∧ w5.cell? ⟨w.heap.size, 1, none⟩ = some (.slice aa ops.length acap) ∧ w5.cell? ⟨ob, 1, none⟩ = some (.slice oa ops.length oc) := ⟨(Lib.cell_of_heap ec 0).trans rfl, (Lib.cell_of_heap ec 1).trans rfl, (Lib.cell_of_heap eo 1).trans rfl⟩
        have t0 : w5.cell? ⟨w.heap.size + 1, 0, none⟩ = some (.int .i64 0) := (Lib.cell_of_heap er 0).trans rfl
        have t1 : w5.cell? ⟨w.heap.size + 1, 1, none⟩ = some (.slice none 0 0) := (Lib.cell_of_heap er 1).trans rfl
        have t2 : w5.frozen? ⟨w.heap.size + 1, 0, none⟩ = false := Lib.frozen_of_heap er 0
        have t3 : w5.frozen? ⟨w.heap.size + 1, 1, none⟩ = false := Lib.frozen_of_heap er 1
        have LR : LRow w5 w.heap.size gg gc ps := ⟨by rw [HKN.out, flatO_snoc]; exact oC, fun q hq => (HLA.out.att q hq).keep KC.keep (by decide), HLA.out.pw⟩
        have hsl := slice_ops gg (ops.length + 1) gc ops.length (by have := LR.cap; rw [HKN.out] at this; omega)
        have S1 : Keep w.heap.size [24] w5 (w5.setCell ⟨w.heap.size + 1, 0, none⟩ (.int .i64 f)) := keep_set er (by simp) (Nat.le_succ _) _ rfl _
        have rB := nblk_set (j := 0) (u := .int .i64 f) er
        have S2 : Keep w.heap.size [24] (w5.setCell ⟨w.heap.size + 1, 0, none⟩ (.int .i64 f)) ((w5.setCell ⟨w.heap.size + 1, 0, none⟩ (.int .i64 f)).setCell ⟨w.heap.size + 1, 1, none⟩ (.slice (some ⟨gg, 0, none⟩) ops.length gc)) := keep_set rB (by simp) (Nat.le_succ _) _ rfl _
        have rC := nblk_set (j := 1) (u := .slice (some ⟨gg, 0, none⟩) ops.length gc) rB
        have FIN : LentOutC w f ops (.returned (chAgg f (.slice (some ⟨gg, 0, none⟩) ops.length gc))) ((w5.setCell ⟨w.heap.size + 1, 0, none⟩ (.int .i64 f)).setCell ⟨w.heap.size + 1, 1, none⟩ (.slice (some ⟨gg, 0, none⟩) ops.length gc)) := ⟨gg, gc, ps, rfl, HPS.out, LR.keep (S1.trans S2) (by decide) (by decide), ((HBX.out.trans (((Below.refl _ wr).drew).mono HBX.out.size)).trans (((below_box wr.drew (.cells #[.int .i64 99, .int .i64 0, .string ⟨#[]⟩, .slice none 0 0] 48)).mono (show w.heap.size ≤ wr.drew.heap.size from HBX.out.size)).trans KC.keep.below)).trans (S1.trans S2).below⟩
        have HFIN := Lib.hid FIN
        have z0 := (Lib.cell_of_heap rC 0).trans rfl
        have z1 := (Lib.cell_of_heap rC 1).trans rfl
        clear oC gC nC KC ec eo er LR S1 S2 rB rC FIN
        refine hKB _ _ (.inr SC) ?_
        (try simp only [Act.put, List.getElem_toArray, List.getElem_cons_zero, List.getElem_cons_succ, List.setIfInBounds_toArray, List.set_cons_zero, List.set_cons_succ])
        refine wpAnyB_free (fuel := 2) (i := 10) (v := ?_) rfl (by kernel_rfl) (by kernel_rfl) (by kernel_rfl) (by kernel_rfl) (fun _ _ _ h => h) (.inr SC) ?_ (by rfl) ?_
        rotate_left
        · intro w'; go_simp; (try with_reducible rfl)
        simp only [Act.put, List.getElem_toArray, List.getElem_cons_zero, List.getElem_cons_succ, List.setIfInBounds_toArray, List.set_cons_zero, List.set_cons_succ]
        refine wpAnyB_free (fuel := 1) (i := 11) (v := ?_) rfl (by kernel_rfl) (by kernel_rfl) (by kernel_rfl) (by kernel_rfl) (fun _ _ _ h => h) (.inr SC) ?_ (by rfl) ?_
        rotate_left
        · intro w'; go_simp; (try with_reducible rfl)
        simp only [Act.put, List.getElem_toArray, List.getElem_cons_zero, List.getElem_cons_succ, List.setIfInBounds_toArray, List.set_cons_zero, List.set_cons_succ]
        refine wpAnyB_one (fuel := 0) (i := 12) rfl (by kernel_rfl) ?_
        intro KB hKB
        go_simp
        refine hKB _ _ (.inl (by kernel_rfl)) ?_
        (try simp only [Act.put, List.getElem_toArray, List.getElem_cons_zero, List.getElem_cons_succ, List.setIfInBounds_toArray, List.set_cons_zero, List.set_cons_succ])
        refine wpAnyB_done (by kernel_rfl) ?_
        go_wp2_with fail
        exact bodyPost_ret (v := chAgg f (.slice (some ⟨gg, 0, none⟩) ops.length gc)) (by simp [results, Tryz.results10, go_sem, z0, z1]) rfl HFIN.out
  · have BZ : Below W.heap.size W ((W.alloc (.cells #[.int .i64 f, .slice (some ⟨W.heap.size + 1, 0, none⟩) 0 (ops.length + 1)] 24)).alloc (.cells M 48)).drew := (((Below.refl _ _).alloc (Nat.le_refl _) _).alloc (by simp) _).drew
    have hz0 : LWay ((W.alloc (.cells #[.int .i64 f, .slice (some ⟨W.heap.size + 1, 0, none⟩) 0 (ops.length + 1)] 24)).alloc (.cells M 48)).drew w.heap.size (W.heap.size) f (.slice aa ops.length acap) 0 (some ⟨W.heap.size + 1, 0, none⟩) (ops.length + 1) [] := by
      refine ⟨?_, (BZ.block _ (by omega)).trans HB0.out, (BZ.block _ (by omega)).trans HR0.out, ?_, (fun q hq => by cases hq), List.Pairwise.nil⟩
      · show ((W.alloc (.cells #[.int .i64 f, .slice (some ⟨W.heap.size + 1, 0, none⟩) 0 (ops.length + 1)] 24)).alloc _).heap[W.heap.size]? = _; rw [Below.heap_alloc _ _ _ (by simp)]; exact heap_new _ _
      · have := HMK.out (W.alloc (.cells #[.int .i64 f, .slice (some ⟨W.heap.size + 1, 0, none⟩) 0 (ops.length + 1)] 24)) (by simp; omega); show ((W.alloc (.cells #[.int .i64 f, .slice (some ⟨W.heap.size + 1, 0, none⟩) 0 (ops.length + 1)] 24)).alloc (.cells M 48)).ownsRow _ _ _ _ _ []; simpa using this
    have hob1 : w.heap.size + 2 ≤ W.heap.size := by omega
    have HBZ := Lib.hid (BW.out.trans (BZ.mono BW.out.size))
    obtain ⟨Z, hZ⟩ : ∃ Z, Z = ((W.alloc (.cells #[.int .i64 f, .slice (some ⟨W.heap.size + 1, 0, none⟩) 0 (ops.length + 1)] 24)).alloc (.cells M 48)).drew := ⟨_, rfl⟩
    obtain ⟨ob, hob⟩ : ∃ ob, ob = W.heap.size := ⟨_, rfl⟩
    obtain ⟨oa0, hoa⟩ : ∃ oa0, oa0 = some (⟨W.heap.size + 1, 0, none⟩ : Addr) := ⟨_, rfl⟩
    go_wp2_with fail
    rw [← hZ] at hz0 HBZ ⊢
    rw [← hoa] at hz0
    rw [← hob] at hz0 hob1 ⊢
    have HZ0 := Lib.hid hz0
    clear BZ hz0 hZ hob hoa c0 c1 nn0 nn1 hmk
    go_loopw [4] (fun i wr => ∃ (ps : List PA) (oa : Option Addr) (oc : Nat), i = .int .i64 (ps.length : Int) ∧ ps.length ≤ ops.length ∧ ps.map (·.1) = ops.take ps.length ∧ LWay wr w.heap.size ob f (.slice aa ops.length acap) 0 oa oc ps ∧ Below w.heap.size w wr) (fun i _ => ops.length - (intOf i).toNat)
    case atStart => exact ⟨[], oa0, ops.length + 1, rfl, Nat.zero_le _, rfl, HZ0.out, HBZ.out⟩
    case round =>
      obtain ⟨ps, oa, oc, rfl, hk, hps, hL, hB⟩ := hrel
      have s0 : wr.cell? ⟨w.heap.size, 0, none⟩ = some (.int .i64 f) := (Lib.cell_of_heap hL.c 0).trans rfl
      have s1 : wr.cell? ⟨w.heap.size, 1, none⟩ = some (.slice aa ops.length acap) := (Lib.cell_of_heap hL.c 1).trans rfl
      have s2 : wr.cell? ⟨ob, 1, none⟩ = some (.slice oa ps.length oc) := (Lib.cell_of_heap hL.out 1).trans rfl
      have hobl := lt_of_heap hL.out
      have hbw := lt_of_heap hL.c
      by_cases hlt : ps.length < ops.length
      · have hlt' : (ps.length : Int) < (ops.length : Int) := by omega
        obtain ⟨b, off, rfl, hbl, av, q0, qp, x0, x1, x2, x3⟩ := V3.out ps.length hlt
        obtain ⟨z1, z2⟩ := Hz.out.2 _ (List.getElem_mem hlt)
        have htk : ops.take (ps.length + 1) = ops.take ps.length ++ [ops[ps.length]] := List.take_succ_eq_append_getElem hlt
        obtain ⟨o, ho⟩ : ∃ o, o = ops[ps.length] := ⟨_, rfl⟩
        rw [← ho] at q0 x0 x1 x2 z1 z2 htk
        obtain ⟨ar, cr, rfl⟩ := q0.shape
        have y0 : wr.cell? ⟨b, off + ps.length * 4, none⟩ = some (.int .i64 o.kind) := (hB.cell (by exact hbl)).trans x0
        have y1 : wr.cell? ⟨b, off + ps.length * 4 + 1, none⟩ = some (.int .i64 o.n) := (hB.cell (by exact hbl)).trans x1
        have y2 : wr.cell? ⟨b, off + ps.length * 4 + 2, none⟩ = some (.string o.text) := (hB.cell (by exact hbl)).trans x2
        have y3 : wr.cell? ⟨b, off + ps.length * 4 + 3, none⟩ = some (.slice ar o.attrs.length cr) := (hB.cell (by exact hbl)).trans x3
        obtain ⟨X, hX⟩ : ∃ X, X = wr.alloc (.cells #[.int .i64 o.kind, .int .i64 o.n, .string o.text, .slice ar o.attrs.length cr] 48) := ⟨_, rfl⟩
        have BX : Below wr.heap.size wr X := by rw [hX]; exact below_box _ _
        have hbox : X.heap[wr.heap.size]? = some (.cells #[.int .i64 o.kind, .int .i64 o.n, .string o.text, .slice ar o.attrs.length cr] 48 (0, 0)) := by rw [hX]; exact heap_new _ _
        have d3 : X.cell? ⟨wr.heap.size, 3, none⟩ = some (.slice ar o.attrs.length cr) := (Lib.cell_of_heap hbox 3).trans rfl
        have hXs : wr.heap.size < X.heap.size := lt_of_heap hbox
        have HX := Lib.hid hX
        have HLX := Lib.hid (hL.below BX)
        have HBX := Lib.hid (hB.trans (BX.mono hB.size))
        have HBOX := Lib.hid hbox
        have HTK := Lib.hid htk
        have HPS := Lib.hid hps
        have HOLD := Lib.hid (fun q (hq : q ∈ ps) j (hj : q.2.ownBlock = some j) => ((hL.att q hq).lt j hj).2)
        have HOWN := Lib.hid (fun j (hj : (Value.slice oa ps.length oc).ownBlock = some j) => (hL.row.lt j hj).2)
        have HLN := Lib.hid (lent_any (.slice ar o.attrs.length cr) o.attrs X (q0.below (hB.trans (BX.mono hB.size))) qp (by have := z2.1; omega))
        clear q0 qp x0 x1 x2 x3 z1 z2 htk hps hL ho BX hX hbox s0
        go_wp2_with fail
        rw [← HX.out]
        go_wp2_with fail
        refine HLN.out.mono ?_
        rintro e w2 ⟨g, rfl, o2, b2⟩
        have hg := (o2.lt g rfl)
        have bx2 := (b2.block _ hXs).trans HBOX.out
        have g3 : w2.cell? ⟨wr.heap.size, 3, none⟩ = some (.slice ar o.attrs.length cr) := (Lib.cell_of_heap bx2 3).trans rfl
        have fz3 : w2.frozen? ⟨wr.heap.size, 3, none⟩ = false := Lib.frozen_of_heap bx2 3
        have hs2 := b2.size
        have kY : Keep w.heap.size [48] w2 (w2.setCell ⟨wr.heap.size, 3, none⟩ (.slice (some ⟨g, 0, none⟩) o.attrs.length (o.attrs.length + 1))) := keep_set bx2 (by simp) (by omega) _ rfl _
        have bY : (w2.setCell ⟨wr.heap.size, 3, none⟩ (.slice (some ⟨g, 0, none⟩) o.attrs.length (o.attrs.length + 1))).heap[wr.heap.size]? = some (.cells #[.int .i64 o.kind, .int .i64 o.n, .string o.text, .slice (some ⟨g, 0, none⟩) o.attrs.length (o.attrs.length + 1)] 48 (0, 0)) := nblk_set bx2
        have LY : LWay (w2.setCell ⟨wr.heap.size, 3, none⟩ (.slice (some ⟨g, 0, none⟩) o.attrs.length (o.attrs.length + 1))) w.heap.size ob f (.slice (some ⟨b, off, none⟩) ops.length acap) 0 oa oc ps := by
          have h2 := HLX.out.below b2
          exact ⟨kY.kept _ _ _ _ h2.out (by decide), kY.kept _ _ _ _ h2.c (by decide), kY.kept _ _ _ _ h2.res (by decide), own_set_other h2.row _ (fun hj => absurd (HOWN.out _ hj) (Nat.lt_irrefl _)) _, fun q hq => (h2.att q hq).keep kY (by decide), h2.pw⟩
        have LQ : LAtt (w2.setCell ⟨wr.heap.size, 3, none⟩ (.slice (some ⟨g, 0, none⟩) o.attrs.length (o.attrs.length + 1))) w.heap.size (o, .slice (some ⟨g, 0, none⟩) o.attrs.length (o.attrs.length + 1)) := ⟨g, rfl, kY.own (own_base o2 (by omega)) (by decide)⟩
        have hsY : X.heap.size ≤ (w2.setCell ⟨wr.heap.size, 3, none⟩ (.slice (some ⟨g, 0, none⟩) o.attrs.length (o.attrs.length + 1))).heap.size := by simpa [World.setCell] using hs2
        have m0 : w2.cell? ⟨wr.heap.size, 0, none⟩ = some (.int .i64 o.kind) := (Lib.cell_of_heap bx2 0).trans rfl
        have m1 : w2.cell? ⟨wr.heap.size, 1, none⟩ = some (.int .i64 o.n) := (Lib.cell_of_heap bx2 1).trans rfl
        have m2 : w2.cell? ⟨wr.heap.size, 2, none⟩ = some (.string o.text) := (Lib.cell_of_heap bx2 2).trans rfl
        have m4 : w2.cell? ⟨ob, 1, none⟩ = some (.slice oa ps.length oc) := (Lib.cell_of_heap (HLX.out.below b2).out 1).trans rfl
        have HLY := Lib.hid LY
        have HLQ := Lib.hid LQ
        have HBY := Lib.hid (HBX.out.trans ((b2.mono HBX.out.size).trans kY.below))
        have hBYs : w.heap.size ≤ (w2.setCell ⟨wr.heap.size, 3, none⟩ (.slice (some ⟨g, 0, none⟩) o.attrs.length (o.attrs.length + 1))).heap.size := by omega
        have hgX : X.heap.size ≤ g := hg.1
        clear o2 b2 bx2 kY bY LY LQ hg
        have HSZ := Lib.hid (show (w2.setCell ⟨wr.heap.size, 3, none⟩ (.slice (some ⟨g, 0, none⟩) o.attrs.length (o.attrs.length + 1))).heap.size = w2.heap.size by simp [World.setCell])
        have hA : ((w2.setCell ⟨wr.heap.size, 3, none⟩ (.slice (some ⟨g, 0, none⟩) o.attrs.length (o.attrs.length + 1))).alloc (.cells #[.int .i64 o.kind, .int .i64 o.n, .string o.text, .slice (some ⟨g, 0, none⟩) o.attrs.length (o.attrs.length + 1)] 48)).heap.size = (w2.setCell ⟨wr.heap.size, 3, none⟩ (.slice (some ⟨g, 0, none⟩) o.attrs.length (o.attrs.length + 1))).heap.size + 1 := by simp
        have HA := Lib.hid hA
        clear hA
        go_wp2_with (at_builtin; refine wpList_append_new rfl (.tmp 31) (.tmp 33) 22 rfl 48 i0 (.agg #[.int .i64 0, .int .i64 0, .string ⟨#[]⟩, .slice none 0 0]) 4 56 Tryz.underlying22 Hi.out.1 Hi.out.2.1 Hi.out.2.2.1 Hi.out.2.2.2 rfl (by decide) w.heap.size (.slice oa ps.length oc) ps.length (flatO ps) rfl (HLY.out.row.alloc _) ⟨w2.heap.size, 0, none⟩ 1 1 [.int .i64 o.kind, .int .i64 o.n, .string o.text, .slice (some ⟨g, 0, none⟩) o.attrs.length (o.attrs.length + 1)] rfl rfl (by have := new_at4 (w2.setCell ⟨wr.heap.size, 3, none⟩ (.slice (some ⟨g, 0, none⟩) o.attrs.length (o.attrs.length + 1))) (.int .i64 o.kind) (.int .i64 o.n) (.string o.text) (.slice (some ⟨g, 0, none⟩) o.attrs.length (o.attrs.length + 1)) 48; rw [HSZ.out] at this; exact this) (fun u hu => by simp at hu; rcases hu with rfl | rfl | rfl | rfl <;> rfl) (by unfold maxLen; omega) (by omega) (by have := HA.out; omega) ?_; intro v' w5 oC gC nC; obtain ⟨oa', oc', rfl⟩ := own_slice oC; have LA := HLY.out.below (below_box (w2.setCell ⟨wr.heap.size, 3, none⟩ (.slice (some ⟨g, 0, none⟩) o.attrs.length (o.attrs.length + 1))) (.cells #[.int .i64 o.kind, .int .i64 o.n, .string o.text, .slice (some ⟨g, 0, none⟩) o.attrs.length (o.attrs.length + 1)] 48)); have KC := keepO_grown LA.row gC (by have := HA.out; omega) nC; have e5 := KC.keep.kept _ _ _ _ LA.out (by decide); have e1 : w5.cell? ⟨ob, 1, none⟩ = some (.slice oa ps.length oc) := (Lib.cell_of_heap e5 1).trans rfl; have e2 : w5.frozen? ⟨ob, 1, none⟩ = false := Lib.frozen_of_heap e5 1; have NX := Lib.hid (lway_put LA KC oC ((HLQ.out.keep (keep_below (B := w.heap.size) (ts := []) (below_box (w2.setCell ⟨wr.heap.size, 3, none⟩ (.slice (some ⟨g, 0, none⟩) o.attrs.length (o.attrs.length + 1))) _) hBYs) (by simp)).keep KC.keep (by decide)) (fun x hx hh => by have := HOLD.out x hx g (hh.trans rfl); omega) hob1); have HB5 := Lib.hid ((HBY.out.trans ((below_box (w2.setCell ⟨wr.heap.size, 3, none⟩ (.slice (some ⟨g, 0, none⟩) o.attrs.length (o.attrs.length + 1))) _).mono HBY.out.size)).trans KC.keep.below); clear oC gC nC LA KC e5)
        go_roundw
        case rel => exact ⟨ps ++ [(o, .slice (some ⟨g, 0, none⟩) o.attrs.length (o.attrs.length + 1))], oa', oc', by rw [List.length_append, List.length_singleton]; go_num, by rw [List.length_append, List.length_singleton]; omega, by rw [List.map_append, List.length_append, List.length_singleton, HTK.out, HPS.out]; rfl, NX.out.1, HB5.out.trans NX.out.2.below⟩
        case measure => simp [intOf]; omega
      · have hkn : ps.length = ops.length := by omega
        rw [hkn, List.take_length] at hps
        have HPS := Lib.hid hps
        have hLw := hL
        have HBX := Lib.hid hB
        have hobN : ob < wr.heap.size := hobl
        have hcN : w.heap.size < wr.heap.size := hbw
        obtain ⟨N, hN⟩ : ∃ N, N = ops.length := ⟨_, rfl⟩
        have HN := Lib.hid hN
        rw [hkn] at s2
        clear hps hL hB hlt hk
        go_wp2_with fail
        have HKN := Lib.hid hkn
        have HLX' := Lib.hid hLw
        have S0 : wr.drew.cell? ⟨w.heap.size, 0, none⟩ = some (.int .i64 f) ∧ wr.drew.cell? ⟨w.heap.size, 1, none⟩ = some (.slice aa ops.length acap) ∧ wr.drew.cell? ⟨ob, 1, none⟩ = some (.slice oa ops.length oc) := ⟨s0, s1, s2⟩
        clear hkn hLw
        refine wp_region_B (fun w' => w'.cell? ⟨w.heap.size, 0, none⟩ = some (.int .i64 f) ∧ w'.cell? ⟨w.heap.size, 1, none⟩ = some (.slice aa ops.length acap) ∧ w'.cell? ⟨ob, 1, none⟩ = some (.slice oa ops.length oc)) [12] (by kernel_rfl) (?_ : wpAnyB _ _ _ _ _ _ 13 (Array.replicate 13 false) _ _)
        refine wpAnyB_free (fuel := 12) (i := 0) (v := ?_) rfl (by kernel_rfl) (by kernel_rfl) (by kernel_rfl) (by kernel_rfl) (fun _ _ _ h => h) (.inr S0) ?_ (by rfl) ?_
        rotate_left
        · intro w'; go_simp; (try with_reducible rfl)
        simp only [Act.put, List.getElem_toArray, List.getElem_cons_zero, List.setIfInBounds_toArray, List.set_cons_zero, List.set_cons_succ]
        refine wpAnyB_load [1,11,12] (fuel := 11) (i := 1) (v := ?_) rfl (by kernel_rfl) (by kernel_rfl) (by kernel_rfl) (by kernel_rfl) (by kernel_rfl) (fun _ _ _ h => h) (.inr S0) ?_ (by rfl) ?_
        rotate_left
        · intro w' hw'; obtain ⟨m0, m1, m2⟩ := hw'; go_simp; (try with_reducible rfl)
        simp only [Act.put, List.getElem_toArray, List.getElem_cons_zero, List.getElem_cons_succ, List.setIfInBounds_toArray, List.set_cons_zero, List.set_cons_succ]
        refine wpAnyB_free (fuel := 10) (i := 2) (v := ?_) rfl (by kernel_rfl) (by kernel_rfl) (by kernel_rfl) (by kernel_rfl) (fun _ _ _ h => h) (.inr S0) ?_ (by rfl) ?_
        rotate_left
        · intro w'; go_simp; (try with_reducible rfl)
        simp only [Act.put, List.getElem_toArray, List.getElem_cons_zero, List.getElem_cons_succ, List.setIfInBounds_toArray, List.set_cons_zero, List.set_cons_succ]
        refine wpAnyB_load [3,6,10,11,12] (fuel := 9) (i := 3) (v := ?_) rfl (by kernel_rfl) (by kernel_rfl) (by kernel_rfl) (by kernel_rfl) (by kernel_rfl) (fun _ _ _ h => h) (.inr S0) ?_ (by rfl) ?_
        rotate_left
        · intro w' hw'; obtain ⟨m0, m1, m2⟩ := hw'; go_simp; (try with_reducible rfl)
        simp only [Act.put, List.getElem_toArray, List.getElem_cons_zero, List.getElem_cons_succ, List.setIfInBounds_toArray, List.set_cons_zero, List.set_cons_succ]
        refine wpAnyB_free (fuel := 8) (i := 4) (v := ?_) rfl (by kernel_rfl) (by kernel_rfl) (by kernel_rfl) (by kernel_rfl) (fun _ _ _ h => h) (.inr S0) ?_ (by rfl) ?_
        rotate_left
        · intro w'; go_simp; (try with_reducible rfl)
        simp only [Act.put, List.getElem_toArray, List.getElem_cons_zero, List.getElem_cons_succ, List.setIfInBounds_toArray, List.set_cons_zero, List.set_cons_succ]
        refine wpAnyB_free (fuel := 7) (i := 7) (v := ?_) rfl (by kernel_rfl) (by kernel_rfl) (by kernel_rfl) (by kernel_rfl) (fun _ _ _ h => h) (.inr S0) ?_ (by rfl) ?_
        rotate_left
        · intro w'; go_simp; (try with_reducible rfl)
        simp only [Act.put, List.getElem_toArray, List.getElem_cons_zero, List.getElem_cons_succ, List.setIfInBounds_toArray, List.set_cons_zero, List.set_cons_succ]
        refine wpAnyB_load [8,9,10,11,12] (fuel := 6) (i := 8) (v := ?_) rfl (by kernel_rfl) (by kernel_rfl) (by kernel_rfl) (by kernel_rfl) (by kernel_rfl) (fun _ _ _ h => h) (.inr S0) ?_ (by rfl) ?_
        rotate_left
        · intro w' hw'; obtain ⟨m0, m1, m2⟩ := hw'; go_simp; (try with_reducible rfl)
        simp only [Act.put, List.getElem_toArray, List.getElem_cons_zero, List.getElem_cons_succ, List.setIfInBounds_toArray, List.set_cons_zero, List.set_cons_succ]
        refine wpAnyB_free (fuel := 5) (i := 9) (v := ?_) rfl (by kernel_rfl) (by kernel_rfl) (by kernel_rfl) (by kernel_rfl) (fun _ _ _ h => h) (.inr S0) ?_ (by rfl) ?_
        rotate_left
        · intro w'; go_simp; (try with_reducible rfl)
        simp only [Act.put, List.getElem_toArray, List.getElem_cons_zero, List.getElem_cons_succ, List.setIfInBounds_toArray, List.set_cons_zero, List.set_cons_succ]
        refine wpAnyB_one (fuel := 4) (i := 5) rfl (by kernel_rfl) ?_
        intro KB hKB
        go_simp
        have SB : (wr.drew.alloc (.cells #[.int .i64 99, .int .i64 0, .string ⟨#[]⟩, .slice none 0 0] 48)).cell? ⟨w.heap.size, 0, none⟩ = some (.int .i64 f) ∧ (wr.drew.alloc (.cells #[.int .i64 99, .int .i64 0, .string ⟨#[]⟩, .slice none 0 0] 48)).cell? ⟨w.heap.size, 1, none⟩ = some (.slice aa ops.length acap) ∧ (wr.drew.alloc (.cells #[.int .i64 99, .int .i64 0, .string ⟨#[]⟩, .slice none 0 0] 48)).cell? ⟨ob, 1, none⟩ = some (.slice oa ops.length oc) := ⟨((below_box wr.drew _).cell (by exact hcN)).trans s0, ((below_box wr.drew _).cell (by exact hcN)).trans s1, ((below_box wr.drew _).cell (by exact hobN)).trans s2⟩
        have HLA := Lib.hid ((show LWay wr.drew w.heap.size ob f (.slice aa ops.length acap) 0 oa oc ps from HLX'.out.below (Below.refl _ _).drew).below (below_box wr.drew (.cells #[.int .i64 99, .int .i64 0, .string ⟨#[]⟩, .slice none 0 0] 48)))
        refine hKB _ _ (.inr SB) ?_
        (try simp only [Act.put, List.getElem_toArray, List.getElem_cons_zero, List.getElem_cons_succ, List.setIfInBounds_toArray, List.set_cons_zero, List.set_cons_succ])
        refine wpAnyB_one (fuel := 3) (i := 6) rfl (by kernel_rfl) ?_
        intro KB hKB
        refine step_append_new rfl (.tmp 39) (.tmp 41) 22 rfl 48 i0 (.agg #[.int .i64 0, .int .i64 0, .string ⟨#[]⟩, .slice none 0 0]) 4 56 Tryz.underlying22 Hi.out.1 Hi.out.2.1 Hi.out.2.2.1 Hi.out.2.2.2 rfl (by decide) w.heap.size (.slice oa ops.length oc) ops.length (flatO ps) rfl (by have := HLA.out.row; rwa [HKN.out] at this) ⟨wr.heap.size, 0, none⟩ 1 1 (opCells (markO, .slice none 0 0)) rfl rfl (new_at4 _ _ _ _ _ _) (fun u hu => by simp [opCells, markO] at hu; rcases hu with rfl | rfl | rfl | rfl <;> rfl) (by unfold maxLen; omega) (by omega) (by simp; omega) ?_
        intro v' w5 oC gC nC
        obtain ⟨gg, gc, rfl⟩ := ownsRow_open oC (Nat.succ_pos _)
        have KC := keepO_grown (show (wr.drew.alloc (.cells #[.int .i64 99, .int .i64 0, .string ⟨#[]⟩, .slice none 0 0] 48)).ownsRow w.heap.size 48 4 (.slice oa ops.length oc) ops.length (flatO ps) by have := HLA.out.row; rwa [HKN.out] at this) gC (by simp; omega) nC
        have ec := KC.keep.kept _ _ _ _ HLA.out.c (by decide)
        have eo := KC.keep.kept _ _ _ _ HLA.out.out (by decide)
        have er := KC.keep.kept _ _ _ _ HLA.out.res (by decide)
        rw [HKN.out] at eo
        have SC : w5.cell? ⟨w.heap.size, 0, none⟩ = some (.int .i64 f) ∧ w5.cell? ⟨w.heap.size, 1, none⟩ = some (.slice aa ops.length acap) ∧ w5.cell? ⟨ob, 1, none⟩ = some (.slice oa ops.length oc) := ⟨(Lib.cell_of_heap ec 0).trans rfl, (Lib.cell_of_heap ec 1).trans rfl, (Lib.cell_of_heap eo 1).trans rfl⟩
        have t0 : w5.cell? ⟨w.heap.size + 1, 0, none⟩ = some (.int .i64 0) := (Lib.cell_of_heap er 0).trans rfl
        have t1 : w5.cell? ⟨w.heap.size + 1, 1, none⟩ = some (.slice none 0 0) := (Lib.cell_of_heap er 1).trans rfl
        have t2 : w5.frozen? ⟨w.heap.size + 1, 0, none⟩ = false := Lib.frozen_of_heap er 0
        have t3 : w5.frozen? ⟨w.heap.size + 1, 1, none⟩ = false := Lib.frozen_of_heap er 1
        have LR : LRow w5 w.heap.size gg gc ps := ⟨by rw [HKN.out, flatO_snoc]; exact oC, fun q hq => (HLA.out.att q hq).keep KC.keep (by decide), HLA.out.pw⟩
        have hsl := slice_ops gg (ops.length + 1) gc ops.length (by have := LR.cap; rw [HKN.out] at this; omega)
        have S1 : Keep w.heap.size [24] w5 (w5.setCell ⟨w.heap.size + 1, 0, none⟩ (.int .i64 f)) := keep_set er (by simp) (Nat.le_succ _) _ rfl _
        have rB := nblk_set (j := 0) (u := .int .i64 f) er
        have S2 : Keep w.heap.size [24] (w5.setCell ⟨w.heap.size + 1, 0, none⟩ (.int .i64 f)) ((w5.setCell ⟨w.heap.size + 1, 0, none⟩ (.int .i64 f)).setCell ⟨w.heap.size + 1, 1, none⟩ (.slice (some ⟨gg, 0, none⟩) ops.length gc)) := keep_set rB (by simp) (Nat.le_succ _) _ rfl _
        have rC := nblk_set (j := 1) (u := .slice (some ⟨gg, 0, none⟩) ops.length gc) rB
        have FIN : LentOutC w f ops (.returned (chAgg f (.slice (some ⟨gg, 0, none⟩) ops.length gc))) ((w5.setCell ⟨w.heap.size + 1, 0, none⟩ (.int .i64 f)).setCell ⟨w.heap.size + 1, 1, none⟩ (.slice (some ⟨gg, 0, none⟩) ops.length gc)) := ⟨gg, gc, ps, rfl, HPS.out, LR.keep (S1.trans S2) (by decide) (by decide), ((HBX.out.trans (((Below.refl _ wr).drew).mono HBX.out.size)).trans (((below_box wr.drew (.cells #[.int .i64 99, .int .i64 0, .string ⟨#[]⟩, .slice none 0 0] 48)).mono (show w.heap.size ≤ wr.drew.heap.size from HBX.out.size)).trans KC.keep.below)).trans (S1.trans S2).below⟩
        have HFIN := Lib.hid FIN
        have z0 := (Lib.cell_of_heap rC 0).trans rfl
        have z1 := (Lib.cell_of_heap rC 1).trans rfl
        clear oC gC nC KC ec eo er LR S1 S2 rB rC FIN
        refine hKB _ _ (.inr SC) ?_
        (try simp only [Act.put, List.getElem_toArray, List.getElem_cons_zero, List.getElem_cons_succ, List.setIfInBounds_toArray, List.set_cons_zero, List.set_cons_succ])
        refine wpAnyB_free (fuel := 2) (i := 10) (v := ?_) rfl (by kernel_rfl) (by kernel_rfl) (by kernel_rfl) (by kernel_rfl) (fun _ _ _ h => h) (.inr SC) ?_ (by rfl) ?_
        rotate_left
        · intro w'; go_simp; (try with_reducible rfl)
        simp only [Act.put, List.getElem_toArray, List.getElem_cons_zero, List.getElem_cons_succ, List.setIfInBounds_toArray, List.set_cons_zero, List.set_cons_succ]
        refine wpAnyB_free (fuel := 1) (i := 11) (v := ?_) rfl (by kernel_rfl) (by kernel_rfl) (by kernel_rfl) (by kernel_rfl) (fun _ _ _ h => h) (.inr SC) ?_ (by rfl) ?_
        rotate_left
        · intro w'; go_simp; (try with_reducible rfl)
        simp only [Act.put, List.getElem_toArray, List.getElem_cons_zero, List.getElem_cons_succ, List.setIfInBounds_toArray, List.set_cons_zero, List.set_cons_succ]
        refine wpAnyB_one (fuel := 0) (i := 12) rfl (by kernel_rfl) ?_
        intro KB hKB
        go_simp
        refine hKB _ _ (.inl (by kernel_rfl)) ?_
        (try simp only [Act.put, List.getElem_toArray, List.getElem_cons_zero, List.getElem_cons_succ, List.setIfInBounds_toArray, List.set_cons_zero, List.set_cons_succ])
        refine wpAnyB_done (by kernel_rfl) ?_
        go_wp2_with fail
        exact bodyPost_ret (v := chAgg f (.slice (some ⟨gg, 0, none⟩) ops.length gc)) (by simp [results, Tryz.results10, go_sem, z0, z1]) rfl HFIN.out
end Go.Proofs.YtacgkbdldbppjaaGreatDoor

/- The law's Kept and Spoil, of changesets. -/
namespace Go.Proofs.YtacgkbdldbppjaaGreatDoor
open Go.RowKit Ch At

theorem span_new {lo hi : Nat} {w w' : World} (h : Span lo hi w w') {p : Addr} (hp : w.heap.size ≤ p.block) (hl : lo ≤ p.block) (u : Value) : Span lo hi w (w'.setCell p u) :=
  ⟨h.below.setCell hl u, fun i hi' hh => (Below.heap_setCell w' p u i (by omega)).trans (h.block i hi' hh)⟩
theorem span_alloc {lo hi : Nat} {w w' : World} (h : Span lo hi w w') (hl : lo ≤ w.heap.size) (o : Obj) : Span lo hi w (w'.alloc o) := h.trans (span_below (below_box _ _) (Nat.le_trans hl h.below.size))
theorem op_cell {w : World} {B g n cap j : Nat} {xs : List Value} (h : w.ownsRow B 48 4 (.slice (some ⟨g, 0, none⟩) n cap) n xs) (hj : j < n * 4) : ∃ u, w.cell? ⟨g, j, none⟩ = some u := by
  have hl : j < xs.length := by rw [h.1]; exact hj
  exact ⟨xs[j], by rw [h.cellAt j hj]; exact List.getElem?_eq_getElem hl⟩
/-- One operation written over in one's own row: what it is then, elsewhere. -/
theorem op_stored {w : World} {B g n cap k : Nat} {xs : List Value} (h : w.ownsRow B 48 4 (.slice (some ⟨g, 0, none⟩) n cap) n xs) (u0 u1 u2 u3 : Value) :
    ∃ ys, ((((w.setCell ⟨g, k * 4, none⟩ u0).setCell ⟨g, k * 4 + 1, none⟩ u1).setCell ⟨g, k * 4 + 2, none⟩ u2).setCell ⟨g, k * 4 + 3, none⟩ u3).ownsRow B 48 4 (.slice (some ⟨g, 0, none⟩) n cap) n ys ∧ ∀ j, (k + 1) * 4 ≤ j → ys[j]? = xs[j]? := by
  refine ⟨_, ((((h.stored (k * 4) u0).1.stored (k * 4 + 1) u1).1.stored (k * 4 + 2) u2).1.stored (k * 4 + 3) u3).1, fun j hj => ?_⟩
  rw [List.getElem?_set_ne (by omega), List.getElem?_set_ne (by omega), List.getElem?_set_ne (by omega), List.getElem?_set_ne (by omega)]
theorem keep_ops4 {w : World} {B g n cap k : Nat} {xs : List Value} (h : w.ownsRow B 48 4 (.slice (some ⟨g, 0, none⟩) n cap) n xs) (u0 u1 u2 u3 : Value) :
    Keep B [48] w ((((w.setCell ⟨g, k * 4, none⟩ u0).setCell ⟨g, k * 4 + 1, none⟩ u1).setCell ⟨g, k * 4 + 2, none⟩ u2).setCell ⟨g, k * 4 + 3, none⟩ u3) := by
  obtain ⟨hB, cs, hcs⟩ := own_heap h
  have b1 := nblk_set (j := k * 4) (u := u0) hcs
  have b2 := nblk_set (j := k * 4 + 1) (u := u1) b1
  have b3 := nblk_set (j := k * 4 + 2) (u := u2) b2
  exact (((keep_set hcs (by simp) hB ⟨g, k * 4, none⟩ rfl u0).trans (keep_set b1 (by simp) hB ⟨g, k * 4 + 1, none⟩ rfl u1)).trans (keep_set b2 (by simp) hB ⟨g, k * 4 + 2, none⟩ rfl u2)).trans (keep_set b3 (by simp) hB ⟨g, k * 4 + 3, none⟩ rfl u3)
theorem span_ops4 {lo hi g k : Nat} {w : World} (h1 : lo ≤ g) (h2 : g < hi) (u0 u1 u2 u3 : Value) : Span lo hi w ((((w.setCell ⟨g, k * 4, none⟩ u0).setCell ⟨g, k * 4 + 1, none⟩ u1).setCell ⟨g, k * 4 + 2, none⟩ u2).setCell ⟨g, k * 4 + 3, none⟩ u3) :=
  (((span_set (p := ⟨g, k * 4, none⟩) h1 h2 u0).trans (span_set (p := ⟨g, k * 4 + 1, none⟩) h1 h2 u1)).trans (span_set (p := ⟨g, k * 4 + 2, none⟩) h1 h2 u2)).trans (span_set (p := ⟨g, k * 4 + 3, none⟩) h1 h2 u3)

theorem latt_kept {w w' : World} {B g : Nat} {q : PA} (h : LAtt w B q) (hg : w.grownBy w' (some g)) (hne : q.2.ownBlock ≠ some g) : LAtt w' B q := by
  obtain ⟨g', e, h⟩ := h
  exact ⟨g', e, h.kept hg (.inr (by rw [e] at hne; exact hne))⟩
def KeptOutC (w : World) (B E : Nat) (e : Ending) (w' : World) : Prop := e = .returned (.bool true) ∧ Span B E w w'
set_option maxRecDepth 100000 in
set_option maxHeartbeats 8000000 in
theorem keptC_any (f : Int) (v : Value) (ops : List OpD) (B E gg gc : Nat) (ps : List PA) (w0 w : World) (hL : LRow w B gg gc ps) (hps : ps.map (·.1) = ops) (hv : OpRow w0 v ops) (hw0 : Below w0.heap.size w0 w) (hB : w0.heap.size ≤ B) (hz : SmallO ops)
    (hgE : gg < E) (haE : ∀ q ∈ ps, ∀ j, q.2.ownBlock = some j → j < E) (hEw : E ≤ w.heap.size) :
    Calls Tryz.prog 12 #[chAgg f (.slice (some ⟨gg, 0, none⟩) ops.length gc), chAgg f v] w (KeptOutC w B E) := by
  have hln : ps.length = ops.length := by rw [← hps]; simp
  have hn : ops.length ≤ 1048576 := hz.1
  have hcap := hL.cap
  have hBw : B ≤ w.heap.size := by have := (hL.row.lt gg rfl).1; omega
  have HSM := Lib.hid (refSameCh_any f f (.slice (some ⟨gg, 0, none⟩) ops.length gc) v ops ops)
  obtain ⟨aa, acap, rfl, v1, v2, v3⟩ := hv
  obtain ⟨W, hW⟩ : ∃ W, W = (w.alloc (.cells #[.int .i64 f, .slice (some ⟨gg, 0, none⟩) ops.length gc] 24)).alloc (.cells #[.int .i64 f, .slice aa ops.length acap] 24) := ⟨_, rfl⟩
  have BW : Below w.heap.size w W := by rw [hW]; exact ((Below.refl _ _).alloc (Nat.le_refl _) _).alloc (by simp) _
  have b0 : W.heap[w.heap.size]? = some (.cells #[.int .i64 f, .slice (some ⟨gg, 0, none⟩) ops.length gc] 24 (0, 0)) := by
    rw [hW, Below.heap_alloc _ _ _ (by simp)]
    exact heap_new _ _
  have b1 : W.heap[w.heap.size + 1]? = some (.cells #[.int .i64 f, .slice aa ops.length acap] 24 (0, 0)) := by
    rw [hW]
    have := heap_new (w.alloc (.cells #[.int .i64 f, .slice (some ⟨gg, 0, none⟩) ops.length gc] 24)) (.cells #[.int .i64 f, .slice aa ops.length acap] 24)
    simpa using this
  have hc0 : OpRow w (.slice aa ops.length acap) ops := OpRow.below ⟨aa, acap, rfl, v1, v2, v3⟩ hw0
  have hin : OpRow W (.slice (some ⟨gg, 0, none⟩) ops.length gc) ops := by
    have := (hL.below BW).ops
    rw [hln, hps] at this
    exact this
  have HS := Lib.hid (HSM.out W hin (hc0.below BW))
  rw [show sameCh f f ops ops = true from decide_eq_true ⟨rfl, rfl⟩] at HS
  have c0 : W.cell? ⟨w.heap.size, 0, none⟩ = some (.int .i64 f) := (Lib.cell_of_heap b0 0).trans rfl
  have c1 : W.cell? ⟨w.heap.size, 1, none⟩ = some (.slice (some ⟨gg, 0, none⟩) ops.length gc) := (Lib.cell_of_heap b0 1).trans rfl
  have d0 : W.cell? ⟨w.heap.size + 1, 0, none⟩ = some (.int .i64 f) := (Lib.cell_of_heap b1 0).trans rfl
  have d1 : W.cell? ⟨w.heap.size + 1, 1, none⟩ = some (.slice aa ops.length acap) := (Lib.cell_of_heap b1 1).trans rfl
  have HB0 := Lib.hid b0
  have HB1 := Lib.hid b1
  have HW := Lib.hid hW
  have HBW := Lib.hid BW
  have HLW := Lib.hid (hL.below BW)
  have V3 := Lib.hid v3
  have HW0 := Lib.hid (hw0.trans (BW.mono hw0.size))
  have HLN := Lib.hid hln
  have HPS := Lib.hid hps
  have HAE := Lib.hid haE
  have hsl := slice_ops gg ops.length gc (ops.length + 1) (by omega)
  have ecast : ((ops.length + 1 : Nat) : Int) = (ops.length : Int) + 1 := by omega
  rw [ecast] at hsl
  have hz' := Lib.hid hz
  have hWs : w.heap.size + 2 = W.heap.size := by rw [hW]; simp
  have hggB : B ≤ gg := (hL.row.lt gg rfl).1
  clear hL hps hz haE v1 v2 v3 hin hc0 hW BW b0 b1 hw0 ecast hln
  go_enter Tryz.func12, Tryz.ntmps12
  go_wp2_with fail
  rw [← HW.out]
  go_wp2_with fail
  refine HS.out.mono ?_
  rintro e w1 ⟨rfl, bb⟩
  have HS1 := Lib.hid (show Span B E W w1 from span_below bb (by have := HBW.out.size; omega))
  have HL1 := Lib.hid (HLW.out.below bb)
  have hW1 := bb.size
  have x0 := (bb.block _ (show w.heap.size < W.heap.size by omega)).trans HB0.out
  have x1 := (bb.block _ (show w.heap.size + 1 < W.heap.size by omega)).trans HB1.out
  have e1 : w1.cell? ⟨w.heap.size, 1, none⟩ = some (.slice (some ⟨gg, 0, none⟩) ops.length gc) := (Lib.cell_of_heap x0 1).trans rfl
  have em : w1.cell? ⟨gg, ops.length * 4, none⟩ = some (.int .i64 99) := by
    have := (last_cells HL1.out.row).1
    rw [HLN.out] at this
    exact this
  have i1 : (0 : Int) ≤ (ops.length : Int) := by omega
  have i2 : (ops.length : Int) < (ops.length : Int) + 1 := by omega
  clear bb c0 c1 d0 d1 x0 x1
  go_wp2_with fail
  go_loopw [7, 8] (fun s i wr => ∃ k : Nat, s = .bool true ∧ i = .int .i64 (k : Int) ∧ k ≤ ops.length ∧ Span B E W wr ∧ wr.ownsRow B 48 4 (.slice (some ⟨gg, 0, none⟩) (ops.length + 1) gc) (ops.length + 1) (flatO (ps ++ [(markO, .slice none 0 0)])) ∧ (∀ j (hj : j < ps.length), k ≤ j → LAtt wr B ps[j])) (fun _ i _ => ops.length - (intOf i).toNat)
  case atStart => exact ⟨0, rfl, rfl, Nat.zero_le _, HS1.out, by have := HL1.out.row; rwa [HLN.out] at this, fun j hj _ => HL1.out.att _ (List.getElem_mem hj)⟩
  case round =>
    obtain ⟨k, rfl, rfl, hk, hS, hr, hA⟩ := hrel
    have xb0 := (hS.block _ (show w.heap.size < W.heap.size by omega) hEw).trans HB0.out
    have xb1 := (hS.block _ (show w.heap.size + 1 < W.heap.size by omega) (by omega)).trans HB1.out
    have s0 : wr.cell? ⟨w.heap.size, 1, none⟩ = some (.slice (some ⟨gg, 0, none⟩) ops.length gc) := (Lib.cell_of_heap xb0 1).trans rfl
    have s1 : wr.cell? ⟨w.heap.size + 1, 1, none⟩ = some (.slice aa ops.length acap) := (Lib.cell_of_heap xb1 1).trans rfl
    clear xb0 xb1 e1 em
    by_cases hlt : k < ops.length
    · have hlt' : (k : Int) < (ops.length : Int) := by omega
      have hlt2 : (k : Int) < (ops.length : Int) + 1 := by omega
      have k0 : (0 : Int) ≤ (k : Int) := by omega
      have hkp : k < ps.length := by have := HLN.out; omega
      obtain ⟨b, off, rfl, hbl, av, q0, qp, _, _, _, x3⟩ := V3.out k hlt
      have hpo : ps[k].1 = ops[k] := by
        have h1 : (ps.map (·.1))[k]'(by simp; exact hkp) = ps[k].1 := List.getElem_map _
        rw [← h1]
        simp only [HPS.out]
      have BC : Below w0.heap.size w0 wr := HW0.out.trans (hS.below.mono hB)
      obtain ⟨o, ho⟩ : ∃ o, o = ops[k] := ⟨_, rfl⟩
      rw [← ho] at q0 hpo
      obtain ⟨ar, cr, rfl⟩ := q0.shape
      obtain ⟨g, e2, orow⟩ := hA k hkp (Nat.le_refl _)
      rw [hpo] at e2 orow
      have y3 : wr.cell? ⟨b, off + k * 4 + 3, none⟩ = some (.slice ar o.attrs.length cr) := (BC.cell (by exact hbl)).trans x3
      have y4 : wr.cell? ⟨gg, k * 4 + 3, none⟩ = some (.slice (some ⟨g, 0, none⟩) o.attrs.length (o.attrs.length + 1)) := by
        rw [hr.cellAt (k * 4 + 3) (by omega), flatO_at (ps := ps ++ [(markO, Value.slice none 0 0)]) (i := k) (by simp; omega) 3 (by omega), List.getElem_append_left hkp]
        show some ps[k].2 = _
        rw [e2]
      have hsa := (hz'.out.2 _ (List.getElem_mem hlt)).2.1
      rw [← ho] at hsa
      have HKE := Lib.hid (kept_any (.slice ar o.attrs.length cr) B g o.attrs wr.drew (show wr.drew.ownsRow B _ _ _ _ _ from orow) (q0.below (BC.drew)) (by omega))
      have hgE2 : g < E := HAE.out _ (List.getElem_mem hkp) g (by rw [e2]; rfl)
      have hgB : B ≤ g := (orow.lt g rfl).1
      have hag := own_heap orow
      have HAG := Lib.hid hag
      have HR := Lib.hid hr
      have HA := Lib.hid hA
      have HSP := Lib.hid hS
      have HE2 := Lib.hid e2
      have hBr : B ≤ wr.heap.size := Nat.le_of_lt (Nat.lt_of_le_of_lt hgB (orow.lt g rfl).2)
      have SY : wr.drew.cell? ⟨gg, k * 4 + 3, none⟩ = some (.slice (some ⟨g, 0, none⟩) o.attrs.length (o.attrs.length + 1)) ∧ wr.drew.cell? ⟨w.heap.size + 1, 1, none⟩ = some (.slice (some ⟨b, off, none⟩) ops.length acap) ∧ wr.drew.cell? ⟨b, off + k * 4 + 3, none⟩ = some (.slice ar o.attrs.length cr) := ⟨y4, s1, y3⟩
      clear hS hr hA q0 qp x3 orow e2 BC ho hpo hag y3 y4
      go_wp2_with fail
      refine wp_region_B (fun w' => w'.cell? ⟨gg, k * 4 + 3, none⟩ = some (.slice (some ⟨g, 0, none⟩) o.attrs.length (o.attrs.length + 1)) ∧ w'.cell? ⟨w.heap.size + 1, 1, none⟩ = some (.slice (some ⟨b, off, none⟩) ops.length acap) ∧ w'.cell? ⟨b, off + k * 4 + 3, none⟩ = some (.slice ar o.attrs.length cr)) [11] (by kernel_rfl) (?_ : wpAnyB _ _ _ _ _ _ 13 (Array.replicate 13 false) _ _)
      refine wpAnyB_free (fuel := 12) (i := 0) (v := ?_) rfl (by kernel_rfl) (by kernel_rfl) (by kernel_rfl) (by kernel_rfl) (fun _ _ _ h => h) (.inr SY) ?_ (by rfl) ?_
      rotate_left
      · intro w'; go_simp; (try with_reducible rfl)
      simp only [Act.put, List.getElem_toArray, List.getElem_cons_zero, List.setIfInBounds_toArray, List.set_cons_zero, List.set_cons_succ]
      refine wpAnyB_free (fuel := 11) (i := 1) (v := ?_) rfl (by kernel_rfl) (by kernel_rfl) (by kernel_rfl) (by kernel_rfl) (fun _ _ _ h => h) (.inr SY) ?_ (by rfl) ?_
      rotate_left
      · intro w'; go_simp; (try with_reducible rfl)
      simp only [Act.put, List.getElem_toArray, List.getElem_cons_zero, List.getElem_cons_succ, List.setIfInBounds_toArray, List.set_cons_zero, List.set_cons_succ]
      refine wpAnyB_free (fuel := 10) (i := 2) (v := .pointer (some ⟨gg, k * 4, none⟩)) rfl (by kernel_rfl) (by kernel_rfl) (by kernel_rfl) (by kernel_rfl) (fun _ _ _ h => h) (.inr SY) ?_ (by rfl) ?_
      · intro w'; go_simp; (try (intro hh; omega))
      simp only [Act.put, List.getElem_toArray, List.getElem_cons_zero, List.getElem_cons_succ, List.setIfInBounds_toArray, List.set_cons_zero, List.set_cons_succ]
      refine wpAnyB_free (fuel := 9) (i := 3) (v := ?_) rfl (by kernel_rfl) (by kernel_rfl) (by kernel_rfl) (by kernel_rfl) (fun _ _ _ h => h) (.inr SY) ?_ (by rfl) ?_
      rotate_left
      · intro w'; go_simp; (try with_reducible rfl)
      simp only [Act.put, List.getElem_toArray, List.getElem_cons_zero, List.getElem_cons_succ, List.setIfInBounds_toArray, List.set_cons_zero, List.set_cons_succ]
      refine wpAnyB_load [4,11] (fuel := 8) (i := 4) (v := ?_) rfl (by kernel_rfl) (by kernel_rfl) (by kernel_rfl) (by kernel_rfl) (by kernel_rfl) (fun _ _ _ h => h) (.inr SY) ?_ (by rfl) ?_
      rotate_left
      · intro w' hw'; obtain ⟨m0, m1, m2⟩ := hw'; go_simp; (try with_reducible rfl)
      simp only [Act.put, List.getElem_toArray, List.getElem_cons_zero, List.getElem_cons_succ, List.setIfInBounds_toArray, List.set_cons_zero, List.set_cons_succ]
      refine wpAnyB_free (fuel := 7) (i := 5) (v := ?_) rfl (by kernel_rfl) (by kernel_rfl) (by kernel_rfl) (by kernel_rfl) (fun _ _ _ h => h) (.inr SY) ?_ (by rfl) ?_
      rotate_left
      · intro w'; go_simp; (try with_reducible rfl)
      simp only [Act.put, List.getElem_toArray, List.getElem_cons_zero, List.getElem_cons_succ, List.setIfInBounds_toArray, List.set_cons_zero, List.set_cons_succ]
      refine wpAnyB_load [6,8,9,10,11] (fuel := 6) (i := 6) (v := ?_) rfl (by kernel_rfl) (by kernel_rfl) (by kernel_rfl) (by kernel_rfl) (by kernel_rfl) (fun _ _ _ h => h) (.inr SY) ?_ (by rfl) ?_
      rotate_left
      · intro w' hw'; obtain ⟨m0, m1, m2⟩ := hw'; go_simp; (try with_reducible rfl)
      simp only [Act.put, List.getElem_toArray, List.getElem_cons_zero, List.getElem_cons_succ, List.setIfInBounds_toArray, List.set_cons_zero, List.set_cons_succ]
      refine wpAnyB_free (fuel := 5) (i := 7) (v := ?_) rfl (by kernel_rfl) (by kernel_rfl) (by kernel_rfl) (by kernel_rfl) (fun _ _ _ h => h) (.inr SY) ?_ (by rfl) ?_
      rotate_left
      · intro w'; go_simp; (try with_reducible rfl)
      simp only [Act.put, List.getElem_toArray, List.getElem_cons_zero, List.getElem_cons_succ, List.setIfInBounds_toArray, List.set_cons_zero, List.set_cons_succ]
      refine wpAnyB_free (fuel := 4) (i := 8) (v := .pointer (some ⟨b, off + k * 4, none⟩)) rfl (by kernel_rfl) (by kernel_rfl) (by kernel_rfl) (by kernel_rfl) (fun _ _ _ h => h) (.inr SY) ?_ (by rfl) ?_
      · intro w'; go_simp; (try (intro hh; omega))
      simp only [Act.put, List.getElem_toArray, List.getElem_cons_zero, List.getElem_cons_succ, List.setIfInBounds_toArray, List.set_cons_zero, List.set_cons_succ]
      refine wpAnyB_free (fuel := 3) (i := 9) (v := ?_) rfl (by kernel_rfl) (by kernel_rfl) (by kernel_rfl) (by kernel_rfl) (fun _ _ _ h => h) (.inr SY) ?_ (by rfl) ?_
      rotate_left
      · intro w'; go_simp; (try with_reducible rfl)
      simp only [Act.put, List.getElem_toArray, List.getElem_cons_zero, List.getElem_cons_succ, List.setIfInBounds_toArray, List.set_cons_zero, List.set_cons_succ]
      refine wpAnyB_load [10,11] (fuel := 2) (i := 10) (v := ?_) rfl (by kernel_rfl) (by kernel_rfl) (by kernel_rfl) (by kernel_rfl) (by kernel_rfl) (fun _ _ _ h => h) (.inr SY) ?_ (by rfl) ?_
      rotate_left
      · intro w' hw'; obtain ⟨m0, m1, m2⟩ := hw'; go_simp; (try with_reducible rfl)
      simp only [Act.put, List.getElem_toArray, List.getElem_cons_zero, List.getElem_cons_succ, List.setIfInBounds_toArray, List.set_cons_zero, List.set_cons_succ]
      refine wpAnyB_one (fuel := 1) (i := 11) rfl (by kernel_rfl) ?_
      intro KB hKB
      go_simp
      refine HKE.out.mono ?_
      rintro e wA ⟨rfl, gA⟩
      have spA := Lib.hid (HSP.out.trans ((Span.refl B E wr).drew.trans (span_grown gA (show B ≤ wr.drew.heap.size from hBr) (fun j hj => by cases hj; exact ⟨hgB, hgE2⟩))))
      have kA : Keep B [52] wr.drew wA := keep_grown gA (show B ≤ wr.drew.heap.size from hBr) (fun j hj => by cases hj; obtain ⟨_, cs, hcs⟩ := HAG.out; exact ⟨hgB, cs, _, _, hcs, by simp⟩)
      have rA := Lib.hid (kA.own (show wr.drew.ownsRow B 48 4 _ _ _ from HR.out) (by decide))
      have aA := Lib.hid (fun j (hj : j < ps.length) (h1 : k + 1 ≤ j) => latt_kept (show LAtt wr.drew B ps[j] from HA.out j hj (by omega)) gA (by have := List.pairwise_iff_getElem.1 HL1.out.pw k j hkp hj (by omega); rw [HE2.out] at this; intro hh; exact this hh.symm))
      clear gA kA
      refine hKB _ _ (.inl (by kernel_rfl)) ?_
      (try simp only [Act.put, List.getElem_toArray, List.getElem_cons_zero, List.getElem_cons_succ, List.setIfInBounds_toArray, List.set_cons_zero, List.set_cons_succ])
      refine wpAnyB_free (fuel := 0) (i := 12) (v := ?_) rfl (by kernel_rfl) (by kernel_rfl) (by kernel_rfl) (by kernel_rfl) (fun _ _ _ h => h) (.inl (by kernel_rfl)) ?_ (by rfl) ?_
      rotate_left
      · intro w'; go_simp; (try with_reducible rfl)
      simp only [Act.put, List.getElem_toArray, List.getElem_cons_zero, List.getElem_cons_succ, List.setIfInBounds_toArray, List.set_cons_zero, List.set_cons_succ]
      refine wpAnyB_done (by kernel_rfl) ?_
      go_wp2_with fail
      go_roundw
      case rel => exact ⟨k + 1, rfl, by go_num, by omega, spA.out, rA.out, aA.out⟩
      case measure => simp [intOf]; omega
    · have hkn : k = ops.length := by omega
      subst hkn
      have HR := Lib.hid hr
      have HSP := Lib.hid hS
      clear hS hr hA hlt hk
      go_wp2_with fail
      obtain ⟨wo, rfl⟩ : ∃ wo : World, wo = wr := ⟨_, rfl⟩
      go_loopw [10] (fun i wr => ∃ (k : Nat) (xs : List Value), i = .int .i64 (k : Int) ∧ k ≤ ops.length + 1 ∧ Span B E W wr ∧ wr.ownsRow B 48 4 (.slice (some ⟨gg, 0, none⟩) (ops.length + 1) gc) (ops.length + 1) xs) (fun i _ => ops.length + 1 - (intOf i).toNat)
      case atStart => exact ⟨0, _, rfl, Nat.zero_le _, HSP.out, HR.out⟩
      case round =>
        obtain ⟨k, xs, rfl, hk, hS, hr⟩ := hrel
        by_cases hlt : k < ops.length + 1
        · have hlt' : (k : Int) < (ops.length : Int) + 1 := by omega
          have k0 : (0 : Int) ≤ (k : Int) := by omega
          obtain ⟨u0, z0⟩ := op_cell hr (j := k * 4) (by omega)
          obtain ⟨u1, z1⟩ := op_cell hr (j := k * 4 + 1) (by omega)
          obtain ⟨u2, z2⟩ := op_cell hr (j := k * 4 + 2) (by omega)
          obtain ⟨u3, z3⟩ := op_cell hr (j := k * 4 + 3) (by omega)
          have f0 : wr.frozen? ⟨gg, k * 4, none⟩ = false := hr.frozenAt _
          have f1 : wr.frozen? ⟨gg, k * 4 + 1, none⟩ = false := hr.frozenAt _
          have f2 : wr.frozen? ⟨gg, k * 4 + 2, none⟩ = false := hr.frozenAt _
          have f3 : wr.frozen? ⟨gg, k * 4 + 3, none⟩ = false := hr.frozenAt _
          obtain ⟨ys, hy, _⟩ := op_stored (k := k) hr (.int .i64 98) (.int .i64 0) (.string ⟨#[]⟩) (.slice none 0 0)
          have HY := Lib.hid hy
          have HS2 := Lib.hid (hS.trans (span_ops4 (k := k) hggB hgE (.int .i64 98) (.int .i64 0) (.string ⟨#[]⟩) (.slice none 0 0)))
          clear hS hr hy s0 s1
          go_wp2_with fail
          go_roundw
          case rel => exact ⟨k + 1, ys, by go_num, by omega, HS2.out, HY.out⟩
          case measure => simp [intOf]; omega
        · have hkn : k = ops.length + 1 := by omega
          subst hkn
          have HS2 := Lib.hid hS
          have t1 : decide ((ops.length : Int) + 1 < (ops.length : Int) + 1) = false := decide_eq_false (by omega)
          clear hS hr hlt hk s0 s1
          go_wp2_with fail
          go_ret
          exact ⟨rfl, (span_below HBW.out hBw).trans HS2.out⟩

def SpoilOutC (w : World) (B E : Nat) (e : Ending) (w' : World) : Prop := ∃ N : Int, e = .returned (.int .i64 N) ∧ 1 ≤ N ∧ N ≤ 4398046511104 ∧ Span B E w w'
set_option maxRecDepth 100000 in
set_option maxHeartbeats 8000000 in
theorem spoilC_any (f : Int) (v : Value) (B E : Nat) (ps : List PA) (w : World) (h : OwnP w B v ps) (hz : SmallO (ps.map (·.1))) (hvE : ∀ j, v.ownBlock = some j → j < E) (haE : ∀ q ∈ ps, ∀ j, q.2.ownBlock = some j → j < E) (hEw : E ≤ w.heap.size) (hBw : B ≤ w.heap.size) :
    Calls Tryz.prog 21 #[chAgg f v] w (SpoilOutC w B E) := by
  have hn : ps.length ≤ 1048576 := by have := hz.1; rwa [List.length_map] at this
  obtain ⟨va, vc, rfl⟩ := own_slice h.1
  obtain ⟨W, hW⟩ : ∃ W, W = w.alloc (.cells #[.int .i64 f, .slice va ps.length vc] 24) := ⟨_, rfl⟩
  have BW : Below w.heap.size w W := by rw [hW]; exact below_box _ _
  have b0 : W.heap[w.heap.size]? = some (.cells #[.int .i64 f, .slice va ps.length vc] 24 (0, 0)) := by rw [hW]; exact heap_new _ _
  have hP := h.keep (keep_below (ts := []) BW (Nat.le_refl _)) (by simp) (by simp)
  have HP := Lib.hid hP
  have HB0 := Lib.hid b0
  have HW := Lib.hid hW
  have HBW := Lib.hid BW
  have HAE := Lib.hid haE
  have HVE := Lib.hid hvE
  have HZ := Lib.hid (fun q (hq : q ∈ ps) => (hz.2 q.1 (List.mem_map.2 ⟨q, hq, rfl⟩)).2.1)
  have hWs : w.heap.size + 1 = W.heap.size := by rw [hW]; simp
  obtain ⟨i0, hi, hz0, hz1, hz2⟩ := info_parts infoOp
  have Hi := Lib.hid (And.intro hi (And.intro hz0 (And.intro hz1 hz2)))
  clear h hz hvE haE hW BW b0 hP hi hz0 hz1 hz2
  go_enter Tryz.func21, Tryz.ntmps21
  go_wp2_with fail
  rw [← HW.out]
  go_wp2_with fail
  go_loopw [3, 4] (fun s i wr => ∃ (k : Nat) (m : Int) (xs : List Value), s = .int .i64 m ∧ i = .int .i64 (k : Int) ∧ k ≤ ps.length ∧ 0 ≤ m ∧ m ≤ 2097152 * (k : Int) ∧ Span B E W wr ∧ wr.ownsRow B 48 4 (.slice va ps.length vc) ps.length xs ∧ (∀ j, k * 4 ≤ j → xs[j]? = (flatO ps)[j]?) ∧ (∀ q ∈ ps, ∃ ys, wr.ownsRow B 52 2 q.2 q.1.attrs.length ys)) (fun _ i _ => ps.length - (intOf i).toNat)
  case atStart => exact ⟨0, 0, _, rfl, rfl, Nat.zero_le _, Int.le_refl _, by omega, Span.refl _ _ _, HP.out.1, fun _ _ => rfl, fun q hq => ⟨_, HP.out.2 q hq⟩⟩
  case round =>
    obtain ⟨k, m, xs, rfl, rfl, hk, hm0, hm1, hS, hr, hx, hA⟩ := hrel
    have xb0 := (hS.block _ (show w.heap.size < W.heap.size by omega) hEw).trans HB0.out
    have s0 : wr.cell? ⟨w.heap.size, 1, none⟩ = some (.slice va ps.length vc) := (Lib.cell_of_heap xb0 1).trans rfl
    have hBr : B ≤ wr.heap.size := by have := hS.below.size; omega
    by_cases hlt : k < ps.length
    · have hlt' : (k : Int) < (ps.length : Int) := by omega
      have k0 : (0 : Int) ≤ (k : Int) := by omega
      obtain ⟨gg, cap, he⟩ := ownsRow_open hr (by omega)
      simp only [Value.slice.injEq, true_and] at he
      obtain ⟨rfl, rfl⟩ := he
      obtain ⟨q, hq⟩ : ∃ q, q = ps[k] := ⟨_, rfl⟩
      have hqm : q ∈ ps := by rw [hq]; exact List.getElem_mem hlt
      obtain ⟨ys, hy⟩ := hA q hqm
      obtain ⟨qa, qc, hqv⟩ := own_slice hy
      have y3 : wr.cell? ⟨gg, k * 4 + 3, none⟩ = some (.slice qa q.1.attrs.length qc) := by
        rw [hr.cellAt (k * 4 + 3) (by omega), hx _ (by omega), flatO_at hlt 3 (by omega), ← hq]
        show some q.2 = _
        rw [hqv]
      have hql := HZ.out q hqm
      rw [hqv] at hy
      have HSP2 := Lib.hid (spoil2_any (.slice qa q.1.attrs.length qc) B q.1.attrs.length ys wr hy hql hBr)
      have hqE := Lib.hid (fun j (hj : (Value.slice qa q.1.attrs.length qc).ownBlock = some j) => And.intro (hy.lt j hj).1 (HAE.out q hqm j (by rw [hqv]; exact hj)))
      have HYH := Lib.hid (fun j (hj : (Value.slice qa q.1.attrs.length qc).ownBlock = some j) => own_row hy j hj)
      have hgE : gg < E := HVE.out gg rfl
      have hgB : B ≤ gg := (hr.lt gg rfl).1
      have HR := Lib.hid hr
      have HA := Lib.hid hA
      have HX := Lib.hid hx
      have HSP := Lib.hid hS
      clear hr hA hx hS hy hqv hq
      go_wp2_with fail
      refine HSP2.out.mono ?_
      rintro e w2 ⟨rfl, g2, sh2⟩
      have k2 : Keep B [52] wr w2 := keep_grown g2 hBr (fun j hj => by obtain ⟨h1, cs, fr, h2⟩ := HYH.out j hj; exact ⟨h1, cs, _, fr, h2, by simp⟩)
      have r2 := k2.own HR.out (by decide)
      have sp2 := HSP.out.trans (span_grown g2 hBr (fun j hj => hqE.out j hj))
      obtain ⟨u0, z0⟩ := op_cell r2 (j := k * 4) (by omega)
      obtain ⟨u1, z1⟩ := op_cell r2 (j := k * 4 + 1) (by omega)
      obtain ⟨u2, z2⟩ := op_cell r2 (j := k * 4 + 2) (by omega)
      obtain ⟨u3, z3⟩ := op_cell r2 (j := k * 4 + 3) (by omega)
      have f0 : w2.frozen? ⟨gg, k * 4, none⟩ = false := r2.frozenAt _
      have f1 : w2.frozen? ⟨gg, k * 4 + 1, none⟩ = false := r2.frozenAt _
      have f2 : w2.frozen? ⟨gg, k * 4 + 2, none⟩ = false := r2.frozenAt _
      have f3 : w2.frozen? ⟨gg, k * 4 + 3, none⟩ = false := r2.frozenAt _
      obtain ⟨zs, hzs, hz3⟩ := op_stored (k := k) r2 (.int .i64 97) (.int .i64 0) (.string ⟨#[]⟩) (.slice none 0 0)
      have kk := keep_ops4 (k := k) r2 (.int .i64 97) (.int .i64 0) (.string ⟨#[]⟩) (.slice none 0 0)
      have HS3 := Lib.hid (sp2.trans (span_ops4 (k := k) hgB hgE (.int .i64 97) (.int .i64 0) (.string ⟨#[]⟩) (.slice none 0 0)))
      have xb2 := (sp2.block _ (show w.heap.size < W.heap.size by omega) hEw).trans HB0.out
      have s2 : w2.cell? ⟨w.heap.size, 1, none⟩ = some (.slice (some ⟨gg, 0, none⟩) ps.length vc) := (Lib.cell_of_heap xb2 1).trans rfl
      have HZS := Lib.hid hzs
      have HZ3 := Lib.hid (fun j (hj : (k + 1) * 4 ≤ j) => (hz3 j hj).trans (HX.out j (by omega)))
      have HA3 := Lib.hid (fun x (hx : x ∈ ps) => by obtain ⟨ys, hy⟩ := HA.out x hx; obtain ⟨ys', hy'⟩ := sh2.own hy; exact (⟨ys', kk.own hy' (by decide)⟩ : ∃ ys, _))
      clear g2 sh2 k2 r2 sp2 hzs hz3 kk xb2 s0 y3
      go_wp2_with fail
      go_roundw
      case rel => exact ⟨k + 1, m + ((q.1.attrs.length : Int) + 1), zs, by go_num, by go_num, by omega, by omega, by omega, HS3.out, HZS.out, HZ3.out, HA3.out⟩
      case measure => simp [intOf]; omega
    · have hkn : k = ps.length := by omega
      subst hkn
      have HR := Lib.hid hr
      have HSP := Lib.hid hS
      have HXB := Lib.hid xb0
      have hcb : w.heap.size < wr.heap.size := by have := hS.below.size; omega
      clear hr hA hx hS hlt hk xb0
      have hA : (wr.alloc (.cells #[.int .i64 96, .int .i64 0, .string ⟨#[]⟩, .slice none 0 0] 48)).heap.size = wr.heap.size + 1 := by simp
      have HA := Lib.hid hA
      clear hA
      go_wp2_with (at_builtin; refine wpList_append_new rfl (.tmp 27) (.tmp 29) 22 rfl 48 i0 (.agg #[.int .i64 0, .int .i64 0, .string ⟨#[]⟩, .slice none 0 0]) 4 56 Tryz.underlying22 Hi.out.1 Hi.out.2.1 Hi.out.2.2.1 Hi.out.2.2.2 rfl (by decide) B (.slice va ps.length vc) ps.length xs rfl (HR.out.alloc _) ⟨wr.heap.size, 0, none⟩ 1 1 [.int .i64 96, .int .i64 0, .string ⟨#[]⟩, .slice none 0 0] rfl rfl (new_at4 _ _ _ _ _ _) (fun u hu => by simp at hu; rcases hu with rfl | rfl | rfl | rfl <;> rfl) (by unfold maxLen; omega) (by omega) (by have := HA.out; omega) ?_; intro v' w5 oC gC _; obtain ⟨oa', oc', rfl⟩ := own_slice oC; have x5 := (gC.block w.heap.size (by have := HA.out; omega) (fun e => by have := HVE.out _ e.symm; omega)).trans ((Below.heap_alloc _ _ _ hcb).trans HXB.out); have e1 : w5.cell? ⟨w.heap.size, 1, none⟩ = some (.slice va ps.length vc) := (Lib.cell_of_heap x5 1).trans rfl; have e2 : w5.frozen? ⟨w.heap.size, 1, none⟩ = false := Lib.frozen_of_heap x5 1; have SP5 := Lib.hid ((span_alloc HSP.out (by omega) _).trans (span_grown gC (by have := HA.out; omega) (fun j hj => ⟨(HR.out.lt j hj).1, HVE.out j hj⟩))); clear oC gC x5)
      go_ret
      exact ⟨_, rfl, by omega, by omega, span_new ((span_below HBW.out hBw).trans SP5.out) (Nat.le_refl _) hBw _⟩
end Go.Proofs.YtacgkbdldbppjaaGreatDoor

/- What the laws of changesets keep: boxes. -/
namespace Go.Proofs.YtacgkbdldbppjaaGreatDoor
open Go.RowKit Ch

theorem small_t {ops : List OpD} (h : SmallO ops) : TSmall ops := fun o ho => (h.2 o ho).1
/-- Boxes of changesets. -/
def Boxes (w : World) (L : List (Nat × Array Value)) : Prop := ∀ x ∈ L, w.heap[x.1]? = some (.cells x.2 24 (0, 0))
theorem Boxes.below {w w' : World} {L : List (Nat × Array Value)} (h : Boxes w L) (hb : Below w.heap.size w w') : Boxes w' L := fun x hx => (hb.block _ (lt_of_heap (h x hx))).trans (h x hx)
theorem Boxes.span {w w' : World} {lo hi : Nat} {L : List (Nat × Array Value)} (h : Boxes w L) (hb : Span lo hi w w') (ho : ∀ x ∈ L, x.1 < lo ∨ hi ≤ x.1) : Boxes w' L := fun x hx => by
  have hl := lt_of_heap (h x hx)
  rcases ho x hx with h1 | h1
  · exact (hb.below.block _ h1).trans (h x hx)
  · exact (hb.block _ hl h1).trans (h x hx)
theorem Boxes.more {w : World} {L : List (Nat × Array Value)} (h : Boxes w L) (cs : Array Value) : Boxes (w.alloc (.cells cs 24)) (L ++ [(w.heap.size, cs)]) := fun x hx => by
  rcases List.mem_append.1 hx with hx | hx
  · exact (h.below (below_box w _)) x hx
  · rw [List.mem_singleton.1 hx]; exact heap_new _ _
theorem Boxes.at {w : World} {L : List (Nat × Array Value)} (h : Boxes w L) {b : Nat} {u v : Value} (hx : (b, #[u, v]) ∈ L) : w.cell? ⟨b, 0, none⟩ = some u ∧ w.cell? ⟨b, 1, none⟩ = some v ∧ b < w.heap.size :=
  ⟨(Lib.cell_of_heap (h _ hx) 0).trans rfl, (Lib.cell_of_heap (h _ hx) 1).trans rfl, lt_of_heap (h _ hx)⟩
end Go.Proofs.YtacgkbdldbppjaaGreatDoor

/- The document's reader: its block in memory; what its smallest methods do. -/
namespace Go.Proofs.YtacgkbdldbppjaaGreatDoor
open Go.RowKit Ch

abbrev QT : TypeId := 75
/-- The document's reader in block b: at k of the text s, x the place of the first wrong thing (below 0: none). -/
def RxAt (w : World) (b : Nat) (s : ByteArray) (k : Nat) (x : Int) : Prop := w.heap[b]? = some (.cells #[.string s, .int .i64 k, .int .i64 x] 75 (0, 0)) ∧ k ≤ s.size ∧ s.size ≤ maxLen
theorem RxAt.c0 {w : World} {b k : Nat} {s : ByteArray} {x : Int} (h : RxAt w b s k x) : w.cell? ⟨b, 0, none⟩ = some (.string s) := (Lib.cell_of_heap h.1 0).trans rfl
theorem RxAt.c1 {w : World} {b k : Nat} {s : ByteArray} {x : Int} (h : RxAt w b s k x) : w.cell? ⟨b, 1, none⟩ = some (.int .i64 k) := (Lib.cell_of_heap h.1 1).trans rfl
theorem RxAt.c2 {w : World} {b k : Nat} {s : ByteArray} {x : Int} (h : RxAt w b s k x) : w.cell? ⟨b, 2, none⟩ = some (.int .i64 x) := (Lib.cell_of_heap h.1 2).trans rfl
theorem RxAt.free {w : World} {b k : Nat} {s : ByteArray} {x : Int} (h : RxAt w b s k x) (i : Nat) : w.frozen? ⟨b, i, none⟩ = false := Joins.unfrozen_of_block h.1 i
theorem RxAt.drewN {w : World} {b k : Nat} {s : ByteArray} {x : Int} (h : RxAt w b s k x) (n : Nat) : RxAt (w.drewN n) b s k x := h
/-- It goes on. -/
theorem RxAt.step {w : World} {b k : Nat} {s : ByteArray} {x : Int} (h : RxAt w b s k x) (j : Nat) (hj : j ≤ s.size) : RxAt (w.setCell ⟨b, 1, none⟩ (.int .i64 j)) b s j x ∧ Keep b [QT] w (w.setCell ⟨b, 1, none⟩ (.int .i64 j)) :=
  ⟨⟨(Joins.block_setCell h.1 _).trans rfl, hj, h.2.2⟩, keep_set h.1 (List.mem_singleton.2 rfl) (Nat.le_refl _) _ rfl _⟩
/-- It notes what is wrong. -/
theorem RxAt.note {w : World} {b k : Nat} {s : ByteArray} {x : Int} (h : RxAt w b s k x) (y : Int) : RxAt (w.setCell ⟨b, 2, none⟩ (.int .i64 y)) b s k y ∧ Keep b [QT] w (w.setCell ⟨b, 2, none⟩ (.int .i64 y)) :=
  ⟨⟨(Joins.block_setCell h.1 _).trans rfl, h.2⟩, keep_set h.1 (List.mem_singleton.2 rfl) (Nat.le_refl _) _ rfl _⟩
theorem RxAt.later {w w' : World} {b k : Nat} {s : ByteArray} {x : Int} (h : RxAt w b s k x) (hb : Below w.heap.size w w') : RxAt w' b s k x := ⟨(hb.block _ (lt_of_heap h.1)).trans h.1, h.2⟩

/-- The first wrong thing counts. -/
def noted (y x : Int) : Int := if x < 0 then y else x
theorem noted_live {y x : Int} (h : x < 0) : noted y x = y := if_pos h
theorem noted_dead {y x : Int} (h : 0 ≤ x) : noted y x = x := if_neg (by omega)
theorem bad_any (b : Nat) (s : ByteArray) (k : Nat) (x y : Int) (w : World) (h : RxAt w b s k x) :
    Calls Tryz.prog 71 #[.pointer (some ⟨b, 0, none⟩), .int .i64 y] w fun e w' => e = .returned (.tuple #[]) ∧ RxAt w' b s k (noted y x) ∧ Keep b [QT] w w' := by
  have c2 := h.c2
  have f2 := h.free 2
  have H := Lib.hid h
  by_cases hx : x < 0
  · rw [noted_live hx]
    have HX := Lib.hid hx
    clear h
    go_enter Tryz.func71, Tryz.ntmps71
    go_wp2_with fail
    go_end0
    exact ⟨rfl, H.out.note y⟩
  · rw [noted_dead (by omega)]
    clear h
    go_enter Tryz.func71, Tryz.ntmps71
    go_wp2_with fail
    go_end0
    exact ⟨rfl, H.out, Keep.refl _ _ _⟩

/-- What the document's next sees. -/
def nxt (s : ByteArray) (k : Nat) (x : Int) : UInt8 := if x < 0 then (rst s k).headD 0 else 0
theorem next_any (b : Nat) (s : ByteArray) (k : Nat) (x : Int) (w : World) (h : RxAt w b s k x) :
    Calls Tryz.prog 70 #[.pointer (some ⟨b, 0, none⟩)] w fun e w' => e = .returned (.int .u8 (nxt s k x).toNat) ∧ ∃ n, w' = w.drewN n := by
  have c0 := h.c0
  have c1 := h.c1
  have c2 := h.c2
  have h2 : s.size ≤ 9223372036854775807 := h.2.2
  clear h
  by_cases hx : x < 0
  · have hx' : ¬ 0 ≤ x := by omega
    by_cases hlt : k < s.size
    · have Hr := Lib.hid (show nxt s k x = s[k] by unfold nxt; rw [if_pos hx, rst_cons hlt]; rfl)
      have hlt' : (k : Int) < (s.size : Int) := by omega
      have hge' : ¬ (s.size : Int) ≤ (k : Int) := by omega
      go_enter Tryz.func70, Tryz.ntmps70
      go_wp2_with fail
      go_quiet (fail)
      go_wp2_with fail
      go_quiet (fail)
      go_wp2_with fail
      go_ret
      exact ⟨by rw [Hr.out]; rfl, _, World.drewN_drewN _ _ _⟩
    · have Hr := Lib.hid (show nxt s k x = 0 by unfold nxt; rw [if_pos hx, rst_nil (by omega)]; rfl)
      have hge' : (s.size : Int) ≤ (k : Int) := by omega
      go_enter Tryz.func70, Tryz.ntmps70
      go_wp2_with fail
      go_quiet (fail)
      go_wp2_with fail
      go_ret
      exact ⟨by rw [Hr.out]; rfl, _, rfl⟩
  · have Hr := Lib.hid (show nxt s k x = 0 by unfold nxt; rw [if_neg hx])
    have hx' : 0 ≤ x := by omega
    go_enter Tryz.func70, Tryz.ntmps70
    go_wp2_with fail
    go_quiet (fail)
    go_wp2_with fail
    go_ret
    exact ⟨by rw [Hr.out]; rfl, _, rfl⟩

/-- How a method of the document's reader ends: nothing is wrong yet, and it goes on as R says; or something is wrong, and it stays. -/
def RxGo {α : Type} (b : Nat) (s : ByteArray) (k : Nat) (r : Sp.R α) (val : α → World → Value → Prop) (any : World → Value → Prop) (w : World) (e : Ending) (w' : World) : Prop :=
  ∃ u, e = .returned u ∧ Keep b [QT] w w' ∧ match r with
    | .ok v n => val v w' u ∧ RxAt w' b s (k + n) (-1)
    | .bad m => any w' u ∧ ∃ j, RxAt w' b s j ((k + m : Nat) : Int)
/-- Something is wrong already: it stays. -/
def RxDead (b : Nat) (s : ByteArray) (x : Int) (any : World → Value → Prop) (w : World) (e : Ending) (w' : World) : Prop :=
  ∃ u, e = .returned u ∧ Keep b [QT] w w' ∧ any w' u ∧ ∃ j, RxAt w' b s j x

theorem nxt_dead {s : ByteArray} {k : Nat} {x : Int} (h : 0 ≤ x) : nxt s k x = 0 := by unfold nxt; rw [if_neg (by omega)]
theorem nxt_live (s : ByteArray) (k : Nat) : nxt s k (-1) = (rst s k).headD 0 := by unfold nxt; rw [if_pos (by omega)]

theorem RxAt.at {w : World} {b k : Nat} {s : ByteArray} {x : Int} (h : RxAt w b s k x) : w.cell? ⟨b, 0, none⟩ = some (.string s) ∧ w.cell? ⟨b, 1, none⟩ = some (.int .i64 k) ∧ w.cell? ⟨b, 2, none⟩ = some (.int .i64 x) := ⟨h.c0, h.c1, h.c2⟩
theorem u8_ne {x c : UInt8} (h : x ≠ c) : ((x.toNat : Int) == (c.toNat : Int)) = false := by rw [b_beq, decide_eq_false h]
theorem u8_eq {x c : UInt8} (h : x = c) : ((x.toNat : Int) == (c.toNat : Int)) = true := by rw [b_beq, decide_eq_true h]

set_option maxHeartbeats 1000000 in
theorem mustB_any (b : Nat) (s : ByteArray) (k : Nat) (x : Int) (c : UInt8) (w : World) (h : RxAt w b s k x) (hc : nxt s k x ≠ c) :
    Calls Tryz.prog 69 #[.pointer (some ⟨b, 0, none⟩), .int .u8 c.toNat] w fun e w' => e = .returned (.tuple #[]) ∧ RxAt w' b s k (noted k x) ∧ Keep b [QT] w w' := by
  have HN := Lib.hid fun n => next_any b s k x (w.drewN n) (h.drewN n)
  have H := Lib.hid h
  obtain ⟨c0, c1, c2⟩ := h.at
  have h2 : s.size ≤ 9223372036854775807 := h.2.2
  have HB := Lib.hid fun n => bad_any b s k x k (w.drewN n) (H.out.drewN n)
  have hq := u8_ne hc
  have hq2 : ¬ (((nxt s k x).toNat : Int) = (c.toNat : Int)) := by rw [beq_eq_false_iff_ne] at hq; exact hq
  generalize nxt s k x = d at *
  clear h hc
  go_enter Tryz.func69, Tryz.ntmps69
  go_wp2_with fail
  go_quiet ((go_at_call 70; exact Calls.quiet_of (HN.out _)))
  go_wp2_with fail
  refine (HB.out _).mono ?_
  rintro e w1 ⟨rfl, r1, k1⟩
  go_wp2_with fail
  refine bodyPost_ret (results_none rfl _ _ _) rfl ?_
  exact ⟨rfl, r1, (keep_drewN (Keep.refl _ _ _) _).trans k1⟩

set_option maxHeartbeats 1000000 in
theorem mustX_any (b : Nat) (s : ByteArray) (k : Nat) (c : UInt8) (w : World) (h : RxAt w b s k (-1)) (hc : c ≠ 0) :
    Calls Tryz.prog 69 #[.pointer (some ⟨b, 0, none⟩), .int .u8 c.toNat] w (RxGo b s k (Sp.must c (rst s k)) (fun _ _ u => u = .tuple #[]) (fun _ u => u = .tuple #[]) w) := by
  by_cases hlc : ∃ hlt : k < s.size, s[k] = c
  · obtain ⟨hlt, hce⟩ := hlc
    have HN := Lib.hid fun n => next_any b s k (-1) (w.drewN n) (h.drewN n)
    rw [nxt_live] at HN
    have H := Lib.hid h
    obtain ⟨c0, c1, c2⟩ := h.at
    have f1 := h.free 1
    have h2 : s.size ≤ 9223372036854775807 := h.2.2
    have hr := rst_cons hlt
    have hlt' : (k : Int) < (s.size : Int) := by omega
    have hge' : decide ((s.size : Int) ≤ (k : Int)) = false := decide_eq_false (by omega)
    have HG := Lib.hid (show Sp.must c (rst s k) = .ok () 1 by unfold Sp.must; rw [hr, if_pos (by rw [List.head?_cons, hce])])
    rw [hr, List.headD_cons, hce] at HN
    have hq := u8_eq (rfl : c = c)
    have hwr := IntWalk.i64_in ((k : Int) + 1) (by omega)
    clear h hr hce
    go_enter Tryz.func69, Tryz.ntmps69
    go_wp2_with fail
    go_quiet ((go_at_call 70; exact Calls.quiet_of (HN.out _)))
    go_wp2_with fail
    go_end0
    unfold RxGo
    rw [HG.out]
    exact ⟨_, rfl, keep_drewN (Keep.refl _ _ _) _ |>.trans (((H.out.drewN _).step (k + 1) (by omega)).2), rfl, ((H.out.drewN _).step (k + 1) (by omega)).1⟩
  · have hh : ¬ (rst s k).head? = some c := fun e => by
      rcases Nat.lt_or_ge k s.size with hlt | hge
      · rw [rst_cons hlt, List.head?_cons] at e
        exact hlc ⟨hlt, Option.some.inj e⟩
      · rw [rst_nil hge] at e
        cases e
    refine (mustB_any b s k (-1) c w h ?_).mono ?_
    · rw [nxt_live]
      intro e
      cases hr : rst s k with
      | nil => rw [hr] at e; exact hc e.symm
      | cons y t => rw [hr] at e hh; exact hh (by rw [List.head?_cons]; exact congrArg some e)
    · rintro e w' ⟨rfl, r, kk⟩
      unfold RxGo
      rw [show Sp.must c (rst s k) = .bad 0 by unfold Sp.must; rw [if_neg hh]]
      exact ⟨_, rfl, kk, rfl, k, by rw [noted_live (by omega)] at r; simpa using r⟩
theorem mustD_any (b : Nat) (s : ByteArray) (k : Nat) (x : Int) (c : UInt8) (w : World) (h : RxAt w b s k x) (hx : 0 ≤ x) (hc : c ≠ 0) :
    Calls Tryz.prog 69 #[.pointer (some ⟨b, 0, none⟩), .int .u8 c.toNat] w (RxDead b s x (fun _ u => u = .tuple #[]) w) := by
  refine (mustB_any b s k x c w h (by rw [nxt_dead hx]; exact fun e => hc e.symm)).mono ?_
  rintro e w' ⟨rfl, r, kk⟩
  rw [noted_dead hx] at r
  exact ⟨_, rfl, kk, rfl, k, r⟩
end Go.Proofs.YtacgkbdldbppjaaGreatDoor

/- The document's reader: digit. -/
namespace Go.Proofs.YtacgkbdldbppjaaGreatDoor
open Go.RowKit Ch

abbrev hexs : ByteArray := ⟨#[48, 49, 50, 51, 52, 53, 54, 55, 56, 57, 97, 98, 99, 100, 101, 102]⟩
theorem hexs_at : ∀ n (h : n < 16), hexs[n]'h = Sp.hexd n := by decide
set_option maxRecDepth 100000 in
set_option maxHeartbeats 2000000 in
theorem digitX_any (b : Nat) (s : ByteArray) (k : Nat) (x : Int) (w : World) (h : RxAt w b s k x) :
    Calls Tryz.prog 91 #[.pointer (some ⟨b, 0, none⟩)] w fun e w' =>
      (∃ n, n < 16 ∧ x < 0 ∧ (rst s k).head? = some (Sp.hexd n) ∧ e = .returned (.int .i64 n) ∧ RxAt w' b s (k + 1) x ∧ Keep b [QT] w w') ∨
      ((∀ n, n < 16 → nxt s k x ≠ Sp.hexd n) ∧ e = .returned (.int .i64 0) ∧ RxAt w' b s k (noted k x) ∧ Keep b [QT] w w') := by
  have HNW := Lib.hid fun m n => next_any b s k x ((w.drewN m).drewN n) ((h.drewN m).drewN n)
  have H := Lib.hid h
  obtain ⟨c0, c1, c2⟩ := h.at
  have f1 := h.free 1
  have h2 : s.size ≤ 9223372036854775807 := h.2.2
  have HBW := Lib.hid fun m => bad_any b s k x k (w.drewN m) (H.out.drewN m)
  have Hx := Lib.hid (show ∀ n, n < 16 → nxt s k x = Sp.hexd n → x < 0 ∧ k < s.size ∧ (rst s k).head? = some (Sp.hexd n) from fun n hn e => by
    unfold nxt at e
    split at e
    · rename_i hx
      rcases Nat.lt_or_ge k s.size with hlt | hge
      · rw [rst_cons hlt, List.headD_cons] at e
        exact ⟨hx, hlt, by rw [rst_cons hlt, List.head?_cons, e]⟩
      · rw [rst_nil hge] at e
        exact absurd e (by revert hn n; decide)
    · exact absurd e (by revert hn n; decide))
  generalize nxt s k x = d at *
  clear h
  go_enter Tryz.func91, Tryz.ntmps91
  go_wp2_with fail
  go_loopw [3] (fun i wr => ∃ n m : Nat, i = .int .i64 (n : Int) ∧ n ≤ 16 ∧ wr = w.drewN m ∧ Hid (∀ j, j < n → d ≠ Sp.hexd j)) (fun i _ => 16 - (intOf i).toNat)
  case atStart => exact ⟨0, 0, rfl, by omega, rfl, fun j hj => by omega⟩
  case round =>
    obtain ⟨n, m, rfl, hn, rfl, hne⟩ := hrel
    have HD := Lib.hid ((H.out.drewN m).at)
    have F1 := (H.out.drewN m).free 1
    have HN := Lib.hid (HNW.out m)
    have HB := Lib.hid (HBW.out m)
    have HR := Lib.hid (H.out.drewN m)
    have KR := Lib.hid (keep_drewN (Keep.refl b [QT] w) m)
    obtain ⟨X, hX⟩ : ∃ X, X = w.drewN m := ⟨_, rfl⟩
    rw [← hX] at HD F1 HN HB HR KR ⊢
    have HX := Lib.hid hX
    clear hX
    by_cases hlt : n < 16
    · have hlt' : (n : Int) < 16 := by omega
      have hA := hexs_at n hlt
      obtain ⟨hh, hH⟩ : ∃ y, y = Sp.hexd n := ⟨_, rfl⟩
      rw [← hH] at hA
      have h16 : hexs.size = 16 := rfl
      by_cases he : d = hh
      · obtain ⟨g1, g2, g3⟩ := Hx.out n hlt (by rw [he, hH])
        have G1 := Lib.hid g1
        have G3 := Lib.hid g3
        have HH := Lib.hid hH
        have hq := u8_eq he
        have hwr := IntWalk.i64_in ((k : Int) + 1) (by omega)
        obtain ⟨d0, d1, d2⟩ := HD.out
        clear hne g1 g3 hH he c0 c1 c2 f1
        go_wp2_with fail
        go_quiet ((go_at_call 70; exact Calls.quiet_of (HN.out _)))
        go_wp2_with fail
        go_ret
        exact .inl ⟨n, hlt, G1.out, G3.out, rfl, ((HR.out.drewN _).step (k + 1) g2).1, KR.out.trans ((keep_drewN (Keep.refl _ _ _) _).trans ((HR.out.drewN _).step (k + 1) g2).2)⟩
      · have hq := u8_ne he
        have hq2 : ¬ ((d.toNat : Int) = (hh.toNat : Int)) := by rw [beq_eq_false_iff_ne] at hq; exact hq
        have HE := Lib.hid he
        have HH := Lib.hid hH
        clear he hH c0 c1 c2 f1
        go_wp2_with fail
        go_quiet ((go_at_call 70; exact Calls.quiet_of (HN.out _)))
        go_wp2_with fail
        go_roundw
        case measure => simp only [intOf]; omega
        case rel => exact ⟨n + 1, _, rfl, hlt, by rw [HX.out]; exact World.drewN_drewN _ _ _, fun j hj => by
          rcases Nat.lt_or_ge j n with h | h
          · exact hne.out j h
          · obtain rfl : j = n := by omega
            rw [← HH.out]; exact HE.out⟩
    · have hlt' : decide ((n : Int) < 16) = false := decide_eq_false (by omega)
      obtain rfl : n = 16 := by omega
      obtain ⟨d0, d1, d2⟩ := HD.out
      clear c0 c1 c2 f1
      go_wp2_with fail
      refine HB.out.mono ?_
      rintro e w1 ⟨rfl, r1, k1⟩
      go_wp2_with fail
      go_ret
      exact .inr ⟨hne.out, rfl, r1, KR.out.trans k1⟩

/-- Behind something wrong. -/
theorem digitD_any (b : Nat) (s : ByteArray) (k : Nat) (x : Int) (w : World) (h : RxAt w b s k x) (hx : 0 ≤ x) :
    Calls Tryz.prog 91 #[.pointer (some ⟨b, 0, none⟩)] w fun e w' => e = .returned (.int .i64 0) ∧ RxAt w' b s k x ∧ Keep b [QT] w w' := by
  refine (digitX_any b s k x w h).mono ?_
  rintro e w' (⟨n, _, h0, _⟩ | ⟨_, rfl, r, kk⟩)
  · omega
  · rw [noted_dead hx] at r
    exact ⟨rfl, r, kk⟩
/-- Nothing is wrong yet. -/
theorem digitL_any (b : Nat) (s : ByteArray) (k : Nat) (w : World) (h : RxAt w b s k (-1)) :
    Calls Tryz.prog 91 #[.pointer (some ⟨b, 0, none⟩)] w fun e w' =>
      match Sp.digit16 (rst s k) with
      | .ok v n => v < 16 ∧ n = 1 ∧ e = .returned (.int .i64 v) ∧ RxAt w' b s (k + 1) (-1) ∧ Keep b [QT] w w'
      | .bad m => m = 0 ∧ e = .returned (.int .i64 0) ∧ RxAt w' b s k (k : Int) ∧ Keep b [QT] w w' := by
  have hv : ∀ n, n < 16 → Sp.hexv (Sp.hexd n) = some n := by decide
  have hd : ∀ y n, Sp.hexv y = some n → n < 16 ∧ y = Sp.hexd n := by
    intro y n e
    unfold Sp.hexv at e
    have hy := Sp.b_lt y
    split at e
    · obtain rfl := Option.some.inj e
      refine ⟨by omega, Sp.b_eq.2 ?_⟩
      unfold Sp.hexd
      rw [if_pos (by omega), Sp.of_nat (by omega)]
      omega
    · split at e
      · obtain rfl := Option.some.inj e
        refine ⟨by omega, Sp.b_eq.2 ?_⟩
        unfold Sp.hexd
        rw [if_neg (by omega), Sp.of_nat (by omega)]
        omega
      · cases e
  refine (digitX_any b s k (-1) w h).mono ?_
  rintro e w' (⟨n, hn, _, hh, rfl, r, kk⟩ | ⟨hne, rfl, r, kk⟩)
  · cases hr : rst s k with
    | nil => rw [hr] at hh; cases hh
    | cons y t =>
      rw [hr, List.head?_cons] at hh
      obtain rfl := Option.some.inj hh
      rw [show Sp.digit16 (Sp.hexd n :: t) = .ok n 1 by simp only [Sp.digit16, hv n hn]]
      exact ⟨hn, rfl, rfl, r, kk⟩
  · rw [noted_live (by omega)] at r
    rw [nxt_live] at hne
    cases hr : rst s k with
    | nil => exact ⟨rfl, rfl, r, kk⟩
    | cons y t =>
      rw [hr] at hne
      cases hq : Sp.hexv y with
      | none =>
        rw [show Sp.digit16 (y :: t) = .bad 0 by simp only [Sp.digit16, hq]]
        exact ⟨rfl, rfl, r, kk⟩
      | some n => exact absurd (hd y n hq).2 (hne n (hd y n hq).1)
end Go.Proofs.YtacgkbdldbppjaaGreatDoor

/- The document's quote: a text in quotes. -/
namespace Go.Proofs.YtacgkbdldbppjaaGreatDoor
open Go.RowKit Ch

theorem newU8 (w : World) (l : List Value) (t : TypeId) (j : Nat) (u : Value) (h : l[j]? = some u) : (w.alloc (.cells l.toArray t)).cell? ((⟨w.heap.size, 0, none⟩ : Addr).add j) = some u := by
  have e : ((⟨w.heap.size, 0, none⟩ : Addr).add j) = ⟨w.heap.size, j, none⟩ := by
    cases j <;> simp [Addr.add]
  rw [e, World.cell?_alloc_at _ _ _ _ rfl]
  simpa using h
/-- A row of bytes of one's own. -/
def OwnB (w : World) (B : Nat) (v : Value) (l : List UInt8) : Prop := w.ownsRow B 5 1 v l.length (Lib.byteCells l)
theorem OwnB.step {w wr w1 : World} {B : Nat} {v v' : Value} {l m : List UInt8} {o : Obj} {vals : List Value} (hown : OwnB wr B v l) (hbw : Below B w wr) (hB : B ≤ w.heap.size) (he : Lib.byteCells m = vals)
    (ho : w1.ownsRow B 5 1 v' (l.length + vals.length) (Lib.byteCells l ++ vals)) (hg : (wr.alloc o).grownBy w1 v.ownBlock) : OwnB w1 B v' (l ++ m) ∧ Below B w w1 := by
  refine ⟨?_, (hbw.alloc (Nat.le_trans hB hbw.size) _).grown hg (by have := hbw.size; simp; omega) (fun j hj => (hown.lt j hj).1)⟩
  unfold OwnB
  have e : m.length = vals.length := by rw [← he]; simp [Lib.byteCells]
  rw [Lib.byteCells_append, he, List.length_append, e]
  exact ho
theorem dg_at2 : ∀ n (h : n < 16), (⟨#[48, 49, 50, 51, 52, 53, 54, 55, 56, 57, 97, 98, 99, 100, 101, 102]⟩ : ByteArray)[n]'h = Sp.hexd n := by decide
theorem qb_take2 (s : ByteArray) (k : Nat) (h : k < s.size) : (s.data.toList.take (k + 1)).flatMap Sp.qb = (s.data.toList.take k).flatMap Sp.qb ++ Sp.qb s[k] := by
  have hl : k < s.data.toList.length := h
  rw [List.take_succ_eq_append_getElem hl, List.flatMap_append]
  simp
  rfl
theorem qb_le2 (l : List UInt8) : (l.flatMap Sp.qb).length ≤ 4 * l.length := by
  have := Sp.qt_len l
  simp only [Sp.qt, List.length_cons, List.length_append, List.length_nil] at this
  omega

theorem wrap_u8 {x : Int} (h0 : 0 ≤ x) (h1 : x < 256) : IntKind.u8.wrap x = x := by
  simp [IntKind.wrap, IntKind.bits, IntKind.signed]; omega
theorem b_is' {x c : UInt8} {n : Int} (hc : (c.toNat : Int) = n) (h : x = c) : ((x.toNat : Int) == n) = true := by subst h; rw [hc]; exact beq_self_eq_true n
theorem b_not' {x c : UInt8} {n : Int} (hc : (c.toNat : Int) = n) (h : x ≠ c) : ((x.toNat : Int) == n) = false := by
  rw [beq_eq_false_iff_ne]
  exact fun e => h (Sp.b_eq.2 (by omega))
set_option maxRecDepth 100000 in
set_option maxHeartbeats 8000000 in
theorem refQuote_any (s : ByteArray) (w : World) (hs : s.size ≤ 1048576) :
    Calls Tryz.prog 39 #[.string s] w fun e w' => e = .returned (.string (Sp.ba (Sp.qt s.data.toList))) ∧ Below w.heap.size w w' := by
  obtain ⟨i0, hi, hz0, hz1, hz2⟩ := info_parts infoU8
  have Hi := Lib.hid (show _ ∧ _ ∧ _ ∧ _ from ⟨hi, hz0, hz1, hz2⟩)
  clear hi hz0 hz1 hz2
  go_enter Tryz.func39, Tryz.ntmps39
  go_wp2_with fail
  go_loopg [3, 4] s.size (fun gk v i wr => ∃ k : Nat, s.size ≤ gk + k ∧ i = .int .i64 (k : Int) ∧ k ≤ s.size ∧ OwnB wr w.heap.size v ([34] ++ (s.data.toList.take k).flatMap Sp.qb) ∧ Below w.heap.size w wr)
  case atStart => exact ⟨0, by omega, rfl, Nat.zero_le _, by rw [List.take_zero]; exact World.ownsRow_lit w #[.int .u8 34] 1 (Nat.le_refl _) (by decide) rfl, below_box _ _⟩
  case round =>
    obtain ⟨k, hgk, rfl, hk, hown, hbw⟩ := hrel
    obtain ⟨oa, oc, rfl⟩ := owns_shape hown
    have Hbw := Lib.hid hbw
    have hlen := qb_le2 (s.data.toList.take k)
    rw [List.length_take, show s.data.toList.length = s.size from rfl, Nat.min_eq_left hk] at hlen
    have hl2 : ([34] ++ (s.data.toList.take k).flatMap Sp.qb : List UInt8).length ≤ 4194305 := by simp only [List.length_append, List.length_cons, List.length_nil]; omega
    generalize hL : ([34] ++ (s.data.toList.take k).flatMap Sp.qb : List UInt8) = L at *
    have Hown := Lib.hid hown
    have HL := Lib.hid hL
    clear hown hbw hL
    by_cases hlt : k < s.size
    · have hlt' : (k : Int) < (s.size : Int) := by omega
      by_cases h9 : s[k] = 34 ∨ s[k] = 92
      · have HQ := Lib.hid (show Sp.qb s[k] = [92, s[k]] by rcases h9 with h | h <;> rw [h] <;> rfl)
        by_cases h34 : s[k] = 34
        · have k2 := b_is' (n := 34) rfl h34
          clear h9 h34
          have HV := Lib.hid (show Lib.byteCells [92, s[k]] = [.int .u8 92, .int .u8 (s[k].toNat : Int)] by rfl)
          have hown := Hown.out
          have hi := Hi.out.1
          have hz0 := Hi.out.2.1
          have hz1 := Hi.out.2.2.1
          have hz2 := Hi.out.2.2.2
          go_wp2_with (first | (at_builtin; refine wpList_append_own _ rfl _ _ 56 rfl w.heap.size 5 i0 (.int .u8 0) 1 1 Tryz.underlying56 hi hz0 hz1 hz2 rfl (by decide) _ _ _ rfl (World.ownsRow.alloc hown _) ⟨wr.heap.size, 0, none⟩ 2 2 [.int .u8 92, .int .u8 (s[k].toNat : Int)] rfl rfl ?_ ?_ ?_ ?_ ?_ ?_))
          all_goals
            first
              | rfl
              | (intro u hu; simp at hu; rcases hu with rfl | rfl | rfl | rfl <;> rfl)
              | (intro u hu; simp at hu; rcases hu with rfl | rfl <;> rfl)
              | (intro u hu; simp at hu; subst hu; rfl)
              | (unfold maxLen; omega)
              | omega
              | (have := Hbw.out.size; simp; omega)
              | exact fun j u hj => newU8 _ _ _ j u hj
              | (intro v' w1 hown' hgrow _
                 clear hown hi hz0 hz1 hz2
                 have hst := Lib.hid (OwnB.step Hown.out Hbw.out (Nat.le_refl _) HV.out hown' hgrow)
                 clear hown' hgrow
                 go_wp2_with fail
                 go_roundg (gk - 1)
                 case measure => omega
                 case rel => exact ⟨k + 1, by omega, by go_num, by omega, by rw [qb_take2 s k hlt, ← List.append_assoc, HQ.out, HL.out]; exact hst.out.1, hst.out.2⟩)
        · have k2 := b_not' (n := 34) rfl h34
          have k3 := b_is' (n := 92) rfl (h9.resolve_left h34)
          clear h9 h34
          have HV := Lib.hid (show Lib.byteCells [92, s[k]] = [.int .u8 92, .int .u8 (s[k].toNat : Int)] by rfl)
          have hown := Hown.out
          have hi := Hi.out.1
          have hz0 := Hi.out.2.1
          have hz1 := Hi.out.2.2.1
          have hz2 := Hi.out.2.2.2
          go_wp2_with (first | (at_builtin; refine wpList_append_own _ rfl _ _ 56 rfl w.heap.size 5 i0 (.int .u8 0) 1 1 Tryz.underlying56 hi hz0 hz1 hz2 rfl (by decide) _ _ _ rfl (World.ownsRow.alloc hown _) ⟨wr.heap.size, 0, none⟩ 2 2 [.int .u8 92, .int .u8 (s[k].toNat : Int)] rfl rfl ?_ ?_ ?_ ?_ ?_ ?_))
          all_goals
            first
              | rfl
              | (intro u hu; simp at hu; rcases hu with rfl | rfl | rfl | rfl <;> rfl)
              | (intro u hu; simp at hu; rcases hu with rfl | rfl <;> rfl)
              | (intro u hu; simp at hu; subst hu; rfl)
              | (unfold maxLen; omega)
              | omega
              | (have := Hbw.out.size; simp; omega)
              | exact fun j u hj => newU8 _ _ _ j u hj
              | (intro v' w1 hown' hgrow _
                 clear hown hi hz0 hz1 hz2
                 have hst := Lib.hid (OwnB.step Hown.out Hbw.out (Nat.le_refl _) HV.out hown' hgrow)
                 clear hown' hgrow
                 go_wp2_with fail
                 go_roundg (gk - 1)
                 case measure => omega
                 case rel => exact ⟨k + 1, by omega, by go_num, by omega, by rw [qb_take2 s k hlt, ← List.append_assoc, HQ.out, HL.out]; exact hst.out.1, hst.out.2⟩)
      · have k2 := b_not' (n := 34) rfl (fun h => h9 (.inl h))
        have k3 := b_not' (n := 92) rfl (fun h => h9 (.inr h))
        by_cases h10 : s[k] = 10
        · have k1 := b_is' (n := 10) rfl h10
          have HQ := Lib.hid (show Sp.qb s[k] = [92, 110] by rw [h10]; rfl)
          clear h9 h10
          have HV := Lib.hid (show Lib.byteCells [92, 110] = [.int .u8 92, .int .u8 110] by rfl)
          have hown := Hown.out
          have hi := Hi.out.1
          have hz0 := Hi.out.2.1
          have hz1 := Hi.out.2.2.1
          have hz2 := Hi.out.2.2.2
          go_wp2_with (first | (at_builtin; refine wpList_append_own _ rfl _ _ 56 rfl w.heap.size 5 i0 (.int .u8 0) 1 1 Tryz.underlying56 hi hz0 hz1 hz2 rfl (by decide) _ _ _ rfl (World.ownsRow.alloc hown _) ⟨wr.heap.size, 0, none⟩ 2 2 [.int .u8 92, .int .u8 110] rfl rfl ?_ ?_ ?_ ?_ ?_ ?_))
          all_goals
            first
              | rfl
              | (intro u hu; simp at hu; rcases hu with rfl | rfl | rfl | rfl <;> rfl)
              | (intro u hu; simp at hu; rcases hu with rfl | rfl <;> rfl)
              | (intro u hu; simp at hu; subst hu; rfl)
              | (unfold maxLen; omega)
              | omega
              | (have := Hbw.out.size; simp; omega)
              | exact fun j u hj => newU8 _ _ _ j u hj
              | (intro v' w1 hown' hgrow _
                 clear hown hi hz0 hz1 hz2
                 have hst := Lib.hid (OwnB.step Hown.out Hbw.out (Nat.le_refl _) HV.out hown' hgrow)
                 clear hown' hgrow
                 go_wp2_with fail
                 go_roundg (gk - 1)
                 case measure => omega
                 case rel => exact ⟨k + 1, by omega, by go_num, by omega, by rw [qb_take2 s k hlt, ← List.append_assoc, HQ.out, HL.out]; exact hst.out.1, hst.out.2⟩)
        · have k1 := b_not' (n := 10) rfl h10
          have hb := Sp.b_lt s[k]
          have j1 : 0 ≤ (s[k].toNat : Int) / 16 ∧ (s[k].toNat : Int) / 16 < 16 := by omega
          have j2 : 0 ≤ (s[k].toNat : Int) % 16 ∧ (s[k].toNat : Int) % 16 < 16 := by omega
          have i1 : s[k].toNat / 16 < 16 := by omega
          have wr1 := wrap_u8 (x := (s[k].toNat : Int) / 16) j1.1 (by omega)
          have wr2 := wrap_u8 (x := (s[k].toNat : Int) % 16) j2.1 (by omega)
          have i2 : s[k].toNat % 16 < 16 := by omega
          by_cases hc : Sp.ctl s[k] = true
          · have HQ := Lib.hid (show Sp.qb s[k] = [92, 120, Sp.hexd (s[k].toNat / 16), Sp.hexd (s[k].toNat % 16)] by unfold Sp.qb; rw [if_neg h10, if_pos hc])
            have hcc := of_decide_eq_true (show decide (s[k].toNat < 32 ∨ s[k].toNat = 127) = true from hc)
            by_cases h32 : s[k].toNat < 32
            · have h32' : (s[k].toNat : Int) < 32 := by omega
              clear h9 h10 hc hcc h32
              have HV := Lib.hid (show Lib.byteCells [92, 120, Sp.hexd (s[k].toNat / 16), Sp.hexd (s[k].toNat % 16)] = [.int .u8 92, .int .u8 120, .int .u8 ((⟨#[48, 49, 50, 51, 52, 53, 54, 55, 56, 57, 97, 98, 99, 100, 101, 102]⟩ : ByteArray)[s[k].toNat / 16].toNat : Int), .int .u8 ((⟨#[48, 49, 50, 51, 52, 53, 54, 55, 56, 57, 97, 98, 99, 100, 101, 102]⟩ : ByteArray)[s[k].toNat % 16].toNat : Int)] by rw [dg_at2 _ (by omega), dg_at2 _ (by omega)]; rfl)
              go_wp2_with fail
              go_region_held3 (fun _ => True) (trivial)
                (first | (refine step_append_own rfl (.tmp 44) (.tmp 51) 56 rfl 5 i0 (.int .u8 0) 1 1 Tryz.underlying56 Hi.out.1 Hi.out.2.1 Hi.out.2.2.1 Hi.out.2.2.2 rfl (by decide) w.heap.size _ L.length (Lib.byteCells L) rfl (World.ownsRow.alloc Hown.out _) ⟨wr.heap.size, 0, none⟩ 4 4 [.int .u8 92, .int .u8 120, .int .u8 ((⟨#[48, 49, 50, 51, 52, 53, 54, 55, 56, 57, 97, 98, 99, 100, 101, 102]⟩ : ByteArray)[s[k].toNat / 16].toNat : Int), .int .u8 ((⟨#[48, 49, 50, 51, 52, 53, 54, 55, 56, 57, 97, 98, 99, 100, 101, 102]⟩ : ByteArray)[s[k].toNat % 16].toNat : Int)] rfl rfl (newU8 _ _ _) (fun u hu => by simp at hu; rcases hu with rfl | rfl | rfl | rfl <;> rfl) (by unfold maxLen; omega) (by omega) (by have := Hbw.out.size; simp; omega) ?_; intro v' w1 hown' hgrow))
              all_goals
                have hst := Lib.hid (OwnB.step (wr := wr.drew) Hown.out Hbw.out.drew (Nat.le_refl _) HV.out hown' hgrow)
                clear hown' hgrow
                go_wp2_with fail
                go_roundg (gk - 1)
                case measure => omega
                case rel => exact ⟨k + 1, by omega, by go_num, by omega, by rw [qb_take2 s k hlt, ← List.append_assoc, HQ.out, HL.out]; exact hst.out.1, hst.out.2⟩
            · have h32' : ¬ (s[k].toNat : Int) < 32 := by omega
              have h127 : ((s[k].toNat : Int) == 127) = true := by rw [beq_iff_eq]; omega
              clear h9 h10 hc hcc h32
              have HV := Lib.hid (show Lib.byteCells [92, 120, Sp.hexd (s[k].toNat / 16), Sp.hexd (s[k].toNat % 16)] = [.int .u8 92, .int .u8 120, .int .u8 ((⟨#[48, 49, 50, 51, 52, 53, 54, 55, 56, 57, 97, 98, 99, 100, 101, 102]⟩ : ByteArray)[s[k].toNat / 16].toNat : Int), .int .u8 ((⟨#[48, 49, 50, 51, 52, 53, 54, 55, 56, 57, 97, 98, 99, 100, 101, 102]⟩ : ByteArray)[s[k].toNat % 16].toNat : Int)] by rw [dg_at2 _ (by omega), dg_at2 _ (by omega)]; rfl)
              go_wp2_with fail
              go_region_held3 (fun _ => True) (trivial)
                (first | (refine step_append_own rfl (.tmp 44) (.tmp 51) 56 rfl 5 i0 (.int .u8 0) 1 1 Tryz.underlying56 Hi.out.1 Hi.out.2.1 Hi.out.2.2.1 Hi.out.2.2.2 rfl (by decide) w.heap.size _ L.length (Lib.byteCells L) rfl (World.ownsRow.alloc Hown.out _) ⟨wr.heap.size, 0, none⟩ 4 4 [.int .u8 92, .int .u8 120, .int .u8 ((⟨#[48, 49, 50, 51, 52, 53, 54, 55, 56, 57, 97, 98, 99, 100, 101, 102]⟩ : ByteArray)[s[k].toNat / 16].toNat : Int), .int .u8 ((⟨#[48, 49, 50, 51, 52, 53, 54, 55, 56, 57, 97, 98, 99, 100, 101, 102]⟩ : ByteArray)[s[k].toNat % 16].toNat : Int)] rfl rfl (newU8 _ _ _) (fun u hu => by simp at hu; rcases hu with rfl | rfl | rfl | rfl <;> rfl) (by unfold maxLen; omega) (by omega) (by have := Hbw.out.size; simp; omega) ?_; intro v' w1 hown' hgrow))
              all_goals
                have hst := Lib.hid (OwnB.step (wr := wr.drew) Hown.out Hbw.out.drew (Nat.le_refl _) HV.out hown' hgrow)
                clear hown' hgrow
                go_wp2_with fail
                go_roundg (gk - 1)
                case measure => omega
                case rel => exact ⟨k + 1, by omega, by go_num, by omega, by rw [qb_take2 s k hlt, ← List.append_assoc, HQ.out, HL.out]; exact hst.out.1, hst.out.2⟩
          · have HQ := Lib.hid (show Sp.qb s[k] = [s[k]] by unfold Sp.qb; rw [if_neg h10, if_neg hc, if_neg h9])
            have hcc := of_decide_eq_false (show decide (s[k].toNat < 32 ∨ s[k].toNat = 127) = false from Bool.eq_false_iff.2 hc)
            have h32' : ¬ (s[k].toNat : Int) < 32 := by omega
            have h127 : ((s[k].toNat : Int) == 127) = false := by rw [beq_eq_false_iff_ne]; omega
            clear h9 h10 hc hcc
            have HV := Lib.hid (show Lib.byteCells [s[k]] = [.int .u8 (s[k].toNat : Int)] by rfl)
            have hown := Hown.out
            have hi := Hi.out.1
            have hz0 := Hi.out.2.1
            have hz1 := Hi.out.2.2.1
            have hz2 := Hi.out.2.2.2
            go_wp2_with (first | (at_builtin; refine wpList_append_own _ rfl _ _ 56 rfl w.heap.size 5 i0 (.int .u8 0) 1 1 Tryz.underlying56 hi hz0 hz1 hz2 rfl (by decide) _ _ _ rfl (World.ownsRow.alloc hown _) ⟨wr.heap.size, 0, none⟩ 1 1 [.int .u8 (s[k].toNat : Int)] rfl rfl ?_ ?_ ?_ ?_ ?_ ?_))
            all_goals
              first
                | rfl
                | (intro u hu; simp at hu; rcases hu with rfl | rfl | rfl | rfl <;> rfl)
                | (intro u hu; simp at hu; rcases hu with rfl | rfl <;> rfl)
                | (intro u hu; simp at hu; subst hu; rfl)
                | (unfold maxLen; omega)
                | omega
                | (have := Hbw.out.size; simp; omega)
                | exact fun j u hj => newU8 _ _ _ j u hj
                | (intro v' w1 hown' hgrow _
                   clear hown hi hz0 hz1 hz2
                   have hst := Lib.hid (OwnB.step Hown.out Hbw.out (Nat.le_refl _) HV.out hown' hgrow)
                   clear hown' hgrow
                   go_wp2_with fail
                   go_roundg (gk - 1)
                   case measure => omega
                   case rel => exact ⟨k + 1, by omega, by go_num, by omega, by rw [qb_take2 s k hlt, ← List.append_assoc, HQ.out, HL.out]; exact hst.out.1, hst.out.2⟩)
    · have hlt' : decide ((k : Int) < (s.size : Int)) = false := decide_eq_false (by omega)
      have hks : k = s.size := by omega
      have HV := Lib.hid (show Lib.byteCells [34] = [.int .u8 34] by rfl)
      have hown := Hown.out
      have hi := Hi.out.1
      have hz0 := Hi.out.2.1
      have hz1 := Hi.out.2.2.1
      have hz2 := Hi.out.2.2.2
      go_wp2_with (first | (at_builtin; refine wpList_append_own _ rfl _ _ 56 rfl w.heap.size 5 i0 (.int .u8 0) 1 1 Tryz.underlying56 hi hz0 hz1 hz2 rfl (by decide) _ _ _ rfl (World.ownsRow.alloc hown _) ⟨wr.heap.size, 0, none⟩ 1 1 [.int .u8 34] rfl rfl ?_ ?_ ?_ ?_ ?_ ?_))
      all_goals
        first
          | rfl
          | (intro u hu; simp at hu; rcases hu with rfl | rfl | rfl | rfl <;> rfl)
          | (intro u hu; simp at hu; rcases hu with rfl | rfl <;> rfl)
          | (intro u hu; simp at hu; subst hu; rfl)
          | (unfold maxLen; omega)
          | omega
          | (have := Hbw.out.size; simp; omega)
          | exact fun j u hj => newU8 _ _ _ j u hj
          | (intro v' w1 hown' hgrow _
             clear hown hi hz0 hz1 hz2
             have hst := Lib.hid (OwnB.step Hown.out Hbw.out (Nat.le_refl _) HV.out hown' hgrow)
             clear hown' hgrow
             obtain ⟨g, cap', hv'⟩ := ownsRow_open hst.out.1 (by simp)
             have hcv := fun wx => run_convert_bytes_back (P := Tryz.prog) wx 56 9 5 ⟨g, 0, none⟩ cap' (L ++ [34]) Tryz.underlying56 Tryz.underlying5 Tryz.underlying9
             have hcv2 := hcv w1 (fun j hj => World.ownsRow.cells hst.out.1 (by rw [hv']; rfl) j _ (by rw [Lib.byteCells, List.getElem?_map, List.getElem?_eq_getElem hj]; rfl))
             subst hv'
             clear hcv
             rw [show (L ++ [(34 : UInt8)]).length = L.length + 1 from List.length_append] at hcv2
             go_wp2_with fail
             go_ret
             refine ⟨?_, hst.out.2⟩
             have e : Sp.qt s.data.toList = L ++ [34] := by rw [← HL.out, hks, show s.data.toList.take s.size = s.data.toList from List.take_of_length_le (Nat.le_refl _)]; rfl
             rw [e]; rfl)
end Go.Proofs.YtacgkbdldbppjaaGreatDoor

/- The document's reader: what stands behind a 92. -/
namespace Go.Proofs.YtacgkbdldbppjaaGreatDoor
open Go.RowKit Ch

/-- What behind answers: the byte, at its place, or a byte nobody looks at, and the first wrong thing's place. -/
def BehindOut (b : Nat) (s : ByteArray) (k : Nat) (w : World) (e : Ending) (w' : World) : Prop :=
  Keep b [QT] w w' ∧ match Sp.inside (92 :: rst s k) with
  | .ok v n => e = .returned (.int .u8 (v.toNat : Int)) ∧ RxAt w' b s (k - 1 + n) (-1)
  | .bad m => (∃ y : UInt8, e = .returned (.int .u8 (y.toNat : Int))) ∧ ∃ j, RxAt w' b s j ((k - 1 + m : Nat) : Int)
theorem inside92_nil : Sp.inside [92] = .bad 1 := rfl
theorem inside92 (c : UInt8) (u : List UInt8) : Sp.inside (92 :: c :: u) = if c = 34 ∨ c = 92 then .ok c 2 else if c = 110 then .ok 10 2 else if c = 120 then Sp.hexes u else .bad 1 := by
  simp only [Sp.inside]
  rw [if_neg (by decide), if_neg (by decide)]

set_option maxRecDepth 100000 in
set_option maxHeartbeats 4000000 in
theorem behind_any4 (b : Nat) (s : ByteArray) (k : Nat) (w : World) (h : RxAt w b s k (-1)) (hk : 1 ≤ k) :
    Calls Tryz.prog 72 #[.pointer (some ⟨b, 0, none⟩)] w (BehindOut b s k w) := by
  have HN := Lib.hid (next_any b s k (-1) w h)
  rw [nxt_live] at HN
  have H := Lib.hid h
  obtain ⟨c0, c1, c2⟩ := h.at
  have f1 := h.free 1
  have h2 : s.size ≤ 9223372036854775807 := h.2.2
  have hks := h.2.1
  have hw1 := IntWalk.i64_in ((k : Int) - 1) (by omega)
  have HB := Lib.hid fun n => bad_any b s k (-1) k (w.drewN n) (h.drewN n)
  clear h
  by_cases hlt : k < s.size
  · have hw2 := IntWalk.i64_in ((k : Int) + 1) (by omega)
    have Hr := Lib.hid (rst_cons hlt)
    rw [Hr.out, List.headD_cons] at HN
    have HI := Lib.hid (inside92 s[k] (rst s (k + 1)))
    rw [← Hr.out] at HI
    have hst := fun n => (H.out.drewN n).step (k + 1) (by omega)
    have Hst := Lib.hid hst
    clear hst
    generalize s[k] = c at *
    by_cases h34 : c = 34
    · have q1 := b_is' (n := 34) rfl h34
      have HE := Lib.hid (show Sp.inside (92 :: rst s k) = .ok c 2 by rw [HI.out, if_pos (.inl h34)])
      clear h34
      go_enter Tryz.func72, Tryz.ntmps72
      go_wp2_with fail
      refine HN.out.mono ?_
      rintro e w1 ⟨rfl, n1, rfl⟩
      have f1' : (w.drewN n1).frozen? ⟨b, 1, none⟩ = false := (H.out.drewN n1).free 1
      go_wp2_with fail
      go_ret
      unfold BehindOut
      rw [HE.out]
      exact ⟨(keep_drewN (Keep.refl _ _ _) _).trans (Hst.out n1).2, rfl, by rw [show k - 1 + 2 = k + 1 by omega]; exact (Hst.out n1).1⟩
    by_cases h92 : c = 92
    · have q1 := b_not' (n := 34) rfl h34
      have q2 := b_is' (n := 92) rfl h92
      have HE := Lib.hid (show Sp.inside (92 :: rst s k) = .ok c 2 by rw [HI.out, if_pos (.inr h92)])
      clear h34 h92
      go_enter Tryz.func72, Tryz.ntmps72
      go_wp2_with fail
      refine HN.out.mono ?_
      rintro e w1 ⟨rfl, n1, rfl⟩
      have f1' : (w.drewN n1).frozen? ⟨b, 1, none⟩ = false := (H.out.drewN n1).free 1
      go_wp2_with fail
      go_ret
      unfold BehindOut
      rw [HE.out]
      exact ⟨(keep_drewN (Keep.refl _ _ _) _).trans (Hst.out n1).2, rfl, by rw [show k - 1 + 2 = k + 1 by omega]; exact (Hst.out n1).1⟩
    by_cases h110 : c = 110
    · have q1 := b_not' (n := 34) rfl h34
      have q2 := b_not' (n := 92) rfl h92
      have q3 := b_is' (n := 110) rfl h110
      have HE := Lib.hid (show Sp.inside (92 :: rst s k) = .ok 10 2 by rw [HI.out, if_neg (fun h => h.elim h34 h92), if_pos h110])
      clear h34 h92 h110
      go_enter Tryz.func72, Tryz.ntmps72
      go_wp2_with fail
      refine HN.out.mono ?_
      rintro e w1 ⟨rfl, n1, rfl⟩
      have f1' : (w.drewN n1).frozen? ⟨b, 1, none⟩ = false := (H.out.drewN n1).free 1
      go_wp2_with fail
      go_ret
      unfold BehindOut
      rw [HE.out]
      exact ⟨(keep_drewN (Keep.refl _ _ _) _).trans (Hst.out n1).2, rfl, by rw [show k - 1 + 2 = k + 1 by omega]; exact (Hst.out n1).1⟩
    have q1 := b_not' (n := 34) rfl h34
    have q2 := b_not' (n := 92) rfl h92
    have q3 := b_not' (n := 110) rfl h110
    by_cases h120 : c = 120
    · have q4 := b_is' (n := 120) rfl h120
      have HE := Lib.hid (show Sp.inside (92 :: rst s k) = Sp.hexes (rst s (k + 1)) by rw [HI.out, if_neg (fun h => h.elim h34 h92), if_neg h110, if_pos h120])
      clear h34 h92 h110 h120
      go_enter Tryz.func72, Tryz.ntmps72
      go_wp2_with fail
      refine HN.out.mono ?_
      rintro e w1 ⟨rfl, n1, rfl⟩
      have f1' : (w.drewN n1).frozen? ⟨b, 1, none⟩ = false := (H.out.drewN n1).free 1
      go_wp2_with fail
      have HY := Lib.hid (Hst.out n1)
      have K0 := Lib.hid ((keep_drewN (Keep.refl b [QT] w) n1).trans HY.out.2)
      have D1 := Lib.hid (digitL_any b s (k + 1) _ HY.out.1)
      refine D1.out.mono ?_
      intro e w2 h2'
      cases hd1 : Sp.digit16 (rst s (k + 1)) with
      | bad m1 =>
        rw [hd1] at h2'
        obtain ⟨rfl, rfl, r2, kk2⟩ := h2'
        have HE2 := Lib.hid (HE.out.trans (show Sp.hexes (rst s (k + 1)) = .bad 2 by unfold Sp.hexes; simp only [hd1]))
        have KK2 := Lib.hid kk2
        have D2 := Lib.hid (digitD_any b s (k + 1) ((k + 1 : Nat) : Int) w2 r2 (by omega))
        clear kk2 hd1 r2
        go_wp2_with fail
        refine D2.out.mono ?_
        rintro e w3 ⟨rfl, r3, k3⟩
        have R3 := Lib.hid r3
        have KK3 := Lib.hid k3
        clear r3 k3
        go_wp2_with fail
        go_ret
        unfold BehindOut
        rw [HE2.out]
        exact ⟨K0.out.trans (KK2.out.trans KK3.out), ⟨0, rfl⟩, _, by rw [show k - 1 + 2 = k + 1 by omega]; exact R3.out⟩
      | ok v n =>
        rw [hd1] at h2'
        obtain ⟨hv, rfl, rfl, r2, kk2⟩ := h2'
        have HD1 := Lib.hid hd1
        have KK2 := Lib.hid kk2
        have D2 := Lib.hid (digitL_any b s (k + 1 + 1) w2 r2)
        have hwr3 := IntWalk.i64_in ((v : Int) * 16) (by omega)
        clear kk2 hd1 r2
        go_wp2_with fail
        refine D2.out.mono ?_
        intro e w3 h3'
        cases hd2 : Sp.digit16 (rst s (k + 1 + 1)) with
        | bad m2 =>
          rw [hd2] at h3'
          obtain ⟨rfl, rfl, r3, kk3⟩ := h3'
          have HE2 := Lib.hid (HE.out.trans (show Sp.hexes (rst s (k + 1)) = .bad 3 by unfold Sp.hexes; simp only [HD1.out, rst_drop, hd2]))
          have R3 := Lib.hid r3
          have KK3 := Lib.hid kk3
          have hwr5 := IntWalk.u8_in ((v : Int) * 16) (by omega)
          have e10 : ((v : Int) * 16 == 10) = false := by rw [beq_eq_false_iff_ne]; omega
          have e127 : ((v : Int) * 16 == 127) = false := by rw [beq_eq_false_iff_ne]; omega
          have HB3 := Lib.hid (bad_any b s (k + 1 + 1) ((k + 1 + 1 : Nat) : Int) ((k : Int) - 1) w3 r3)
          clear r3 kk3 hd2
          by_cases hv2 : 2 ≤ v
          · have e32 : (32 : Int) ≤ (v : Int) * 16 := by omega
            go_wp2_with fail
            refine HB3.out.mono ?_
            rintro e w4 ⟨rfl, r4, k4⟩
            rw [noted_dead (by omega)] at r4
            have R4 := Lib.hid r4
            have KK4 := Lib.hid k4
            clear r4 k4
            go_wp2_with fail
            go_ret
            unfold BehindOut
            rw [HE2.out]
            exact ⟨K0.out.trans (KK2.out.trans (KK3.out.trans KK4.out)), ⟨UInt8.ofNat (v * 16), by rw [Sp.of_nat (by omega)]; rfl⟩, _, by rw [show k - 1 + 3 = k + 1 + 1 by omega]; exact R4.out⟩
          · have e32 : ¬ (32 : Int) ≤ (v : Int) * 16 := by omega
            have e32' : decide ((32 : Int) ≤ (v : Int) * 16) = false := decide_eq_false e32
            go_wp2_with fail
            go_ret
            unfold BehindOut
            rw [HE2.out]
            exact ⟨K0.out.trans (KK2.out.trans KK3.out), ⟨UInt8.ofNat (v * 16), by rw [Sp.of_nat (by omega)]; rfl⟩, _, by rw [show k - 1 + 3 = k + 1 + 1 by omega]; exact R3.out⟩
        | ok g n2 =>
          rw [hd2] at h3'
          obtain ⟨hg, rfl, rfl, r3, kk3⟩ := h3'
          have hN : v * 16 + g < 256 := by omega
          have hof : (UInt8.ofNat (v * 16 + g)).toNat = v * 16 + g := Sp.of_nat hN
          have hX : Sp.hexes (rst s (k + 1)) = if Sp.ctl (UInt8.ofNat (v * 16 + g)) = true ∧ UInt8.ofNat (v * 16 + g) ≠ 10 then .ok (UInt8.ofNat (v * 16 + g)) 4 else .bad 0 := by unfold Sp.hexes; simp only [HD1.out, rst_drop, hd2]
          have hct : Sp.ctl (UInt8.ofNat (v * 16 + g)) = decide (v * 16 + g < 32 ∨ v * 16 + g = 127) := by unfold Sp.ctl; rw [hof]
          have h10 : UInt8.ofNat (v * 16 + g) = 10 ↔ v * 16 + g = 10 := by rw [Sp.b_eq, hof]; rfl
          have R3 := Lib.hid r3
          have KK3 := Lib.hid kk3
          have hwr4 := IntWalk.i64_in ((v : Int) * 16 + (g : Int)) (by omega)
          have hwr5 := IntWalk.u8_in ((v : Int) * 16 + (g : Int)) (by omega)
          have hret : ((v : Int) * 16 + (g : Int)) = ((UInt8.ofNat (v * 16 + g)).toNat : Int) := by rw [hof]; omega
          have HRet := Lib.hid hret
          have HB3 := Lib.hid (bad_any b s (k + 1 + 1 + 1) (-1) ((k : Int) - 1) w3 r3)
          by_cases hgood : (v * 16 + g < 32 ∨ v * 16 + g = 127) ∧ v * 16 + g ≠ 10
          · have HE2 := Lib.hid (HE.out.trans (hX.trans (if_pos ⟨by rw [hct]; exact decide_eq_true hgood.1, fun e => hgood.2 (h10.1 e)⟩)))
            have e10 : ((v : Int) * 16 + (g : Int) == 10) = false := by rw [beq_eq_false_iff_ne]; omega
            clear r3 kk3 hd2 hX hct h10 hret
            by_cases hl : v * 16 + g < 32
            · have e32 : ¬ (32 : Int) ≤ (v : Int) * 16 + (g : Int) := by omega
              have e32' : decide ((32 : Int) ≤ (v : Int) * 16 + (g : Int)) = false := decide_eq_false e32
              clear hgood
              go_wp2_with fail
              go_ret
              unfold BehindOut
              rw [HE2.out]
              exact ⟨K0.out.trans (KK2.out.trans KK3.out), by rw [← HRet.out]; rfl, by rw [show k - 1 + 4 = k + 1 + 1 + 1 by omega]; exact R3.out⟩
            · have e32 : (32 : Int) ≤ (v : Int) * 16 + (g : Int) := by omega
              have e127 : ((v : Int) * 16 + (g : Int) == 127) = true := by rw [beq_iff_eq]; omega
              clear hgood
              go_wp2_with fail
              go_ret
              unfold BehindOut
              rw [HE2.out]
              exact ⟨K0.out.trans (KK2.out.trans KK3.out), by rw [← HRet.out]; rfl, by rw [show k - 1 + 4 = k + 1 + 1 + 1 by omega]; exact R3.out⟩
          · have HE2 := Lib.hid (HE.out.trans (hX.trans (if_neg fun e => hgood ⟨of_decide_eq_true (by rw [← hct]; exact e.1), fun h => e.2 (h10.2 h)⟩)))
            clear r3 kk3 hd2 hX hct h10 hret
            by_cases h0 : v * 16 + g = 10
            · have e10 : ((v : Int) * 16 + (g : Int) == 10) = true := by rw [beq_iff_eq]; omega
              clear hgood
              go_wp2_with fail
              refine HB3.out.mono ?_
              rintro e w4 ⟨rfl, r4, k4⟩
              rw [noted_live (by omega)] at r4
              have R4 := Lib.hid r4
              have KK4 := Lib.hid k4
              clear r4 k4
              go_wp2_with fail
              go_ret
              unfold BehindOut
              rw [HE2.out]
              exact ⟨K0.out.trans (KK2.out.trans (KK3.out.trans KK4.out)), ⟨_, by rw [← HRet.out]; rfl⟩, _, by rw [show ((k - 1 + 0 : Nat) : Int) = (k : Int) - 1 by omega]; exact R4.out⟩
            · have e10 : ((v : Int) * 16 + (g : Int) == 10) = false := by rw [beq_eq_false_iff_ne]; omega
              have e32 : (32 : Int) ≤ (v : Int) * 16 + (g : Int) := by omega
              have e127 : ((v : Int) * 16 + (g : Int) == 127) = false := by rw [beq_eq_false_iff_ne]; omega
              clear hgood
              go_wp2_with fail
              refine HB3.out.mono ?_
              rintro e w4 ⟨rfl, r4, k4⟩
              rw [noted_live (by omega)] at r4
              have R4 := Lib.hid r4
              have KK4 := Lib.hid k4
              clear r4 k4
              go_wp2_with fail
              go_ret
              unfold BehindOut
              rw [HE2.out]
              exact ⟨K0.out.trans (KK2.out.trans (KK3.out.trans KK4.out)), ⟨_, by rw [← HRet.out]; rfl⟩, _, by rw [show ((k - 1 + 0 : Nat) : Int) = (k : Int) - 1 by omega]; exact R4.out⟩
    · have q4 := b_not' (n := 120) rfl h120
      have HE := Lib.hid (show Sp.inside (92 :: rst s k) = .bad 1 by rw [HI.out, if_neg (fun h => h.elim h34 h92), if_neg h110, if_neg h120])
      clear h34 h92 h110 h120
      go_enter Tryz.func72, Tryz.ntmps72
      go_wp2_with fail
      refine HN.out.mono ?_
      rintro e w1 ⟨rfl, n1, rfl⟩
      have f1' : (w.drewN n1).frozen? ⟨b, 1, none⟩ = false := (H.out.drewN n1).free 1
      go_wp2_with fail
      refine (HB.out n1).mono ?_
      rintro e w2 ⟨rfl, r2, k2⟩
      go_wp2_with fail
      go_ret
      unfold BehindOut
      rw [HE.out]
      exact ⟨(keep_drewN (Keep.refl _ _ _) _).trans k2, ⟨0, rfl⟩, k, by rw [noted_live (by omega)] at r2; rw [show k - 1 + 1 = k by omega]; exact r2⟩
  · have hr := rst_nil (s := s) (a := k) (by omega)
    have HE := Lib.hid (show Sp.inside (92 :: rst s k) = .bad 1 by rw [hr]; rfl)
    rw [hr] at HN
    clear hr
    go_enter Tryz.func72, Tryz.ntmps72
    go_wp2_with fail
    refine HN.out.mono ?_
    rintro e w1 ⟨rfl, n1, rfl⟩
    have f1' : (w.drewN n1).frozen? ⟨b, 1, none⟩ = false := (H.out.drewN n1).free 1
    go_wp2_with fail
    refine (HB.out n1).mono ?_
    rintro e w2 ⟨rfl, r2, k2⟩
    go_wp2_with fail
    go_ret
    unfold BehindOut
    rw [HE.out]
    exact ⟨(keep_drewN (Keep.refl _ _ _) _).trans k2, ⟨0, rfl⟩, k, by rw [noted_live (by omega)] at r2; rw [show k - 1 + 1 = k by omega]; exact r2⟩
end Go.Proofs.YtacgkbdldbppjaaGreatDoor

/- The document's reader: quoted. -/
namespace Go.Proofs.YtacgkbdldbppjaaGreatDoor
open Go.RowKit Ch

theorem Keep.grew {b : Nat} {ts : List TypeId} {w wr w' : World} {row : Option Nat} (h : Keep b ts w wr) (hg : wr.grownBy w' row) (hr : ∀ g, row = some g → w.heap.size ≤ g) (hb : b ≤ w.heap.size) : Keep b ts w w' :=
  ⟨h.below.grown hg (Nat.le_trans hb h.below.size) (fun j hj => Nat.le_trans hb (hr j hj)), fun i cs e fr hi he => by
    have h1 := h.kept i cs e fr hi he
    exact (hg.block i (lt_of_heap h1) (fun e => by have h2 := hr i e.symm; have h3 := lt_of_heap hi; omega)).trans h1⟩

set_option maxRecDepth 100000 in
theorem conv_own (W : World) (B : Nat) (v : Value) (l : List UInt8) (h : OwnB W B v l) : (convert 56 9 v).run Tryz.prog W = .ok (.string (Sp.ba l)) W := by
  rcases Nat.eq_zero_or_pos l.length with h0 | h0
  · obtain rfl := List.length_eq_zero_iff.1 h0
    rcases h.2 with ⟨rfl, _⟩ | ⟨g, cap, cur, rfl, _⟩
    · rfl
    · exact run_convert_bytes_back (P := Tryz.prog) W 56 9 5 ⟨g, 0, none⟩ cap [] Tryz.underlying56 Tryz.underlying5 Tryz.underlying9 (fun j hj => by cases hj)
  · obtain ⟨g, cap, rfl⟩ := ownsRow_open h h0
    exact run_convert_bytes_back (P := Tryz.prog) W 56 9 5 ⟨g, 0, none⟩ cap l Tryz.underlying56 Tryz.underlying5 Tryz.underlying9 (fun j hj => World.ownsRow.cells h rfl j _ (by rw [Lib.byteCells, List.getElem?_map, List.getElem?_eq_getElem hj]; rfl))

def QuotedOut (b : Nat) (s : ByteArray) (k : Nat) (w : World) : Ending → World → Prop :=
  RxGo b s k (Sp.quoted (rst s k)) (fun v _ u => u = .string (Sp.ba v)) (fun _ u => ∃ t, u = .string t) w

set_option maxRecDepth 100000 in
set_option maxHeartbeats 4000000 in
theorem quotedX_any (b : Nat) (s : ByteArray) (k : Nat) (w : World) (h : RxAt w b s k (-1)) (hz : s.size ≤ 1048576) :
    Calls Tryz.prog 44 #[.pointer (some ⟨b, 0, none⟩)] w (QuotedOut b s k w) := by
  obtain ⟨i0, hi, hz0, hz1, hz2⟩ := info_parts infoU8
  have Hi := Lib.hid (show _ ∧ _ ∧ _ ∧ _ from ⟨hi, hz0, hz1, hz2⟩)
  clear hi hz0 hz1 hz2
  have HM := Lib.hid (mustX_any b s k 34 w h (by decide))
  have hbw : b < w.heap.size := lt_of_heap h.1
  by_cases h34 : (rst s k).head? = some 34
  · rw [show Sp.must 34 (rst s k) = .ok () 1 by unfold Sp.must; rw [if_pos h34]] at HM
    have HQ := Lib.hid (quoted_go h34)
    rw [rst_drop] at HQ
    clear h34 h
    go_enter Tryz.func44, Tryz.ntmps44
    go_wp2_with fail
    refine HM.out.mono ?_
    rintro e w1 ⟨u1, rfl, k1, rfl, r1⟩
    have R1 := Lib.hid r1
    have K1 := Lib.hid k1
    have s01 : w.heap.size ≤ w1.heap.size := k1.below.size
    have HBO := Lib.hid (rfl : Sp.body ((rst s (k + 1)).length + 1) (rst s (k + 1)) = Sp.body ((rst s (k + 1)).length + 1) (rst s (k + 1)))
    generalize hBX : Sp.body ((rst s (k + 1)).length + 1) (rst s (k + 1)) = BX at *
    have hBX' := Lib.hid hBX
    clear r1 k1 hBX HBO
    go_wp2_with fail
    go_loopg [3, 4] (s.size + 2) (fun gk v c wr => (∃ (j f : Nat) (l : List UInt8), s.size + 1 ≤ gk + j ∧ RxAt wr b s j (-1) ∧ k + 1 ≤ j ∧ l.length ≤ j ∧ s.size - j < f ∧ BX = Sp.pre l (j - (k + 1)) (Sp.body f (rst s j)) ∧ OwnB wr w1.heap.size v l ∧ Keep b [QT] w wr ∧ w1.heap.size ≤ wr.heap.size) ∨
      (∃ m j : Nat, BX = .bad m ∧ RxAt wr b s j ((k + 1 + m : Nat) : Int) ∧ Keep b [QT] w wr))
    case atStart => exact .inl ⟨k + 1, (rst s (k + 1)).length + 1, [], by omega, R1.out, Nat.le_refl _, Nat.zero_le _, by rw [rst_len]; omega, by rw [Nat.sub_self, Sp.pre_zero]; exact hBX'.out.symm, World.ownsRow_nil _ _ _ _, K1.out, Nat.le_refl _⟩
    case round =>
      rcases hrel with ⟨j, f, l, hgk, r, hkj, hlj, hf, hbo, ho, kk, hsz⟩ | ⟨m, j, hbm, r, kk⟩
      · have R := Lib.hid r
        have KK := Lib.hid kk
        have HO := Lib.hid ho
        have HBo := Lib.hid hbo
        have hjs := r.2.1
        obtain ⟨d0, d1, d2⟩ := r.at
        have d3 := r.free 1
        have HN := Lib.hid (next_any b s j (-1) wr r)
        rw [nxt_live] at HN
        have qm : (-1 : Int) < 0 := by omega
        obtain ⟨oa, oc, rfl⟩ := owns_shape ho
        clear r kk ho hbo
        cases f with
        | zero => omega
        | succ f =>
        by_cases h34 : (rst s j).head? = some 34
        · have hd34 : (rst s j).headD 0 = 34 := by
            cases hr : rst s j with
            | nil => rw [hr] at h34; cases h34
            | cons y t => rw [hr] at h34; exact Option.some.inj h34
          rw [hd34] at HN
          have hjl : j < s.size := by
            rcases Nat.lt_or_ge j s.size with h | h
            · exact h
            · rw [rst_nil h] at h34; cases h34
          have HE := Lib.hid (HBo.out.trans (by rw [Sp.body_34 f h34]))
          have hw2 := IntWalk.i64_in ((j : Int) + 1) (by omega)
          clear h34 hd34
          go_wp2_with fail
          refine HN.out.mono ?_
          rintro e w2 ⟨rfl, n2, rfl⟩
          have HST := Lib.hid ((R.out.drewN n2).step (j + 1) hjl)
          have hcv := conv_own _ _ _ _ (HST.out.2.own (show (wr.drewN n2).ownsRow w1.heap.size 5 1 (.slice oa l.length oc) l.length (Lib.byteCells l) from HO.out) (by decide))
          rw [show ((j + 1 : Nat) : Int) = (j : Int) + 1 by omega] at hcv
          have f1' : (wr.drewN n2).frozen? ⟨b, 1, none⟩ = false := (R.out.drewN n2).free 1
          go_wp2_with fail
          go_ret
          show QuotedOut b s k w _ _
          unfold QuotedOut RxGo
          rw [HQ.out, HE.out]
          exact ⟨_, rfl, (keep_drewN KK.out n2).trans HST.out.2, by simp, by rw [show k + (1 + (j - (k + 1) + 1)) = j + 1 by omega]; exact HST.out.1⟩
        · by_cases hct : Sp.inside (rst s j) = .bad 0 ∧ (((rst s j).headD 0).toNat < 32 ∨ ((rst s j).headD 0).toNat = 127)
          · have HE := Lib.hid (HBo.out.trans (by rw [Sp.body_bad f h34 hct.1]))
            have hcc := hct.2
            generalize (rst s j).headD 0 = c at *
            have q34 : ((c.toNat : Int) == 34) = false := by rw [beq_eq_false_iff_ne]; omega
            have HB := Lib.hid fun n => bad_any b s j (-1) j (wr.drewN n) (R.out.drewN n)
            clear h34 hct
            by_cases h32 : c.toNat < 32
            · have q32 : (c.toNat : Int) < 32 := by omega
              clear hcc
              go_wp2_with fail
              refine HN.out.mono ?_
              rintro e w2 ⟨rfl, n2, rfl⟩
              go_wp2_with fail
              refine (HB.out n2).mono ?_
              rintro e w3 ⟨rfl, r3, k3⟩
              rw [noted_live (by omega)] at r3
              have R3 := Lib.hid r3
              have K3 := Lib.hid k3
              clear r3 k3
              go_wp2_with fail
              go_roundg (gk - 1)
              case measure => omega
              case rel => exact .inr ⟨j - (k + 1), j, HE.out, by rw [show k + 1 + (j - (k + 1)) = j by omega]; exact R3.out, (keep_drewN KK.out n2).trans K3.out⟩
            · have q32 : ¬ (c.toNat : Int) < 32 := by omega
              have q127 : ((c.toNat : Int) == 127) = true := by rw [beq_iff_eq]; omega
              clear hcc
              go_wp2_with fail
              refine HN.out.mono ?_
              rintro e w2 ⟨rfl, n2, rfl⟩
              go_wp2_with fail
              refine (HB.out n2).mono ?_
              rintro e w3 ⟨rfl, r3, k3⟩
              rw [noted_live (by omega)] at r3
              have R3 := Lib.hid r3
              have K3 := Lib.hid k3
              clear r3 k3
              go_wp2_with fail
              go_roundg (gk - 1)
              case measure => omega
              case rel => exact .inr ⟨j - (k + 1), j, HE.out, by rw [show k + 1 + (j - (k + 1)) = j by omega]; exact R3.out, (keep_drewN KK.out n2).trans K3.out⟩
          · cases hr : rst s j with
            | nil => exact absurd ⟨by rw [hr]; rfl, .inl (by rw [hr]; decide)⟩ hct
            | cons y t =>
            have hjl : j < s.size := (Nat.lt_or_ge j s.size).elim id fun h => by rw [rst_nil h] at hr; cases hr
            have hnc : Sp.ctl y = false := by
              cases hq : Sp.ctl y with
              | false => rfl
              | true => exact absurd ⟨by rw [hr]; simp [Sp.inside, hq], by rw [hr]; exact of_decide_eq_true hq⟩ hct
            have hnc' := of_decide_eq_false (show decide (y.toNat < 32 ∨ y.toNat = 127) = false from hnc)
            have hy34 : y ≠ 34 := fun e => h34 (by rw [hr, e]; rfl)
            have q34 := b_not' (n := 34) rfl hy34
            have q32 : ¬ (y.toNat : Int) < 32 := by omega
            have q127 : ((y.toNat : Int) == 127) = false := by rw [beq_eq_false_iff_ne]; omega
            rw [hr, List.headD_cons] at HN
            have hw2 := IntWalk.i64_in ((j : Int) + 1) (by omega)
            have hbl : b < w1.heap.size := lt_of_heap R1.out.1
            by_cases h92 : y = 92
            · have q92 := b_is' (n := 92) rfl h92
              have HST := Lib.hid fun n => (R.out.drewN n).step (j + 1) hjl
              have hrr : rst s j = 92 :: rst s (j + 1) := by
                rw [rst_cons hjl] at hr ⊢
                rw [← h92, (List.cons.inj hr).1]
              have HRR := Lib.hid hrr
              have H34 := Lib.hid h34
              clear h34 hct hr hnc hnc' hy34 h92 hrr
              go_wp2_with fail
              refine HN.out.mono ?_
              rintro e w2 ⟨rfl, n2, rfl⟩
              have f1' : (wr.drewN n2).frozen? ⟨b, 1, none⟩ = false := (R.out.drewN n2).free 1
              go_wp2_with fail
              have HBH := Lib.hid (behind_any4 b s (j + 1) _ (HST.out n2).1 (by omega))
              have K2 := Lib.hid ((keep_drewN KK.out n2).trans (HST.out n2).2)
              have O2 := Lib.hid ((HST.out n2).2.own (show (wr.drewN n2).ownsRow w1.heap.size 5 1 (.slice oa l.length oc) l.length (Lib.byteCells l) from HO.out) (by decide))
              refine HBH.out.mono ?_
              rintro e w3 ⟨k3, h3⟩
              rw [← HRR.out] at h3
              have K3 := Lib.hid (K2.out.trans k3)
              have O3 := Lib.hid (k3.own O2.out (by decide))
              have Z3 : w1.heap.size ≤ w3.heap.size := by have := k3.below.size; simp at this; omega
              have hcase : ∃ (x : UInt8) (J : Nat) (X : Int), e = .returned (.int .u8 (x.toNat : Int)) ∧ RxAt w3 b s J X ∧ ((X = -1 ∧ j + 1 ≤ J ∧ BX = Sp.pre (l ++ [x]) (J - (k + 1)) (Sp.body f (rst s J))) ∨ ∃ m : Nat, BX = .bad m ∧ X = ((k + 1 + m : Nat) : Int)) := by
                cases hin : Sp.inside (rst s j) with
                | ok x n =>
                  rw [hin] at h3
                  obtain ⟨rfl, r3⟩ := h3
                  have HE := HBo.out.trans (Sp.body_ok f H34.out hin l (j - (k + 1)))
                  rw [rst_drop] at HE
                  obtain ⟨m1, m2⟩ := Sp.inside_len H34.out hin
                  refine ⟨x, j + 1 - 1 + n, -1, rfl, r3, .inl ⟨rfl, by omega, ?_⟩⟩
                  rw [show j + 1 - 1 + n - (k + 1) = j - (k + 1) + n by omega, show j + 1 - 1 + n = j + n by omega]
                  exact HE
                | bad m =>
                  rw [hin] at h3
                  obtain ⟨⟨x, rfl⟩, J, r3⟩ := h3
                  exact ⟨x, J, _, rfl, r3, .inr ⟨j - (k + 1) + m, HBo.out.trans (by rw [Sp.body_bad f H34.out hin]; rfl), by omega⟩⟩
              obtain ⟨x, J, X, rfl, r3, hfin⟩ := hcase
              have HF := Lib.hid hfin
              have R3 := Lib.hid r3
              have hown := O3.out
              have hi := Hi.out.1
              have hz0 := Hi.out.2.1
              have hz1 := Hi.out.2.2.1
              have hz2 := Hi.out.2.2.2
              have HV := Lib.hid (show Lib.byteCells [x] = [.int .u8 (x.toNat : Int)] by rfl)
              clear h3 k3 hfin r3
              go_wp2_with (first | (at_builtin; refine wpList_append_own _ rfl _ _ 56 rfl w1.heap.size 5 i0 (.int .u8 0) 1 1 Tryz.underlying56 hi hz0 hz1 hz2 rfl (by decide) _ _ _ rfl (World.ownsRow.alloc hown _) ⟨w3.heap.size, 0, none⟩ 1 1 [.int .u8 (x.toNat : Int)] rfl rfl ?_ ?_ ?_ ?_ ?_ ?_))
              all_goals
                first
                  | rfl
                  | (intro u hu; simp at hu; subst hu; rfl)
                  | (unfold maxLen; omega)
                  | omega
                  | (simp; omega)
                  | exact fun j u hj => newU8 _ _ _ j u hj
                  | (intro v' w4 hown' hgrow _
                     clear hown hi hz0 hz1 hz2
                     have RA := R3.out.later (below_box w3 (.cells #[.int .u8 (x.toNat : Int)] 5 (0, 0)))
                     have R4 := Lib.hid (show RxAt w4 b s J X from ⟨(hgrow.block b (lt_of_heap RA.1) (fun e => by have := (O3.out.lt b e.symm).1; omega)).trans RA.1, RA.2⟩)
                     have hb2 : b ≤ w3.heap.size := by omega
                     have K4 := Lib.hid (Keep.grew (K3.out.trans (keep_below (ts := [QT]) (below_box _ _) hb2)) hgrow (fun g e => by have := (O3.out.lt g e).1; omega) (Nat.le_of_lt hbw))
                     have O4 := Lib.hid (show OwnB w4 w1.heap.size v' (l ++ [x]) from by unfold OwnB; rw [List.length_append, Lib.byteCells_append]; exact hown')
                     have Z4 : w1.heap.size ≤ w4.heap.size := by have := hgrow.size; simp at this; omega
                     clear hown' hgrow RA
                     go_wp2_with fail
                     go_roundg (gk - 1)
                     case measure => omega
                     case rel =>
                       rcases HF.out with ⟨rfl, f1, f2⟩ | ⟨m, f1, rfl⟩
                       · exact .inl ⟨J, f, l ++ [x], by omega, R4.out, by omega, by simp; omega, by have := R4.out.2.1; omega, f2, O4.out, K4.out, Z4⟩
                       · exact .inr ⟨m, J, f1, R4.out, K4.out⟩)
            · have q92 := b_not' (n := 92) rfl h92
              have HE := Lib.hid (HBo.out.trans (Sp.body_ok f h34 (show Sp.inside (rst s j) = .ok y 1 by rw [hr]; simp [Sp.inside, hnc, h92]) l (j - (k + 1))))
              rw [rst_drop] at HE
              have HV := Lib.hid (show Lib.byteCells [y] = [.int .u8 (y.toNat : Int)] by rfl)
              clear h34 hct hr hnc hnc' hy34 h92
              go_wp2_with fail
              refine HN.out.mono ?_
              rintro e w2 ⟨rfl, n2, rfl⟩
              have hown := show (wr.drewN n2).ownsRow w1.heap.size 5 1 (.slice oa l.length oc) l.length (Lib.byteCells l) from HO.out
              have HOW := Lib.hid hown
              have hi := Hi.out.1
              have hz0 := Hi.out.2.1
              have hz1 := Hi.out.2.2.1
              have hz2 := Hi.out.2.2.2
              go_wp2_with (first | (at_builtin; refine wpList_append_own _ rfl _ _ 56 rfl w1.heap.size 5 i0 (.int .u8 0) 1 1 Tryz.underlying56 hi hz0 hz1 hz2 rfl (by decide) _ _ _ rfl (World.ownsRow.alloc hown _) ⟨wr.heap.size, 0, none⟩ 1 1 [.int .u8 (y.toNat : Int)] rfl rfl ?_ ?_ ?_ ?_ ?_ ?_))
              all_goals
                first
                  | rfl
                  | (intro u hu; simp at hu; subst hu; rfl)
                  | (unfold maxLen; omega)
                  | omega
                  | (simp; omega)
                  | exact fun j u hj => newU8 _ _ _ j u hj
                  | (intro v' w3 hown' hgrow _
                     clear hown hi hz0 hz1 hz2
                     have RA := (R.out.drewN n2).later (below_box (wr.drewN n2) (.cells #[.int .u8 (y.toNat : Int)] 5 (0, 0)))
                     have R3 : RxAt w3 b s j (-1) := ⟨(hgrow.block b (lt_of_heap RA.1) (fun e => by have := (HOW.out.lt b e.symm).1; omega)).trans RA.1, RA.2⟩
                     have hb2 : b ≤ (wr.drewN n2).heap.size := by show b ≤ wr.heap.size; omega
                     have K3 := Lib.hid (Keep.grew ((keep_drewN KK.out n2).trans (keep_below (ts := [QT]) (below_box _ _) hb2)) hgrow (fun g e => by have := (HOW.out.lt g e).1; omega) (Nat.le_of_lt hbw))
                     have O3 := Lib.hid (show OwnB w3 w1.heap.size v' (l ++ [y]) from by unfold OwnB; rw [List.length_append, Lib.byteCells_append]; exact hown')
                     have Z3 : w1.heap.size ≤ w3.heap.size := by have := hgrow.size; simp at this; omega
                     obtain ⟨e0, e1, e2⟩ := R3.at
                     have e3 := R3.free 1
                     have HR3 := Lib.hid (R3.step (j + 1) hjl)
                     obtain ⟨a', c', rfl⟩ := owns_shape O3.out
                     clear hown' hgrow RA R3
                     go_wp2_with fail
                     go_roundg (gk - 1)
                     case measure => omega
                     case rel => exact .inl ⟨j + 1, f, l ++ [y], by omega, HR3.out.1, by omega, by simp; omega, by omega, by rw [show j + 1 - (k + 1) = j - (k + 1) + 1 by omega]; exact HE.out, HR3.out.2.own O3.out (by decide), K3.out.trans HR3.out.2, by simpa using Z3⟩)
      · obtain ⟨d0, d1, d2⟩ := r.at
        have R := Lib.hid r
        have KK := Lib.hid kk
        have HBm := Lib.hid hbm
        have q0 : ¬ ((k + 1 + m : Nat) : Int) < 0 := by omega
        clear r kk hbm
        go_wp2_with fail
        go_ret
        show QuotedOut b s k w _ _
        unfold QuotedOut RxGo
        rw [HQ.out, HBm.out]
        exact ⟨_, rfl, KK.out, ⟨_, rfl⟩, j, by rw [show k + (1 + m) = k + 1 + m by omega]; exact R.out⟩
  · rw [show Sp.must 34 (rst s k) = .bad 0 by unfold Sp.must; rw [if_neg h34]] at HM
    have HQ := Lib.hid (quoted_bad h34)
    clear h34 h
    go_enter Tryz.func44, Tryz.ntmps44
    go_wp2_with fail
    refine HM.out.mono ?_
    rintro e w1 ⟨u1, rfl, k1, rfl, j, r1⟩
    have R1 := Lib.hid r1
    have K1 := Lib.hid k1
    have c2 := r1.c2
    have q0 : ¬ ((k + 0 : Nat) : Int) < 0 := by omega
    obtain ⟨x, hx⟩ : ∃ x : Int, x = ((k + 0 : Nat) : Int) := ⟨_, rfl⟩
    rw [← hx] at c2 q0 R1
    have HX := Lib.hid hx
    clear r1 k1 hx
    go_wp2_with fail
    go_loopg [] 1 (fun gk wr => wr = w1)
    case atStart => rfl
    case round =>
      obtain rfl := hrel
      go_wp2_with fail
      go_ret
      show QuotedOut b s k w _ _
      unfold QuotedOut RxGo
      rw [HQ.out]
      exact ⟨_, rfl, K1.out, ⟨_, rfl⟩, j, by rw [← HX.out]; exact R1.out⟩
end Go.Proofs.YtacgkbdldbppjaaGreatDoor

/- The document's reader: quoted behind something wrong; the document's Read. -/
namespace Go.Proofs.YtacgkbdldbppjaaGreatDoor
open Go.RowKit Ch

set_option maxRecDepth 100000 in
theorem quotedD_any (b : Nat) (s : ByteArray) (k : Nat) (x : Int) (w : World) (h : RxAt w b s k x) (hx : 0 ≤ x) :
    Calls Tryz.prog 44 #[.pointer (some ⟨b, 0, none⟩)] w (RxDead b s x (fun _ u => ∃ t, u = .string t) w) := by
  have HM := Lib.hid (mustD_any b s k x 34 w h hx (by decide))
  have q0 : ¬ x < 0 := by omega
  clear h
  go_enter Tryz.func44, Tryz.ntmps44
  go_wp2_with fail
  refine HM.out.mono ?_
  rintro e w1 ⟨u1, rfl, k1, rfl, j, r1⟩
  have R1 := Lib.hid r1
  have K1 := Lib.hid k1
  have c2 := r1.c2
  clear r1 k1
  go_wp2_with fail
  go_loopg [] 1 (fun gk wr => wr = w1)
  case atStart => rfl
  case round =>
    obtain rfl := hrel
    go_wp2_with fail
    go_ret
    show RxDead b s x _ w _ _
    exact ⟨_, rfl, K1.out, ⟨_, rfl⟩, j, R1.out⟩

set_option maxRecDepth 100000 in
set_option maxHeartbeats 4000000 in
theorem refRead_any (s : ByteArray) (p : Int) (w : World) (hz : s.size ≤ 1048576) :
    Calls Tryz.prog 17 #[.string s, .int .i64 p] w (SpReadOut w s p) := by
  by_cases hp : p < 0
  · have HE := Lib.hid (readF_out (s := s) (.inl hp))
    go_enter Tryz.func17, Tryz.ntmps17
    go_wp2_with fail
    refine bodyPost_ret (v := .tuple #[.string ⟨#[]⟩, .int .i64 0, .agg #[.int .i64 1, .int .i64 (-1)]]) (by simp [results, Tryz.results17, go_sem]) rfl ?_
    rw [SpReadOut, HE.out]
    exact ⟨rfl, below_box _ _⟩
  by_cases hp2 : (s.size : Int) < p
  · have HE := Lib.hid (readF_out (s := s) (.inr hp2))
    go_enter Tryz.func17, Tryz.ntmps17
    go_wp2_with fail
    refine bodyPost_ret (v := .tuple #[.string ⟨#[]⟩, .int .i64 0, .agg #[.int .i64 1, .int .i64 (-1)]]) (by simp [results, Tryz.results17, go_sem]) rfl ?_
    rw [SpReadOut, HE.out]
    exact ⟨rfl, below_box _ _⟩
  · obtain ⟨a, rfl⟩ : ∃ a : Nat, p = a := ⟨p.toNat, by omega⟩
    have ha : a ≤ s.size := by omega
    clear hp hp2
    have q0 : ¬ (a : Int) < 0 := by omega
    have q1 : ¬ (s.size : Int) < (a : Int) := by omega
    go_enter Tryz.func17, Tryz.ntmps17
    go_wp2_with fail
    obtain ⟨X, hX⟩ : ∃ X, X = (w.alloc (.cells #[.int .i64 0, .int .i64 0] 34)).alloc (.cells #[.string s, .int .i64 a, .int .i64 (-1)] 75) := ⟨_, rfl⟩
    rw [← hX]
    have sX : X.heap.size = w.heap.size + 2 := by rw [hX]; simp
    have hml : s.size ≤ maxLen := by unfold maxLen; omega
    have RX : RxAt X (w.heap.size + 1) s a (-1) := ⟨by rw [hX]; have := heap_new (w.alloc (.cells #[.int .i64 0, .int .i64 0] 34)) (.cells #[.string s, .int .i64 a, .int .i64 (-1)] 75); simpa using this, ha, hml⟩
    have BX := Lib.hid (show Below w.heap.size w X by rw [hX]; exact ((Below.refl _ _).alloc (Nat.le_refl _) _).alloc (by simp) _)
    have HF := Lib.hid (show X.heap[w.heap.size]? = some (.cells #[.int .i64 0, .int .i64 0] 34 (0, 0)) by rw [hX, Lib.alloc_old _ _ _ (by simp)]; exact heap_new _ _)
    have HQ := Lib.hid (quotedX_any (w.heap.size + 1) s a X RX hz)
    clear hX RX
    refine HQ.out.mono ?_
    intro e w1 h1
    unfold QuotedOut RxGo at h1
    cases hq : Sp.quoted (rst s a) with
    | bad m =>
      rw [hq] at h1
      obtain ⟨u, rfl, kk, ⟨t, rfl⟩, j, r⟩ := h1
      have HE := Lib.hid (readF_bad ha hq)
      have B1 := Lib.hid (BX.out.trans (kk.below.mono (by omega)))
      have d2 := r.c2
      have hF1 := (kk.below.block _ (show w.heap.size < w.heap.size + 1 by omega)).trans HF.out
      have e0 := (Lib.cell_of_heap hF1 0).trans (show _ = some (Value.int .i64 0) from rfl)
      have e1 := (Lib.cell_of_heap hF1 1).trans (show _ = some (Value.int .i64 0) from rfl)
      have q3 : (0 : Int) ≤ ((a + m : Nat) : Int) := by omega
      have g0 := Joins.unfrozen_of_block hF1 0
      have g1 := Joins.unfrozen_of_block hF1 1
      have hlt := lt_of_heap hF1
      generalize ((a + m : Nat) : Int) = xx at *
      clear hq r kk hF1
      go_wp2_with fail
      go_region
      go_wp2_with fail
      refine bodyPost_ret (v := .tuple #[.string ⟨#[]⟩, .int .i64 0, .agg #[.int .i64 40, .int .i64 xx]]) (by simp [results, Tryz.results17, go_sem, e0, e1]) rfl ?_
      rw [SpReadOut, HE.out]
      exact ⟨rfl, (B1.out.drew.setCell (p := ⟨w.heap.size, 0, none⟩) (Nat.le_refl w.heap.size) _).setCell (p := ⟨w.heap.size, 1, none⟩) (Nat.le_refl w.heap.size) _⟩
    | ok v n =>
      rw [hq] at h1
      obtain ⟨u, rfl, kk, rfl, r⟩ := h1
      have HE := Lib.hid (readF_ok ha hq)
      have B1 := Lib.hid (BX.out.trans (kk.below.mono (by omega)))
      obtain ⟨d0, d1, d2⟩ := r.at
      have hF1 := (kk.below.block _ (show w.heap.size < w.heap.size + 1 by omega)).trans HF.out
      have e0 := (Lib.cell_of_heap hF1 0).trans (show _ = some (Value.int .i64 0) from rfl)
      have e1 := (Lib.cell_of_heap hF1 1).trans (show _ = some (Value.int .i64 0) from rfl)
      have q3 : ¬ (0 : Int) ≤ -1 := by omega
      have g0 := Joins.unfrozen_of_block hF1 0
      have g1 := Joins.unfrozen_of_block hF1 1
      have hlt := lt_of_heap hF1
      generalize ((a + n : Nat) : Int) = xx at *
      clear hq r kk hF1
      go_wp2_with fail
      go_region
      go_wp2_with fail
      refine bodyPost_ret (v := .tuple #[.string (Sp.ba v), .int .i64 xx, .agg #[.int .i64 0, .int .i64 0]]) (by simp [results, Tryz.results17, go_sem, e0, e1]) rfl ?_
      rw [SpReadOut, HE.out]
      exact ⟨rfl, (B1.out.drew.setCell (p := ⟨w.heap.size, 0, none⟩) (Nat.le_refl w.heap.size) _).setCell (p := ⟨w.heap.size, 1, none⟩) (Nat.le_refl w.heap.size) _⟩
end Go.Proofs.YtacgkbdldbppjaaGreatDoor

/- The document's reader: number; which bytes may stand in a key. -/
namespace Go.Proofs.YtacgkbdldbppjaaGreatDoor
open Go.RowKit Ch

theorem rtake_snoc {s : ByteArray} {a k : Nat} (hak : a ≤ k) (hk : k < s.size) : (rst s a).take (k + 1 - a) = (rst s a).take (k - a) ++ [s[k]] := by
  have hl : k - a < (rst s a).length := by unfold rst; rw [List.length_drop]; have : s.data.toList.length = s.size := rfl; omega
  rw [show k + 1 - a = k - a + 1 by omega, List.take_succ_eq_append_getElem hl]
  congr 2
  have h2 := rst_drop s a (k - a)
  rw [show a + (k - a) = k by omega, rst_cons hk] at h2
  rw [List.drop_eq_getElem_cons hl] at h2
  simp only [List.cons.injEq] at h2
  exact h2.1
theorem rtake_len {s : ByteArray} {a k : Nat} (hk : k ≤ s.size) : ((rst s a).take (k - a)).length = k - a := by
  rw [List.length_take, rst_len]; omega
theorem rtake_head {s : ByteArray} {a k : Nat} (hak : a < k) (hk : k ≤ s.size) : ((rst s a).take (k - a)).head? = some (s[a]'(by omega)) := by
  rw [rst_cons (show a < s.size by omega), show k - a = (k - a - 1) + 1 by omega, List.take_succ_cons]; rfl
theorem num_big {s : ByteArray} {a k : Nat} (hak : a ≤ k) (h18 : 18 ≤ k - a) (hk : k < s.size) (hd : Sp.dig s[k] = true) (h : (rst s a).takeWhile Sp.dig = (rst s a).take (k - a) ++ (rst s k).takeWhile Sp.dig) : Sp.number (rst s a) = .bad 0 := by
  unfold Sp.number
  have h2 := tw_step hak hk hd h
  refine if_neg fun hn => ?_
  have h3 := hn.2.1
  rw [h2, List.length_append, rtake_len (show k + 1 ≤ s.size by omega)] at h3
  omega
theorem num_none {s : ByteArray} {a : Nat} (h : (rst s a).takeWhile Sp.dig = []) : Sp.number (rst s a) = .bad 0 := by
  unfold Sp.number; exact if_neg fun hn => hn.1 h
theorem num_zero {s : ByteArray} {a k : Nat} (hak : a + 1 < k) (hk : k ≤ s.size) (h0 : s[a]'(by omega) = 48) (h : (rst s a).takeWhile Sp.dig = (rst s a).take (k - a)) : Sp.number (rst s a) = .bad 0 := by
  unfold Sp.number
  refine if_neg fun hn => ?_
  have h1 := hn.2.2 (by rw [h, rtake_head (by omega) hk, h0])
  have h2 := congrArg List.length h1
  rw [h, rtake_len hk] at h2
  simp at h2; omega
theorem num_ok {s : ByteArray} {a k : Nat} (hak : a < k) (hk : k ≤ s.size) (h18 : k - a ≤ 18) (h0 : s[a]'(by omega) = 48 → k = a + 1) (h : (rst s a).takeWhile Sp.dig = (rst s a).take (k - a)) : Sp.number (rst s a) = .ok (Sp.val ((rst s a).take (k - a))) (k - a) := by
  unfold Sp.number
  rw [h, rtake_len hk]
  refine if_pos ⟨fun e => ?_, by rw [rtake_len hk]; exact h18, fun e => ?_⟩
  · have := congrArg List.length e
    rw [rtake_len hk] at this; simp at this; omega
  · rw [rtake_head hak hk] at e
    obtain rfl := h0 (Option.some.inj e)
    have h2 : a < s.size := by omega
    rw [rst_cons h2, show a + 1 - a = 1 by omega, Option.some.inj e]; rfl
theorem tw_end' {q : UInt8 → Bool} {s : ByteArray} {a k : Nat} (hq : ∀ h : k < s.size, q s[k] = false) (h : (rst s a).takeWhile q = (rst s a).take (k - a) ++ (rst s k).takeWhile q) : (rst s a).takeWhile q = (rst s a).take (k - a) := by
  have e : (rst s k).takeWhile q = [] := by
    rcases Nat.lt_or_ge k s.size with hlt | hge
    · rw [rst_cons hlt, List.takeWhile_cons, hq hlt]; rfl
    · rw [rst_nil hge]; rfl
  rw [h, e, List.append_nil]
theorem dig_take {s : ByteArray} {a k : Nat} (h : (rst s a).takeWhile Sp.dig = (rst s a).take (k - a) ++ (rst s k).takeWhile Sp.dig) : ∀ b ∈ (rst s a).take (k - a), Sp.dig b = true := fun b hb =>
  Sp.tw_mem (p := Sp.dig) (rst s a) b (by rw [h]; exact List.mem_append_left _ hb)

/-- A number below 10 ^ 17, and a digit. -/
theorem val_small {d : List UInt8} (hd : ∀ b ∈ d, Sp.dig b = true) (hl : d.length ≤ 17) : Sp.val d < 100000000000000000 := by
  have h1 := Sp.val_lt d hd
  have h2 : 10 ^ d.length ≤ 10 ^ 17 := Nat.pow_le_pow_right (by omega) hl
  have e : (10 : Nat) ^ 17 = 100000000000000000 := by decide
  omega

set_option maxRecDepth 100000 in
set_option maxHeartbeats 4000000 in
theorem rxNumber_any (b : Nat) (s : ByteArray) (k : Nat) (w : World) (h : RxAt w b s k (-1)) :
    Calls Tryz.prog 48 #[.pointer (some ⟨b, 0, none⟩)] w (RxGo b s k (Sp.number (rst s k)) (fun n _ u => u = .int .i64 (n : Int)) (fun _ u => u = .int .i64 0) w) := by
  have H := Lib.hid h
  obtain ⟨c0, c1, c2⟩ := h.at
  have h2 : s.size ≤ 9223372036854775807 := h.2.2
  have hks : k ≤ s.size := h.2.1
  obtain ⟨Y, hY⟩ : ∃ Y, Y = Sp.number (rst s k) := ⟨_, rfl⟩
  rw [← hY]
  have HY := Lib.hid hY
  clear h hY
  go_enter Tryz.func48, Tryz.ntmps48
  go_wp2_with fail
  go_loopg [4] (s.size + 1 - k) (fun gk v wr => ∃ j : Nat, gk = s.size + 1 - j ∧ RxAt wr b s j (-1) ∧ k ≤ j ∧ j - k ≤ 18 ∧ v = .int .i64 ((Sp.val ((rst s k).take (j - k)) : Nat) : Int) ∧ (rst s k).takeWhile Sp.dig = (rst s k).take (j - k) ++ (rst s j).takeWhile Sp.dig ∧ Keep b [QT] w wr)
  case atStart => exact ⟨k, rfl, H.out, Nat.le_refl _, by omega, by rw [Nat.sub_self]; rfl, by rw [Nat.sub_self]; rfl, Keep.refl _ _ _⟩
  case round =>
    obtain ⟨j, rfl, r, hkj, h18, rfl, htw, kk⟩ := hrel
    have R := Lib.hid r
    have KK := Lib.hid kk
    have TW := Lib.hid htw
    have hjs : j ≤ s.size := r.2.1
    obtain ⟨d0, d1, d2⟩ := r.at
    have d3 := r.free 1
    have HN0 := Lib.hid (next_any b s j (-1) wr r)
    rw [nxt_live] at HN0
    have HN := Lib.hid fun n => next_any b s j (-1) (wr.drewN n) (r.drewN n)
    rw [nxt_live] at HN
    have HB := Lib.hid fun n => bad_any b s j (-1) k (wr.drewN n) (r.drewN n)
    have hl := rtake_len (s := s) (a := k) hjs
    have HD := Lib.hid (dig_take htw)
    clear c0 c1 c2 r kk htw
    by_cases hdg : ∃ hlt : j < s.size, Sp.dig s[j] = true
    · obtain ⟨hlt, hd⟩ := hdg
      have hc := of_decide_eq_true (show decide _ = true from hd)
      have hsn := rtake_snoc hkj hlt
      have HS := Lib.hid (show Sp.val ((rst s k).take (j + 1 - k)) = Sp.val ((rst s k).take (j - k)) * 10 + (s[j].toNat - 48) by rw [hsn, Sp.val_snoc])
      have HT := Lib.hid (tw_step hkj hlt hd TW.out)
      have HBig := Lib.hid fun h => HY.out.trans (num_big hkj h hlt hd TW.out)
      rw [rst_cons hlt, List.headD_cons] at HN0 HN
      have HV := Lib.hid fun h => val_small HD.out (by rw [hl]; exact h)
      clear hd hsn
      generalize Sp.val ((rst s k).take (j - k)) = V at *
      generalize s[j] = c at *
      have q1 : (48 : Int) ≤ (c.toNat : Int) := by omega
      have q2 : (c.toNat : Int) ≤ 57 := by omega
      have hw0 := IntWalk.i64_in ((j : Int) - (k : Int)) (by omega)
      by_cases hge : 18 ≤ j - k
      · have q3 : (18 : Int) ≤ (j : Int) - (k : Int) := by omega
        have HE := Lib.hid (HBig.out hge)
        clear hc hge hl h18
        go_wp2_with fail
        refine HN0.out.mono ?_
        rintro e w2 ⟨rfl, n2, rfl⟩
        go_wp2_with fail
        refine (HN.out n2).mono ?_
        rintro e w3 ⟨rfl, n3, rfl⟩
        go_wp2_with fail
        refine (HB.out (n2 + n3)).mono ?_
        rintro e w3 ⟨rfl, r3, k3⟩
        rw [noted_live (by omega)] at r3
        have R3 := Lib.hid r3
        have K3 := Lib.hid k3
        clear r3 k3
        go_wp2_with fail
        go_ret
        show RxGo b s k Y _ _ w _ _
        unfold RxGo
        rw [HE.out]
        exact ⟨_, rfl, (keep_drewN KK.out (n2 + n3)).trans K3.out, rfl, j, R3.out⟩
      · have q3 : ¬ (18 : Int) ≤ (j : Int) - (k : Int) := by omega
        have hv := HV.out (by omega)
        have hw1 := IntWalk.i64_in ((V : Int) * 10) (by omega)
        have hw2 := IntWalk.i64_in ((V : Int) * 10 + (c.toNat : Int)) (by omega)
        have hw3 := IntWalk.i64_in ((V : Int) * 10 + (c.toNat : Int) - 48) (by omega)
        have hw4 := IntWalk.i64_in ((j : Int) + 1) (by omega)
        have HC := Lib.hid hc
        have HGE := Lib.hid hge
        clear hc hge hl h18 hv
        go_wp2_with fail
        refine HN0.out.mono ?_
        rintro e w2 ⟨rfl, n2, rfl⟩
        go_wp2_with fail
        refine (HN.out n2).mono ?_
        rintro e w3 ⟨rfl, n3, rfl⟩
        go_wp2_with fail
        refine (HN.out (n2 + n3)).mono ?_
        rintro e w4 ⟨rfl, n4, rfl⟩
        have f1' : ((wr.drewN (n2 + n3)).drewN n4).frozen? ⟨b, 1, none⟩ = false := d3
        have f1'' : (wr.drewN (n2 + n3 + n4)).frozen? ⟨b, 1, none⟩ = false := d3
        go_wp2_with fail
        go_roundg (s.size + 1 - (j + 1))
        case measure => omega
        case rel =>
          have hge := HGE.out
          have hc := HC.out
          have st := (R.out.drewN (n2 + n3 + n4)).step (j + 1) hlt
          refine ⟨j + 1, rfl, ?_, by omega, by omega, ?_, HT.out, ?_⟩
          · exact st.1
          · rw [HS.out]; congr 1; omega
          · exact (keep_drewN KK.out _).trans st.2
    · have hnd : ∀ h : j < s.size, Sp.dig s[j] = false := fun h => by
        cases hq : Sp.dig s[j] with
        | false => rfl
        | true => exact absurd ⟨h, hq⟩ hdg
      have hcc : Sp.dig ((rst s j).headD 0) = false := by
        rcases Nat.lt_or_ge j s.size with h | h
        · rw [rst_cons h]; exact hnd h
        · rw [rst_nil h]; decide
      have hc := of_decide_eq_false (show decide _ = false from hcc)
      have HTE := Lib.hid (tw_end' hnd TW.out)
      generalize (rst s j).headD 0 = c at *
      clear hdg hnd hcc TW
      rcases Nat.eq_or_lt_of_le hkj with rfl | hlt
      · have HE := Lib.hid (HY.out.trans (num_none (by rw [HTE.out, Nat.sub_self]; rfl)))
        have p1 : ((k : Int) == (k : Int)) = true := by simp
        by_cases q1 : (48 : Int) ≤ (c.toNat : Int)
        · have q2 : ¬ (c.toNat : Int) ≤ 57 := by omega
          clear hc
          go_wp2_with fail
          refine HN0.out.mono ?_
          rintro e w2 ⟨rfl, n2, rfl⟩
          go_wp2_with fail
          refine (HN.out n2).mono ?_
          rintro e w3 ⟨rfl, n3, rfl⟩
          go_wp2_with fail
          refine (HB.out (n2 + n3)).mono ?_
          rintro e w3 ⟨rfl, r3, k3⟩
          rw [noted_live (by omega)] at r3
          have R3 := Lib.hid r3
          have K3 := Lib.hid k3
          clear r3 k3
          go_wp2_with fail
          go_ret
          show RxGo b s k Y _ _ w _ _
          unfold RxGo
          rw [HE.out]
          exact ⟨_, rfl, (keep_drewN KK.out (n2 + n3)).trans K3.out, rfl, k, R3.out⟩
        · skip
          clear hc
          go_wp2_with fail
          refine HN0.out.mono ?_
          rintro e w2 ⟨rfl, n2, rfl⟩
          go_wp2_with fail
          refine (HB.out n2).mono ?_
          rintro e w3 ⟨rfl, r3, k3⟩
          rw [noted_live (by omega)] at r3
          have R3 := Lib.hid r3
          have K3 := Lib.hid k3
          clear r3 k3
          go_wp2_with fail
          go_ret
          show RxGo b s k Y _ _ w _ _
          unfold RxGo
          rw [HE.out]
          exact ⟨_, rfl, (keep_drewN KK.out _).trans K3.out, rfl, k, R3.out⟩
      · have p1 : ((j : Int) == (k : Int)) = false := by rw [beq_eq_false_iff_ne]; omega
        have hks' : k < s.size := by omega
        have hw5 := IntWalk.i64_in ((k : Int) + 1) (by omega)
        have hkI : (k : Int) < (s.size : Int) := by omega
        by_cases h0 : s[k] = 48
        · have p2 := b_is' (n := 48) rfl h0
          by_cases hk1 : k + 1 < j
          · have p3 : (k : Int) + 1 < (j : Int) := by omega
            have HE := Lib.hid (HY.out.trans (num_zero hk1 hjs h0 HTE.out))
            clear h0
            by_cases q1 : (48 : Int) ≤ (c.toNat : Int)
            · have q2 : ¬ (c.toNat : Int) ≤ 57 := by omega
              clear hc
              go_wp2_with fail
              refine HN0.out.mono ?_
              rintro e w2 ⟨rfl, n2, rfl⟩
              go_wp2_with fail
              refine (HN.out n2).mono ?_
              rintro e w3 ⟨rfl, n3, rfl⟩
              go_wp2_with fail
              refine (HB.out (n2 + n3)).mono ?_
              rintro e w3 ⟨rfl, r3, k3⟩
              rw [noted_live (by omega)] at r3
              have R3 := Lib.hid r3
              have K3 := Lib.hid k3
              clear r3 k3
              go_wp2_with fail
              go_ret
              show RxGo b s k Y _ _ w _ _
              unfold RxGo
              rw [HE.out]
              exact ⟨_, rfl, (keep_drewN KK.out (n2 + n3)).trans K3.out, rfl, j, R3.out⟩
            · skip
              clear hc
              go_wp2_with fail
              refine HN0.out.mono ?_
              rintro e w2 ⟨rfl, n2, rfl⟩
              go_wp2_with fail
              refine (HB.out n2).mono ?_
              rintro e w3 ⟨rfl, r3, k3⟩
              rw [noted_live (by omega)] at r3
              have R3 := Lib.hid r3
              have K3 := Lib.hid k3
              clear r3 k3
              go_wp2_with fail
              go_ret
              show RxGo b s k Y _ _ w _ _
              unfold RxGo
              rw [HE.out]
              exact ⟨_, rfl, (keep_drewN KK.out _).trans K3.out, rfl, j, R3.out⟩
          · have p3 : ¬ (k : Int) + 1 < (j : Int) := by omega
            have HE := Lib.hid (HY.out.trans (num_ok hlt hjs h18 (fun _ => by omega) HTE.out))
            clear h0
            generalize Sp.val ((rst s k).take (j - k)) = V at *
            by_cases q1 : (48 : Int) ≤ (c.toNat : Int)
            · have q2 : ¬ (c.toNat : Int) ≤ 57 := by omega
              clear hc
              go_wp2_with fail
              refine HN0.out.mono ?_
              rintro e w2 ⟨rfl, n2, rfl⟩
              go_wp2_with fail
              refine (HN.out n2).mono ?_
              rintro e w3 ⟨rfl, n3, rfl⟩
              go_wp2_with fail
              go_ret
              show RxGo b s k Y _ _ w _ _
              unfold RxGo
              rw [HE.out]
              exact ⟨_, rfl, keep_drewN KK.out (n2 + n3), rfl, by rw [show k + (j - k) = j by omega]; exact R.out⟩
            · skip
              clear hc
              go_wp2_with fail
              refine HN0.out.mono ?_
              rintro e w2 ⟨rfl, n2, rfl⟩
              go_wp2_with fail
              go_ret
              show RxGo b s k Y _ _ w _ _
              unfold RxGo
              rw [HE.out]
              exact ⟨_, rfl, keep_drewN KK.out _, rfl, by rw [show k + (j - k) = j by omega]; exact R.out⟩
        · have p2 := b_not' (n := 48) rfl h0
          have HE := Lib.hid (HY.out.trans (num_ok hlt hjs h18 (fun h => absurd h h0) HTE.out))
          clear h0
          generalize Sp.val ((rst s k).take (j - k)) = V at *
          by_cases q1 : (48 : Int) ≤ (c.toNat : Int)
          · have q2 : ¬ (c.toNat : Int) ≤ 57 := by omega
            clear hc
            go_wp2_with fail
            refine HN0.out.mono ?_
            rintro e w2 ⟨rfl, n2, rfl⟩
            go_wp2_with fail
            refine (HN.out n2).mono ?_
            rintro e w3 ⟨rfl, n3, rfl⟩
            go_wp2_with fail
            go_ret
            show RxGo b s k Y _ _ w _ _
            unfold RxGo
            rw [HE.out]
            exact ⟨_, rfl, keep_drewN KK.out (n2 + n3), rfl, by rw [show k + (j - k) = j by omega]; exact R.out⟩
          · skip
            clear hc
            go_wp2_with fail
            refine HN0.out.mono ?_
            rintro e w2 ⟨rfl, n2, rfl⟩
            go_wp2_with fail
            go_ret
            show RxGo b s k Y _ _ w _ _
            unfold RxGo
            rw [HE.out]
            exact ⟨_, rfl, keep_drewN KK.out _, rfl, by rw [show k + (j - k) = j by omega]; exact R.out⟩
end Go.Proofs.YtacgkbdldbppjaaGreatDoor

/- The document's reader: attributes. -/
namespace Go.Proofs.YtacgkbdldbppjaaGreatDoor
open Go.RowKit Ch

theorem refPlain_any (x : UInt8) (w : World) : Calls Tryz.prog 98 #[.int .u8 x.toNat] w fun e w' => e = .returned (.bool (Sp.kb x)) ∧ w' = w := by
  have hx := Sp.b_lt x
  obtain ⟨q, hq⟩ : ∃ q, q = Sp.kb x := ⟨_, rfl⟩
  rw [← hq]
  have Hq := Lib.hid hq
  clear hq
  go_enter Tryz.func98, Tryz.ntmps98
  go_wp2
  all_goals
    go_ret
    refine ⟨congrArg (fun b => Ending.returned (Value.bool b)) ?_, by trivial⟩
    rw [Hq.out]
    clear Hq
    unfold Sp.kb
    generalize x.toNat = n at *
    rw [Bool.eq_iff_iff]
    simp
    try omega
theorem plain0 : Sp.kb 0 = false := by decide

theorem mustA_any (b : Nat) (s : ByteArray) (k : Nat) (c : UInt8) (w : World) (h : RxAt w b s k (-1)) (hc : c ≠ 0) :
    Calls Tryz.prog 69 #[.pointer (some ⟨b, 0, none⟩), .int .u8 c.toNat] w fun e w' => e = .returned (.tuple #[]) ∧ Keep b [QT] w w' ∧
      ∃ J X, RxAt w' b s J X ∧ (((rst s k).head? = some c ∧ J = k + 1 ∧ X = -1) ∨ (¬ (rst s k).head? = some c ∧ X = (k : Int))) := by
  refine (mustX_any b s k c w h hc).mono ?_
  intro e w' h1
  unfold RxGo at h1
  by_cases hh : (rst s k).head? = some c
  · rw [Sp.must_yes hh] at h1
    obtain ⟨u, rfl, kk, rfl, r⟩ := h1
    exact ⟨rfl, kk, _, _, r, .inl ⟨hh, rfl, rfl⟩⟩
  · rw [Sp.must_no hh] at h1
    obtain ⟨u, rfl, kk, rfl, j, r⟩ := h1
    exact ⟨rfl, kk, _, _, r, .inr ⟨hh, by omega⟩⟩
theorem quotedA_any (b : Nat) (s : ByteArray) (k : Nat) (x : Int) (w : World) (h : RxAt w b s k x) (hx : x = -1 ∨ 0 ≤ x) (hz : s.size ≤ 1048576) :
    Calls Tryz.prog 44 #[.pointer (some ⟨b, 0, none⟩)] w fun e w' => ∃ t, e = .returned (.string t) ∧ Keep b [QT] w w' ∧
      ∃ J X, RxAt w' b s J X ∧ ((x = -1 ∧ X = -1 ∧ ∃ v n, Sp.quoted (rst s k) = .ok v n ∧ t = Sp.ba v ∧ J = k + n) ∨ (x = -1 ∧ ∃ m, Sp.quoted (rst s k) = .bad m ∧ X = ((k + m : Nat) : Int)) ∨ (0 ≤ x ∧ X = x)) := by
  rcases hx with rfl | hx
  · refine (quotedX_any b s k w h hz).mono ?_
    intro e w' h1
    unfold QuotedOut RxGo at h1
    cases hq : Sp.quoted (rst s k) with
    | ok v n =>
      rw [hq] at h1
      obtain ⟨u, rfl, kk, rfl, r⟩ := h1
      exact ⟨_, rfl, kk, _, _, r, .inl ⟨rfl, rfl, v, n, rfl, rfl, rfl⟩⟩
    | bad m =>
      rw [hq] at h1
      obtain ⟨u, rfl, kk, ⟨t, rfl⟩, j, r⟩ := h1
      exact ⟨_, rfl, kk, _, _, r, .inr (.inl ⟨rfl, m, rfl, rfl⟩)⟩
  · refine (quotedD_any b s k x w h hx).mono ?_
    rintro e w' ⟨u, rfl, kk, ⟨t, rfl⟩, j, r⟩
    exact ⟨_, rfl, kk, _, _, r, .inr (.inr ⟨hx, rfl⟩)⟩

/-- What the document's attrs answers. -/
def RxAttrs (b : Nat) (s : ByteArray) (k : Nat) (w : World) : Ending → World → Prop :=
  RxGo b s k (Sp.opt (rst s k)) (valAs w.heap.size) (fun _ u => u = .slice none 0 0) w
theorem rxattrs_dead (b : Nat) (s : ByteArray) (k : Nat) (x : Int) (w : World) (h : RxAt w b s k x) (hx : 0 ≤ x) :
    Calls Tryz.prog 78 #[.pointer (some ⟨b, 0, none⟩)] w (RxDead b s x (fun _ u => u = .slice none 0 0) w) := by
  have HN := Lib.hid fun n => next_any b s k x (w.drewN n) (h.drewN n)
  rw [nxt_dead hx] at HN
  have H := Lib.hid h
  clear h
  go_enter Tryz.func78, Tryz.ntmps78
  go_wp2_with fail
  refine (HN.out 0).mono ?_
  rintro e w1 ⟨rfl, n, rfl⟩
  go_wp2_with fail
  go_ret
  exact ⟨_, rfl, keep_drewN (Keep.refl _ _ _) n, rfl, k, H.out.drewN n⟩
theorem rxattrs_none (b : Nat) (s : ByteArray) (k : Nat) (w : World) (h : RxAt w b s k (-1)) (hd : ¬ (rst s k).head? = some 123) :
    Calls Tryz.prog 78 #[.pointer (some ⟨b, 0, none⟩)] w (RxAttrs b s k w) := by
  have HN := Lib.hid (next_any b s k (-1) w h)
  rw [nxt_live] at HN
  have hne : (rst s k).headD 0 ≠ 123 := fun e => by
    cases hr : rst s k with
    | nil => rw [hr] at e; exact absurd e (by decide)
    | cons y t => rw [hr] at e hd; exact hd (congrArg some e)
  have hq := b_not' (n := 123) rfl hne
  have H := Lib.hid h
  have HE := Lib.hid (show Sp.opt (rst s k) = .ok [] 0 from if_neg hd)
  generalize (rst s k).headD 0 = c at *
  clear h hd hne
  go_enter Tryz.func78, Tryz.ntmps78
  go_wp2_with fail
  refine HN.out.mono ?_
  rintro e w1 ⟨rfl, n, rfl⟩
  go_wp2_with fail
  go_ret
  show RxAttrs b s k w _ _
  unfold RxAttrs RxGo
  rw [HE.out]
  exact ⟨_, rfl, keep_drewN (Keep.refl _ _ _) n, own_nil _ _, H.out.drewN n⟩

theorem attr_sum {s : ByteArray} {j J1 J2 : Nat} {d : List UInt8} {t : ByteArray} {X1 X2 : Int} (hd : (rst s j).takeWhile Sp.kb = d) (hne : d ≠ [])
    (h1 : ((rst s (j + d.length)).head? = some 58 ∧ J1 = j + d.length + 1 ∧ X1 = -1) ∨ (¬ (rst s (j + d.length)).head? = some 58 ∧ X1 = ((j + d.length : Nat) : Int)))
    (h2 : (X1 = -1 ∧ X2 = -1 ∧ ∃ v n, Sp.quoted (rst s J1) = .ok v n ∧ t = Sp.ba v ∧ J2 = J1 + n) ∨ (X1 = -1 ∧ ∃ m, Sp.quoted (rst s J1) = .bad m ∧ X2 = ((J1 + m : Nat) : Int)) ∨ (0 ≤ X1 ∧ X2 = X1)) :
    (X2 = -1 ∧ ∃ n, Sp.attr (rst s j) = .ok (Sp.ba d, t) n ∧ J2 = j + n ∧ 1 ≤ n) ∨ ∃ m : Nat, Sp.attr (rst s j) = .bad m ∧ X2 = ((j + m : Nat) : Int) := by
  have hne' : (rst s j).takeWhile Sp.kb ≠ [] := by rw [hd]; exact hne
  rcases h1 with ⟨hh, rfl, rfl⟩ | ⟨hh, rfl⟩
  · have hh' : ((rst s j).drop ((rst s j).takeWhile Sp.kb).length).head? = some 58 := by rw [hd, rst_drop]; exact hh
    have e3 : (rst s j).drop (((rst s j).takeWhile Sp.kb).length + 1) = rst s (j + d.length + 1) := by rw [hd, rst_drop]; rfl
    rcases h2 with ⟨_, rfl, v, n, hq, rfl, rfl⟩ | ⟨_, m, hq, rfl⟩ | ⟨h, _⟩
    · refine .inl ⟨rfl, d.length + (1 + n), ?_, by omega, by omega⟩
      rw [Sp.attr_ok hne' hh' (by rw [e3]; exact hq), hd]
    · refine .inr ⟨d.length + (1 + m), ?_, by omega⟩
      rw [Sp.attr_bad2 hne' hh' (by rw [e3]; exact hq), hd]
    · omega
  · have hh' : ¬ ((rst s j).drop ((rst s j).takeWhile Sp.kb).length).head? = some 58 := by rw [hd, rst_drop]; exact hh
    refine .inr ⟨d.length, ?_, ?_⟩
    · rw [Sp.attr_bad1 hne' hh', hd]
    · rcases h2 with ⟨h, _⟩ | ⟨h, _⟩ | ⟨_, rfl⟩
      · omega
      · omega
      · rfl

end Go.Proofs.YtacgkbdldbppjaaGreatDoor

/- The document's reader: attributes, where some stand. -/
namespace Go.Proofs.YtacgkbdldbppjaaGreatDoor
open Go.RowKit Ch

set_option maxRecDepth 100000 in
set_option maxHeartbeats 8000000 in
theorem rxattrs_live (b : Nat) (s : ByteArray) (k : Nat) (w : World) (h : RxAt w b s k (-1)) (hd : (rst s k).head? = some 123) (hz : s.size ≤ 1048576) (hbw : b < w.heap.size) :
    Calls Tryz.prog 78 #[.pointer (some ⟨b, 0, none⟩)] w (RxAttrs b s k w) := by
  have HN := Lib.hid (next_any b s k (-1) w h)
  rw [nxt_live] at HN
  have hlt := head_lt hd
  have hd0 : (rst s k).headD 0 = 123 := by
    cases hr : rst s k with
    | nil => rw [hr] at hd; cases hd
    | cons y t => rw [hr] at hd; exact Option.some.inj hd
  rw [hd0] at HN
  have H := Lib.hid h
  obtain ⟨c0, c1, c2⟩ := h.at
  have c3 := h.free 1
  have hw1 := IntWalk.i64_in ((k : Int) + 1) (by omega)
  have HA := Lib.hid (show Sp.opt (rst s k) = Sp.attrs (rst s k) from if_pos hd)
  have e1 := fun m (h2 : Sp.attr (rst s (k + 1)) = .bad m) => Sp.attrs_bad1 (l := rst s k) hd (by rw [rst_drop]; exact h2)
  have e2 := fun x n (h2 : Sp.attr (rst s (k + 1)) = .ok x n) => Sp.attrs_go (l := rst s k) hd (by rw [rst_drop]; exact h2)
  simp only [rst_drop, rst_len] at e2
  have E1 := Lib.hid e1
  have E2 := Lib.hid e2
  unfold RxAttrs
  rw [HA.out]
  clear h hd e1 e2 hd0 HA
  generalize Sp.attrs (rst s k) = Y at *
  go_enter Tryz.func78, Tryz.ntmps78
  go_wp2_with fail
  refine HN.out.mono ?_
  rintro e w1 ⟨rfl, n1, rfl⟩
  have hst := (H.out.drewN n1).step (k + 1) hlt
  have HST := Lib.hid hst
  have f1' : (w.drewN n1).frozen? ⟨b, 1, none⟩ = false := (H.out.drewN n1).free 1
  have c0' : (w.drewN n1).cell? ⟨b, 0, none⟩ = some (.string s) := c0
  clear hst
  go_wp2_with fail
  go_loopg [3, 4, 5, 6] (s.size + 1 - k) (fun gk v fr ky vl wr => (∃ (j : Nat) (l : List Sp.A), s.size + 2 ≤ gk + j ∧ RxAt wr b s j (-1) ∧ k + 1 ≤ j ∧ l.length ≤ j ∧ Hid (∀ m, Sp.attr (rst s j) = .bad m → Y = .bad (j - k + m)) ∧ Hid (∀ x n, Sp.attr (rst s j) = .ok x n → ∃ f, s.size - (j + n) < f ∧ Y = Sp.prl (l ++ [x]) (j - k + n) (Sp.more f (rst s (j + n)))) ∧ Keep b [QT] w wr ∧ wr.ownsRow w.heap.size 52 2 v l.length (flat l)) ∨
    (∃ m j : Nat, Y = .bad m ∧ RxAt wr b s j ((k + m : Nat) : Int) ∧ Keep b [QT] w wr))
  case atStart =>
    refine .inl ⟨k + 1, [], by omega, ?_, Nat.le_refl _, Nat.zero_le _, fun m h2 => ?_, fun x n h2 => ⟨s.size - (k + (1 + n)) + 1, by omega, ?_⟩, ?_, own_nil _ _⟩
    · exact HST.out.1
    · rw [E1.out m h2, show k + 1 - k + m = 1 + m by omega]
    · rw [E2.out x n h2, show k + 1 - k + n = 1 + n by omega, show k + 1 + n = k + (1 + n) by omega]; rfl
    · exact (keep_drewN (Keep.refl _ _ _) n1).trans HST.out.2
  case round =>
    rcases hrel with ⟨j, l, hgk, r, hkj, hlj, HE1, HE2, kk, hown⟩ | ⟨m, j, hbm, r, kk⟩
    · have R := Lib.hid r
      have KK := Lib.hid kk
      have HO := Lib.hid hown
      have hjs := r.2.1
      obtain ⟨d0, d1, d2⟩ := r.at
      have hsw := kk.below.size
      obtain ⟨oa, oc, rfl⟩ := own_slice hown
      have qm : (-1 : Int) < 0 := by omega
      clear r kk hown c0 c0' c1 c2 c3 f1'
      obtain ⟨W0, rfl⟩ : ∃ W0, W0 = wr := ⟨_, rfl⟩
      obtain ⟨g0, rfl⟩ : ∃ g0, g0 = gk := ⟨_, rfl⟩
      go_wp2_with fail
      go_loopg [] (s.size - j) (fun gk wi => ∃ i : Nat, gk = s.size - i ∧ RxAt wi b s i (-1) ∧ j ≤ i ∧ (rst s j).takeWhile Sp.kb = (rst s j).take (i - j) ++ (rst s i).takeWhile Sp.kb ∧ Keep b [QT] W0 wi)
      case atStart => exact ⟨j, rfl, R.out, Nat.le_refl _, by rw [Nat.sub_self]; rfl, Keep.refl _ _ _⟩
      case round =>
        obtain ⟨i, rfl, ri, hji, htw, ki⟩ := hrel
        have RI := Lib.hid ri
        have KI := Lib.hid ki
        have TW := Lib.hid htw
        have his := ri.2.1
        obtain ⟨d0, d1, d2⟩ := ri.at
        have d3 := ri.free 1
        have HN := Lib.hid (next_any b s i (-1) wr ri)
        rw [nxt_live] at HN
        clear ri ki htw
        by_cases hkb : ∃ hlt : i < s.size, Sp.kb s[i] = true
        · obtain ⟨hlt, hk⟩ := hkb
          rw [rst_cons hlt, List.headD_cons] at HN
          have HP := Lib.hid fun w => refPlain_any s[i] w
          rw [hk] at HP
          have HT := Lib.hid (tw_step hji hlt hk TW.out)
          have hw2 := IntWalk.i64_in ((i : Int) + 1) (by omega)
          clear hk
          go_wp2_with fail
          refine HN.out.mono ?_
          rintro e w2 ⟨rfl, n2, rfl⟩
          go_wp2_with fail
          refine (HP.out _).mono ?_
          rintro e w3 ⟨rfl, rfl⟩
          have f1' : (wr.drewN n2).frozen? ⟨b, 1, none⟩ = false := (RI.out.drewN n2).free 1
          have HST2 := Lib.hid ((RI.out.drewN n2).step (i + 1) hlt)
          go_wp2_with fail
          go_roundg (s.size - (i + 1))
          case measure => omega
          case rel => exact ⟨i + 1, rfl, HST2.out.1, by omega, HT.out, KI.out.trans ((keep_drewN (Keep.refl _ _ _) n2).trans HST2.out.2)⟩
        · have hnd : ∀ h : i < s.size, Sp.kb s[i] = false := fun h => by
            cases hq : Sp.kb s[i] with
            | false => rfl
            | true => exact absurd ⟨h, hq⟩ hkb
          have hcc : Sp.kb ((rst s i).headD 0) = false := by
            rcases Nat.lt_or_ge i s.size with h | h
            · rw [rst_cons h]; exact hnd h
            · rw [rst_nil h]; decide
          have HP := Lib.hid fun w => refPlain_any ((rst s i).headD 0) w
          rw [hcc] at HP
          have HTE := Lib.hid (tw_end' hnd TW.out)
          have HDL := Lib.hid (rtake_len (s := s) (a := j) his)
          have HEX := Lib.hid (tw_end hji his hnd TW.out)
          clear hkb hnd hcc TW
          generalize (rst s i).headD 0 = c at *
          rcases Nat.eq_or_lt_of_le hji with rfl | hlt
          · have p1 : ((j : Int) == (j : Int)) = true := by simp
            have HB := Lib.hid fun n => bad_any b s j (-1) j (wr.drewN n) (RI.out.drewN n)
            have HE := Lib.hid (HE1.out 0 (Sp.attr_bad0 (by rw [HTE.out, Nat.sub_self]; rfl)))
            go_wp2_with fail
            refine HN.out.mono ?_
            rintro e w2 ⟨rfl, n2, rfl⟩
            go_wp2_with fail
            refine (HP.out _).mono ?_
            rintro e w3 ⟨rfl, rfl⟩
            go_wp2_with fail
            refine (HB.out n2).mono ?_
            rintro e w3 ⟨rfl, r3, k3⟩
            rw [noted_live (by omega)] at r3
            have R3 := Lib.hid r3
            have K3 := Lib.hid k3
            clear r3 k3
            go_wp2_with fail
            go_ret
            show RxGo b s k Y _ _ w _ _
            unfold RxGo
            rw [HE.out]
            exact ⟨_, rfl, KK.out.trans (KI.out.trans ((keep_drewN (Keep.refl _ _ _) n2).trans K3.out)), rfl, j, by rw [show k + (j - k + 0) = j by omega]; exact R3.out⟩
          · have p1 : ((i : Int) == (j : Int)) = false := by rw [beq_eq_false_iff_ne]; omega
            have hlI : (j : Int) ≤ (i : Int) := by omega
            have hiI : (i : Int) ≤ (s.size : Int) := by omega
            have HM := Lib.hid fun n => mustA_any b s i 58 (wr.drewN n) (RI.out.drewN n) (by decide)
            go_wp2_with fail
            refine HN.out.mono ?_
            rintro e w2 ⟨rfl, n2, rfl⟩
            go_wp2_with fail
            refine (HP.out _).mono ?_
            rintro e w3 ⟨rfl, rfl⟩
            go_wp2_with fail
            go_quiet (fail)
            go_wp2_with fail
            refine (HM.out _).mono ?_
            rintro e w4 ⟨rfl, k4, J1, X1, r4, h4⟩
            have R4 := Lib.hid r4
            have K4 := Lib.hid ((keep_drewN (Keep.refl b [QT] wr) _).trans k4)
            have H4 := Lib.hid h4
            have HQ := Lib.hid (quotedA_any b s J1 X1 w4 r4 (by rcases h4 with ⟨_, _, h⟩ | ⟨_, h⟩ <;> omega) hz)
            clear r4 k4 h4
            go_wp2_with fail
            refine HQ.out.mono ?_
            rintro e w5 ⟨t, rfl, k5, J2, X2, r5, h5⟩
            have HS := Lib.hid (attr_sum (t := t) (J2 := J2) (X2 := X2) (j := j) (J1 := J1) (X1 := X1) HTE.out (by intro e; have := congrArg List.length e; rw [HDL.out] at this; simp at this; omega)
              (by rw [HDL.out, show j + (i - j) = i by omega]; exact H4.out) h5)
            have R5 := Lib.hid r5
            have K5 := Lib.hid (KI.out.trans (K4.out.trans k5))
            clear r5 k5 h5
            have O5 := K5.out.own HO.out (by decide)
            have hbw5 : w.heap.size ≤ w5.heap.size := Nat.le_trans hsw K5.out.below.size
            have HKx := Lib.hid (show Sp.ba ((rst s j).take (i - j)) = s.extract j i from ba_eq (by rw [Sp.data_ba, ← HTE.out, HEX.out.1]))
            have hL : l.length + 1 ≤ 1048576 := by have := R5.out.2.1; omega
            go_wp2_with (at_builtin; refine append_attr rfl (.tmp 59) (.tmp 63) rfl w.heap.size (.slice oa l.length oc) l.length (flat l) (s.extract j i, t) rfl rfl O5 (l.length + 1) (flat (l ++ [(s.extract j i, t)])) rfl (flat_snoc l _).symm hL hbw5 ?_; intro u6 w6 o6 g6; have B6 := Lib.hid (((below_box w5 _).mono hbw5).trans ((Below.refl w.heap.size _).grown g6 (by simp; omega) (fun j hj => own_ge O5 j hj))); have Hown6 := Lib.hid o6; clear o6 g6)
            have R6 := Lib.hid (show RxAt w6 b s J2 X2 from ⟨(B6.out.block _ hbw).trans R5.out.1, R5.out.2⟩)
            have K6 := Lib.hid ((KK.out.trans K5.out).later B6.out (Nat.le_of_lt hbw) (Nat.le_refl _))
            have HN6 := Lib.hid (next_any b s J2 X2 w6 R6.out)
            clear O5
            rcases HS.out with ⟨hX2, n, hat, hJ2, hn1⟩ | ⟨m, hat, hX2⟩
            · obtain ⟨f, hf, hY⟩ := HE2.out _ _ hat
              rw [HKx.out, ← hJ2] at hY
              have hJs : J2 ≤ s.size := R6.out.2.1
              subst hX2
              rw [nxt_live] at HN6
              obtain ⟨e0, e1, e2⟩ := R6.out.at
              cases f with
              | zero => omega
              | succ f =>
              by_cases h125 : (rst s J2).head? = some 125
              · have hc : (rst s J2).headD 0 = 125 := by
                  cases hr : rst s J2 with
                  | nil => rw [hr] at h125; cases h125
                  | cons y t => rw [hr] at h125; exact Option.some.inj h125
                rw [hc] at HN6
                have hJl := head_lt h125
                have h44 : ¬ (rst s J2).head? = some 44 := by rw [h125]; decide
                have HE := Lib.hid (hY.trans (by rw [Sp.more_end f h44 h125]))
                have HST2 := Lib.hid fun n => (R6.out.drewN n).step (J2 + 1) hJl
                have hw3 := IntWalk.i64_in ((J2 : Int) + 1) (by omega)
                have HJ2 := Lib.hid hJ2
                clear hc h125 h44 hY hat hJ2
                go_wp2_with fail
                refine HN6.out.mono ?_
                rintro e w7 ⟨rfl, n7, rfl⟩
                have f1' : (w6.drewN n7).frozen? ⟨b, 1, none⟩ = false := (R6.out.drewN n7).free 1
                go_wp2_with fail
                go_ret
                show RxGo b s k Y _ _ w _ _
                unfold RxGo
                rw [HE.out]
                refine ⟨_, rfl, (keep_drewN K6.out n7).trans (HST2.out n7).2, ?_, ?_⟩
                · have := (HST2.out n7).2.own (show (w6.drewN n7).ownsRow w.heap.size 52 2 u6 (l.length + 1) (flat (l ++ [(s.extract j i, t)])) from Hown6.out) (by decide)
                  simpa [valAs] using this
                · have hJ2 := HJ2.out
                  rw [show k + (j - k + n + 1) = J2 + 1 by omega]; exact (HST2.out n7).1
              · have hne : (rst s J2).headD 0 ≠ 125 := fun e => by
                  cases hr : rst s J2 with
                  | nil => rw [hr] at e; exact absurd e (by decide)
                  | cons y t => rw [hr] at e h125; exact h125 (congrArg some e)
                have p9 := b_not' (n := 125) rfl hne
                generalize (rst s J2).headD 0 = c9 at *
                have HM2 := Lib.hid fun n => mustA_any b s J2 44 (w6.drewN n) (R6.out.drewN n) (by decide)
                have HYY := Lib.hid hY
                have HJ2 := Lib.hid hJ2
                clear hne hY hat hJ2
                go_wp2_with fail
                refine HN6.out.mono ?_
                rintro e w7 ⟨rfl, n7, rfl⟩
                go_wp2_with fail
                refine (HM2.out n7).mono ?_
                rintro e w8 ⟨rfl, k8, J8, X8, r8, h8⟩
                have R8 := Lib.hid r8
                have K8 := Lib.hid ((keep_drewN K6.out n7).trans k8)
                have H8 := Lib.hid h8
                have O8 := Lib.hid (k8.own (show (w6.drewN n7).ownsRow w.heap.size 52 2 u6 (l.length + 1) (flat (l ++ [(s.extract j i, t)])) from Hown6.out) (by decide))
                clear r8 k8 h8
                go_wp2_with fail
                go_roundg (g0 - 1)
                case measure => omega
                case rel =>
                  have hJ2 := HJ2.out
                  rcases H8.out with ⟨h44, rfl, rfl⟩ | ⟨h44, rfl⟩
                  · refine .inl ⟨J2 + 1, l ++ [(s.extract j i, t)], by omega, R8.out, by omega, by simp; omega, fun m h2 => ?_, fun x n' h2 => ⟨f, ?_, ?_⟩, K8.out, by simpa using O8.out⟩
                    · rw [HYY.out, Sp.more_bad1 f h44 (by rw [rst_drop]; exact h2)]
                      simp only [Sp.prl]; congr 1; omega
                    · have := head_lt h44
                      omega
                    · rw [HYY.out, Sp.more_go f h44 (by rw [rst_drop]; exact h2), Sp.prl_prl, rst_drop, show j - k + n + (1 + n') = J2 + 1 - k + n' by omega, show J2 + (1 + n') = J2 + 1 + n' by omega]
                  · refine .inr ⟨j - k + n, J8, ?_, by rw [show k + (j - k + n) = J2 by omega]; exact R8.out, K8.out⟩
                    rw [HYY.out, Sp.more_bad0 f h44 h125]
                    simp only [Sp.prl]; rfl
            · have HE := Lib.hid (HE1.out _ hat)
              have hX0 : 0 ≤ X2 := by omega
              rw [nxt_dead hX0] at HN6
              have HM2 := Lib.hid fun n => mustD_any b s J2 X2 44 (w6.drewN n) (R6.out.drewN n) hX0 (by decide)
              have HX2 := Lib.hid hX2
              clear hat hX2
              go_wp2_with fail
              refine HN6.out.mono ?_
              rintro e w7 ⟨rfl, n7, rfl⟩
              go_wp2_with fail
              refine (HM2.out n7).mono ?_
              rintro e w8 ⟨u8, rfl, k8, rfl, J8, r8⟩
              have R8 := Lib.hid r8
              have K8 := Lib.hid ((keep_drewN K6.out n7).trans k8)
              clear r8 k8
              go_wp2_with fail
              go_roundg (g0 - 1)
              case measure => omega
              case rel => exact .inr ⟨j - k + m, J8, HE.out, by rw [show k + (j - k + m) = j + m by omega, ← HX2.out]; exact R8.out, K8.out⟩
    · have R := Lib.hid r
      have KK := Lib.hid kk
      have HBm := Lib.hid hbm
      obtain ⟨d0, d1, d2⟩ := r.at
      have q0 : ¬ ((k + m : Nat) : Int) < 0 := by omega
      clear r kk hbm
      go_wp2_with fail
      go_ret
      show RxGo b s k Y _ _ w _ _
      unfold RxGo
      rw [HBm.out]
      exact ⟨_, rfl, KK.out, rfl, j, R.out⟩

theorem rxAttrs_any (b : Nat) (s : ByteArray) (k : Nat) (w : World) (h : RxAt w b s k (-1)) (hz : s.size ≤ 1048576) :
    Calls Tryz.prog 78 #[.pointer (some ⟨b, 0, none⟩)] w (RxAttrs b s k w) := by
  by_cases hd : (rst s k).head? = some 123
  · exact rxattrs_live b s k w h hd hz (lt_of_heap h.1)
  · exact rxattrs_none b s k w h hd
end Go.Proofs.YtacgkbdldbppjaaGreatDoor

/- The document's reader: an operation. -/
namespace Go.Proofs.YtacgkbdldbppjaaGreatDoor
open Go.RowKit Ch

namespace Sp
theorem opt2_bad {α : Type} {p : List UInt8 → R α} {f : α → List A → OpD} {l : List UInt8} {v : α} {n k : Nat} (h : p l = .ok v n) (h2 : opt (l.drop n) = .bad k) : (bnd p (fun x => bnd opt fun a => ret (f x a)) l).shift 1 = .bad (1 + (n + k)) := by
  rw [bnd_ok h, bnd_bad h2]; rfl
theorem opt2_ok {α : Type} {p : List UInt8 → R α} {f : α → List A → OpD} {l : List UInt8} {v : α} {m : List A} {n j : Nat} (h : p l = .ok v n) (h2 : opt (l.drop n) = .ok m j) : (bnd p (fun x => bnd opt fun a => ret (f x a)) l).shift 1 = .ok (f v m) (1 + (n + j)) := by
  rw [bnd_ok h, bnd_ok h2]; rfl
end Sp

theorem head_go {s : ByteArray} {k : Nat} {c : UInt8} (h : (rst s k).headD 0 = c) (hc : c ≠ 0) : k < s.size ∧ rst s k = c :: rst s (k + 1) := by
  rcases Nat.lt_or_ge k s.size with hlt | hge
  · rw [rst_cons hlt, List.headD_cons] at h
    exact ⟨hlt, by rw [rst_cons hlt, h]⟩
  · rw [rst_nil hge] at h; exact absurd h.symm hc
theorem op_bad0 {l : List UInt8} (h1 : l.headD 0 ≠ 61) (h2 : l.headD 0 ≠ 45) (h3 : l.headD 0 ≠ 43) : Sp.op l = .bad 0 := by
  cases l with
  | nil => rfl
  | cons x t => exact Sp.op_else h2 h1 h3

theorem numberA_any (b : Nat) (s : ByteArray) (k : Nat) (w : World) (h : RxAt w b s k (-1)) :
    Calls Tryz.prog 48 #[.pointer (some ⟨b, 0, none⟩)] w fun e w' => ∃ n : Nat, e = .returned (.int .i64 (n : Int)) ∧ Keep b [QT] w w' ∧
      ∃ J X, RxAt w' b s J X ∧ ((X = -1 ∧ ∃ i, Sp.number (rst s k) = .ok n i ∧ J = k + i) ∨ ∃ m : Nat, Sp.number (rst s k) = .bad m ∧ X = ((k + m : Nat) : Int)) := by
  refine (rxNumber_any b s k w h).mono ?_
  intro e w' h1
  unfold RxGo at h1
  cases hq : Sp.number (rst s k) with
  | ok n i =>
    rw [hq] at h1
    obtain ⟨u, rfl, kk, rfl, r⟩ := h1
    exact ⟨n, rfl, kk, _, _, r, .inl ⟨rfl, i, rfl, rfl⟩⟩
  | bad m =>
    rw [hq] at h1
    obtain ⟨u, rfl, kk, rfl, j, r⟩ := h1
    exact ⟨0, rfl, kk, _, _, r, .inr ⟨m, rfl, rfl⟩⟩
theorem attrsA_any (b : Nat) (s : ByteArray) (k : Nat) (x : Int) (w : World) (h : RxAt w b s k x) (hx : x = -1 ∨ 0 ≤ x) (hz : s.size ≤ 1048576) :
    Calls Tryz.prog 78 #[.pointer (some ⟨b, 0, none⟩)] w fun e w' => ∃ (l : List Sp.A) (v : Value), e = .returned v ∧ w'.ownsRow w.heap.size 52 2 v l.length (flat l) ∧ Keep b [QT] w w' ∧
      ∃ J X, RxAt w' b s J X ∧ ((x = -1 ∧ X = -1 ∧ ∃ n, Sp.opt (rst s k) = .ok l n ∧ J = k + n) ∨ (x = -1 ∧ ∃ m : Nat, Sp.opt (rst s k) = .bad m ∧ X = ((k + m : Nat) : Int)) ∨ (0 ≤ x ∧ X = x)) := by
  rcases hx with rfl | hx
  · refine (rxAttrs_any b s k w h hz).mono ?_
    intro e w' h1
    unfold RxAttrs RxGo at h1
    cases hq : Sp.opt (rst s k) with
    | ok l n =>
      rw [hq] at h1
      obtain ⟨u, rfl, kk, hu, r⟩ := h1
      exact ⟨l, u, rfl, hu, kk, _, _, r, .inl ⟨rfl, rfl, n, rfl, rfl⟩⟩
    | bad m =>
      rw [hq] at h1
      obtain ⟨u, rfl, kk, rfl, j, r⟩ := h1
      exact ⟨[], _, rfl, own_nil _ _, kk, _, _, r, .inr (.inl ⟨rfl, m, rfl, rfl⟩)⟩
  · refine (rxattrs_dead b s k x w h hx).mono ?_
    rintro e w' ⟨u, rfl, kk, rfl, j, r⟩
    exact ⟨[], _, rfl, own_nil _ _, kk, _, _, r, .inr (.inr ⟨hx, rfl⟩)⟩

/-- What the document's op answers. -/
def RxOp (b : Nat) (s : ByteArray) (k : Nat) (w : World) (e : Ending) (w' : World) : Prop :=
  ∃ (u : Value) (o : OpD) (J : Nat) (X : Int), e = .returned u ∧ valO w.heap.size o w' u ∧ Keep b [QT] w w' ∧ RxAt w' b s J X ∧
    ((X = -1 ∧ (rst s k).head? = some 32 ∧ ∃ n, Sp.op (rst s (k + 1)) = .ok o n ∧ J = k + 1 + n) ∨ ((rst s k).head? = some 32 ∧ ∃ m : Nat, Sp.op (rst s (k + 1)) = .bad m ∧ X = ((k + 1 + m : Nat) : Int)) ∨ (¬ (rst s k).head? = some 32 ∧ X = (k : Int)))


/-- The world where an operation's kind is known. -/
theorem op_world {w V : World} {b g r k : Nat} {s : ByteArray} (RV : RxAt V b s (k + 1) (-1)) (HO : V.heap[g]? = some zeroO) (HR : V.heap[r]? = some zeroO) (KV : Keep b [QT] w V) (hlt : k + 1 < s.size) (hbw : b < w.heap.size) (hg : w.heap.size ≤ g) (hr : w.heap.size ≤ r) (hgr : r ≠ g) (kd : Value) (Y : World)
    (hY : Y = ((put4 V g (.int .i64 0) (.int .i64 0) (.string ⟨#[]⟩) (.slice none 0 0)).setCell ⟨b, 1, none⟩ (.int .i64 ((k : Int) + 1 + 1))).setCell ⟨g, 0, none⟩ kd) :
    RxAt Y b s (k + 1 + 1) (-1) ∧ Y.heap[g]? = some (.cells #[kd, .int .i64 0, .string ⟨#[]⟩, .slice none 0 0] 48 (0, 0)) ∧ Y.heap[r]? = some zeroO ∧ Keep b [QT] w Y := by
  have h1 := put4_heap HO (.int .i64 0) (.int .i64 0) (.string ⟨#[]⟩) (.slice none 0 0)
  have k1 := put4_keep (b := w.heap.size) HO hg (.int .i64 0) (.int .i64 0) (.string ⟨#[]⟩) (.slice none 0 0)
  have r1 : (put4 V g (.int .i64 0) (.int .i64 0) (.string ⟨#[]⟩) (.slice none 0 0)).heap[r]? = some zeroO := by
    rw [Below.heap_setCell _ _ _ _ hgr, Below.heap_setCell _ _ _ _ hgr, Below.heap_setCell _ _ _ _ hgr, Below.heap_setCell _ _ _ _ hgr]; exact HR
  have R1 : RxAt (put4 V g (.int .i64 0) (.int .i64 0) (.string ⟨#[]⟩) (.slice none 0 0)) b s (k + 1) (-1) := ⟨(k1.below.block b hbw).trans RV.1, RV.2⟩
  have K1 := KV.later k1.below (Nat.le_of_lt hbw) (Nat.le_refl _)
  generalize put4 V g (.int .i64 0) (.int .i64 0) (.string ⟨#[]⟩) (.slice none 0 0) = P at *
  have st := R1.step (k + 1 + 1) hlt
  rw [show ((k + 1 + 1 : Nat) : Int) = (k : Int) + 1 + 1 by omega] at st
  have h2 : (P.setCell ⟨b, 1, none⟩ (.int .i64 ((k : Int) + 1 + 1))).heap[g]? = some zeroO := (Below.heap_setCell _ _ _ _ (show g ≠ b by omega)).trans h1
  have r2 : (P.setCell ⟨b, 1, none⟩ (.int .i64 ((k : Int) + 1 + 1))).heap[r]? = some zeroO := (Below.heap_setCell _ _ _ _ (show r ≠ b by omega)).trans r1
  have K2 := K1.trans st.2
  have R2 := st.1
  generalize P.setCell ⟨b, 1, none⟩ (.int .i64 ((k : Int) + 1 + 1)) = P2 at *
  have k3 := set_keep (b := w.heap.size) (i := 0) h2 hg kd
  subst hY
  exact ⟨⟨(k3.below.block b hbw).trans R2.1, R2.2⟩, Joins.block_setCell (i := 0) h2 kd, (Below.heap_setCell _ _ _ _ hgr).trans r2, K2.later k3.below (Nat.le_of_lt hbw) (Nat.le_refl _)⟩
theorem op_world0 {w V : World} {b g r k : Nat} {s : ByteArray} {x : Int} (RV : RxAt V b s k x) (HO : V.heap[g]? = some zeroO) (HR : V.heap[r]? = some zeroO) (KV : Keep b [QT] w V) (hbw : b < w.heap.size) (hg : w.heap.size ≤ g) (hgr : r ≠ g) (Y : World)
    (hY : Y = put4 V g (.int .i64 0) (.int .i64 0) (.string ⟨#[]⟩) (.slice none 0 0)) :
    RxAt Y b s k x ∧ Y.heap[g]? = some zeroO ∧ Y.heap[r]? = some zeroO ∧ Keep b [QT] w Y := by
  have h1 := put4_heap HO (.int .i64 0) (.int .i64 0) (.string ⟨#[]⟩) (.slice none 0 0)
  have k1 := put4_keep (b := w.heap.size) HO hg (.int .i64 0) (.int .i64 0) (.string ⟨#[]⟩) (.slice none 0 0)
  have r1 : (put4 V g (.int .i64 0) (.int .i64 0) (.string ⟨#[]⟩) (.slice none 0 0)).heap[r]? = some zeroO := by
    rw [Below.heap_setCell _ _ _ _ hgr, Below.heap_setCell _ _ _ _ hgr, Below.heap_setCell _ _ _ _ hgr, Below.heap_setCell _ _ _ _ hgr]; exact HR
  subst hY
  exact ⟨⟨(k1.below.block b hbw).trans RV.1, RV.2⟩, h1, r1, KV.later k1.below (Nat.le_of_lt hbw) (Nat.le_refl _)⟩
/-- A cell of the operation is written. -/
theorem op_set {w V : World} {b g r k : Nat} {s : ByteArray} {x : Int} {cs : Array Value} (RV : RxAt V b s k x) (HO : V.heap[g]? = some (.cells cs 48 (0, 0))) (HR : V.heap[r]? = some zeroO) (KV : Keep b [QT] w V) (hbw : b < w.heap.size) (hg : w.heap.size ≤ g) (hgr : r ≠ g) (i : Nat) (v : Value) (Y : World) (hY : Y = V.setCell ⟨g, i, none⟩ v) :
    RxAt Y b s k x ∧ Y.heap[g]? = some (.cells (cs.setIfInBounds i v) 48 (0, 0)) ∧ Y.heap[r]? = some zeroO ∧ Keep b [QT] w Y ∧ Keep w.heap.size [48] V Y := by
  have k3 := set_keep (b := w.heap.size) (i := i) HO hg v
  subst hY
  exact ⟨⟨(k3.below.block b hbw).trans RV.1, RV.2⟩, Joins.block_setCell (i := i) HO v, (Below.heap_setCell _ _ _ _ hgr).trans HR, KV.later k3.below (Nat.le_of_lt hbw) (Nat.le_refl _), k3⟩
/-- The answer is laid. -/
theorem op_answer {w V : World} {b r k J : Nat} {s : ByteArray} {X : Int} {o : OpD} {v : Value} (RV : RxAt V b s J X) (HR : V.heap[r]? = some zeroO) (KV : Keep b [QT] w V) (hbw : b < w.heap.size) (hr : w.heap.size ≤ r) (hv : V.ownsRow w.heap.size 52 2 v o.attrs.length (flat o.attrs))
    (h : (X = -1 ∧ (rst s k).head? = some 32 ∧ ∃ n, Sp.op (rst s (k + 1)) = .ok o n ∧ J = k + 1 + n) ∨ ((rst s k).head? = some 32 ∧ ∃ m : Nat, Sp.op (rst s (k + 1)) = .bad m ∧ X = ((k + 1 + m : Nat) : Int)) ∨ (¬ (rst s k).head? = some 32 ∧ X = (k : Int))) :
    RxOp b s k w (.returned (opAgg o v)) (put4 V r (.int .i64 o.kind) (.int .i64 o.n) (.string o.text) v) := by
  have k3 := put4_keep (b := w.heap.size) HR hr (.int .i64 o.kind) (.int .i64 o.n) (.string o.text) v
  exact ⟨_, o, J, X, rfl, ⟨v, rfl, k3.own hv (by decide)⟩, KV.later k3.below (Nat.le_of_lt hbw) (Nat.le_refl _), ⟨(k3.below.block b hbw).trans RV.1, RV.2⟩, h⟩

set_option maxRecDepth 100000 in
set_option maxHeartbeats 8000000 in
theorem rxOp_any (b : Nat) (s : ByteArray) (k : Nat) (w : World) (h : RxAt w b s k (-1)) (hz : s.size ≤ 1048576) :
    Calls Tryz.prog 49 #[.pointer (some ⟨b, 0, none⟩)] w (RxOp b s k w) := by
  have hbl : b < w.heap.size := lt_of_heap h.1
  obtain ⟨W, hW⟩ : ∃ W, W = w.alloc zeroO := ⟨_, rfl⟩
  have BW := (show Below w.heap.size w W by rw [hW]; exact below_box _ _)
  have r0 : W.heap[w.heap.size]? = some zeroO := by rw [hW]; exact heap_new _ _
  have hat0 : RxAt W b s k (-1) := h.later BW
  have KW := Lib.hid ((Keep.refl b [QT] w).later BW (Nat.le_of_lt hbl) (Nat.le_refl _))
  have HM := Lib.hid (mustA_any b s k 32 W hat0 (by decide))
  have HR0 := Lib.hid r0
  have HW := Lib.hid hW
  have hsW : w.heap.size < W.heap.size := by rw [hW]; simp
  have h2 : s.size ≤ 9223372036854775807 := by omega
  clear h hW BW r0 hat0
  go_enter Tryz.func49, Tryz.ntmps49
  go_wp2_with fail
  rw [← HW.out]
  refine HM.out.mono ?_
  rintro e w1 ⟨rfl, k1, J1, X1, r1, h1⟩
  have R1 := Lib.hid r1
  have K1 := Lib.hid (KW.out.trans k1)
  have HR1 := Lib.hid (k1.kept _ _ _ _ HR0.out (by decide))
  have HN := Lib.hid (next_any b s J1 X1 w1 r1)
  have H1 := Lib.hid h1
  have hs1 : w.heap.size < w1.heap.size := lt_of_heap HR1.out
  clear r1 k1 h1
  obtain ⟨c, hc⟩ : ∃ c, c = nxt s J1 X1 := ⟨_, rfl⟩
  rw [← hc] at HN
  have HC := Lib.hid hc
  clear hc
  go_wp2_with fail
  refine HN.out.mono ?_
  rintro e w2 ⟨rfl, n2, rfl⟩
  obtain ⟨V, hV⟩ : ∃ V, V = (w1.drewN n2).alloc zeroO := ⟨_, rfl⟩
  have BV := (show Below w1.heap.size w1 V by rw [hV]; exact below_alloc (below_drewN (Below.refl _ _) n2) (Nat.le_refl _) _)
  have o0 : V.heap[w1.heap.size]? = some zeroO := by rw [hV]; exact heap_new (w1.drewN n2) _
  have RV := Lib.hid (R1.out.later BV)
  have KV := Lib.hid (K1.out.later BV (Nat.le_of_lt (Nat.lt_trans hbl hs1)) (Nat.le_of_lt hs1))
  have HRV := Lib.hid ((BV.block _ hs1).trans HR1.out)
  have HOV := Lib.hid o0
  have HV := Lib.hid hV
  clear hV BV o0
  rcases H1.out with ⟨hh, rfl, rfl⟩ | ⟨hh, hX⟩
  · have HH := Lib.hid hh
    have hk1 : k + 1 ≤ s.size := R1.out.2.1
    rw [nxt_live] at HC
    by_cases h61 : c = 61
    · obtain ⟨hlt, hrr⟩ := head_go HC.out.symm (by rw [h61]; decide)
      subst h61
      have HRR := Lib.hid hrr
      have hw1 := IntWalk.i64_in ((k : Int) + 1 + 1) (by omega)
      have hw1' := IntWalk.i64_in (((k + 1 : Nat) : Int) + 1) (by omega)
      have q61 : (((61 : UInt8).toNat : Int) == 61) = true := rfl
      have HST := Lib.hid (RV.out.step (k + 1 + 1) hlt)
      have hcV := RV.out.at
      have hfV := RV.out.free 1
      have hg0 := Joins.unfrozen_of_block HOV.out 0
      have hg1 := Joins.unfrozen_of_block HOV.out 1
      have hg2 := Joins.unfrozen_of_block HOV.out 2
      have hg3 := Joins.unfrozen_of_block HOV.out 3
      have y0 := (Lib.cell_of_heap HOV.out 0).trans (show _ = some (Value.int .i64 0) from rfl)
      have y1 := (Lib.cell_of_heap HOV.out 1).trans (show _ = some (Value.int .i64 0) from rfl)
      have y2 := (Lib.cell_of_heap HOV.out 2).trans (show _ = some (Value.string ⟨#[]⟩) from rfl)
      have y3 := (Lib.cell_of_heap HOV.out 3).trans (show _ = some (Value.slice none 0 0) from rfl)
      rw [HV.out] at hcV hfV hg0 hg1 hg2 hg3 y0 y1 y2 y3
      have hbg : b ≠ w1.heap.size := by omega
      have hgb : w1.heap.size ≠ b := by omega
      obtain ⟨c0, c1, c2⟩ := hcV
      clear hh hrr
      obtain ⟨Y, hY⟩ : ∃ Y, Y = ((put4 V w1.heap.size (.int .i64 0) (.int .i64 0) (.string ⟨#[]⟩) (.slice none 0 0)).setCell ⟨b, 1, none⟩ (.int .i64 ((k : Int) + 1 + 1))).setCell ⟨w1.heap.size, 0, none⟩ (.int .i64 1) := ⟨_, rfl⟩
      obtain ⟨RY, OY, ZY, KY⟩ := op_world (w := w) RV.out HOV.out HRV.out KV.out hlt hbl (Nat.le_of_lt hs1) (Nat.le_refl _) (by omega) (.int .i64 1) Y hY
      rw [HV.out] at hY
      have HY := Lib.hid hY
      have HNb := Lib.hid (numberA_any b s (k + 1 + 1) Y RY)
      have hOY := Lib.hid OY
      have hZY := Lib.hid ZY
      have hKY := Lib.hid KY
      have hsY : w1.heap.size < Y.heap.size := lt_of_heap OY
      clear hY RY OY ZY KY
      go_wp2_with fail
      rw [← HY.out]
      refine HNb.out.mono ?_
      rintro e w3 ⟨n, rfl, k3, J3, X3, r3, h3⟩
      have O3 := k3.kept _ _ _ _ hOY.out (by decide)
      have Z3 := k3.kept _ _ _ _ hZY.out (by decide)
      have K3 := hKY.out.trans k3
      have g1 := Joins.unfrozen_of_block O3 1
      have y1 := (Lib.cell_of_heap O3 1).trans (show _ = some (Value.int .i64 0) from rfl)
      obtain ⟨Y2, hY2⟩ : ∃ Y2, Y2 = w3.setCell ⟨w1.heap.size, 1, none⟩ (.int .i64 n) := ⟨_, rfl⟩
      obtain ⟨RY2, OY2, ZY2, KY2, _⟩ := op_set (w := w) r3 O3 Z3 K3 hbl (Nat.le_of_lt hs1) (by omega) 1 (.int .i64 n) Y2 hY2
      have hx3 : X3 = -1 ∨ 0 ≤ X3 := by rcases h3 with ⟨h, _⟩ | ⟨m, _, h⟩ <;> omega
      have HA := Lib.hid (attrsA_any b s J3 X3 Y2 RY2 hx3 hz)
      have H3 := Lib.hid h3
      have HY2 := Lib.hid hY2
      have hOY2 := Lib.hid OY2
      have hZY2 := Lib.hid ZY2
      have hKY2 := Lib.hid KY2
      have hsY2 : w.heap.size ≤ Y2.heap.size := KY2.below.size
      clear hY2 RY2 OY2 ZY2 KY2 K3 Z3 O3 r3 k3 h3 hg0 hg1 hg2 hg3 hfV c0 c1 c2 y0 y2 y3
      go_wp2_with fail
      rw [← HY2.out]
      refine HA.out.mono ?_
      rintro e w4 ⟨l, v, rfl, hv, k4, J4, X4, r4, h4⟩
      obtain ⟨va, vc, rfl⟩ := own_slice hv
      have O4 := k4.kept _ _ _ _ hOY2.out (by decide)
      have Z4 := k4.kept _ _ _ _ hZY2.out (by decide)
      have K4 := hKY2.out.trans k4
      have g3 := Joins.unfrozen_of_block O4 3
      have y0 := (Lib.cell_of_heap O4 0).trans (show _ = some (Value.int .i64 1) from rfl)
      have y1 := (Lib.cell_of_heap O4 1).trans (show _ = some (Value.int .i64 n) from rfl)
      have y2 := (Lib.cell_of_heap O4 2).trans (show _ = some (Value.string ⟨#[]⟩) from rfl)
      have y3 := (Lib.cell_of_heap O4 3).trans (show _ = some (Value.slice none 0 0) from rfl)
      obtain ⟨Y3, hY3⟩ : ∃ Y3, Y3 = w4.setCell ⟨w1.heap.size, 3, none⟩ (.slice va l.length vc) := ⟨_, rfl⟩
      obtain ⟨RY3, OY3, ZY3, KY3, KZ3⟩ := op_set (w := w) r4 O4 Z4 K4 hbl (Nat.le_of_lt hs1) (by omega) 3 (.slice va l.length vc) Y3 hY3
      have hv3 := own_base (KZ3.own hv (by decide)) hsY2
      have HF := Lib.hid (put4_heap ZY3 (.int .i64 1) (.int .i64 n) (.string ⟨#[]⟩) (.slice va l.length vc))
      have q0 := Joins.unfrozen_of_block Z4 0
      have q1 := Joins.unfrozen_of_block Z4 1
      have q2 := Joins.unfrozen_of_block Z4 2
      have q3 := Joins.unfrozen_of_block Z4 3
      have x0 := (Lib.cell_of_heap Z4 0).trans (show _ = some (Value.int .i64 0) from rfl)
      have x1 := (Lib.cell_of_heap Z4 1).trans (show _ = some (Value.int .i64 0) from rfl)
      have x2 := (Lib.cell_of_heap Z4 2).trans (show _ = some (Value.string ⟨#[]⟩) from rfl)
      have x3 := (Lib.cell_of_heap Z4 3).trans (show _ = some (Value.slice none 0 0) from rfl)
      have hrg : w.heap.size ≠ w1.heap.size := by omega
      have hgr : w1.heap.size ≠ w.heap.size := by omega
      have HY3 := Lib.hid hY3
      have HANS := Lib.hid (op_answer (b := b) (r := w.heap.size) (k := k) (J := J4) (X := X4) (o := ⟨1, n, Sp.none0, l⟩) RY3 ZY3 KY3 hbl (Nat.le_refl _) hv3 (by
        refine (show _ ∨ _ from ?_)
        rw [HRR.out, Sp.op_keep]
        rcases H3.out with ⟨rfl, i3, hn3, rfl⟩ | ⟨m3, hn3, rfl⟩
        · rcases h4 with ⟨_, rfl, n4, ha4, rfl⟩ | ⟨_, m4, ha4, rfl⟩ | ⟨h, _⟩
          · refine .inl ⟨rfl, HH.out, 1 + (i3 + n4), ?_, by omega⟩
            exact Sp.opt2_ok (f := fun (n : Nat) a => (⟨1, n, Sp.none0, a⟩ : OpD)) hn3 (by rw [rst_drop]; exact ha4)
          · refine .inr (.inl ⟨HH.out, 1 + (i3 + m4), ?_, by omega⟩)
            exact Sp.opt2_bad (f := fun (n : Nat) a => (⟨1, n, Sp.none0, a⟩ : OpD)) hn3 (by rw [rst_drop]; exact ha4)
          · omega
        · rcases h4 with ⟨h, _⟩ | ⟨h, _⟩ | ⟨_, rfl⟩
          · omega
          · omega
          · refine .inr (.inl ⟨HH.out, 1 + m3, ?_, by omega⟩)
            exact Sp.bad1 hn3))
      clear hY3 RY3 OY3 ZY3 KY3 KZ3 K4 Z4 O4 r4 k4 h4 hv hv3
      go_wp2_with fail
      rw [← HY3.out]
      have z0 := (Lib.cell_of_heap HF.out 0)
      have z1 := (Lib.cell_of_heap HF.out 1)
      have z2 := (Lib.cell_of_heap HF.out 2)
      have z3 := (Lib.cell_of_heap HF.out 3)
      refine bodyPost_ret (v := opAgg ⟨1, n, Sp.none0, l⟩ (.slice va l.length vc)) (by simp [results, Tryz.results49, go_sem, z0, z1, z2, z3, Sp.none0]) rfl HANS.out
    · skip
      by_cases h45 : c = 45
      · obtain ⟨hlt, hrr⟩ := head_go HC.out.symm (by rw [h45]; decide)
        subst h45
        have HRR := Lib.hid hrr
        have hw1 := IntWalk.i64_in ((k : Int) + 1 + 1) (by omega)
        have hw1' := IntWalk.i64_in (((k + 1 : Nat) : Int) + 1) (by omega)
        have q61 : (((45 : UInt8).toNat : Int) == 61) = false := rfl
        have q45 : (((45 : UInt8).toNat : Int) == 45) = true := rfl
        have HST := Lib.hid (RV.out.step (k + 1 + 1) hlt)
        have hcV := RV.out.at
        have hfV := RV.out.free 1
        have hg0 := Joins.unfrozen_of_block HOV.out 0
        have hg1 := Joins.unfrozen_of_block HOV.out 1
        have hg2 := Joins.unfrozen_of_block HOV.out 2
        have hg3 := Joins.unfrozen_of_block HOV.out 3
        have y0 := (Lib.cell_of_heap HOV.out 0).trans (show _ = some (Value.int .i64 0) from rfl)
        have y1 := (Lib.cell_of_heap HOV.out 1).trans (show _ = some (Value.int .i64 0) from rfl)
        have y2 := (Lib.cell_of_heap HOV.out 2).trans (show _ = some (Value.string ⟨#[]⟩) from rfl)
        have y3 := (Lib.cell_of_heap HOV.out 3).trans (show _ = some (Value.slice none 0 0) from rfl)
        rw [HV.out] at hcV hfV hg0 hg1 hg2 hg3 y0 y1 y2 y3
        have hbg : b ≠ w1.heap.size := by omega
        have hgb : w1.heap.size ≠ b := by omega
        obtain ⟨c0, c1, c2⟩ := hcV
        clear hh hrr
        obtain ⟨Y, hY⟩ : ∃ Y, Y = ((put4 V w1.heap.size (.int .i64 0) (.int .i64 0) (.string ⟨#[]⟩) (.slice none 0 0)).setCell ⟨b, 1, none⟩ (.int .i64 ((k : Int) + 1 + 1))).setCell ⟨w1.heap.size, 0, none⟩ (.int .i64 3) := ⟨_, rfl⟩
        obtain ⟨RY, OY, ZY, KY⟩ := op_world (w := w) RV.out HOV.out HRV.out KV.out hlt hbl (Nat.le_of_lt hs1) (Nat.le_refl _) (by omega) (.int .i64 3) Y hY
        rw [HV.out] at hY
        have HY := Lib.hid hY
        have HNb := Lib.hid (numberA_any b s (k + 1 + 1) Y RY)
        have hOY := Lib.hid OY
        have hZY := Lib.hid ZY
        have hKY := Lib.hid KY
        have hsY : w1.heap.size < Y.heap.size := lt_of_heap OY
        clear hY RY OY ZY KY
        go_wp2_with fail
        rw [← HY.out]
        refine HNb.out.mono ?_
        rintro e w3 ⟨n, rfl, k3, J3, X3, r3, h3⟩
        have O3 := k3.kept _ _ _ _ hOY.out (by decide)
        have Z3 := k3.kept _ _ _ _ hZY.out (by decide)
        have K3 := hKY.out.trans k3
        have g1 := Joins.unfrozen_of_block O3 1
        have y1 := (Lib.cell_of_heap O3 1).trans (show _ = some (Value.int .i64 0) from rfl)
        obtain ⟨Y2, hY2⟩ : ∃ Y2, Y2 = w3.setCell ⟨w1.heap.size, 1, none⟩ (.int .i64 n) := ⟨_, rfl⟩
        obtain ⟨RY3, OY3, ZY3, KY3, _⟩ := op_set (w := w) r3 O3 Z3 K3 hbl (Nat.le_of_lt hs1) (by omega) 1 (.int .i64 n) Y2 hY2
        have HF := Lib.hid (put4_heap ZY3 (.int .i64 3) (.int .i64 n) (.string ⟨#[]⟩) (.slice none 0 0))
        have y0 := (Lib.cell_of_heap O3 0).trans (show _ = some (Value.int .i64 3) from rfl)
        have y2 := (Lib.cell_of_heap O3 2).trans (show _ = some (Value.string ⟨#[]⟩) from rfl)
        have y3 := (Lib.cell_of_heap O3 3).trans (show _ = some (Value.slice none 0 0) from rfl)
        have q0 := Joins.unfrozen_of_block Z3 0
        have q1 := Joins.unfrozen_of_block Z3 1
        have q2 := Joins.unfrozen_of_block Z3 2
        have q3 := Joins.unfrozen_of_block Z3 3
        have x0 := (Lib.cell_of_heap Z3 0).trans (show _ = some (Value.int .i64 0) from rfl)
        have x1 := (Lib.cell_of_heap Z3 1).trans (show _ = some (Value.int .i64 0) from rfl)
        have x2 := (Lib.cell_of_heap Z3 2).trans (show _ = some (Value.string ⟨#[]⟩) from rfl)
        have x3 := (Lib.cell_of_heap Z3 3).trans (show _ = some (Value.slice none 0 0) from rfl)
        have hrg : w.heap.size ≠ w1.heap.size := by omega
        have hgr : w1.heap.size ≠ w.heap.size := by omega
        have HY2 := Lib.hid hY2
        have HANS := Lib.hid (op_answer (b := b) (r := w.heap.size) (k := k) (J := J3) (X := X3) (o := ⟨3, n, Sp.none0, []⟩) RY3 ZY3 KY3 hbl (Nat.le_refl _) (own_nil _ _) (by
          refine (show _ ∨ _ from ?_)
          rw [HRR.out, Sp.op_cut]
          rcases h3 with ⟨rfl, i3, hn3, rfl⟩ | ⟨m3, hn3, rfl⟩
          · refine .inl ⟨rfl, HH.out, 1 + i3, ?_, by omega⟩
            exact Sp.ok1 (f := fun n : Nat => (⟨3, n, Sp.none0, []⟩ : OpD)) hn3
          · refine .inr (.inl ⟨HH.out, 1 + m3, ?_, by omega⟩)
            exact Sp.bad1 hn3))
        clear hY2 RY3 OY3 ZY3 KY3 K3 Z3 O3 r3 k3 h3 hg0 hg1 hg2 hg3 hfV c0 c1 c2
        go_wp2_with fail
        rw [← HY2.out]
        have z0 := (Lib.cell_of_heap HF.out 0)
        have z1 := (Lib.cell_of_heap HF.out 1)
        have z2 := (Lib.cell_of_heap HF.out 2)
        have z3 := (Lib.cell_of_heap HF.out 3)
        refine bodyPost_ret (v := opAgg ⟨3, n, Sp.none0, []⟩ (.slice none 0 0)) (by simp [results, Tryz.results49, go_sem, z0, z1, z2, z3, Sp.none0]) rfl HANS.out
      · skip
        by_cases h43 : c = 43
        · obtain ⟨hlt, hrr⟩ := head_go HC.out.symm (by rw [h43]; decide)
          subst h43
          have HRR := Lib.hid hrr
          have hw1 := IntWalk.i64_in ((k : Int) + 1 + 1) (by omega)
          have hw1' := IntWalk.i64_in (((k + 1 : Nat) : Int) + 1) (by omega)
          have q61 : (((43 : UInt8).toNat : Int) == 61) = false := rfl
          have q45 : (((43 : UInt8).toNat : Int) == 45) = false := rfl
          have q43 : (((43 : UInt8).toNat : Int) == 43) = true := rfl
          have HST := Lib.hid (RV.out.step (k + 1 + 1) hlt)
          have hcV := RV.out.at
          have hfV := RV.out.free 1
          have hg0 := Joins.unfrozen_of_block HOV.out 0
          have hg1 := Joins.unfrozen_of_block HOV.out 1
          have hg2 := Joins.unfrozen_of_block HOV.out 2
          have hg3 := Joins.unfrozen_of_block HOV.out 3
          have y0 := (Lib.cell_of_heap HOV.out 0).trans (show _ = some (Value.int .i64 0) from rfl)
          have y1 := (Lib.cell_of_heap HOV.out 1).trans (show _ = some (Value.int .i64 0) from rfl)
          have y2 := (Lib.cell_of_heap HOV.out 2).trans (show _ = some (Value.string ⟨#[]⟩) from rfl)
          have y3 := (Lib.cell_of_heap HOV.out 3).trans (show _ = some (Value.slice none 0 0) from rfl)
          rw [HV.out] at hcV hfV hg0 hg1 hg2 hg3 y0 y1 y2 y3
          have hbg : b ≠ w1.heap.size := by omega
          have hgb : w1.heap.size ≠ b := by omega
          obtain ⟨c0, c1, c2⟩ := hcV
          clear hh hrr
          obtain ⟨Y, hY⟩ : ∃ Y, Y = ((put4 V w1.heap.size (.int .i64 0) (.int .i64 0) (.string ⟨#[]⟩) (.slice none 0 0)).setCell ⟨b, 1, none⟩ (.int .i64 ((k : Int) + 1 + 1))).setCell ⟨w1.heap.size, 0, none⟩ (.int .i64 2) := ⟨_, rfl⟩
          obtain ⟨RY, OY, ZY, KY⟩ := op_world (w := w) RV.out HOV.out HRV.out KV.out hlt hbl (Nat.le_of_lt hs1) (Nat.le_refl _) (by omega) (.int .i64 2) Y hY
          rw [HV.out] at hY
          have HY := Lib.hid hY
          have HNb := Lib.hid (quotedA_any b s (k + 1 + 1) (-1) Y RY (.inl rfl) hz)
          have hOY := Lib.hid OY
          have hZY := Lib.hid ZY
          have hKY := Lib.hid KY
          have hsY : w1.heap.size < Y.heap.size := lt_of_heap OY
          clear hY RY OY ZY KY
          go_wp2_with fail
          rw [← HY.out]
          refine HNb.out.mono ?_
          rintro e w3 ⟨tx, rfl, k3, J3, X3, r3, h3⟩
          have O3 := k3.kept _ _ _ _ hOY.out (by decide)
          have Z3 := k3.kept _ _ _ _ hZY.out (by decide)
          have K3 := hKY.out.trans k3
          have g2 := Joins.unfrozen_of_block O3 2
          have y2 := (Lib.cell_of_heap O3 2).trans (show _ = some (Value.string ⟨#[]⟩) from rfl)
          obtain ⟨Y2, hY2⟩ : ∃ Y2, Y2 = w3.setCell ⟨w1.heap.size, 2, none⟩ (.string tx) := ⟨_, rfl⟩
          obtain ⟨RY2, OY2, ZY2, KY2, _⟩ := op_set (w := w) r3 O3 Z3 K3 hbl (Nat.le_of_lt hs1) (by omega) 2 (.string tx) Y2 hY2
          have hx3 : X3 = -1 ∨ 0 ≤ X3 := by rcases h3 with ⟨_, h, _⟩ | ⟨_, m, _, h⟩ | ⟨h, _⟩ <;> omega
          have HA := Lib.hid (attrsA_any b s J3 X3 Y2 RY2 hx3 hz)
          have H3 := Lib.hid h3
          have HY2 := Lib.hid hY2
          have hOY2 := Lib.hid OY2
          have hZY2 := Lib.hid ZY2
          have hKY2 := Lib.hid KY2
          have hsY2 : w.heap.size ≤ Y2.heap.size := KY2.below.size
          clear hY2 RY2 OY2 ZY2 KY2 K3 Z3 O3 r3 k3 h3 hg0 hg1 hg2 hg3 hfV c0 c1 c2 y0 y1 y3
          go_wp2_with fail
          rw [← HY2.out]
          refine HA.out.mono ?_
          rintro e w4 ⟨l, v, rfl, hv, k4, J4, X4, r4, h4⟩
          obtain ⟨va, vc, rfl⟩ := own_slice hv
          have O4 := k4.kept _ _ _ _ hOY2.out (by decide)
          have Z4 := k4.kept _ _ _ _ hZY2.out (by decide)
          have K4 := hKY2.out.trans k4
          have g3 := Joins.unfrozen_of_block O4 3
          have y0 := (Lib.cell_of_heap O4 0).trans (show _ = some (Value.int .i64 2) from rfl)
          have y1 := (Lib.cell_of_heap O4 1).trans (show _ = some (Value.int .i64 0) from rfl)
          have y2 := (Lib.cell_of_heap O4 2).trans (show _ = some (Value.string tx) from rfl)
          have y3 := (Lib.cell_of_heap O4 3).trans (show _ = some (Value.slice none 0 0) from rfl)
          obtain ⟨Y3, hY3⟩ : ∃ Y3, Y3 = w4.setCell ⟨w1.heap.size, 3, none⟩ (.slice va l.length vc) := ⟨_, rfl⟩
          obtain ⟨RY3, OY3, ZY3, KY3, KZ3⟩ := op_set (w := w) r4 O4 Z4 K4 hbl (Nat.le_of_lt hs1) (by omega) 3 (.slice va l.length vc) Y3 hY3
          have hv3 := own_base (KZ3.own hv (by decide)) hsY2
          have HF := Lib.hid (put4_heap ZY3 (.int .i64 2) (.int .i64 0) (.string tx) (.slice va l.length vc))
          have q0 := Joins.unfrozen_of_block Z4 0
          have q1 := Joins.unfrozen_of_block Z4 1
          have q2 := Joins.unfrozen_of_block Z4 2
          have q3 := Joins.unfrozen_of_block Z4 3
          have x0 := (Lib.cell_of_heap Z4 0).trans (show _ = some (Value.int .i64 0) from rfl)
          have x1 := (Lib.cell_of_heap Z4 1).trans (show _ = some (Value.int .i64 0) from rfl)
          have x2 := (Lib.cell_of_heap Z4 2).trans (show _ = some (Value.string ⟨#[]⟩) from rfl)
          have x3 := (Lib.cell_of_heap Z4 3).trans (show _ = some (Value.slice none 0 0) from rfl)
          have hrg : w.heap.size ≠ w1.heap.size := by omega
          have hgr : w1.heap.size ≠ w.heap.size := by omega
          have HY3 := Lib.hid hY3
          have h3' := H3.out
          have HANS := Lib.hid (op_answer (b := b) (r := w.heap.size) (k := k) (J := J4) (X := X4) (o := ⟨2, 0, tx, l⟩) RY3 ZY3 KY3 hbl (Nat.le_refl _) hv3 (by
            refine (show _ ∨ _ from ?_)
            rw [HRR.out, Sp.op_put]
            rcases h3' with ⟨_, rfl, v3, i3, hn3, rfl, rfl⟩ | ⟨_, m3, hn3, rfl⟩ | ⟨h, _⟩
            · rcases h4 with ⟨_, rfl, n4, ha4, rfl⟩ | ⟨_, m4, ha4, rfl⟩ | ⟨h, _⟩
              · refine .inl ⟨rfl, HH.out, 1 + (i3 + n4), ?_, by omega⟩
                exact Sp.opt2_ok (f := fun v a => (⟨2, 0, Sp.ba v, a⟩ : OpD)) hn3 (by rw [rst_drop]; exact ha4)
              · refine .inr (.inl ⟨HH.out, 1 + (i3 + m4), ?_, by omega⟩)
                exact Sp.opt2_bad (f := fun v a => (⟨2, 0, Sp.ba v, a⟩ : OpD)) hn3 (by rw [rst_drop]; exact ha4)
              · omega
            · rcases h4 with ⟨h, _⟩ | ⟨h, _⟩ | ⟨_, rfl⟩
              · omega
              · omega
              · refine .inr (.inl ⟨HH.out, 1 + m3, ?_, by omega⟩)
                exact Sp.bad1 hn3
            · omega))
          clear h3' hY3 RY3 OY3 ZY3 KY3 KZ3 K4 Z4 O4 r4 k4 h4 hv hv3
          go_wp2_with fail
          rw [← HY3.out]
          have z0 := (Lib.cell_of_heap HF.out 0)
          have z1 := (Lib.cell_of_heap HF.out 1)
          have z2 := (Lib.cell_of_heap HF.out 2)
          have z3 := (Lib.cell_of_heap HF.out 3)
          refine bodyPost_ret (v := opAgg ⟨2, 0, tx, l⟩ (.slice va l.length vc)) (by simp [results, Tryz.results49, go_sem, z0, z1, z2, z3]) rfl HANS.out
        · skip
          have HB0 := Lib.hid (op_bad0 (l := rst s (k + 1)) (by rw [← HC.out]; exact h61) (by rw [← HC.out]; exact h45) (by rw [← HC.out]; exact h43))
          have q61 := b_not' (n := 61) rfl h61
          have q45 := b_not' (n := 45) rfl h45
          have q43 := b_not' (n := 43) rfl h43
          clear h61 h45 h43 hh
          have hcV := RV.out.at
          have hg0 := Joins.unfrozen_of_block HOV.out 0
          have hg1 := Joins.unfrozen_of_block HOV.out 1
          have hg2 := Joins.unfrozen_of_block HOV.out 2
          have hg3 := Joins.unfrozen_of_block HOV.out 3
          have y0 := (Lib.cell_of_heap HOV.out 0).trans (show _ = some (Value.int .i64 0) from rfl)
          have y1 := (Lib.cell_of_heap HOV.out 1).trans (show _ = some (Value.int .i64 0) from rfl)
          have y2 := (Lib.cell_of_heap HOV.out 2).trans (show _ = some (Value.string ⟨#[]⟩) from rfl)
          have y3 := (Lib.cell_of_heap HOV.out 3).trans (show _ = some (Value.slice none 0 0) from rfl)
          rw [HV.out] at hcV hg0 hg1 hg2 hg3 y0 y1 y2 y3
          have hbg : b ≠ w1.heap.size := by omega
          have hgb : w1.heap.size ≠ b := by omega
          obtain ⟨c0, c1, c2⟩ := hcV
          obtain ⟨Y, hY⟩ : ∃ Y, Y = put4 V w1.heap.size (.int .i64 0) (.int .i64 0) (.string ⟨#[]⟩) (.slice none 0 0) := ⟨_, rfl⟩
          obtain ⟨RY, OY, ZY, KY⟩ := op_world0 (w := w) RV.out HOV.out HRV.out KV.out hbl (Nat.le_of_lt hs1) (by omega) Y hY
          rw [HV.out] at hY
          unfold put4 at hY
          have HY := Lib.hid hY
          have HB := Lib.hid (bad_any b s (k + 1) (-1) ((k + 1 : Nat) : Int) Y RY)
          have hOY := Lib.hid OY
          have hZY := Lib.hid ZY
          have hKY := Lib.hid KY
          clear hY RY OY ZY KY
          go_wp2_with fail
          rw [← HY.out]
          refine HB.out.mono ?_
          rintro e w3 ⟨rfl, r3, k3⟩
          rw [noted_live (by omega)] at r3
          have O3 := k3.kept _ _ _ _ hOY.out (by decide)
          have Z3 := k3.kept _ _ _ _ hZY.out (by decide)
          have K3 := hKY.out.trans k3
          have q0 := Joins.unfrozen_of_block Z3 0
          have q1 := Joins.unfrozen_of_block Z3 1
          have q2 := Joins.unfrozen_of_block Z3 2
          have q3 := Joins.unfrozen_of_block Z3 3
          have u0 := (Lib.cell_of_heap O3 0).trans (show _ = some (Value.int .i64 0) from rfl)
          have u1 := (Lib.cell_of_heap O3 1).trans (show _ = some (Value.int .i64 0) from rfl)
          have u2 := (Lib.cell_of_heap O3 2).trans (show _ = some (Value.string ⟨#[]⟩) from rfl)
          have u3 := (Lib.cell_of_heap O3 3).trans (show _ = some (Value.slice none 0 0) from rfl)
          have x0 := (Lib.cell_of_heap Z3 0).trans (show _ = some (Value.int .i64 0) from rfl)
          have x1 := (Lib.cell_of_heap Z3 1).trans (show _ = some (Value.int .i64 0) from rfl)
          have x2 := (Lib.cell_of_heap Z3 2).trans (show _ = some (Value.string ⟨#[]⟩) from rfl)
          have x3 := (Lib.cell_of_heap Z3 3).trans (show _ = some (Value.slice none 0 0) from rfl)
          have HF := Lib.hid (put4_heap Z3 (.int .i64 0) (.int .i64 0) (.string ⟨#[]⟩) (.slice none 0 0))
          have HANS := Lib.hid (op_answer (b := b) (r := w.heap.size) (k := k) (o := ⟨0, 0, Sp.none0, []⟩) r3 Z3 K3 hbl (Nat.le_refl _) (own_nil _ _) (.inr (.inl ⟨HH.out, 0, HB0.out, by omega⟩)))
          clear r3 k3 K3 Z3 O3 hg0 hg1 hg2 hg3 c0 c1 c2 y0 y1 y2 y3
          go_wp2_with fail
          have z0 := (Lib.cell_of_heap HF.out 0)
          have z1 := (Lib.cell_of_heap HF.out 1)
          have z2 := (Lib.cell_of_heap HF.out 2)
          have z3 := (Lib.cell_of_heap HF.out 3)
          refine bodyPost_ret (v := opAgg ⟨0, 0, Sp.none0, []⟩ (.slice none 0 0)) (by simp [results, Tryz.results49, go_sem, z0, z1, z2, z3, Sp.none0]) rfl HANS.out
  · skip
    have HH := Lib.hid hh
    have hX0 : 0 ≤ X1 := by omega
    rw [nxt_dead hX0] at HC
    obtain rfl := HC.out
    have HX := Lib.hid hX
    have q61 : (((0 : UInt8).toNat : Int) == 61) = false := rfl
    have q45 : (((0 : UInt8).toNat : Int) == 45) = false := rfl
    have q43 : (((0 : UInt8).toNat : Int) == 43) = false := rfl
    clear hh hX
    have hcV := RV.out.at
    have hg0 := Joins.unfrozen_of_block HOV.out 0
    have hg1 := Joins.unfrozen_of_block HOV.out 1
    have hg2 := Joins.unfrozen_of_block HOV.out 2
    have hg3 := Joins.unfrozen_of_block HOV.out 3
    have y0 := (Lib.cell_of_heap HOV.out 0).trans (show _ = some (Value.int .i64 0) from rfl)
    have y1 := (Lib.cell_of_heap HOV.out 1).trans (show _ = some (Value.int .i64 0) from rfl)
    have y2 := (Lib.cell_of_heap HOV.out 2).trans (show _ = some (Value.string ⟨#[]⟩) from rfl)
    have y3 := (Lib.cell_of_heap HOV.out 3).trans (show _ = some (Value.slice none 0 0) from rfl)
    rw [HV.out] at hcV hg0 hg1 hg2 hg3 y0 y1 y2 y3
    have hbg : b ≠ w1.heap.size := by omega
    have hgb : w1.heap.size ≠ b := by omega
    obtain ⟨c0, c1, c2⟩ := hcV
    obtain ⟨Y, hY⟩ : ∃ Y, Y = put4 V w1.heap.size (.int .i64 0) (.int .i64 0) (.string ⟨#[]⟩) (.slice none 0 0) := ⟨_, rfl⟩
    obtain ⟨RY, OY, ZY, KY⟩ := op_world0 (w := w) RV.out HOV.out HRV.out KV.out hbl (Nat.le_of_lt hs1) (by omega) Y hY
    rw [HV.out] at hY
    unfold put4 at hY
    have HY := Lib.hid hY
    have HB := Lib.hid (bad_any b s (J1) X1 ((J1 : Nat) : Int) Y RY)
    have hOY := Lib.hid OY
    have hZY := Lib.hid ZY
    have hKY := Lib.hid KY
    clear hY RY OY ZY KY
    go_wp2_with fail
    rw [← HY.out]
    refine HB.out.mono ?_
    rintro e w3 ⟨rfl, r3, k3⟩
    rw [noted_dead (by omega)] at r3
    have O3 := k3.kept _ _ _ _ hOY.out (by decide)
    have Z3 := k3.kept _ _ _ _ hZY.out (by decide)
    have K3 := hKY.out.trans k3
    have q0 := Joins.unfrozen_of_block Z3 0
    have q1 := Joins.unfrozen_of_block Z3 1
    have q2 := Joins.unfrozen_of_block Z3 2
    have q3 := Joins.unfrozen_of_block Z3 3
    have u0 := (Lib.cell_of_heap O3 0).trans (show _ = some (Value.int .i64 0) from rfl)
    have u1 := (Lib.cell_of_heap O3 1).trans (show _ = some (Value.int .i64 0) from rfl)
    have u2 := (Lib.cell_of_heap O3 2).trans (show _ = some (Value.string ⟨#[]⟩) from rfl)
    have u3 := (Lib.cell_of_heap O3 3).trans (show _ = some (Value.slice none 0 0) from rfl)
    have x0 := (Lib.cell_of_heap Z3 0).trans (show _ = some (Value.int .i64 0) from rfl)
    have x1 := (Lib.cell_of_heap Z3 1).trans (show _ = some (Value.int .i64 0) from rfl)
    have x2 := (Lib.cell_of_heap Z3 2).trans (show _ = some (Value.string ⟨#[]⟩) from rfl)
    have x3 := (Lib.cell_of_heap Z3 3).trans (show _ = some (Value.slice none 0 0) from rfl)
    have HF := Lib.hid (put4_heap Z3 (.int .i64 0) (.int .i64 0) (.string ⟨#[]⟩) (.slice none 0 0))
    have HANS := Lib.hid (op_answer (b := b) (r := w.heap.size) (k := k) (o := ⟨0, 0, Sp.none0, []⟩) r3 Z3 K3 hbl (Nat.le_refl _) (own_nil _ _) (.inr (.inr ⟨HH.out, HX.out⟩)))
    clear r3 k3 K3 Z3 O3 hg0 hg1 hg2 hg3 c0 c1 c2 y0 y1 y2 y3
    go_wp2_with fail
    have z0 := (Lib.cell_of_heap HF.out 0)
    have z1 := (Lib.cell_of_heap HF.out 1)
    have z2 := (Lib.cell_of_heap HF.out 2)
    have z3 := (Lib.cell_of_heap HF.out 3)
    refine bodyPost_ret (v := opAgg ⟨0, 0, Sp.none0, []⟩ (.slice none 0 0)) (by simp [results, Tryz.results49, go_sem, z0, z1, z2, z3, Sp.none0]) rfl HANS.out
end Go.Proofs.YtacgkbdldbppjaaGreatDoor

/- The document's Parse, walked. -/
namespace Go.Proofs.YtacgkbdldbppjaaGreatDoor
open Go.RowKit Ch

/-- 'append(own, one)', of however long a row of operations. -/
theorem append_op {w : World} {ops : Array Oper} {rest : List Oper} {o : Oper} {a : Act} {Q : Exit → Act → World → Prop} (hgd : o.guard = none) (s x : Operand)
    (ho : o.op = .call { callee := .builtin .append, args := #[s, x], argTypes := #[22, 22] })
    (base : Nat) (v : Value) (n : Nat) (xs : List Value) (p : OpD × Value) (hs : a.eval s = v) (hx : a.eval x = .slice (some ⟨w.heap.size, 0, none⟩) 1 1) (hown : w.ownsRow base 48 4 v n xs) (hp : p.2.oneCell' = true)
    (N : Nat) (ys : List Value) (hN : n + 1 = N) (hy : xs ++ opCells p = ys) (h63 : N ≤ 1048577) (hbase : base ≤ w.heap.size)
    (h : ∀ u w', w'.ownsRow base 48 4 u N ys → (w.alloc (.cells #[.int .i64 p.1.kind, .int .i64 p.1.n, .string p.1.text, p.2] 48)).grownBy w' v.ownBlock → wpList Tryz.prog ops Q rest (a.put o.dst u) w') :
    wpList Tryz.prog ops Q (o :: rest) a (w.alloc (.cells #[.int .i64 p.1.kind, .int .i64 p.1.n, .string p.1.text, p.2] 48)) := by
  subst hN
  subst hy
  have h63' : n + 1 ≤ maxLen := by unfold maxLen; omega
  obtain ⟨i0, hi, hz0, hz1, hz2⟩ := info_parts infoOp
  refine wpList_append_own _ hgd s x 22 ho base 48 i0 (.agg #[.int .i64 0, .int .i64 0, .string ⟨#[]⟩, .slice none 0 0]) 4 56 Tryz.underlying22 hi hz0 hz1 hz2 rfl (by decide) v n xs hs (hown.alloc _) ⟨w.heap.size, 0, none⟩ 1 1 (opCells p) hx rfl (new_at4 _ _ _ _ _ _) (fun u hu => by
      simp [opCells] at hu
      rcases hu with rfl | rfl | rfl | rfl
      · rfl
      · rfl
      · rfl
      · exact hp) h63' (by omega) (by simp; omega)
    fun u w' h1 h2 _ => h u w' h1 h2

abbrev CX : List TypeId := [QT, 24]

set_option maxRecDepth 100000 in
set_option maxHeartbeats 8000000 in
theorem refParse_any (s : ByteArray) (w : World) (hz : s.size ≤ 1048576) :
    Calls Tryz.prog 19 #[.string s] w (ParseOut w s) := by
  by_cases hbig : (262144 : Int) < (s.size : Int)
  · have HE := Lib.hid (parseF_long hbig)
    go_enter Tryz.func19, Tryz.ntmps19
    go_wp2_with fail
    refine bodyPost_ret (v := .tuple #[chAgg 0 (.slice none 0 0), .agg #[.int .i64 2, .int .i64 (-1)]]) (by simp [results, Tryz.results19, go_sem]) rfl ?_
    rw [ParseOut, HE.out]
    exact ⟨_, rfl, ownOps_nil _ _, below_alloc (below_box _ _) (Nat.le_refl _) _⟩
  by_cases hemp : s.size = 0
  · have HE := Lib.hid (show Sp.parseF s.data.toList = ⟨40, 0, 0, []⟩ by
      rw [parseF_go hbig, show s.data.toList = [] from List.length_eq_zero_iff.1 hemp]; rfl)
    have h0 : ((s.size : Int) == 0) = true := by rw [beq_iff_eq]; omega
    clear hemp
    go_enter Tryz.func19, Tryz.ntmps19
    go_wp2_with fail
    refine bodyPost_ret (v := .tuple #[chAgg 0 (.slice none 0 0), .agg #[.int .i64 40, .int .i64 0]]) (by simp [results, Tryz.results19, go_sem]) rfl ?_
    rw [ParseOut, HE.out]
    exact ⟨_, rfl, ownOps_nil _ _, ((((Below.refl _ _).alloc (Nat.le_refl _) _).alloc (by simp) _).alloc (by simp <;> omega) _).alloc (by simp <;> omega) _⟩
  · have HG := Lib.hid (parseF_go hbig)
    have hsz : s.size ≤ 262144 := by omega
    have h0 : ((s.size : Int) == 0) = false := by rw [beq_eq_false_iff_ne]; omega
    have hml : s.size ≤ maxLen := by unfold maxLen; omega
    obtain ⟨X, hX⟩ : ∃ X, X = (((w.alloc zeroC).alloc zeroF).alloc (.cells #[.string s, .int .i64 0, .int .i64 (-1)] 75)).alloc zeroC := ⟨_, rfl⟩
    have sX : X.heap.size = w.heap.size + 4 := by rw [hX]; simp
    have f0 : X.heap[w.heap.size]? = some zeroC := by
      rw [hX, Lib.alloc_old _ _ _ (by simp <;> omega), Lib.alloc_old _ _ _ (by simp <;> omega), Lib.alloc_old _ _ _ (by simp)]; exact heap_new w _
    have f1 : X.heap[w.heap.size + 1]? = some zeroF := by
      rw [hX, Lib.alloc_old _ _ _ (by simp <;> omega), Lib.alloc_old _ _ _ (by simp)]; have := heap_new (w.alloc zeroC) zeroF; simpa using this
    have f2 : X.heap[w.heap.size + 2]? = some (.cells #[.string s, .int .i64 0, .int .i64 (-1)] 75 (0, 0)) := by
      rw [hX, Lib.alloc_old _ _ _ (by simp)]; have := heap_new ((w.alloc zeroC).alloc zeroF) (.cells #[.string s, .int .i64 0, .int .i64 (-1)] 75); simpa using this
    have f3 : X.heap[w.heap.size + 3]? = some zeroC := by
      rw [hX]; have := heap_new (((w.alloc zeroC).alloc zeroF).alloc (.cells #[.string s, .int .i64 0, .int .i64 (-1)] 75)) zeroC; simpa using this
    have bX : Below w.heap.size w X := by rw [hX]; exact ((((Below.refl _ _).alloc (Nat.le_refl _) _).alloc (by simp) _).alloc (by simp <;> omega) _).alloc (by simp <;> omega) _
    have RX : RxAt X (w.heap.size + 2) s 0 (-1) := ⟨f2, Nat.zero_le _, hml⟩
    have HX := Lib.hid hX
    have BX := Lib.hid bX
    have F0 := Lib.hid f0
    have F1 := Lib.hid f1
    have F3 := Lib.hid f3
    have HN := Lib.hid (numberA_any (w.heap.size + 2) s 0 X RX)
    obtain ⟨Y, hY⟩ : ∃ Y, Y = Sp.change s.data.toList := ⟨_, rfl⟩
    rw [← hY] at HG
    have HY := Lib.hid hY
    have he0 : rst s 0 = s.data.toList := rfl
    have HE0 := Lib.hid he0
    clear hX f0 f1 f2 f3 bX RX hY he0
    go_enter Tryz.func19, Tryz.ntmps19
    go_wp2_with fail
    rw [← HX.out]
    refine HN.out.mono ?_
    rintro e w1 ⟨n, rfl, k1, J1, X1, r1, h1⟩
    rw [HE0.out] at h1
    have t1 := k1.kept _ _ _ _ F3.out (by decide)
    have g0 := Joins.unfrozen_of_block t1 0
    have y0 := (Lib.cell_of_heap t1 0).trans (show _ = some (Value.int .i64 0) from rfl)
    obtain ⟨V, hV⟩ : ∃ V, V = w1.setCell ⟨w.heap.size + 1 + 1 + 1, 0, none⟩ (.int .i64 n) := ⟨_, rfl⟩
    have t2 : V.heap[w.heap.size + 3]? = some (.cells #[.int .i64 n, .slice none 0 0] 24 (0, 0)) := by rw [hV]; exact Joins.block_setCell (i := 0) t1 (.int .i64 n)
    have KV : Keep (w.heap.size + 2) CX X V := by rw [hV]; exact (k1.more (by simp)).trans ((set_keep (b := w.heap.size + 2) (i := 0) t1 (by omega) (.int .i64 n)).more (by simp))
    have RV : RxAt V (w.heap.size + 2) s J1 X1 := ⟨by rw [hV]; exact (Below.heap_setCell _ _ _ _ (show w.heap.size + 2 ≠ w.heap.size + 1 + 1 + 1 by omega)).trans r1.1, r1.2⟩
    have HV := Lib.hid hV
    have HT := Lib.hid t2
    have HKV := Lib.hid KV
    have HRV := Lib.hid RV
    have H1 := Lib.hid h1
    have hsV : X.heap.size ≤ V.heap.size := KV.below.size
    clear r1 k1 t1 h1 hV t2 KV RV
    go_wp2_with fail
    rw [← HV.out]
    clear g0 y0
    go_loopg [6] (s.size + 1 - J1) (fun gk po wr => (∃ (j f : Nat) (ps : List (OpD × Value)) (oa : Option Addr) (oc : Nat), s.size + 1 ≤ gk + j ∧ RxAt wr (w.heap.size + 2) s j (-1) ∧ ps.length ≤ j ∧ s.size - j < f ∧ Hid (Y = Sp.mapn n (Sp.prl (ps.map (·.1)) j (Sp.ops f (rst s j)))) ∧ Keep (w.heap.size + 2) CX X wr ∧ wr.heap[w.heap.size + 3]? = some (.cells #[.int .i64 n, .slice oa ps.length oc] 24 (0, 0)) ∧ OwnP wr X.heap.size (.slice oa ps.length oc) ps) ∨
      (∃ m j : Nat, Y = .bad m ∧ RxAt wr (w.heap.size + 2) s j (m : Int) ∧ Keep (w.heap.size + 2) CX X wr))
    case atStart =>
      rcases H1.out with ⟨hX, i, hn, hJ⟩ | ⟨m, hn, hX⟩
      · have hJs := HRV.out.2.1
        refine .inl ⟨J1, (rst s J1).length + 1, [], none, 0, by omega, by rw [← hX]; exact HRV.out, Nat.zero_le _, by rw [rst_len]; omega, ?_, HKV.out, HT.out, OwnP.empty _ _⟩
        have he : rst s J1 = s.data.toList.drop i := by rw [hJ, Nat.zero_add]; rfl
        rw [HY.out, Sp.change_go hn, ← he, show J1 = i by omega]; rfl
      · exact .inr ⟨m, J1, by rw [HY.out, Sp.change_bad hn], by rw [hX, Nat.zero_add] at HRV; exact HRV.out, HKV.out⟩
    case round =>
      rcases hrel with ⟨j, f, ps, oa, oc, hgk, r, hpj, hf, hYY, kk, hc, hop⟩ | ⟨m, j, hbm, r, kk⟩
      · obtain ⟨d0, d1, d2⟩ := r.at
        have R := Lib.hid r
        have KK := Lib.hid kk
        have HCc := Lib.hid hc
        have HOP := Lib.hid hop
        have hjs := r.2.1
        have hsw := kk.below.size
        have qm : (-1 : Int) < 0 := by omega
        clear r kk hc hop
        cases f with
        | zero => omega
        | succ f =>
        by_cases hlt : j < s.size
        · have hlt' : (j : Int) < (s.size : Int) := by omega
          have HO := Lib.hid (rxOp_any (w.heap.size + 2) s j wr R.out hz)
          go_wp2_with fail
          refine HO.out.mono ?_
          rintro e w5 ⟨_, o, J, X', rfl, ⟨v, rfl, hv⟩, k5, r5, h5⟩
          obtain ⟨va, vc, rfl⟩ := own_slice hv
          have T5 := k5.kept _ _ _ _ HCc.out (by decide)
          have c5 : w5.cell? ⟨w.heap.size + 1 + 1 + 1, 1, none⟩ = some (.slice oa ps.length oc) := (Lib.cell_of_heap T5 1).trans rfl
          have f5 : w5.frozen? ⟨w.heap.size + 1 + 1 + 1, 1, none⟩ = false := Joins.unfrozen_of_block T5 1
          have hs5 : w.heap.size + 1 + 1 + 1 < w5.heap.size := lt_of_heap T5
          have hs5' : w.heap.size + 1 + 1 + 1 ≠ w5.heap.size := by omega
          have hww := k5.below.size
          have OP5 := HOP.out.keep k5 (by decide) (by decide)
          have hv5 := own_base hv (show X.heap.size ≤ wr.heap.size from hsw)
          obtain ⟨W6, hW6⟩ : ∃ W6, W6 = w5.alloc (.cells #[.int .i64 o.kind, .int .i64 o.n, .string o.text, .slice va o.attrs.length vc] 48) := ⟨_, rfl⟩
          have B6 : Below w5.heap.size w5 W6 := by rw [hW6]; exact below_box _ _
          have K6 : Keep w5.heap.size [] w5 W6 := keep_below B6 (Nat.le_refl _)
          have OP6 := Lib.hid (OP5.keep K6 (by simp) (by simp))
          have hv6 := Lib.hid (K6.own hv5 (by simp))
          have T6 := Lib.hid (K6.kept _ _ _ _ T5 (by simp))
          have s6 : W6.heap.size = w5.heap.size + 1 := by rw [hW6]; simp
          have R5 := Lib.hid r5
          have K5 := Lib.hid (KK.out.trans (k5.more (us := CX) (by simp)))
          have H5 := Lib.hid h5
          have HW6 := Lib.hid hW6
          have b6 := Lib.hid B6
          clear r5 h5 k5 T5 hv OP5 hv5 K6 B6 hW6
          have OL := OP6.out.1
          rw [HW6.out] at OL
          have hbase : X.heap.size ≤ (w5.alloc (.cells #[.int .i64 o.kind, .int .i64 o.n, .string o.text, .slice va o.attrs.length vc] 48)).heap.size := by rw [← HW6.out, s6]; omega
          have hpl : ps.length + 1 ≤ 1048577 := by omega
          go_wp2_with (at_builtin; refine append_op rfl (.tmp 43) (.tmp 45) rfl X.heap.size (.slice oa ps.length oc) ps.length (flatO ps) (o, .slice va o.attrs.length vc) rfl (by rw [World.size_alloc]; rfl) OL rfl (ps.length + 1) (flatO (ps ++ [(o, .slice va o.attrs.length vc)])) rfl (flatO_snoc _ _).symm hpl hbase ?_; intro u7 w7 o7 g7; obtain ⟨oa7, oc7, rfl⟩ := own_slice4 o7; rw [← HW6.out] at g7; have K7 := (show Keep X.heap.size [48] (W6.alloc (.cells #[.int .i64 o.kind, .int .i64 o.n, .string o.text, .slice va o.attrs.length vc] 48)) w7 from keep_row (OP6.out.1.alloc _) g7 (by simp) (by simp; omega)); have KB := keep_below (ts := []) (below_box W6 (.cells #[.int .i64 o.kind, .int .i64 o.n, .string o.text, .slice va o.attrs.length vc] 48)) (Nat.le_refl _); have T7 := K7.kept _ _ _ _ (KB.kept _ _ _ _ T6.out (by simp)) (by decide); have c7 := (Lib.cell_of_heap T7 1).trans (show _ = some (Value.slice oa ps.length oc) from rfl); have f7 := Joins.unfrozen_of_block T7 1; have HK7 := Lib.hid K7; have HKB := Lib.hid KB; have HT7 := Lib.hid T7; have HO7 := Lib.hid o7; clear o7 g7 K7 KB T7)
          have BB : Below X.heap.size w5 w7 := ((b6.out.mono (by omega)).trans ((below_box W6 _).mono (by omega))).trans HK7.out.below
          have OP7 : OwnP w7 X.heap.size (.slice oa7 (ps.length + 1) oc7) (ps ++ [(o, .slice va o.attrs.length vc)]) := ownP_mk (HO7.out) (fun q hq => HK7.out.own (HKB.out.own (OP6.out.2 q hq) (by simp)) (by decide)) (HK7.out.own (HKB.out.own hv6.out (by simp)) (by decide))
          have KS := set_keep (b := w.heap.size + 2) (i := 1) HT7.out (by omega) (.slice oa7 (ps.length + 1) oc7)
          have TS := Joins.block_setCell (i := 1) HT7.out (.slice oa7 (ps.length + 1) oc7)
          have RS : RxAt (w7.setCell ⟨w.heap.size + 3, 1, none⟩ (.slice oa7 (ps.length + 1) oc7)) (w.heap.size + 2) s J X' := ⟨(Below.heap_setCell _ _ _ _ (show w.heap.size + 2 ≠ w.heap.size + 3 by omega)).trans ((BB.block _ (by omega)).trans R5.out.1), R5.out.2⟩
          have KF := Lib.hid ((K5.out.later BB (by omega) (Nat.le_refl _)).trans (KS.more (us := CX) (by simp)))
          have OF := Lib.hid (OP7.keep KS (by decide) (by decide))
          have HTS := Lib.hid TS
          have HRS := Lib.hid RS
          have el : (ps ++ [(o, Value.slice va o.attrs.length vc)]).length = ps.length + 1 := by simp
          clear BB OP7 KS TS RS
          go_roundg (gk - 1)
          case measure => omega
          case rel =>
            rcases H5.out with ⟨rfl, h32, n', hop', rfl⟩ | ⟨h32, m, hop', rfl⟩ | ⟨h32, rfl⟩
            · refine .inl ⟨_, f, ps ++ [(o, .slice va o.attrs.length vc)], oa7, oc7, by omega, HRS.out, by rw [el]; omega, by have := R5.out.2.1; omega, ?_, KF.out, by rw [el]; exact HTS.out, by rw [el]; exact OF.out⟩
              refine hYY.out.trans ?_
              rw [Sp.ops_go f h32 (by rw [rst_drop]; exact hop'), Sp.prl_prl, rst_drop, List.map_append, show j + (1 + n') = j + 1 + n' by omega]; rfl
            · refine .inr ⟨j + 1 + m, _, ?_, HRS.out, KF.out⟩
              refine hYY.out.trans ?_
              rw [Sp.ops_bad1 f h32 (by rw [rst_drop]; exact hop')]
              simp only [Sp.prl, Sp.mapn]; congr 1; omega
            · refine .inr ⟨j, _, ?_, HRS.out, KF.out⟩
              refine hYY.out.trans ?_
              rw [Sp.ops_bad0 f (by rw [rst_cons hlt]; simp) h32]
              simp only [Sp.prl, Sp.mapn]; rfl
        · have hlt' : ¬ (j : Int) < (s.size : Int) := by omega
          have hL := Lib.hid (show Y = .ok (n, ps.map (·.1)) j by
            refine hYY.out.trans ?_
            rw [rst_nil (by omega), Sp.ops_nil]
            simp [Sp.prl, Sp.mapn])
          have hps : ps.length = (ps.map (·.1)).length := by simp
          have OV := Lib.hid (show OwnOps wr X.heap.size (.slice oa (ps.map (·.1)).length oc) (ps.map (·.1)) from ⟨ps, rfl, by rw [← hps]; exact HOP.out⟩)
          rw [hps] at HCc
          clear hYY HOP
          generalize ps.map (·.1) = L at *
          have HPt := Lib.hid (Sp.change_parts (HY.out.symm.trans hL.out))
          have hoz : OSized L := fun o ho => by
            obtain ⟨h1, h2⟩ := HPt.out.2 o ho
            have hl : s.data.toList.length = s.size := rfl
            refine ⟨by unfold maxLen; omega, fun y hy => ?_⟩
            have := h2 y hy
            unfold maxLen; omega
          have hts : TSmall L := fun o ho => by
            have := (HPt.out.2 o ho).1
            have hl : s.data.toList.length = s.size := rfl
            omega
          have HOZ := Lib.hid hoz
          have HTS := Lib.hid hts
          have HR := Lib.hid (refRight_any n (.slice oa L.length oc) L wr OV.out.row hoz hts)
          have c0 := (Lib.cell_of_heap HCc.out 0).trans (show _ = some (Value.int .i64 n) from rfl)
          have c1 := (Lib.cell_of_heap HCc.out 1).trans (show _ = some (Value.slice oa L.length oc) from rfl)
          have hlc := lt_of_heap HCc.out
          have HE1 := Lib.hid (show Sp.parseF s.data.toList = Sp.parseR (.ok (n, L) j) by rw [HG.out, hL.out])
          have Bw := Lib.hid (BX.out.trans (KK.out.below.mono (by omega)))
          clear hoz hts
          by_cases he : toE n L = 0
          · rw [he] at HR
            have HE := Lib.hid he
            clear he
            go_wp2_with fail
            refine HR.out.mono ?_
            rintro e w2 ⟨rfl, b2⟩
            have T2 := (b2.block _ hlc).trans HCc.out
            have c0' := (Lib.cell_of_heap T2 0).trans (show _ = some (Value.int .i64 n) from rfl)
            have c1' := (Lib.cell_of_heap T2 1).trans (show _ = some (Value.slice oa L.length oc) from rfl)
            have OV2 := Lib.hid (OV.out.below b2)
            have HI := Lib.hid (refIs_any n (.slice oa L.length oc) L w2 (OV.out.row.below b2) HOZ.out HTS.out)
            have HCc2 := Lib.hid T2
            have B2 := Lib.hid b2
            have hs2 := b2.size
            clear T2 b2 c0 c1
            by_cases hn : L = norm L
            · have hib : isB n L = true := decide_eq_true ⟨HE.out, hn⟩
              rw [hib] at HI
              have HE2 := Lib.hid (HE1.out.trans (parseR_ok HE.out hn))
              clear hib hn
              go_wp2_with fail
              refine HI.out.mono ?_
              rintro e w3 ⟨rfl, b3⟩
              have hlc2 := lt_of_heap HCc2.out
              have T3 := (b3.block _ hlc2).trans HCc2.out
              have c0 := (Lib.cell_of_heap T3 0).trans (show _ = some (Value.int .i64 n) from rfl)
              have c1 := (Lib.cell_of_heap T3 1).trans (show _ = some (Value.slice oa L.length oc) from rfl)
              have b23 := B2.out.trans (b3.mono hs2)
              have f0 := (b23.block _ (by omega)).trans ((KK.out.below.block _ (by omega)).trans F0.out)
              have f1 := (b23.block _ (by omega)).trans ((KK.out.below.block _ (by omega)).trans F1.out)
              have e0 := (Lib.cell_of_heap f0 0).trans (show _ = some (Value.int .i64 0) from rfl)
              have e1 := (Lib.cell_of_heap f0 1).trans (show _ = some (Value.slice none 0 0) from rfl)
              have g0 := Joins.unfrozen_of_block f0 0
              have g1 := Joins.unfrozen_of_block f0 1
              have e2 := (Lib.cell_of_heap f1 0).trans (show _ = some (Value.int .i64 0) from rfl)
              have e3 := (Lib.cell_of_heap f1 1).trans (show _ = some (Value.int .i64 0) from rfl)
              have g2 := Joins.unfrozen_of_block f1 0
              have g3 := Joins.unfrozen_of_block f1 1
              have hl0 := lt_of_heap f0
              have hl1 := lt_of_heap f1
              have KZ := Lib.hid (((set_keep (b := w.heap.size) (i := 0) f0 (Nat.le_refl _) (.int .i64 n)).trans (set_keep (b := w.heap.size) (i := 1) (Joins.block_setCell (i := 0) f0 (.int .i64 n)) (Nat.le_refl _) (.slice oa L.length oc))))
              have f1' : ((w3.setCell ⟨w.heap.size, 0, none⟩ (.int .i64 n)).setCell ⟨w.heap.size, 1, none⟩ (.slice oa L.length oc)).heap[w.heap.size + 1]? = some zeroF := by rw [Below.heap_setCell _ _ _ _ (by simp), Below.heap_setCell _ _ _ _ (by simp)]; exact f1
              have KZ2 := Lib.hid (((set_keep (b := w.heap.size) (i := 0) f1' (Nat.le_succ _) (.int .i64 0)).trans (set_keep (b := w.heap.size) (i := 1) (Joins.block_setCell (i := 0) f1' (.int .i64 0)) (Nat.le_succ _) (.int .i64 0))))
              have O3 := Lib.hid (OV2.out.below b3)
              have B3 := Lib.hid (Bw.out.trans (b23.mono (by omega)))
              clear T3 b3 b23 f0 f1 f1' c0' c1'
              go_wp2_with fail
              refine bodyPost_ret (v := .tuple #[chAgg n (.slice oa L.length oc), .agg #[.int .i64 0, .int .i64 0]]) (by simp [results, Tryz.results19, go_sem, e0, e1, e2, e3]) rfl ?_
              rw [ParseOut, HE2.out]
              obtain ⟨ps', hps', hp'⟩ := O3.out
              exact ⟨_, rfl, ⟨ps', hps', ((hp'.keep KZ.out (by decide) (by decide)).keep KZ2.out (by decide) (by decide)).base (by omega)⟩, set2_below (set2_below B3.out (Nat.le_refl _) _ _) (Nat.le_succ _) _ _⟩
            · have hib : isB n L = false := decide_eq_false fun h => hn h.2
              rw [hib] at HI
              have HE2 := Lib.hid (HE1.out.trans (parseR_odd HE.out hn))
              clear hib hn
              go_wp2_with fail
              refine HI.out.mono ?_
              rintro e w3 ⟨rfl, b3⟩
              have b23 := B2.out.trans (b3.mono hs2)
              have f0 := (b23.block _ (by omega)).trans ((KK.out.below.block _ (by omega)).trans F0.out)
              have f1 := (b23.block _ (by omega)).trans ((KK.out.below.block _ (by omega)).trans F1.out)
              have e0 := (Lib.cell_of_heap f0 0).trans (show _ = some (Value.int .i64 0) from rfl)
              have e1 := (Lib.cell_of_heap f0 1).trans (show _ = some (Value.slice none 0 0) from rfl)
              have g0 := Joins.unfrozen_of_block f0 0
              have g1 := Joins.unfrozen_of_block f0 1
              have e2 := (Lib.cell_of_heap f1 0).trans (show _ = some (Value.int .i64 0) from rfl)
              have e3 := (Lib.cell_of_heap f1 1).trans (show _ = some (Value.int .i64 0) from rfl)
              have g2 := Joins.unfrozen_of_block f1 0
              have g3 := Joins.unfrozen_of_block f1 1
              have hl0 := lt_of_heap f0
              have hl1 := lt_of_heap f1
              have B3 := Lib.hid (Bw.out.trans (b23.mono (by omega)))
              clear b3 b23 f0 f1 c0' c1'
              go_wp2_with fail
              refine bodyPost_ret (v := .tuple #[chAgg 0 (.slice none 0 0), .agg #[.int .i64 40, .int .i64 (-1)]]) (by simp [results, Tryz.results19, go_sem, e0, e1, e2, e3]) rfl ?_
              rw [ParseOut, HE2.out]
              exact ⟨_, rfl, ownOps_nil _ _, set2_below (set2_below B3.out (Nat.le_refl _) _ _) (Nat.le_succ _) _ _⟩
          · have HE2 := Lib.hid (HE1.out.trans (parseR_err he))
            have hb : (toE n L == 0) = false := by rw [beq_eq_false_iff_ne]; exact he
            clear he
            go_wp2_with fail
            refine HR.out.mono ?_
            rintro e w2 ⟨rfl, b2⟩
            have f0 := (b2.block _ (by omega)).trans ((KK.out.below.block _ (by omega)).trans F0.out)
            have f1 := (b2.block _ (by omega)).trans ((KK.out.below.block _ (by omega)).trans F1.out)
            have e0 := (Lib.cell_of_heap f0 0).trans (show _ = some (Value.int .i64 0) from rfl)
            have e1 := (Lib.cell_of_heap f0 1).trans (show _ = some (Value.slice none 0 0) from rfl)
            have g0 := Joins.unfrozen_of_block f0 0
            have g1 := Joins.unfrozen_of_block f0 1
            have e2 := (Lib.cell_of_heap f1 0).trans (show _ = some (Value.int .i64 0) from rfl)
            have e3 := (Lib.cell_of_heap f1 1).trans (show _ = some (Value.int .i64 0) from rfl)
            have g2 := Joins.unfrozen_of_block f1 0
            have g3 := Joins.unfrozen_of_block f1 1
            have hl0 := lt_of_heap f0
            have hl1 := lt_of_heap f1
            have B3 := Lib.hid (Bw.out.trans (b2.mono (by omega)))
            clear b2 f0 f1 c0 c1
            go_wp2_with fail
            refine bodyPost_ret (v := .tuple #[chAgg 0 (.slice none 0 0), .agg #[.int .i64 (toE n L), .int .i64 (-1)]]) (by simp [results, Tryz.results19, go_sem, e0, e1, e2, e3]) rfl ?_
            rw [ParseOut, HE2.out]
            exact ⟨_, rfl, ownOps_nil _ _, set2_below (set2_below B3.out (Nat.le_refl _) _ _) (Nat.le_succ _) _ _⟩
      · obtain ⟨d0, d1, d2⟩ := r.at
        have HE := Lib.hid (show Sp.parseF s.data.toList = ⟨40, m, 0, []⟩ by rw [HG.out, hbm]; rfl)
        have q0 : ¬ (m : Int) < 0 := by omega
        have q1 : (0 : Int) ≤ (m : Int) := by omega
        have f0 := (kk.below.block _ (by omega)).trans F0.out
        have f1 := (kk.below.block _ (by omega)).trans F1.out
        have e0 := (Lib.cell_of_heap f0 0).trans (show _ = some (Value.int .i64 0) from rfl)
        have e1 := (Lib.cell_of_heap f0 1).trans (show _ = some (Value.slice none 0 0) from rfl)
        have g0 := Joins.unfrozen_of_block f0 0
        have g1 := Joins.unfrozen_of_block f0 1
        have e2 := (Lib.cell_of_heap f1 0).trans (show _ = some (Value.int .i64 0) from rfl)
        have e3 := (Lib.cell_of_heap f1 1).trans (show _ = some (Value.int .i64 0) from rfl)
        have g2 := Joins.unfrozen_of_block f1 0
        have g3 := Joins.unfrozen_of_block f1 1
        have hl0 := lt_of_heap f0
        have hl1 := lt_of_heap f1
        have B1 := Lib.hid (BX.out.trans (kk.below.mono (by omega)))
        generalize (m : Int) = xx at *
        clear r kk hbm f0 f1
        go_wp2_with fail
        go_region
        go_wp2_with fail
        refine bodyPost_ret (v := .tuple #[chAgg 0 (.slice none 0 0), .agg #[.int .i64 40, .int .i64 xx]]) (by simp [results, Tryz.results19, go_sem, e0, e1, e2, e3]) rfl ?_
        rw [ParseOut, HE.out]
        exact ⟨_, rfl, ownOps_nil _ _, set2_below (set2_below B1.out.drew (Nat.le_refl _) _ _) (Nat.le_succ _) _ _⟩
end Go.Proofs.YtacgkbdldbppjaaGreatDoor

/- The law SpellParses, walked. -/
namespace Go.Proofs.YtacgkbdldbppjaaGreatDoor
open Go.RowKit Ch

/-- Boxes of whatever type. -/
def BoxT (w : World) (L : List (Nat × Array Value × TypeId)) : Prop := ∀ x ∈ L, w.heap[x.1]? = some (.cells x.2.1 x.2.2 (0, 0))
theorem BoxT.below {w w' : World} {L : List (Nat × Array Value × TypeId)} (h : BoxT w L) (hb : Below w.heap.size w w') : BoxT w' L := fun x hx => (hb.block _ (lt_of_heap (h x hx))).trans (h x hx)
theorem BoxT.span {w w' : World} {lo hi : Nat} {L : List (Nat × Array Value × TypeId)} (h : BoxT w L) (hb : Span lo hi w w') (ho : ∀ x ∈ L, x.1 < lo ∨ hi ≤ x.1) : BoxT w' L := fun x hx => by
  have hl := lt_of_heap (h x hx)
  rcases ho x hx with h1 | h1
  · exact (hb.below.block _ h1).trans (h x hx)
  · exact (hb.block _ hl h1).trans (h x hx)
theorem BoxT.more {w : World} {L : List (Nat × Array Value × TypeId)} (h : BoxT w L) (cs : Array Value) (t : TypeId) : BoxT (w.alloc (.cells cs t)) (L ++ [(w.heap.size, cs, t)]) := fun x hx => by
  rcases List.mem_append.1 hx with hx | hx
  · exact (h.below (below_box w _)) x hx
  · rw [List.mem_singleton.1 hx]; exact heap_new _ _
theorem BoxT.nil (w : World) : BoxT w [] := fun x hx => by cases hx
theorem BoxT.at {w : World} {L : List (Nat × Array Value × TypeId)} (h : BoxT w L) {b : Nat} {u v : Value} {t : TypeId} (hx : (b, #[u, v], t) ∈ L) : w.cell? ⟨b, 0, none⟩ = some u ∧ w.cell? ⟨b, 1, none⟩ = some v ∧ b < w.heap.size :=
  ⟨(Lib.cell_of_heap (h _ hx) 0).trans rfl, (Lib.cell_of_heap (h _ hx) 1).trans rfl, lt_of_heap (h _ hx)⟩

theorem smallO_nil : SmallO [] := ⟨Nat.zero_le _, fun o ho => by cases ho⟩
theorem parse_small2 (l : List UInt8) : SmallO (Sp.parseF l).ops := by
  unfold Sp.parseF
  split
  · exact smallO_nil
  · cases h : Sp.change l with
    | bad k => exact smallO_nil
    | ok c n =>
      by_cases he : toE c.1 c.2 = 0
      · by_cases hn : c.2 = norm c.2
        · rw [parseR_ok he hn]; exact smallO_ok ((toE_iff _ _).1 he)
        · rw [parseR_odd he hn]; exact smallO_nil
      · rw [parseR_err he]; exact smallO_nil

set_option maxRecDepth 100000 in
set_option maxHeartbeats 8000000 in
theorem parses_walk4 (s : ByteArray) (p : Int) (w : World) (hz : s.size ≤ 1048576) (hp0 : -9223372036854775808 ≤ p) (hp1 : p ≤ 9223372036854775807) (hs : Std w) :
    Calls Tryz.prog 4 #[.string s, .int .i64 p] w (OutB w true) := by
  have HS := Lib.hid hs
  have HAW := Lib.hid (awake4_any w hs.pow hs.syn hs.pl hs.sl)
  have hml : s.size ≤ maxLen := by unfold maxLen; omega
  have hz2 : s.size ≤ 140737488355327 := by omega
  have HR := Lib.hid (show ∀ W, Calls Tryz.prog 16 #[.string s, .int .i64 p] W (SpReadOut W s p) from fun W => spRead_any s p W hz2 hp0 hp1)
  have HQ := Lib.hid (show ∀ W, Calls Tryz.prog 17 #[.string s, .int .i64 p] W (SpReadOut W s p) from fun W => refRead_any s p W hz)
  have HP := Lib.hid (show ∀ W, Std W → Calls Tryz.prog 18 #[.string s] W (ParseOut W s) from fun W h => parse_any s W hml h.syn h.sl)
  have HPr := Lib.hid (show ∀ W, Calls Tryz.prog 19 #[.string s] W (ParseOut W s) from fun W => refParse_any s W hz)
  have HSM := Lib.hid (parse_small2 s.data.toList)
  unfold SpReadOut at HR HQ
  unfold ParseOut at HP HPr
  generalize Sp.readF s.data.toList p = RR at *
  generalize Sp.parseF s.data.toList = PP at *
  obtain ⟨rc, ra, rt, re⟩ := RR
  obtain ⟨pc, pa, pf, L⟩ := PP
  simp only at HR HQ HP HPr HSM
  clear hs hml hz2
  go_enter Tryz.func4, Tryz.ntmps4
  go_wp2_with fail
  refine HAW.out.mono ?_
  rintro e w1 ⟨rfl, h⟩
  have B1 := Lib.hid h
  clear h
  go_wp2_with fail
  refine (HR.out _).mono ?_
  rintro e w2 ⟨rfl, h⟩
  have B2 := Lib.hid (B1.out.trans (h.mono B1.out.size))
  clear h
  have K2 := Lib.hid ((BoxT.nil w2).more #[.int .i64 rc, .int .i64 ra] 34)
  obtain ⟨X2, hX2⟩ : ∃ X, X = w2.alloc (.cells #[.int .i64 rc, .int .i64 ra] 34) := ⟨_, rfl⟩
  rw [← hX2] at K2
  have BX2 := Lib.hid (B2.out.trans ((show Below w2.heap.size w2 X2 by rw [hX2]; exact below_box _ _).mono B2.out.size))
  have HX2 := Lib.hid hX2
  clear hX2
  go_wp2_with fail
  rw [← HX2.out]
  refine (HQ.out _).mono ?_
  rintro e w3 ⟨rfl, h⟩
  have B3 := Lib.hid (BX2.out.trans (h.mono BX2.out.size))
  have K3 := Lib.hid ((K2.out.below h).more #[.int .i64 rc, .int .i64 ra] 34)
  obtain ⟨X3, hX3⟩ : ∃ X, X = w3.alloc (.cells #[.int .i64 rc, .int .i64 ra] 34) := ⟨_, rfl⟩
  have hs23 := h.size
  have sX2 : X2.heap.size = w2.heap.size + 1 := by rw [HX2.out]; simp
  have KC := K3.out
  obtain ⟨a0, a1, a2⟩ := KC.at (b := w2.heap.size) (u := .int .i64 rc) (v := .int .i64 ra) (t := 34) (by simp)
  obtain ⟨b0, b1, b2⟩ := KC.at (b := w3.heap.size) (u := .int .i64 rc) (v := .int .i64 ra) (t := 34) (by simp)
  rw [← hX3] at K3
  have BX3 := Lib.hid (B3.out.trans ((show Below w3.heap.size w3 X3 by rw [hX3]; exact below_box _ _).mono B3.out.size))
  have HX3 := Lib.hid hX3
  have t1 : ((Sp.ba rt).toList == (Sp.ba rt).toList) = true := by simp
  have t2 : (re == re) = true := by simp
  have t3 : (rc == rc) = true := by simp
  have t4 : (ra == ra) = true := by simp
  clear h hX3 KC
  go_wp2_with fail
  clear a0 a1 a2 b0 b1 b2
  have sX3 : X3.heap.size = w3.heap.size + 1 := by rw [HX3.out]; simp
  rw [← HX3.out]
  refine (HP.out _ (HS.out.keep BX3.out)).mono ?_
  rintro e w4 ⟨v4, rfl, ⟨ps4, hps, hop⟩, h⟩
  obtain ⟨va4, vc4, rfl⟩ := own_slice4 hop.1
  have HPS4 := Lib.hid hps
  have HOP4 := Lib.hid hop
  have BW4 := Lib.hid h
  have B4 := Lib.hid (BX3.out.trans (h.mono BX3.out.size))
  have K4 := Lib.hid (((K3.out.below h).more #[.int .i64 pf, .slice va4 ps4.length vc4] 24).more #[.int .i64 pc, .int .i64 pa] 34)
  obtain ⟨X4, hX4⟩ : ∃ X, X = (w4.alloc (.cells #[.int .i64 pf, .slice va4 ps4.length vc4] 24)).alloc (.cells #[.int .i64 pc, .int .i64 pa] 34) := ⟨_, rfl⟩
  rw [← hX4] at K4
  have hs34 := h.size
  have sX4 : X4.heap.size = w4.heap.size + 2 := by rw [hX4]; simp
  have bX4 : Below w4.heap.size w4 X4 := by rw [hX4]; exact ((Below.refl _ _).alloc (Nat.le_refl _) _).alloc (by simp) _
  have HBX4 := Lib.hid bX4
  have BX4 := Lib.hid (B4.out.trans (bX4.mono B4.out.size))
  have HX4 := Lib.hid hX4
  clear h hX4 bX4 hps hop
  go_wp2_with fail
  rw [← HX4.out]
  refine (HP.out _ (HS.out.keep BX4.out)).mono ?_
  rintro e w5 ⟨v5, rfl, ⟨ps5, hps, hop⟩, h⟩
  obtain ⟨va5, vc5, rfl⟩ := own_slice4 hop.1
  have HPS5 := Lib.hid hps
  have HOP5 := Lib.hid hop
  have BW5 := Lib.hid h
  have B5 := Lib.hid (BX4.out.trans (h.mono BX4.out.size))
  have K5 := Lib.hid (((K4.out.below h).more #[.int .i64 pf, .slice va5 ps5.length vc5] 24).more #[.int .i64 pc, .int .i64 pa] 34)
  obtain ⟨X5, hX5⟩ : ∃ X, X = (w5.alloc (.cells #[.int .i64 pf, .slice va5 ps5.length vc5] 24)).alloc (.cells #[.int .i64 pc, .int .i64 pa] 34) := ⟨_, rfl⟩
  rw [← hX5] at K5
  have hs45 := h.size
  have sX5 : X5.heap.size = w5.heap.size + 2 := by rw [hX5]; simp
  have bX5 : Below w5.heap.size w5 X5 := by rw [hX5]; exact ((Below.refl _ _).alloc (Nat.le_refl _) _).alloc (by simp) _
  have HBX5 := Lib.hid bX5
  have BX5 := Lib.hid (B5.out.trans (bX5.mono B5.out.size))
  have HX5 := Lib.hid hX5
  clear h hX5 bX5 hps hop
  go_wp2_with fail
  rw [← HX5.out]
  refine (HPr.out _).mono ?_
  rintro e w6 ⟨v6, rfl, ⟨ps6, hps, hop⟩, h⟩
  obtain ⟨va6, vc6, rfl⟩ := own_slice4 hop.1
  have HPS6 := Lib.hid hps
  have HOP6 := Lib.hid hop
  have BW6 := Lib.hid h
  have B6 := Lib.hid (BX5.out.trans (h.mono BX5.out.size))
  have K6 := Lib.hid (((K5.out.below h).more #[.int .i64 pf, .slice va6 ps6.length vc6] 24).more #[.int .i64 pc, .int .i64 pa] 34)
  obtain ⟨X6, hX6⟩ : ∃ X, X = (w6.alloc (.cells #[.int .i64 pf, .slice va6 ps6.length vc6] 24)).alloc (.cells #[.int .i64 pc, .int .i64 pa] 34) := ⟨_, rfl⟩
  rw [← hX6] at K6
  have hs56 := h.size
  have sX6 : X6.heap.size = w6.heap.size + 2 := by rw [hX6]; simp
  have bX6 : Below w6.heap.size w6 X6 := by rw [hX6]; exact ((Below.refl _ _).alloc (Nat.le_refl _) _).alloc (by simp) _
  have HBX6 := Lib.hid bX6
  have BX6 := Lib.hid (B6.out.trans (bX6.mono B6.out.size))
  have HX6 := Lib.hid hX6
  clear h hX6 bX6 hps hop
  have KC6 := K5.out.below BW6.out
  obtain ⟨a0, a1, a2⟩ := KC6.at (b := w4.heap.size) (u := .int .i64 pf) (v := .slice va4 ps4.length vc4) (t := 24) (by simp)
  have hnn1 : w4.heap.size ≠ w6.heap.size := by omega
  have hnn2 : w4.heap.size ≠ w6.heap.size + 1 := by omega
  clear KC6
  have O4 : OwnP X6 X3.heap.size (.slice va4 ps4.length vc4) ps4 := by
    have o1 := HOP4.out.keep (keep_below (ts := []) HBX4.out (Nat.le_refl _)) (by simp) (by simp)
    have o2 := o1.keep (keep_below (ts := []) BW5.out (Nat.le_refl _)) (by simp) (by simp)
    have o3 := o2.keep (keep_below (ts := []) HBX5.out (Nat.le_refl _)) (by simp) (by simp)
    have o4 := o3.keep (keep_below (ts := []) BW6.out (Nat.le_refl _)) (by simp) (by simp)
    exact o4.keep (keep_below (ts := []) HBX6.out (Nat.le_refl _)) (by simp) (by simp)
  have O5 : OwnP X6 X4.heap.size (.slice va5 ps5.length vc5) ps5 := by
    have o3 := HOP5.out.keep (keep_below (ts := []) HBX5.out (Nat.le_refl _)) (by simp) (by simp)
    have o4 := o3.keep (keep_below (ts := []) BW6.out (Nat.le_refl _)) (by simp) (by simp)
    exact o4.keep (keep_below (ts := []) HBX6.out (Nat.le_refl _)) (by simp) (by simp)
  have O6 : OwnP X6 X5.heap.size (.slice va6 ps6.length vc6) ps6 := HOP6.out.keep (keep_below (ts := []) HBX6.out (Nat.le_refl _)) (by simp) (by simp)
  have HS1 := Lib.hid (refSameCh_any pf pf _ _ _ _ X6 O4.row O6.row)
  rw [HPS4.out, HPS6.out, show sameCh pf pf L L = true from decide_eq_true ⟨rfl, rfl⟩] at HS1
  have HO4 := Lib.hid O4
  have HO5 := Lib.hid O5
  have HO6 := Lib.hid O6
  clear O4 O5 O6
  go_wp2_with fail
  rw [← HX6.out]
  refine HS1.out.mono ?_
  rintro e w7 ⟨rfl, h⟩
  have B7 := Lib.hid (BX6.out.trans (h.mono BX6.out.size))
  have K7 := Lib.hid (K6.out.below h)
  have hs67 := h.size
  obtain ⟨c0, c1, c2⟩ := K7.out.at (b := w4.heap.size) (u := .int .i64 pf) (v := .slice va4 ps4.length vc4) (t := 24) (by simp)
  have O4 := HO4.out.keep (keep_below (ts := []) h (Nat.le_refl _)) (by simp) (by simp)
  have O5 := Lib.hid (HO5.out.keep (keep_below (ts := []) h (Nat.le_refl _)) (by simp) (by simp))
  have O6 := Lib.hid (HO6.out.keep (keep_below (ts := []) h (Nat.le_refl _)) (by simp) (by simp))
  have HSp := Lib.hid (spoilC_any pf (.slice va4 ps4.length vc4) X3.heap.size w4.heap.size ps4 w7 O4 (by rw [HPS4.out]; exact HSM.out) (fun j hj => (HOP4.out.1.lt j hj).2) (fun q hq j hj => ((HOP4.out.2 q hq).lt j hj).2) (by omega) (by omega))
  clear O4 h a0 a1 a2
  go_wp2_with fail
  refine HSp.out.mono ?_
  rintro e w8 ⟨N, rfl, hN1, hN2, hsp⟩
  have B8 := Lib.hid (B7.out.trans (hsp.below.mono (by have := BX3.out.size; omega)))
  have K8 := Lib.hid (K7.out.span hsp (by
    intro x hx
    simp only [List.mem_append, List.mem_cons, List.not_mem_nil, or_false, false_or] at hx
    rcases hx with ((((((((rfl | rfl) | rfl) | rfl) | rfl) | rfl) | rfl) | rfl)) <;> (simp only [World.size_alloc]; omega)))
  have hs78 := hsp.below.size
  obtain ⟨d0, d1, d2⟩ := K8.out.at (b := w5.heap.size) (u := .int .i64 pf) (v := .slice va5 ps5.length vc5) (t := 24) (by simp)
  obtain ⟨e0, e1, e2⟩ := K8.out.at (b := w6.heap.size) (u := .int .i64 pf) (v := .slice va6 ps6.length vc6) (t := 24) (by simp)
  have HS2 := Lib.hid (refSameCh_any pf pf _ _ _ _ w8 (O5.out.span hsp (by omega)).row (O6.out.span hsp (by omega)).row)
  rw [HPS5.out, HPS6.out, show sameCh pf pf L L = true from decide_eq_true ⟨rfl, rfl⟩] at HS2
  clear hsp c0 c1 c2
  go_wp2_with fail
  refine HS2.out.mono ?_
  rintro e w9 ⟨rfl, h⟩
  have B9 := Lib.hid (B8.out.trans (h.mono B8.out.size))
  have K9 := Lib.hid (K8.out.below h)
  obtain ⟨f0, f1, f2⟩ := K9.out.at (b := w4.heap.size + 1) (u := .int .i64 pc) (v := .int .i64 pa) (t := 34) (by simp)
  obtain ⟨g0, g1, g2⟩ := K9.out.at (b := w5.heap.size + 1) (u := .int .i64 pc) (v := .int .i64 pa) (t := 34) (by simp)
  obtain ⟨h0, h1, h2⟩ := K9.out.at (b := w6.heap.size + 1) (u := .int .i64 pc) (v := .int .i64 pa) (t := 34) (by simp)
  have u1 : (pc == pc) = true := by simp
  have u2 : (pa == pa) = true := by simp
  clear h d0 d1 d2 e0 e1 e2
  go_wp2_with fail
  go_ret
  exact ⟨rfl, B9.out⟩
end Go.Proofs.YtacgkbdldbppjaaGreatDoor

/- The law SpellParses (the form with a bound on the input's bulk): its row and its card, out of the walk (parses_walk4): of every input of bulk at most 1048576 the call returns true, and each argument reads as it did. -/
namespace Go.Proofs.YtacgkbdldbppjaaGreatDoor.spellParsesUpto
open Go.ChangeShapes Go.WideShapes Go.ChangeAt Go.RowKit Go.WideMaps Go.WideElems
open Go.ChangeMaps (open_string shut_string)

theorem own : ownKnob Tryz.prog.godebug = none := by kernel_rfl
theorem pow_eq : (Rows.laid_internal_strconv_uint64pow10 : DataW Unit) = Lib.tabData .u64 Lib.pow10Tab := by kernel_rfl
set_option maxRecDepth 100000 in
theorem contract (H : Type) (enc : TypeId × Value → H) (W : World) (base : Nat) (args : Array Value) (ds gs : List (DataW H)) (before : List MemPlace)
    (hval : ∀ (j : Nat) t v, Tryz.f4.params[j]? = some t → args[j]? = some v → Value.okWide Tryz.prog W .any base t v)
    (hW : DataW.Whole enc Tryz.prog Tryz.f4.params.toList Rows.spellParsesSpec.vars false W args.toList ds gs before) (hl : laidMetH Tryz.prog Rows.spellParsesUptoRow.laid W) (hk : Rows.uptoSmall H (ds ++ gs) = true) :
    Calls Tryz.prog 4 args W fun e W' => ∃ v, e = .returned v ∧ Rows.spellParsesSpec.post enc Tryz.prog Tryz.f4 false true false false W args v W' := by
  have hlaid : laidMet Tryz.prog Rows.spellParsesUptoRow.laid W := by rw [← MakeChecks.laidMetH_plain Tryz.prog Rows.spellParsesUptoRow.laid W (by rfl)]; exact hl
  have hstd : Std W := std_of (n := "*errors.errorString") hlaid (by rw [← pow_eq]; exact (.tail _ (.tail _ (.head _)))) (by exact (.tail _ (.tail _ (.tail _ (.tail _ (.head _))))))
  have hW' := hW
  have hlt := hW.lt
  obtain ⟨p, q, hA0, hV, rfl, hfz, hnd⟩ := hW
  have hA : DataW.TrodAll enc Tryz.prog W 0 (fun _ => true) true Tryz.f4.params.toList args.toList ds p := hA0
  rw [Tryz.params4] at hA hval
  obtain ⟨v0, vs0, d0, ds0, p0, q0, hargs, rfl, rfl, h0, r0⟩ := trodAll_cons hA
  obtain ⟨v1, vs1, d1, ds1, p1, q1, rfl, rfl, rfl, h1, r1⟩ := trodAll_cons r0
  obtain ⟨rfl, rfl, rfl⟩ := trodAll_nil r1
  obtain rfl : args = #[v0, v1] := by cases args; simp_all
  obtain ⟨rfl, rfl⟩ := trodVars_none hV
  have hb0 := of_decide_eq_true hk
  simp only [List.append_nil, Rows.uptoBulkAll] at hb0
  have k0 := h0
  obtain ⟨x0, rfl, rfl, rfl, z0⟩ := open_string Tryz.underlying9 (hval 0 9 v0 rfl rfl) h0
  have u0 : x0.size ≤ 1048576 := by
    have e : x0.data.toList.length = x0.size := by simp
    simp only [Rows.uptoBulk] at hb0
    omega
  have k1 := h1
  obtain ⟨n1, rfl, e1, u1⟩ := open_intC (hval 1 3 v1 rfl rfl) h1
  clear hA0
  refine (parses_walk4 x0 n1 W u0 e1 u1 hstd).mono fun e W' ⟨he, hb⟩ => ?_
  subst he
  exact ⟨_, rfl, _, _, _, [], _, [], hW', trodAll_mk1 (shut_bool Tryz.underlying4 _), trodAll_cons_mk (Below.trod laidOutC (by kernel_rfl) (of_decide_eq_true (by kernel_rfl)) k0 hb (fun y hy => hlt y (by first | (simp; done) | (cases hy)))) (trodAll_cons_mk (Below.trod laidOutC (by kernel_rfl) (of_decide_eq_true (by kernel_rfl)) k1 hb (fun y hy => hlt y (by first | (simp [hy]; done) | (cases hy)))) (trodAll_mk0)), rfl, hb.frame _, fun h => by cases h⟩

theorem laid_met (os : Os) : laidMet Tryz.prog Rows.spellParsesUptoRow.laid ((World.laidAll Tryz.prog os Rows.spellParsesUptoRow.laid).forCall (fun _ _ => 0) ⟨#[], #[.string ⟨#[]⟩, .int .i64 0], []⟩).memory :=
  laidMet_laidAll _ (by kernel_rfl) (by kernel_rfl)
theorem reads (os : Os) {H : Type} (enc : TypeId × Value → H) : ∃ places, DataW.whole enc Tryz.prog ((World.laidAll Tryz.prog os Rows.spellParsesUptoRow.laid).forCall (fun _ _ => 0) ⟨#[], #[.string ⟨#[]⟩, .int .i64 0], []⟩).memory Tryz.f4.params.toList Rows.spellParsesSpec.vars false (#[.string ⟨#[]⟩, .int .i64 0] : Array Value).toList 8 = some ([(.lit (.string [])), (.lit (.int .i64 0))], [], places) :=
  ⟨[], by kernel_rfl⟩
theorem okB (os : Os) : Input.okWideB Tryz.prog ((World.laidAll Tryz.prog os Rows.spellParsesUptoRow.laid).forCall (fun _ _ => 0) ⟨#[], #[.string ⟨#[]⟩, .int .i64 0], []⟩) 4 ⟨#[], #[.string ⟨#[]⟩, .int .i64 0], []⟩ = true := by kernel_rfl
theorem shaped (os : Os) : ((World.laidAll Tryz.prog os Rows.spellParsesUptoRow.laid).forCall (fun _ _ => 0) ⟨#[], #[.string ⟨#[]⟩, .int .i64 0], []⟩).Shaped Tryz.prog := World.shaped_of_ZipB (by kernel_rfl) (by kernel_rfl)

set_option maxRecDepth 100000 in
theorem lifted (os : Os) (started : os.Started) (H : Type) (enc : TypeId × Value → H) (F : Stop.Interp) :
    ReturnsInHanded {} Tryz.checked os 4 .any ((Rows.OpenSpec.upto Rows.spellParsesSpec).preRow enc Tryz.prog Tryz.f4 Rows.spellParsesUptoRow.domain false Rows.spellParsesUptoRow.laid) (((Rows.OpenSpec.upto Rows.spellParsesSpec).at F).post enc Tryz.prog Tryz.f4 false true false false) := by
  obtain ⟨places, hx⟩ := reads os enc
  refine returnsInHanded_of_row (C := Tryz.checked) (s := Rows.OpenSpec.upto Rows.spellParsesSpec) own started (by kernel_rfl) Tryz.func4
    ⟨World.laidAll Tryz.prog os Rows.spellParsesUptoRow.laid, fun _ _ => 0, ⟨#[], #[.string ⟨#[]⟩, .int .i64 0], []⟩, World.laidAll_os _ _ _, shaped os, (Input.okWide_of_okWideB (base := 0) (okB os)).1, (Input.okWide_of_okWideB (okB os)).2,
      OpenSpec.preRow_of_cond 8 hx (by kernel_rfl) (fun k hk => by cases hk; kernel_rfl) (by kernel_rfl) (laid_met os), by
        simp only [Assume.holds]
        exact ⟨by simp, by simp, by simp, by simp, by simp⟩⟩ ?_
  intro W base args ds gs before hval hW _ hcond _ hl _ _
  exact contract H enc W base args ds gs before hval hW hl (hcond _ rfl)

theorem said : Rows.SpellParsesUptoSaid :=
  OpenClaim.holds_of_cond 4 Tryz.f4 rfl rfl rfl rfl rfl rfl rfl ⟨rfl, rfl, rfl, rfl, rfl⟩ rfl rfl rfl rfl rfl (by kernel_rfl) Tryz.func4 (by kernel_rfl)
    (of_decide_eq_true (by kernel_rfl)) (by unfold Func.isWrapper; first | (rw [if_pos (by decide +kernel)]; kernel_rfl) | (rw [if_neg (by decide +kernel)]; exact ⟨rfl, rfl⟩))
    (fun os started H enc _ F => by rw [OpenClaim.pre_eq_preRow]; exact lifted os started H enc F)

/-- No parameter wants a stand-in; the program's own looks are off: what the card asks. -/
theorem plain (f : FuncId) (fn : Func) (hf : Tryz.pinned.checked.prog.funcNamed "blotter/blotterlaw04.SpellParses" = some f) (hfn : Tryz.pinned.checked.prog.funcs[f]? = some fn) :
    true = Tryz.pinned.checked.prog.looks [] ∧ ∀ (j : Nat) t, fn.params[j]? = some t → Tryz.pinned.checked.prog.wantsStandIn t = false := by
  obtain rfl : f = 4 := Option.some.inj ((show Tryz.prog.funcNamed "blotter/blotterlaw04.SpellParses" = some 4 by kernel_rfl).symm.trans hf) |>.symm
  obtain rfl : fn = Tryz.f4 := (Option.some.inj (Tryz.func4.symm.trans hfn)).symm
  refine ⟨by kernel_rfl, fun j t ht => ?_⟩
  rw [Tryz.params4] at ht
  have hm : t ∈ [9, 3] := by simpa using Array.mem_of_getElem? ht
  have hall : ([9, 3].all fun u => !Tryz.prog.wantsStandIn u) = true := by kernel_rfl
  exact (show Tryz.prog.wantsStandIn t = false by simpa using List.all_eq_true.1 hall t hm)

theorem card_holds : Rows.SpellParsesUptoCardSaid :=
  Claim7.holds_tied_plain_at .later [] _ _ _ _ said (fun _ h => by cases h) (by kernel_rfl) (fun _ h => by cases h) spellParsesUpto_row_tie rfl ⟨rfl, rfl⟩ (by kernel_rfl) rfl plain (by kernel_rfl)
end Go.Proofs.YtacgkbdldbppjaaGreatDoor.spellParsesUpto
