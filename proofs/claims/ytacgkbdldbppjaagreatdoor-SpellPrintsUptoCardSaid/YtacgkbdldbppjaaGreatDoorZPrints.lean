/- Texts of this seat, put together in build order: AtLent, AtKept, ChSpan, ChLent, ChKept, ChBox, RqQ, RqU, RqP, SpPn, SpellPrintsUptoProof. -/
import Derived.Test.YtacgkbdldbppjaaGreatDoorZ6
import Derived.OwnWalk
import Derived.BigRegion
import Derived.LoopTactic
import Derived.Deep.LoopGhost
import Derived.Lib.ValidLaws
import Derived.Lib.AppendStr
import Derived.Test.YtacgkbdldbppjaaGreatDoorCards
import Derived.Test.YtacgkbdldbppjaaGreatDoorTie
import Derived.ProofKit
import Derived.OpenShut
import Derived.Deep.DeepHandedRow
import Derived.Lay
import Derived.SevenTiedAt
/- Lent, Kept, Spoil: attributes in memory of their own, whether they were kept, and their owner writes over them. -/
namespace Go.Proofs.YtacgkbdldbppjaaGreatDoor
open Go.RowKit At

def mark : ByteArray × ByteArray := (⟨#[109, 97, 114, 107]⟩, ⟨#[]⟩)
def LentOut (W : World) (l : List (ByteArray × ByteArray)) (e : Ending) (w' : World) : Prop :=
  ∃ g, e = .returned (.slice (some ⟨g, 0, none⟩) l.length (l.length + 1)) ∧ w'.ownsRow W.heap.size 52 2 (.slice (some ⟨g, 0, none⟩) (l.length + 1) (l.length + 1)) (l.length + 1) (flat (l ++ [mark])) ∧ Below W.heap.size W w'

set_option maxRecDepth 100000 in
set_option maxHeartbeats 4000000 in
theorem lent_any (v : Value) (l : List (ByteArray × ByteArray)) (w : World) (hv : AtRow w v l) (hp : Proper v) (hr : l.length * 32 ≤ 140737488351232) :
    Calls Tryz.prog 28 #[v] w (LentOut w l) := by
  have Hv := Lib.hid hv
  have Hp := Lib.hid hp
  obtain ⟨ao, cap, rfl, _⟩ := hv
  have hnone := fun h : ao = none => by subst h; exact hp _ _ rfl
  have Hnone := Lib.hid hnone
  have Hr := Lib.hid hr
  have hn : l.length ≤ 4398046511104 := by omega
  have e0 : ([] : List Value) ++ flat l = flat l := rfl
  have e1 : 0 + l.length = l.length := Nat.zero_add _
  have E1 := Lib.hid (And.intro e0 e1)
  obtain ⟨i0, hi, hz0, hz1, hz2⟩ := info_parts infoAttr
  have Hi := Lib.hid (And.intro hi (And.intro hz0 (And.intro hz1 hz2)))
  have b1 : i0.bytes * (l.length + 1) ≤ 281474976710656 := by rw [hz2]; omega
  have b2 : l.length + 1 ≤ maxLen := by unfold maxLen; omega
  have Hb := Lib.hid (And.intro b1 b2)
  clear hp hr hnone hi hz0 hz1 hz2 b1 b2 e0 e1
  go_enter Tryz.func28, Tryz.ntmps28
  go_wp2_with (first
    | (at_make; refine wpList_make_own _ rfl _ _ 46 rfl w.heap.size 52 i0 (.agg #[.string ⟨#[]⟩, .string ⟨#[]⟩]) 2 Tryz.underlying46 Hi.out.1 Hi.out.2.1 Hi.out.2.2.1 .i64 .i64 _ (l.length + 1) rfl rfl rfl Hb.out.1 Hb.out.2 (Nat.le_refl _) ?_; intro w1 o1 g1; have O1 := Lib.hid o1; have B1 := Lib.hid ((Below.refl w.heap.size w).grown g1 (Nat.le_refl _) (fun k hk => by cases hk)); clear o1 g1)
    | (at_builtin; refine wpList_append_fits_any _ rfl (.tmp 7) (.tmp 8) 46 rfl w.heap.size 52 i0 2 Tryz.underlying46 Hi.out.1 Hi.out.2.2.1 w.heap.size 0 (l.length + 1) [] rfl O1.out ao l.length cap (flat l) rfl (flat_len l) Hnone.out (news_any (Hv.out.below B1.out)) flat_one (by omega) ?_; intro w2 o2 g2; rw [E1.out.1, E1.out.2] at o2; have O2 := Lib.hid o2; have B2 := Lib.hid (B1.out.grown g2 B1.out.size (fun k hk => by cases hk; exact Nat.le_refl _)); clear o2 g2)
    | (at_builtin; refine wpList_append_fits _ rfl (.tmp 10) (.tmp 12) 46 rfl w.heap.size 52 i0 2 Tryz.underlying46 Hi.out.1 Hi.out.2.2.1 w.heap.size l.length (l.length + 1) (flat l) rfl (O2.out.alloc _) ⟨w2.heap.size, 0, none⟩ 1 1 [.string mark.1, .string mark.2] rfl rfl (new_at2 _ _ _ _) (fun u hu => by simp at hu; rcases hu with rfl | rfl <;> rfl) (Nat.le_refl _) ?_; intro w3 o3 g3; rw [← flat_snoc] at o3; have O3 := Lib.hid o3; have B3 := Lib.hid ((B2.out.alloc B2.out.size _).grown g3 (Nat.le_trans B2.out.size (by simp)) (fun k hk => by cases hk; exact Nat.le_refl _)); clear o3 g3)
    | (refine wpList_sliced (.slice (some ⟨w.heap.size, 0, none⟩) (l.length + 1) (l.length + 1)) (.slice (some ⟨w.heap.size, 0, none⟩) l.length (l.length + 1)) rfl (slice_own _ _ _ _ (Nat.le_succ _) _) ?_))
  go_ret
  exact ⟨_, rfl, O3.out, B3.out⟩

/-- One cell pair written over in one's own row. -/
theorem own_stored2 {w : World} {B g n cap j : Nat} {xs : List Value} (h : w.ownsRow B 52 2 (.slice (some ⟨g, 0, none⟩) n cap) n xs) (u v : Value) :
    ∃ ys, ((w.setCell ⟨g, j * 2, none⟩ u).setCell ⟨g, j * 2 + 1, none⟩ v).ownsRow B 52 2 (.slice (some ⟨g, 0, none⟩) n cap) n ys :=
  ⟨_, ((h.stored (j * 2) u).1.stored (j * 2 + 1) v).1⟩
theorem own_cell {w : World} {B g n cap j : Nat} {xs : List Value} (h : w.ownsRow B 52 2 (.slice (some ⟨g, 0, none⟩) n cap) n xs) (hj : j < n * 2) : ∃ u, w.cell? ⟨g, j, none⟩ = some u := by
  have hl : j < xs.length := by rw [h.1]; exact hj
  exact ⟨xs[j], by rw [h.cellAt j hj]; exact List.getElem?_eq_getElem hl⟩

def SpoilOut (W : World) (v : Value) (n : Nat) (e : Ending) (w' : World) : Prop := e = .returned (.int .i64 ((n + 1 : Nat) : Int)) ∧ W.grownBy w' v.ownBlock
set_option maxRecDepth 100000 in
set_option maxHeartbeats 4000000 in
theorem spoil_any (v : Value) (B n : Nat) (xs : List Value) (w : World) (h : w.ownsRow B 52 2 v n xs) (hn : n ≤ 64) (hB : B ≤ w.heap.size) :
    Calls Tryz.prog 51 #[v] w (SpoilOut w v n) := by
  have H := Lib.hid h
  obtain ⟨ao, cap, rfl⟩ := own_slice h
  have hn' : n ≤ 9223372036854775807 := by omega
  have h63 : n + 1 ≤ 4096 := by omega
  have H63 := Lib.hid h63
  clear h h63
  go_enter Tryz.func51, Tryz.ntmps51
  go_wp2_with fail
  go_loopw [3] (fun i wr => ∃ (k : Nat) (ys : List Value), i = .int .i64 (k : Int) ∧ k ≤ n ∧ wr.ownsRow B 52 2 (.slice ao n cap) n ys ∧ w.grownBy wr (Value.slice ao n cap).ownBlock) (fun i _ => n - (intOf i).toNat)
  case atStart => exact ⟨0, xs, rfl, Nat.zero_le _, H.out, grown_refl _ _⟩
  case round =>
    obtain ⟨k, ys, rfl, hk, hown, hg⟩ := hrel
    by_cases hlt : k < n
    · have hlt' : (k : Int) < (n : Int) := by omega
      obtain ⟨g, cap', he⟩ := ownsRow_open hown (by omega)
      simp only [Value.slice.injEq, true_and] at he
      obtain ⟨rfl, rfl⟩ := he
      obtain ⟨u1, c1⟩ := own_cell hown (j := k * 2) (by omega)
      obtain ⟨u2, c2⟩ := own_cell hown (j := k * 2 + 1) (by omega)
      have f1 : wr.frozen? ⟨g, k * 2, none⟩ = false := hown.frozenAt _
      have f2 : wr.frozen? ⟨g, k * 2 + 1, none⟩ = false := hown.frozenAt _
      obtain ⟨zs, hz⟩ := own_stored2 (j := k) hown (.string ⟨#[115, 112, 111, 105, 108, 116]⟩) (.string ⟨#[]⟩)
      have Hz := Lib.hid hz
      have Hg := Lib.hid (only_setCell (only_setCell hg (p := ⟨g, k * 2, none⟩) rfl (.string ⟨#[115, 112, 111, 105, 108, 116]⟩)) (p := ⟨g, k * 2 + 1, none⟩) rfl (.string ⟨#[]⟩))
      clear hown hg hz
      go_wp2_with fail
      go_roundw
      case rel => exact ⟨k + 1, zs, by go_num, by omega, Hz.out, Hg.out⟩
      case measure => simp [intOf]; omega
    · have hkn : k = n := by omega
      subst hkn
      have Hown := Lib.hid hown
      have Hg := Lib.hid hg
      have hBw : B ≤ wr.heap.size := Nat.le_trans hB hg.size
      clear hown hg hk hlt
      go_wp2_with (at_builtin; refine wpList_append_one rfl (.tmp 14) (.tmp 16) rfl B (.slice ao k cap) k ys (⟨#[109, 111, 114, 101]⟩, ⟨#[]⟩) rfl rfl Hown.out (k + 1) _ rfl rfl H63.out hBw ?_; intro u2 w2 o2 g2; obtain ⟨a2, c2, rfl⟩ := own_slice o2; have G2 := Lib.hid (grown_trans (grown_trans Hg.out (World.grownBy_alloc _ _ _)) g2); clear o2 g2)
      go_ret
      exact ⟨by simp, G2.out⟩
end Go.Proofs.YtacgkbdldbppjaaGreatDoor

/- Kept: were the attributes kept, and the mark behind them? -/
namespace Go.Proofs.YtacgkbdldbppjaaGreatDoor
open Go.RowKit At

theorem row_lent {w : World} {B g : Nat} {l : List (ByteArray × ByteArray)} (h : w.ownsRow B 52 2 (.slice (some ⟨g, 0, none⟩) (l.length + 1) (l.length + 1)) (l.length + 1) (flat (l ++ [mark]))) :
    AtRow w (.slice (some ⟨g, 0, none⟩) l.length (l.length + 1)) l := by
  have hlt := (h.lt g rfl).2
  have hm : l.length + 1 ≤ maxLen := by
    rcases h.2 with ⟨h0, _⟩ | ⟨g', cap, cur, h0, _, _, _, hm, _⟩
    · simp at h0
    · simp only [Value.slice.injEq] at h0
      omega
  refine ⟨_, l.length + 1, rfl, Nat.le_succ _, hm, fun i hi => ⟨g, 0, rfl, hlt, ?_, ?_⟩⟩
  · rw [Nat.zero_add, h.cellAt _ (by omega), flat_append, List.getElem?_append_left (by rw [flat_len]; omega), flat_at0 hi]
  · rw [Nat.zero_add, h.cellAt _ (by omega), flat_append, List.getElem?_append_left (by rw [flat_len]; omega), flat_at1 hi]
theorem mark_lent {w : World} {B g : Nat} {l : List (ByteArray × ByteArray)} (h : w.ownsRow B 52 2 (.slice (some ⟨g, 0, none⟩) (l.length + 1) (l.length + 1)) (l.length + 1) (flat (l ++ [mark]))) :
    w.cell? ⟨g, l.length * 2, none⟩ = some (.string ⟨#[109, 97, 114, 107]⟩) := by
  rw [h.cellAt _ (by omega), flat_append, List.getElem?_append_right (by rw [flat_len]; omega), flat_len, Nat.sub_self]
  rfl

def KeptOut (W : World) (g : Nat) (e : Ending) (w' : World) : Prop := e = .returned (.bool true) ∧ W.grownBy w' (some g)
set_option maxRecDepth 100000 in
set_option maxHeartbeats 4000000 in
theorem kept_any (v : Value) (B g : Nat) (l : List (ByteArray × ByteArray)) (w : World) (h : w.ownsRow B 52 2 (.slice (some ⟨g, 0, none⟩) (l.length + 1) (l.length + 1)) (l.length + 1) (flat (l ++ [mark]))) (hv : AtRow w v l) (hr : l.length ≤ 4398046511104) :
    Calls Tryz.prog 35 #[.slice (some ⟨g, 0, none⟩) l.length (l.length + 1), v] w (KeptOut w g) := by
  have H := Lib.hid h
  have hs : sameB l l = true := decide_eq_true rfl
  have Hs := Lib.hid (refSame_any _ v l l w (row_lent h) hv)
  rw [hs] at Hs
  have hmk := mark_lent h
  have hn' : l.length + 1 ≤ 9223372036854775807 := by omega
  clear h hv hs
  go_enter Tryz.func35, Tryz.ntmps35
  go_wp2_with fail
  refine Hs.out.mono ?_
  rintro e w1 ⟨rfl, m, rfl⟩
  go_wp2_with (refine wpList_sliced (.slice (some ⟨g, 0, none⟩) l.length (l.length + 1)) (.slice (some ⟨g, 0, none⟩) (l.length + 1) (l.length + 1)) rfl (slice_own _ _ _ _ (Nat.le_refl _) _) ?_)
  go_loopw [8] (fun i wr => ∃ (k : Nat) (ys : List Value), i = .int .i64 (k : Int) ∧ k ≤ l.length + 1 ∧ wr.ownsRow B 52 2 (.slice (some ⟨g, 0, none⟩) (l.length + 1) (l.length + 1)) (l.length + 1) ys ∧ w.grownBy wr (some g)) (fun i _ => l.length + 1 - (intOf i).toNat)
  case atStart => exact ⟨0, _, rfl, Nat.zero_le _, row_below H.out (below_drewN (Below.refl _ _) _), only_drewN (grown_refl _ _) _⟩
  case round =>
    obtain ⟨k, ys, rfl, hk, hown, hg⟩ := hrel
    by_cases hlt : k < l.length + 1
    · have hlt' : (k : Int) < (l.length : Int) + 1 := by omega
      obtain ⟨u1, c1⟩ := own_cell hown (j := k * 2) (by omega)
      obtain ⟨u2, c2⟩ := own_cell hown (j := k * 2 + 1) (by omega)
      have f1 : wr.frozen? ⟨g, k * 2, none⟩ = false := hown.frozenAt _
      have f2 : wr.frozen? ⟨g, k * 2 + 1, none⟩ = false := hown.frozenAt _
      obtain ⟨zs, hz⟩ := own_stored2 (j := k) hown (.string ⟨#[115, 112, 111, 105, 108, 116]⟩) (.string ⟨#[]⟩)
      have Hz := Lib.hid hz
      have Hg := Lib.hid (only_setCell (only_setCell hg (p := ⟨g, k * 2, none⟩) rfl (.string ⟨#[115, 112, 111, 105, 108, 116]⟩)) (p := ⟨g, k * 2 + 1, none⟩) rfl (.string ⟨#[]⟩))
      clear hown hg hz hmk
      go_wp2_with fail
      go_roundw
      case rel => exact ⟨k + 1, zs, by go_num, by omega, Hz.out, Hg.out⟩
      case measure => simp [intOf]; omega
    · have hkn : k = l.length + 1 := by omega
      subst hkn
      have Hg := Lib.hid hg
      have t1 : decide ((l.length : Int) + 1 < (l.length : Int) + 1) = false := decide_eq_false (by omega)
      clear hown hg hk hlt hmk
      go_wp2_with fail
      go_ret
      exact ⟨rfl, Hg.out⟩
end Go.Proofs.YtacgkbdldbppjaaGreatDoor

/- What a call keeps that writes over rows that it was given: a span of blocks; the blocks' shapes. -/
namespace Go.Proofs.YtacgkbdldbppjaaGreatDoor
open Go.RowKit Ch At

/-- Below lo, and from hi on, all that was there stays. -/
structure Span (lo hi : Nat) (w w' : World) : Prop where
  below : Below lo w w'
  block : ∀ i, i < w.heap.size → hi ≤ i → w'.heap[i]? = w.heap[i]?
theorem Span.refl (lo hi : Nat) (w : World) : Span lo hi w w := ⟨Below.refl _ _, fun _ _ _ => rfl⟩
theorem Span.trans {lo hi : Nat} {a b c : World} (h : Span lo hi a b) (k : Span lo hi b c) : Span lo hi a c :=
  ⟨h.below.trans k.below, fun i hi' hh => (k.block i (Nat.lt_of_lt_of_le hi' h.below.size) hh).trans (h.block i hi' hh)⟩
theorem span_below {lo hi : Nat} {w w' : World} (h : Below w.heap.size w w') (hl : lo ≤ w.heap.size) : Span lo hi w w' := ⟨h.mono hl, fun i hi' _ => h.block i hi'⟩
theorem span_set {lo hi : Nat} {w : World} {p : Addr} (h1 : lo ≤ p.block) (h2 : p.block < hi) (u : Value) : Span lo hi w (w.setCell p u) :=
  ⟨(Below.refl _ _).setCell h1 u, fun i _ hh => Below.heap_setCell w p u i (by omega)⟩
theorem span_grown {lo hi : Nat} {w w' : World} {row : Option Nat} (hg : w.grownBy w' row) (hl : lo ≤ w.heap.size) (hr : ∀ k, row = some k → lo ≤ k ∧ k < hi) : Span lo hi w w' :=
  ⟨(Below.refl _ _).grown hg hl fun k hk => (hr k hk).1, fun i hi' hh => hg.block i hi' (fun e => by have := (hr i e.symm).2; omega)⟩
theorem Span.drew {lo hi : Nat} {a w : World} (h : Span lo hi a w) : Span lo hi a w.drew := ⟨h.below.drew, h.block⟩
theorem Span.own {lo hi B k n : Nat} {w w' : World} {e : TypeId} {v : Value} {xs : List Value} (hs : Span lo hi w w') (h : w.ownsRow B e k v n xs) (hb : hi ≤ B) : w'.ownsRow B e k v n xs :=
  ⟨h.1, h.2.imp id fun ⟨g, cap, cur, a, b, c, d⟩ => ⟨g, cap, cur, a, b, (hs.block g (lt_of_heap c) (Nat.le_trans hb b)).trans c, d⟩⟩
theorem OwnP.span {lo hi B : Nat} {w w' : World} {v : Value} {ps : List PA} (h : OwnP w B v ps) (hs : Span lo hi w w') (hb : hi ≤ B) : OwnP w' B v ps :=
  ⟨hs.own h.1 hb, fun p hp => hs.own (h.2 p hp) hb⟩
theorem OwnOps.span {lo hi B : Nat} {w w' : World} {v : Value} {l : List OpD} (h : OwnOps w B v l) (hs : Span lo hi w w') (hb : hi ≤ B) : OwnOps w' B v l := by
  obtain ⟨ps, e, h⟩ := h
  exact ⟨ps, e, h.span hs hb⟩

/-- Each block of cells stays one, of so many cells. -/
def Shape (w w' : World) : Prop := ∀ (i : Nat) (cs : Array Value) (e : TypeId) (fr : Nat × Nat), w.heap[i]? = some (.cells cs e fr) → ∃ cs' : Array Value, w'.heap[i]? = some (.cells cs' e fr) ∧ cs'.size = cs.size
theorem Shape.refl (w : World) : Shape w w := fun _ cs _ _ h => ⟨cs, h, rfl⟩
theorem Shape.trans {a b c : World} (h : Shape a b) (k : Shape b c) : Shape a c := fun i cs e fr hi => by
  obtain ⟨cs1, h1, s1⟩ := h i cs e fr hi
  obtain ⟨cs2, h2, s2⟩ := k i cs1 e fr h1
  exact ⟨cs2, h2, s2.trans s1⟩
theorem shape_below {w w' : World} (h : Below w.heap.size w w') : Shape w w' := fun i cs _ _ hi => ⟨cs, (h.block i (lt_of_heap hi)).trans hi, rfl⟩
theorem shape_set (w : World) (p : Addr) (u : Value) : Shape w (w.setCell p u) := fun i cs e fr hi => by
  by_cases h : i = p.block
  · subst h
    by_cases hsp : p.spot.isSome = true
    · exact ⟨cs, by simp [World.setCell, Array.getElem?_modify, hi, hsp], rfl⟩
    · exact ⟨cs.setIfInBounds p.off u, by simp [World.setCell, Array.getElem?_modify, hi, hsp], by simp⟩
  · exact ⟨cs, (Below.heap_setCell w p u i h).trans hi, rfl⟩
theorem shape_sets (b : Nat) (news : List Value) : ∀ (off : Nat) (w : World), Shape w (w.setCells b off news) := by
  induction news with
  | nil => intro off w; exact Shape.refl w
  | cons x r ih =>
    intro off w
    exact (shape_set w _ x).trans (ih _ _)
theorem shape_grown {w w' : World} (h : w.grownBy w' none) : Shape w w' := fun i cs _ _ hi => ⟨cs, (h.block i (lt_of_heap hi) (by simp)).trans hi, rfl⟩
theorem Shape.own {w w' : World} (hs : Shape w w') {B k n : Nat} {e : TypeId} {v : Value} {xs : List Value} (h : w.ownsRow B e k v n xs) : ∃ ys, w'.ownsRow B e k v n ys := by
  rcases h.2 with ⟨hv, h0⟩ | ⟨g, cap, cur, hv, hb, hg, h1, h2, h3, h4⟩
  · exact ⟨xs, h.1, .inl ⟨hv, h0⟩⟩
  · obtain ⟨cs', h', hs'⟩ := hs g cur e (0, 0) hg
    have hsz : cs'.size = cap * k := hs'.trans h3
    refine ⟨cs'.toList.take (n * k), ?_, .inr ⟨g, cap, cs', hv, hb, h', h1, h2, hsz, rfl⟩⟩
    rw [List.length_take, Array.length_toList, hsz]
    exact Nat.min_eq_left (Nat.mul_le_mul_right _ h1)

theorem run_append_shape {P : Program} (w : World) (base : Nat) (t ty e : TypeId) (i : TypeInfo) (z : Value) (size bytes : Nat) (ht : P.underlying t = some (.slice e)) (hi : P.info? e = some i) (hz : i.zero = some z)
    (hsize : i.size = size) (hby : i.bytes = bytes) (hzs : z.cells.size = size) (hsz : 0 < size)
    (v : Value) (n : Nat) (xs : List Value) (hown : w.ownsRow base e size v n xs)
    (a : Addr) (m c : Nat) (news : List Value) (hl : news.length = m * size) (hnews : ∀ j u, news[j]? = some u → w.cell? (a.add j) = some u) (h1 : ∀ u ∈ news, u.oneCell' = true)
    (h63 : n + m ≤ maxLen) (hbytes : (n + m) * bytes ≤ 140737488355328) (hbase : base ≤ w.heap.size) :
    ∃ v' w', (Builtin.append_ #[t, t] ty #[v, .slice (some a) m c]).run P w = .ok v' w' ∧ w'.ownsRow base e size v' (n + m) (xs ++ news) ∧ w.grownBy w' v.ownBlock ∧ Shape w w' := by
  obtain ⟨v', w', hrun, h2, h3, _⟩ := run_append_own (P := P) w base t ty e i z size bytes ht hi hz hsize hby hzs hsz v n xs hown a m c news hl hnews h1 h63 hbytes hbase
  refine ⟨v', w', hrun, h2, h3, ?_⟩
  rcases hown.2 with ⟨rfl, rfl⟩ | ⟨g, cap, cur, rfl, hb, hg, hn, hm, hc, ht2⟩
  · exact shape_grown h3
  · by_cases hroom : n + m ≤ cap
    · have hrr := run_append_room_cells (P := P) w t ty e i ht hi g 0 n cap a m c news (by rw [hsize]; exact hl) hnews h1 hroom
        (fun k hk => by
          have hk2 : n * i.size + k < cur.size := by
            rw [hc, hsize]
            have : n * size + m * size ≤ cap * size := by rw [← Nat.add_mul]; exact Nat.mul_le_mul_right _ hroom
            omega
          simp [World.cell?, hg, Array.getElem?_eq_getElem hk2])
        (fun k hk => by simp [World.frozen?, hg])
      rw [hrun] at hrr
      simp only [Result.ok.injEq] at hrr
      obtain ⟨_, rfl⟩ := hrr
      exact shape_sets _ _ _ _
    · obtain ⟨v2, w2, hrun2, k2, k3⟩ := run_append_arg_grows (P := P) w t ty e i z size bytes ht hi hz hsize hby hzs hsz ⟨g, 0, none⟩ n cap xs hown.1 (hown.cells (g := g) rfl) a m c news hl hnews (by omega) h63 hbytes
      rw [hrun] at hrun2
      simp only [Result.ok.injEq] at hrun2
      obtain ⟨rfl, rfl⟩ := hrun2
      exact shape_grown k3
theorem wpList_append_shape {P : Program} {ops : Array Oper} {rest : List Oper} {o : Oper} {a : Act} {w : World} {Q : Exit → Act → World → Prop}
    (hgd : o.guard = none) (s x : Operand) (t : TypeId) (hop : o.op = Op.call { callee := Callee.builtin Builtin.append, args := #[s, x], argTypes := #[t, t] })
    (e : TypeId) (i : TypeInfo) (z : Value) (size bytes : Nat) (h1 : P.underlying t = some (.slice e)) (h2 : P.info? e = some i) (h3 : i.zero = some z) (h4 : i.size = size) (h5 : i.bytes = bytes) (h6 : z.cells.size = size) (h7 : 0 < size)
    (base : Nat) (v : Value) (n : Nat) (xs : List Value) (hs : a.eval s = v) (hown : w.ownsRow base e size v n xs)
    (ad : Addr) (m c : Nat) (news : List Value) (hx : a.eval x = .slice (some ad) m c) (hn : news.length = m * size) (hc : ∀ j u, news[j]? = some u → w.cell? (ad.add j) = some u) (h1c : ∀ u ∈ news, u.oneCell' = true)
    (b1 : n + m ≤ maxLen) (b2 : (n + m) * bytes ≤ 140737488355328) (hbase : base ≤ w.heap.size)
    (h : ∀ v' w', w'.ownsRow base e size v' (n + m) (xs ++ news) → w.grownBy w' v.ownBlock → Shape w w' → wpList P ops Q rest (a.put o.dst v') w') : wpList P ops Q (o :: rest) a w := by
  refine wpList_plain hgd fun K hK => ?_
  obtain ⟨v', w', hr, r1, r2, r3⟩ := run_append_shape (P := P) w base t o.type e i z size bytes h1 h2 h3 h4 h5 h6 h7 v n xs hown ad m c news hn hc h1c b1 b2 hbase
  unfold Oper.wp execOp
  simp only [hop, resolve, invoke, builtin, Sem.run_bind, Sem.run_pure, Result.andThen_ok, List.map_toArray, List.map_cons, List.map_nil, hs, hx, hr]
  exact hK _ _ (h v' w' r1 r2 r3)

def SpoilOut2 (W : World) (v : Value) (n : Nat) (e : Ending) (w' : World) : Prop := e = .returned (.int .i64 ((n + 1 : Nat) : Int)) ∧ W.grownBy w' v.ownBlock ∧ Shape W w'
set_option maxHeartbeats 4000000 in
theorem spoil2_any (v : Value) (B n : Nat) (xs : List Value) (w : World) (h : w.ownsRow B 52 2 v n xs) (hn : n ≤ 1048576) (hB : B ≤ w.heap.size) :
    Calls Tryz.prog 51 #[v] w (SpoilOut2 w v n) := by
  have H := Lib.hid h
  obtain ⟨ao, cap, rfl⟩ := own_slice h
  have hn' : n ≤ 9223372036854775807 := by omega
  have h63 : n + 1 ≤ 1048577 := by omega
  have H63 := Lib.hid h63
  obtain ⟨i0, hi, hz0, hz1, hz2⟩ := info_parts infoAttr
  have Hi := Lib.hid (And.intro hi (And.intro hz0 (And.intro hz1 hz2)))
  clear h h63 hi hz0 hz1 hz2
  go_enter Tryz.func51, Tryz.ntmps51
  go_wp2_with fail
  go_loopw [3] (fun i wr => ∃ (k : Nat) (ys : List Value), i = .int .i64 (k : Int) ∧ k ≤ n ∧ wr.ownsRow B 52 2 (.slice ao n cap) n ys ∧ w.grownBy wr (Value.slice ao n cap).ownBlock ∧ Shape w wr) (fun i _ => n - (intOf i).toNat)
  case atStart => exact ⟨0, xs, rfl, Nat.zero_le _, H.out, grown_refl _ _, Shape.refl _⟩
  case round =>
    obtain ⟨k, ys, rfl, hk, hown, hg, hsh⟩ := hrel
    by_cases hlt : k < n
    · have hlt' : (k : Int) < (n : Int) := by omega
      obtain ⟨g, cap', he⟩ := ownsRow_open hown (by omega)
      simp only [Value.slice.injEq, true_and] at he
      obtain ⟨rfl, rfl⟩ := he
      obtain ⟨u1, c1⟩ := own_cell hown (j := k * 2) (by omega)
      obtain ⟨u2, c2⟩ := own_cell hown (j := k * 2 + 1) (by omega)
      have f1 : wr.frozen? ⟨g, k * 2, none⟩ = false := hown.frozenAt _
      have f2 : wr.frozen? ⟨g, k * 2 + 1, none⟩ = false := hown.frozenAt _
      obtain ⟨zs, hz⟩ := own_stored2 (j := k) hown (.string ⟨#[115, 112, 111, 105, 108, 116]⟩) (.string ⟨#[]⟩)
      have Hz := Lib.hid hz
      have Hg := Lib.hid (And.intro (only_setCell (only_setCell hg (p := ⟨g, k * 2, none⟩) rfl (.string ⟨#[115, 112, 111, 105, 108, 116]⟩)) (p := ⟨g, k * 2 + 1, none⟩) rfl (.string ⟨#[]⟩)) ((hsh.trans (shape_set _ ⟨g, k * 2, none⟩ (.string ⟨#[115, 112, 111, 105, 108, 116]⟩))).trans (shape_set _ ⟨g, k * 2 + 1, none⟩ (.string ⟨#[]⟩))))
      clear hown hg hz hsh
      go_wp2_with fail
      go_roundw
      case rel => exact ⟨k + 1, zs, by go_num, by omega, Hz.out, Hg.out.1, Hg.out.2⟩
      case measure => simp [intOf]; omega
    · have hkn : k = n := by omega
      subst hkn
      have Hown := Lib.hid hown
      have Hg := Lib.hid hg
      have Hs := Lib.hid hsh
      have hBw : B ≤ wr.heap.size := Nat.le_trans hB hg.size
      clear hown hg hk hlt hsh
      go_wp2_with (at_builtin; refine wpList_append_shape rfl (.tmp 14) (.tmp 16) 46 rfl 52 i0 (.agg #[.string ⟨#[]⟩, .string ⟨#[]⟩]) 2 32 Tryz.underlying46 Hi.out.1 Hi.out.2.1 Hi.out.2.2.1 Hi.out.2.2.2 rfl (by decide) B (.slice ao k cap) k ys rfl (Hown.out.alloc _) ⟨wr.heap.size, 0, none⟩ 1 1 [.string ⟨#[109, 111, 114, 101]⟩, .string ⟨#[]⟩] rfl rfl (new_at2 _ _ _ _) (fun u hu => by simp at hu; rcases hu with rfl | rfl <;> rfl) (by unfold maxLen; omega) (by omega) (by simp; omega) ?_; intro u2 w2 o2 g2 s2; obtain ⟨a2, c2, rfl⟩ := own_slice o2; have G2 := Lib.hid (And.intro (grown_trans (grown_trans Hg.out (World.grownBy_alloc _ _ _)) g2) ((Hs.out.trans (shape_below (below_box _ _))).trans s2)); clear o2 g2 s2)
      go_ret
      exact ⟨by simp, G2.out.1, G2.out.2⟩
end Go.Proofs.YtacgkbdldbppjaaGreatDoor

/- The law's Lent: a changeset in memory of its own, with marks behind its operations and their attributes. -/
namespace Go.Proofs.YtacgkbdldbppjaaGreatDoor
open Go.RowKit Ch At

def markO : OpD := ⟨99, 0, ⟨#[]⟩, []⟩
def LAtt (w : World) (B : Nat) (q : PA) : Prop :=
  ∃ g, q.2 = .slice (some ⟨g, 0, none⟩) q.1.attrs.length (q.1.attrs.length + 1) ∧ w.ownsRow B 52 2 (.slice (some ⟨g, 0, none⟩) (q.1.attrs.length + 1) (q.1.attrs.length + 1)) (q.1.attrs.length + 1) (flat (q.1.attrs ++ [mark]))
def LPw (ps : List PA) : Prop := ps.Pairwise fun x y => x.2.ownBlock ≠ y.2.ownBlock
structure LRow (w : World) (B gg gc : Nat) (ps : List PA) : Prop where
  row : w.ownsRow B 48 4 (.slice (some ⟨gg, 0, none⟩) (ps.length + 1) gc) (ps.length + 1) (flatO (ps ++ [(markO, .slice none 0 0)]))
  att : ∀ q ∈ ps, LAtt w B q
  pw : LPw ps
theorem LAtt.keep {w w' : World} {B C : Nat} {ts : List TypeId} {q : PA} (h : LAtt w B q) (hk : Keep C ts w w') (h1 : 52 ∉ ts) : LAtt w' B q := by
  obtain ⟨g, e, h⟩ := h
  exact ⟨g, e, hk.own h h1⟩
theorem LAtt.lt {w : World} {B : Nat} {q : PA} (h : LAtt w B q) : ∀ j, q.2.ownBlock = some j → B ≤ j ∧ j < w.heap.size := by
  obtain ⟨g, e, h⟩ := h
  intro j hj
  rw [e] at hj
  exact h.lt j hj
theorem LRow.keep {w w' : World} {B C gg gc : Nat} {ts : List TypeId} {ps : List PA} (h : LRow w B gg gc ps) (hk : Keep C ts w w') (h1 : 48 ∉ ts) (h2 : 52 ∉ ts) : LRow w' B gg gc ps :=
  ⟨hk.own h.row h1, fun q hq => (h.att q hq).keep hk h2, h.pw⟩
theorem LRow.below {w w' : World} {B gg gc : Nat} {ps : List PA} (h : LRow w B gg gc ps) (hb : Below w.heap.size w w') : LRow w' B gg gc ps := h.keep (keep_below (ts := []) hb (Nat.le_refl _)) (by simp) (by simp)
theorem LRow.cap {w : World} {B gg gc : Nat} {ps : List PA} (h : LRow w B gg gc ps) : ps.length + 1 ≤ gc ∧ gc ≤ maxLen := by
  rcases h.row.2 with ⟨h', _⟩ | ⟨g', cap', cur', h', _, _, hn2, hm, _⟩
  · simp at h'
  · simp only [Value.slice.injEq] at h'
    omega
/-- What is lent is a row of operations. -/
theorem LRow.ops {w : World} {B gg gc : Nat} {ps : List PA} (h : LRow w B gg gc ps) : OpRow w (.slice (some ⟨gg, 0, none⟩) ps.length gc) (ps.map (·.1)) := by
  have hl : (ps.map (·.1)).length = ps.length := by simp
  obtain ⟨_, cs, hcs⟩ := own_heap h.row
  have hc := h.cap
  refine ⟨_, gc, by rw [hl], by omega, hc.2, fun i hi => ?_⟩
  have hi' : i < ps.length := by omega
  obtain ⟨g, e, hr⟩ := h.att _ (List.getElem_mem hi')
  refine ⟨gg, 0, rfl, lt_of_heap hcs, ps[i].2, ?_, ?_, ?_⟩
  · rw [List.getElem_map, e]
    exact row_lent hr
  · intro n' c' he
    rw [e] at he
    simp at he
  · have e4 : ∀ j, j < 4 → w.cell? ⟨gg, 0 + i * 4 + j, none⟩ = (opCells ps[i])[j]? := fun j hj => by
      rw [Nat.zero_add, h.row.cellAt _ (by omega), flatO_at (ps := ps ++ [(markO, Value.slice none 0 0)]) (i := i) (by simp; omega) j hj, List.getElem_append_left hi']
    rw [List.getElem_map]
    exact ⟨e4 0 (by omega), e4 1 (by omega), e4 2 (by omega), e4 3 (by omega)⟩

/-- Operations few and short enough to be lent. -/
def LentOutC (w : World) (f : Int) (ops : List OpD) (e : Ending) (w' : World) : Prop :=
  ∃ gg gc ps, e = .returned (chAgg f (.slice (some ⟨gg, 0, none⟩) ops.length gc)) ∧ ps.map (·.1) = ops ∧ LRow w' w.heap.size gg gc ps ∧ Below w.heap.size w w'
/-- On the way. -/
structure LWay (w : World) (B ob : Nat) (f : Int) (cv : Value) (n : Nat) (oa : Option Addr) (oc : Nat) (ps : List PA) : Prop where
  out : w.heap[ob]? = some (.cells #[.int .i64 f, .slice oa ps.length oc] 24 (0, 0))
  c : w.heap[B]? = some (.cells #[.int .i64 f, cv] 24 (0, 0))
  res : w.heap[B + 1]? = some (.cells #[.int .i64 0, .slice none 0 0] 24 (0, 0))
  row : w.ownsRow B 48 4 (.slice oa ps.length oc) ps.length (flatO ps)
  att : ∀ q ∈ ps, LAtt w B q
  pw : LPw ps
theorem LWay.keep {w w' : World} {B C ob n : Nat} {f : Int} {cv : Value} {oa : Option Addr} {oc : Nat} {ps : List PA} {ts : List TypeId} (h : LWay w B ob f cv n oa oc ps) (hk : Keep C ts w w') (h1 : 48 ∉ ts) (h2 : 52 ∉ ts) (h3 : 24 ∉ ts) : LWay w' B ob f cv n oa oc ps :=
  ⟨hk.kept _ _ _ _ h.out h3, hk.kept _ _ _ _ h.c h3, hk.kept _ _ _ _ h.res h3, hk.own h.row h1, fun q hq => (h.att q hq).keep hk h2, h.pw⟩
theorem LWay.below {w w' : World} {B ob n : Nat} {f : Int} {cv : Value} {oa : Option Addr} {oc : Nat} {ps : List PA} (h : LWay w B ob f cv n oa oc ps) (hb : Below w.heap.size w w') : LWay w' B ob f cv n oa oc ps := h.keep (keep_below (ts := []) hb (Nat.le_refl _)) (by simp) (by simp) (by simp)
theorem lpw_snoc {ps : List PA} {q : PA} : LPw (ps ++ [q]) ↔ LPw ps ∧ ∀ x ∈ ps, x.2.ownBlock ≠ q.2.ownBlock := by
  unfold LPw
  rw [List.pairwise_append]
  simp

theorem own_set_other {w : World} {B k n : Nat} {e : TypeId} {v : Value} {xs : List Value} (h : w.ownsRow B e k v n xs) (p : Addr) (hne : v.ownBlock ≠ some p.block) (u : Value) : (w.setCell p u).ownsRow B e k v n xs :=
  ⟨h.1, h.2.imp id fun ⟨g, cap, cur, a, b, c, d⟩ => ⟨g, cap, cur, a, b, (Below.heap_setCell w p u g (fun e => hne (by rw [a, ← e]; rfl))).trans c, d⟩⟩
theorem lway_put {w w5 : World} {B ob n : Nat} {f : Int} {cv : Value} {oa oa' : Option Addr} {oc oc' : Nat} {ps : List PA} {o : OpD} {av : Value} (h : LWay w B ob f cv n oa oc ps) (hK : KeepO B w w5 (.slice oa ps.length oc) (.slice oa' (ps.length + 1) oc'))
    (h5 : w5.ownsRow B 48 4 (.slice oa' (ps.length + 1) oc') (ps.length + 1) (flatO ps ++ [.int .i64 o.kind, .int .i64 o.n, .string o.text, av])) (hq : LAtt w5 B (o, av)) (hne : ∀ x ∈ ps, x.2.ownBlock ≠ av.ownBlock) (hob : B + 2 ≤ ob) :
    LWay (w5.setCell ⟨ob, 1, none⟩ (.slice oa' (ps.length + 1) oc')) B ob f cv n oa' oc' (ps ++ [(o, av)]) ∧ Keep B [24] w5 (w5.setCell ⟨ob, 1, none⟩ (.slice oa' (ps.length + 1) oc')) := by
  have b1 := hK.keep.kept _ _ _ _ h.out (by decide)
  have c1 := hK.keep.kept _ _ _ _ h.c (by decide)
  have r1 := hK.keep.kept _ _ _ _ h.res (by decide)
  have kk : Keep B [24] w5 (w5.setCell ⟨ob, 1, none⟩ (.slice oa' (ps.length + 1) oc')) := keep_set b1 (by simp) (by omega) _ rfl _
  refine ⟨⟨?_, ?_, ?_, ?_, fun x hx => ?_, lpw_snoc.2 ⟨h.pw, hne⟩⟩, kk⟩
  · rw [List.length_append, List.length_singleton]; exact nblk_set b1
  · rw [Below.heap_setCell _ _ _ _ (show B ≠ ob by omega)]; exact c1
  · rw [Below.heap_setCell _ _ _ _ (show B + 1 ≠ ob by omega)]; exact r1
  · rw [List.length_append, List.length_singleton, flatO_snoc]; exact kk.own h5 (by decide)
  · rcases List.mem_append.1 hx with hx | hx
    · exact ((h.att x hx).keep hK.keep (by decide)).keep kk (by decide)
    · rw [List.mem_singleton.1 hx]; exact hq.keep kk (by decide)

set_option maxRecDepth 100000 in
set_option maxHeartbeats 8000000 in
theorem lentC_any (f : Int) (v : Value) (ops : List OpD) (w : World) (hv : OpRow w v ops) (hz : SmallO ops) :
    Calls Tryz.prog 10 #[chAgg f v] w (LentOutC w f ops) := by
  obtain ⟨aa, acap, rfl, v1, v2, v3⟩ := hv
  have V3 := Lib.hid v3
  have Hz := Lib.hid hz
  have hn : ops.length ≤ 1048576 := hz.1
  obtain ⟨W, hW⟩ : ∃ W, W = (w.alloc (.cells #[.int .i64 f, .slice aa ops.length acap] 24)).alloc (.cells #[.int .i64 0, .slice none 0 0] 24) := ⟨_, rfl⟩
  have BW := Lib.hid (show Below w.heap.size w W by rw [hW]; exact ((Below.refl _ _).alloc (Nat.le_refl _) _).alloc (by simp) _)
  have r0 : W.heap[w.heap.size + 1]? = some (.cells #[.int .i64 0, .slice none 0 0] 24 (0, 0)) := by
    rw [hW]
    have := heap_new (w.alloc (.cells #[.int .i64 f, .slice aa ops.length acap] 24)) (.cells #[.int .i64 0, .slice none 0 0] 24)
    simpa using this
  have b0 : W.heap[w.heap.size]? = some (.cells #[.int .i64 f, .slice aa ops.length acap] 24 (0, 0)) := by
    rw [hW, Below.heap_alloc _ _ _ (by simp)]
    exact heap_new _ _
  have c0 : W.cell? ⟨w.heap.size, 0, none⟩ = some (.int .i64 f) := (Lib.cell_of_heap b0 0).trans rfl
  have c1 : W.cell? ⟨w.heap.size, 1, none⟩ = some (.slice aa ops.length acap) := (Lib.cell_of_heap b0 1).trans rfl
  have HW := Lib.hid hW
  have HR0 := Lib.hid r0
  have HB0 := Lib.hid b0
  have hWs : w.heap.size + 2 = W.heap.size := by rw [hW]; simp
  obtain ⟨i0, hi, hz0, hz1, hz2⟩ := info_parts infoOp
  have Hi := Lib.hid (And.intro hi (And.intro hz0 (And.intro hz1 hz2)))
  obtain ⟨M, hM, hmk⟩ : ∃ M : Array Value, M.size = (ops.length + 1) * 4 ∧ ∀ X : World, (Instr.makeSlice 22 (.int .i64 0) (.int .i64 ((ops.length : Int) + 1))).run Tryz.prog X = .ok (.slice (some ⟨X.heap.size, 0, none⟩) 0 (ops.length + 1)) (X.alloc (.cells M 48)) := by
    refine ⟨madeCells (Value.agg #[.int .i64 0, .int .i64 0, .string ⟨#[]⟩, .slice none 0 0]).cells ((ops.length + 1) * 4), size_madeCells _ _, fun X => ?_⟩
    have := run_make (P := Tryz.prog) X 22 48 i0 (.agg #[.int .i64 0, .int .i64 0, .string ⟨#[]⟩, .slice none 0 0]) Tryz.underlying22 hi hz0 .i64 .i64 0 ((ops.length : Int) + 1) (Int.le_refl _) (by omega) (by rw [hz2]; omega) (by omega)
    rw [this, hz1]
    have e : ((ops.length : Int) + 1).toNat = ops.length + 1 := by omega
    rw [e]; rfl
  have HM := Lib.hid hM
  have MK : ∀ (X : World), w.heap.size ≤ X.heap.size → (X.alloc (.cells M 48)).ownsRow w.heap.size 48 4 (.slice (some ⟨X.heap.size, 0, none⟩) 0 (ops.length + 1)) 0 [] := fun X hX => World.ownsRow_made X M (ops.length + 1) hX (by unfold maxLen; omega) HM.out
  have HMK := Lib.hid MK
  have nn0 := World.new_ne W ⟨w.heap.size, 0, none⟩ c0
  have nn1 := World.new_ne W ⟨w.heap.size, 1, none⟩ c1
  have hW0 : w.heap.size < W.heap.size := by omega
  clear hz hW v1 v2 v3 r0 b0 hi hz0 hz1 hz2 hM MK
  go_enter Tryz.func10, Tryz.ntmps10
  go_wp2_with fail
  rw [← HW.out]
  go_wp2_with fail
  go_region
  · have BZ : Below W.heap.size W ((W.alloc (.cells M 48)).alloc (.cells #[.int .i64 f, .slice (some ⟨W.heap.size, 0, none⟩) 0 (ops.length + 1)] 24)).drew := (((Below.refl _ _).alloc (Nat.le_refl _) _).alloc (by simp) _).drew
    have hz0 : LWay ((W.alloc (.cells M 48)).alloc (.cells #[.int .i64 f, .slice (some ⟨W.heap.size, 0, none⟩) 0 (ops.length + 1)] 24)).drew w.heap.size (W.heap.size + 1) f (.slice aa ops.length acap) 0 (some ⟨W.heap.size, 0, none⟩) (ops.length + 1) [] := by
      refine ⟨?_, (BZ.block _ (by omega)).trans HB0.out, (BZ.block _ (by omega)).trans HR0.out, ?_, (fun q hq => by cases hq), List.Pairwise.nil⟩
      · have := heap_new (W.alloc (.cells M 48)) (.cells #[.int .i64 f, .slice (some ⟨W.heap.size, 0, none⟩) 0 (ops.length + 1)] 24); show ((W.alloc (.cells M 48)).alloc (.cells #[.int .i64 f, .slice (some ⟨W.heap.size, 0, none⟩) 0 (ops.length + 1)] 24)).heap[W.heap.size + 1]? = _; simpa using this
      · exact ((HMK.out W (by omega)).alloc _)
    have hob1 : w.heap.size + 2 ≤ W.heap.size + 1 := by omega
    have HBZ := Lib.hid (BW.out.trans (BZ.mono BW.out.size))
    obtain ⟨Z, hZ⟩ : ∃ Z, Z = ((W.alloc (.cells M 48)).alloc (.cells #[.int .i64 f, .slice (some ⟨W.heap.size, 0, none⟩) 0 (ops.length + 1)] 24)).drew := ⟨_, rfl⟩
    obtain ⟨ob, hob⟩ : ∃ ob, ob = W.heap.size + 1 := ⟨_, rfl⟩
    obtain ⟨oa0, hoa⟩ : ∃ oa0, oa0 = some (⟨W.heap.size, 0, none⟩ : Addr) := ⟨_, rfl⟩
    go_wp2_with fail
    rw [← hZ] at hz0 HBZ ⊢
    rw [← hoa] at hz0
    rw [← hob] at hz0 hob1 ⊢
    have HZ0 := Lib.hid hz0
    clear BZ hz0 hZ hob hoa c0 c1 nn0 nn1 hmk
    go_loopw [4] (fun i wr => ∃ (ps : List PA) (oa : Option Addr) (oc : Nat), i = .int .i64 (ps.length : Int) ∧ ps.length ≤ ops.length ∧ ps.map (·.1) = ops.take ps.length ∧ LWay wr w.heap.size ob f (.slice aa ops.length acap) 0 oa oc ps ∧ Below w.heap.size w wr) (fun i _ => ops.length - (intOf i).toNat)
    case atStart => exact ⟨[], oa0, ops.length + 1, rfl, Nat.zero_le _, rfl, HZ0.out, HBZ.out⟩
    case round =>
      obtain ⟨ps, oa, oc, rfl, hk, hps, hL, hB⟩ := hrel
      have s0 : wr.cell? ⟨w.heap.size, 0, none⟩ = some (.int .i64 f) := (Lib.cell_of_heap hL.c 0).trans rfl
      have s1 : wr.cell? ⟨w.heap.size, 1, none⟩ = some (.slice aa ops.length acap) := (Lib.cell_of_heap hL.c 1).trans rfl
      have s2 : wr.cell? ⟨ob, 1, none⟩ = some (.slice oa ps.length oc) := (Lib.cell_of_heap hL.out 1).trans rfl
      have hobl := lt_of_heap hL.out
      have hbw := lt_of_heap hL.c
      by_cases hlt : ps.length < ops.length
      · have hlt' : (ps.length : Int) < (ops.length : Int) := by omega
        obtain ⟨b, off, rfl, hbl, av, q0, qp, x0, x1, x2, x3⟩ := V3.out ps.length hlt
        obtain ⟨z1, z2⟩ := Hz.out.2 _ (List.getElem_mem hlt)
        have htk : ops.take (ps.length + 1) = ops.take ps.length ++ [ops[ps.length]] := List.take_succ_eq_append_getElem hlt
        obtain ⟨o, ho⟩ : ∃ o, o = ops[ps.length] := ⟨_, rfl⟩
        rw [← ho] at q0 x0 x1 x2 z1 z2 htk
        obtain ⟨ar, cr, rfl⟩ := q0.shape
        have y0 : wr.cell? ⟨b, off + ps.length * 4, none⟩ = some (.int .i64 o.kind) := (hB.cell (by exact hbl)).trans x0
        have y1 : wr.cell? ⟨b, off + ps.length * 4 + 1, none⟩ = some (.int .i64 o.n) := (hB.cell (by exact hbl)).trans x1
        have y2 : wr.cell? ⟨b, off + ps.length * 4 + 2, none⟩ = some (.string o.text) := (hB.cell (by exact hbl)).trans x2
        have y3 : wr.cell? ⟨b, off + ps.length * 4 + 3, none⟩ = some (.slice ar o.attrs.length cr) := (hB.cell (by exact hbl)).trans x3
        obtain ⟨X, hX⟩ : ∃ X, X = wr.alloc (.cells #[.int .i64 o.kind, .int .i64 o.n, .string o.text, .slice ar o.attrs.length cr] 48) := ⟨_, rfl⟩
        have BX : Below wr.heap.size wr X := by rw [hX]; exact below_box _ _
        have hbox : X.heap[wr.heap.size]? = some (.cells #[.int .i64 o.kind, .int .i64 o.n, .string o.text, .slice ar o.attrs.length cr] 48 (0, 0)) := by rw [hX]; exact heap_new _ _
        have d3 : X.cell? ⟨wr.heap.size, 3, none⟩ = some (.slice ar o.attrs.length cr) := (Lib.cell_of_heap hbox 3).trans rfl
        have hXs : wr.heap.size < X.heap.size := lt_of_heap hbox
        have HX := Lib.hid hX
        have HLX := Lib.hid (hL.below BX)
        have HBX := Lib.hid (hB.trans (BX.mono hB.size))
        have HBOX := Lib.hid hbox
        have HTK := Lib.hid htk
        have HPS := Lib.hid hps
        have HOLD := Lib.hid (fun q (hq : q ∈ ps) j (hj : q.2.ownBlock = some j) => ((hL.att q hq).lt j hj).2)
        have HOWN := Lib.hid (fun j (hj : (Value.slice oa ps.length oc).ownBlock = some j) => (hL.row.lt j hj).2)
        have HLN := Lib.hid (lent_any (.slice ar o.attrs.length cr) o.attrs X (q0.below (hB.trans (BX.mono hB.size))) qp (by have := z2.1; omega))
        clear q0 qp x0 x1 x2 x3 z1 z2 htk hps hL ho BX hX hbox s0
        go_wp2_with fail
        rw [← HX.out]
        go_wp2_with fail
        refine HLN.out.mono ?_
        rintro e w2 ⟨g, rfl, o2, b2⟩
        have hg := (o2.lt g rfl)
        have bx2 := (b2.block _ hXs).trans HBOX.out
        have g3 : w2.cell? ⟨wr.heap.size, 3, none⟩ = some (.slice ar o.attrs.length cr) := (Lib.cell_of_heap bx2 3).trans rfl
        have fz3 : w2.frozen? ⟨wr.heap.size, 3, none⟩ = false := Lib.frozen_of_heap bx2 3
        have hs2 := b2.size
        have kY : Keep w.heap.size [48] w2 (w2.setCell ⟨wr.heap.size, 3, none⟩ (.slice (some ⟨g, 0, none⟩) o.attrs.length (o.attrs.length + 1))) := keep_set bx2 (by simp) (by omega) _ rfl _
        have bY : (w2.setCell ⟨wr.heap.size, 3, none⟩ (.slice (some ⟨g, 0, none⟩) o.attrs.length (o.attrs.length + 1))).heap[wr.heap.size]? = some (.cells #[.int .i64 o.kind, .int .i64 o.n, .string o.text, .slice (some ⟨g, 0, none⟩) o.attrs.length (o.attrs.length + 1)] 48 (0, 0)) := nblk_set bx2
        have LY : LWay (w2.setCell ⟨wr.heap.size, 3, none⟩ (.slice (some ⟨g, 0, none⟩) o.attrs.length (o.attrs.length + 1))) w.heap.size ob f (.slice (some ⟨b, off, none⟩) ops.length acap) 0 oa oc ps := by
          have h2 := HLX.out.below b2
          exact ⟨kY.kept _ _ _ _ h2.out (by decide), kY.kept _ _ _ _ h2.c (by decide), kY.kept _ _ _ _ h2.res (by decide), own_set_other h2.row _ (fun hj => absurd (HOWN.out _ hj) (Nat.lt_irrefl _)) _, fun q hq => (h2.att q hq).keep kY (by decide), h2.pw⟩
        have LQ : LAtt (w2.setCell ⟨wr.heap.size, 3, none⟩ (.slice (some ⟨g, 0, none⟩) o.attrs.length (o.attrs.length + 1))) w.heap.size (o, .slice (some ⟨g, 0, none⟩) o.attrs.length (o.attrs.length + 1)) := ⟨g, rfl, kY.own (own_base o2 (by omega)) (by decide)⟩
        have hsY : X.heap.size ≤ (w2.setCell ⟨wr.heap.size, 3, none⟩ (.slice (some ⟨g, 0, none⟩) o.attrs.length (o.attrs.length + 1))).heap.size := by simpa [World.setCell] using hs2
        have m0 : w2.cell? ⟨wr.heap.size, 0, none⟩ = some (.int .i64 o.kind) := (Lib.cell_of_heap bx2 0).trans rfl
        have m1 : w2.cell? ⟨wr.heap.size, 1, none⟩ = some (.int .i64 o.n) := (Lib.cell_of_heap bx2 1).trans rfl
        have m2 : w2.cell? ⟨wr.heap.size, 2, none⟩ = some (.string o.text) := (Lib.cell_of_heap bx2 2).trans rfl
        have m4 : w2.cell? ⟨ob, 1, none⟩ = some (.slice oa ps.length oc) := (Lib.cell_of_heap (HLX.out.below b2).out 1).trans rfl
        have HLY := Lib.hid LY
        have HLQ := Lib.hid LQ
        have HBY := Lib.hid (HBX.out.trans ((b2.mono HBX.out.size).trans kY.below))
        have hBYs : w.heap.size ≤ (w2.setCell ⟨wr.heap.size, 3, none⟩ (.slice (some ⟨g, 0, none⟩) o.attrs.length (o.attrs.length + 1))).heap.size := by omega
        have hgX : X.heap.size ≤ g := hg.1
        clear o2 b2 bx2 kY bY LY LQ hg
        have HSZ := Lib.hid (show (w2.setCell ⟨wr.heap.size, 3, none⟩ (.slice (some ⟨g, 0, none⟩) o.attrs.length (o.attrs.length + 1))).heap.size = w2.heap.size by simp [World.setCell])
        have hA : ((w2.setCell ⟨wr.heap.size, 3, none⟩ (.slice (some ⟨g, 0, none⟩) o.attrs.length (o.attrs.length + 1))).alloc (.cells #[.int .i64 o.kind, .int .i64 o.n, .string o.text, .slice (some ⟨g, 0, none⟩) o.attrs.length (o.attrs.length + 1)] 48)).heap.size = (w2.setCell ⟨wr.heap.size, 3, none⟩ (.slice (some ⟨g, 0, none⟩) o.attrs.length (o.attrs.length + 1))).heap.size + 1 := by simp
        have HA := Lib.hid hA
        clear hA
        go_wp2_with (at_builtin; refine wpList_append_new rfl (.tmp 31) (.tmp 33) 22 rfl 48 i0 (.agg #[.int .i64 0, .int .i64 0, .string ⟨#[]⟩, .slice none 0 0]) 4 56 Tryz.underlying22 Hi.out.1 Hi.out.2.1 Hi.out.2.2.1 Hi.out.2.2.2 rfl (by decide) w.heap.size (.slice oa ps.length oc) ps.length (flatO ps) rfl (HLY.out.row.alloc _) ⟨w2.heap.size, 0, none⟩ 1 1 [.int .i64 o.kind, .int .i64 o.n, .string o.text, .slice (some ⟨g, 0, none⟩) o.attrs.length (o.attrs.length + 1)] rfl rfl (by have := new_at4 (w2.setCell ⟨wr.heap.size, 3, none⟩ (.slice (some ⟨g, 0, none⟩) o.attrs.length (o.attrs.length + 1))) (.int .i64 o.kind) (.int .i64 o.n) (.string o.text) (.slice (some ⟨g, 0, none⟩) o.attrs.length (o.attrs.length + 1)) 48; rw [HSZ.out] at this; exact this) (fun u hu => by simp at hu; rcases hu with rfl | rfl | rfl | rfl <;> rfl) (by unfold maxLen; omega) (by omega) (by have := HA.out; omega) ?_; intro v' w5 oC gC nC; obtain ⟨oa', oc', rfl⟩ := own_slice oC; have LA := HLY.out.below (below_box (w2.setCell ⟨wr.heap.size, 3, none⟩ (.slice (some ⟨g, 0, none⟩) o.attrs.length (o.attrs.length + 1))) (.cells #[.int .i64 o.kind, .int .i64 o.n, .string o.text, .slice (some ⟨g, 0, none⟩) o.attrs.length (o.attrs.length + 1)] 48)); have KC := keepO_grown LA.row gC (by have := HA.out; omega) nC; have e5 := KC.keep.kept _ _ _ _ LA.out (by decide); have e1 : w5.cell? ⟨ob, 1, none⟩ = some (.slice oa ps.length oc) := (Lib.cell_of_heap e5 1).trans rfl; have e2 : w5.frozen? ⟨ob, 1, none⟩ = false := Lib.frozen_of_heap e5 1; have NX := Lib.hid (lway_put LA KC oC ((HLQ.out.keep (keep_below (B := w.heap.size) (ts := []) (below_box (w2.setCell ⟨wr.heap.size, 3, none⟩ (.slice (some ⟨g, 0, none⟩) o.attrs.length (o.attrs.length + 1))) _) hBYs) (by simp)).keep KC.keep (by decide)) (fun x hx hh => by have := HOLD.out x hx g (hh.trans rfl); omega) hob1); have HB5 := Lib.hid ((HBY.out.trans ((below_box (w2.setCell ⟨wr.heap.size, 3, none⟩ (.slice (some ⟨g, 0, none⟩) o.attrs.length (o.attrs.length + 1))) _).mono HBY.out.size)).trans KC.keep.below); clear oC gC nC LA KC e5)
        go_roundw
        case rel => exact ⟨ps ++ [(o, .slice (some ⟨g, 0, none⟩) o.attrs.length (o.attrs.length + 1))], oa', oc', by rw [List.length_append, List.length_singleton]; go_num, by rw [List.length_append, List.length_singleton]; omega, by rw [List.map_append, List.length_append, List.length_singleton, HTK.out, HPS.out]; rfl, NX.out.1, HB5.out.trans NX.out.2.below⟩
        case measure => simp [intOf]; omega
      · have hkn : ps.length = ops.length := by omega
        rw [hkn, List.take_length] at hps
        have HPS := Lib.hid hps
        have hLw := hL
        have HBX := Lib.hid hB
        have hobN : ob < wr.heap.size := hobl
        have hcN : w.heap.size < wr.heap.size := hbw
        obtain ⟨N, hN⟩ : ∃ N, N = ops.length := ⟨_, rfl⟩
        have HN := Lib.hid hN
        rw [hkn] at s2
        clear hps hL hB hlt hk
        go_wp2_with fail
        have HKN := Lib.hid hkn
        have HLX' := Lib.hid hLw
        have S0 : wr.drew.cell? ⟨w.heap.size, 0, none⟩ = some (.int .i64 f) ∧ wr.drew.cell? ⟨w.heap.size, 1, none⟩ = some (.slice aa ops.length acap) ∧ wr.drew.cell? ⟨ob, 1, none⟩ = some (.slice oa ops.length oc) := ⟨s0, s1, s2⟩
        clear hkn hLw
        refine wp_region_B (fun w' => w'.cell? ⟨w.heap.size, 0, none⟩ = some (.int .i64 f) ∧ w'.cell? ⟨w.heap.size, 1, none⟩ = some (.slice aa ops.length acap) ∧ w'.cell? ⟨ob, 1, none⟩ = some (.slice oa ops.length oc)) [12] (by kernel_rfl) (?_ : wpAnyB _ _ _ _ _ _ 13 (Array.replicate 13 false) _ _)
        refine wpAnyB_free (fuel := 12) (i := 0) (v := ?_) rfl (by kernel_rfl) (by kernel_rfl) (by kernel_rfl) (by kernel_rfl) (fun _ _ _ h => h) (.inr S0) ?_ (by rfl) ?_
        rotate_left
        · intro w'; go_simp; (try with_reducible rfl)
        simp only [Act.put, List.getElem_toArray, List.getElem_cons_zero, List.setIfInBounds_toArray, List.set_cons_zero, List.set_cons_succ]
        refine wpAnyB_load [1,11,12] (fuel := 11) (i := 1) (v := ?_) rfl (by kernel_rfl) (by kernel_rfl) (by kernel_rfl) (by kernel_rfl) (by kernel_rfl) (fun _ _ _ h => h) (.inr S0) ?_ (by rfl) ?_
        rotate_left
        · intro w' hw'; obtain ⟨m0, m1, m2⟩ := hw'; go_simp; (try with_reducible rfl)
        simp only [Act.put, List.getElem_toArray, List.getElem_cons_zero, List.getElem_cons_succ, List.setIfInBounds_toArray, List.set_cons_zero, List.set_cons_succ]
        refine wpAnyB_free (fuel := 10) (i := 2) (v := ?_) rfl (by kernel_rfl) (by kernel_rfl) (by kernel_rfl) (by kernel_rfl) (fun _ _ _ h => h) (.inr S0) ?_ (by rfl) ?_
        rotate_left
        · intro w'; go_simp; (try with_reducible rfl)
        simp only [Act.put, List.getElem_toArray, List.getElem_cons_zero, List.getElem_cons_succ, List.setIfInBounds_toArray, List.set_cons_zero, List.set_cons_succ]
        refine wpAnyB_load [3,6,10,11,12] (fuel := 9) (i := 3) (v := ?_) rfl (by kernel_rfl) (by kernel_rfl) (by kernel_rfl) (by kernel_rfl) (by kernel_rfl) (fun _ _ _ h => h) (.inr S0) ?_ (by rfl) ?_
        rotate_left
        · intro w' hw'; obtain ⟨m0, m1, m2⟩ := hw'; go_simp; (try with_reducible rfl)
        simp only [Act.put, List.getElem_toArray, List.getElem_cons_zero, List.getElem_cons_succ, List.setIfInBounds_toArray, List.set_cons_zero, List.set_cons_succ]
        refine wpAnyB_free (fuel := 8) (i := 4) (v := ?_) rfl (by kernel_rfl) (by kernel_rfl) (by kernel_rfl) (by kernel_rfl) (fun _ _ _ h => h) (.inr S0) ?_ (by rfl) ?_
        rotate_left
        · intro w'; go_simp; (try with_reducible rfl)
        simp only [Act.put, List.getElem_toArray, List.getElem_cons_zero, List.getElem_cons_succ, List.setIfInBounds_toArray, List.set_cons_zero, List.set_cons_succ]
        refine wpAnyB_free (fuel := 7) (i := 7) (v := ?_) rfl (by kernel_rfl) (by kernel_rfl) (by kernel_rfl) (by kernel_rfl) (fun _ _ _ h => h) (.inr S0) ?_ (by rfl) ?_
        rotate_left
        · intro w'; go_simp; (try with_reducible rfl)
        simp only [Act.put, List.getElem_toArray, List.getElem_cons_zero, List.getElem_cons_succ, List.setIfInBounds_toArray, List.set_cons_zero, List.set_cons_succ]
        refine wpAnyB_load [8,9,10,11,12] (fuel := 6) (i := 8) (v := ?_) rfl (by kernel_rfl) (by kernel_rfl) (by kernel_rfl) (by kernel_rfl) (by kernel_rfl) (fun _ _ _ h => h) (.inr S0) ?_ (by rfl) ?_
        rotate_left
        · intro w' hw'; obtain ⟨m0, m1, m2⟩ := hw'; go_simp; (try with_reducible rfl)
        simp only [Act.put, List.getElem_toArray, List.getElem_cons_zero, List.getElem_cons_succ, List.setIfInBounds_toArray, List.set_cons_zero, List.set_cons_succ]
        refine wpAnyB_free (fuel := 5) (i := 9) (v := ?_) rfl (by kernel_rfl) (by kernel_rfl) (by kernel_rfl) (by kernel_rfl) (fun _ _ _ h => h) (.inr S0) ?_ (by rfl) ?_
        rotate_left
        · intro w'; go_simp; (try with_reducible rfl)
        simp only [Act.put, List.getElem_toArray, List.getElem_cons_zero, List.getElem_cons_succ, List.setIfInBounds_toArray, List.set_cons_zero, List.set_cons_succ]
        refine wpAnyB_one (fuel := 4) (i := 5) rfl (by kernel_rfl) ?_
        intro KB hKB
        go_simp
        have SB : (wr.drew.alloc (.cells #[.int .i64 99, .int .i64 0, .string ⟨#[]⟩, .slice none 0 0] 48)).cell? ⟨w.heap.size, 0, none⟩ = some (.int .i64 f) ∧ (wr.drew.alloc (.cells #[.int .i64 99, .int .i64 0, .string ⟨#[]⟩, .slice none 0 0] 48)).cell? ⟨w.heap.size, 1, none⟩ = some (.slice aa ops.length acap) ∧ (wr.drew.alloc (.cells #[.int .i64 99, .int .i64 0, .string ⟨#[]⟩, .slice none 0 0] 48)).cell? ⟨ob, 1, none⟩ = some (.slice oa ops.length oc) := ⟨((below_box wr.drew _).cell (by exact hcN)).trans s0, ((below_box wr.drew _).cell (by exact hcN)).trans s1, ((below_box wr.drew _).cell (by exact hobN)).trans s2⟩
        have HLA := Lib.hid ((show LWay wr.drew w.heap.size ob f (.slice aa ops.length acap) 0 oa oc ps from HLX'.out.below (Below.refl _ _).drew).below (below_box wr.drew (.cells #[.int .i64 99, .int .i64 0, .string ⟨#[]⟩, .slice none 0 0] 48)))
        refine hKB _ _ (.inr SB) ?_
        (try simp only [Act.put, List.getElem_toArray, List.getElem_cons_zero, List.getElem_cons_succ, List.setIfInBounds_toArray, List.set_cons_zero, List.set_cons_succ])
        refine wpAnyB_one (fuel := 3) (i := 6) rfl (by kernel_rfl) ?_
        intro KB hKB
        refine step_append_new rfl (.tmp 39) (.tmp 41) 22 rfl 48 i0 (.agg #[.int .i64 0, .int .i64 0, .string ⟨#[]⟩, .slice none 0 0]) 4 56 Tryz.underlying22 Hi.out.1 Hi.out.2.1 Hi.out.2.2.1 Hi.out.2.2.2 rfl (by decide) w.heap.size (.slice oa ops.length oc) ops.length (flatO ps) rfl (by have := HLA.out.row; rwa [HKN.out] at this) ⟨wr.heap.size, 0, none⟩ 1 1 (opCells (markO, .slice none 0 0)) rfl rfl (new_at4 _ _ _ _ _ _) (fun u hu => by simp [opCells, markO] at hu; rcases hu with rfl | rfl | rfl | rfl <;> rfl) (by unfold maxLen; omega) (by omega) (by simp; omega) ?_
        intro v' w5 oC gC nC
        obtain ⟨gg, gc, rfl⟩ := ownsRow_open oC (Nat.succ_pos _)
        have KC := keepO_grown (show (wr.drew.alloc (.cells #[.int .i64 99, .int .i64 0, .string ⟨#[]⟩, .slice none 0 0] 48)).ownsRow w.heap.size 48 4 (.slice oa ops.length oc) ops.length (flatO ps) by have := HLA.out.row; rwa [HKN.out] at this) gC (by simp; omega) nC
        have ec := KC.keep.kept _ _ _ _ HLA.out.c (by decide)
        have eo := KC.keep.kept _ _ _ _ HLA.out.out (by decide)
        have er := KC.keep.kept _ _ _ _ HLA.out.res (by decide)
        rw [HKN.out] at eo
        have SC : w5.cell? ⟨w.heap.size, 0, none⟩ = some (.int .i64 f) ∧ w5.cell? ⟨w.heap.size, 1, none⟩ = some (.slice aa ops.length acap) ∧ w5.cell? ⟨ob, 1, none⟩ = some (.slice oa ops.length oc) := ⟨(Lib.cell_of_heap ec 0).trans rfl, (Lib.cell_of_heap ec 1).trans rfl, (Lib.cell_of_heap eo 1).trans rfl⟩
        have t0 : w5.cell? ⟨w.heap.size + 1, 0, none⟩ = some (.int .i64 0) := (Lib.cell_of_heap er 0).trans rfl
        have t1 : w5.cell? ⟨w.heap.size + 1, 1, none⟩ = some (.slice none 0 0) := (Lib.cell_of_heap er 1).trans rfl
        have t2 : w5.frozen? ⟨w.heap.size + 1, 0, none⟩ = false := Lib.frozen_of_heap er 0
        have t3 : w5.frozen? ⟨w.heap.size + 1, 1, none⟩ = false := Lib.frozen_of_heap er 1
        have LR : LRow w5 w.heap.size gg gc ps := ⟨by rw [HKN.out, flatO_snoc]; exact oC, fun q hq => (HLA.out.att q hq).keep KC.keep (by decide), HLA.out.pw⟩
        have hsl := slice_ops gg (ops.length + 1) gc ops.length (by have := LR.cap; rw [HKN.out] at this; omega)
        have S1 : Keep w.heap.size [24] w5 (w5.setCell ⟨w.heap.size + 1, 0, none⟩ (.int .i64 f)) := keep_set er (by simp) (Nat.le_succ _) _ rfl _
        have rB := nblk_set (j := 0) (u := .int .i64 f) er
        have S2 : Keep w.heap.size [24] (w5.setCell ⟨w.heap.size + 1, 0, none⟩ (.int .i64 f)) ((w5.setCell ⟨w.heap.size + 1, 0, none⟩ (.int .i64 f)).setCell ⟨w.heap.size + 1, 1, none⟩ (.slice (some ⟨gg, 0, none⟩) ops.length gc)) := keep_set rB (by simp) (Nat.le_succ _) _ rfl _
        have rC := nblk_set (j := 1) (u := .slice (some ⟨gg, 0, none⟩) ops.length gc) rB
        have FIN : LentOutC w f ops (.returned (chAgg f (.slice (some ⟨gg, 0, none⟩) ops.length gc))) ((w5.setCell ⟨w.heap.size + 1, 0, none⟩ (.int .i64 f)).setCell ⟨w.heap.size + 1, 1, none⟩ (.slice (some ⟨gg, 0, none⟩) ops.length gc)) := ⟨gg, gc, ps, rfl, HPS.out, LR.keep (S1.trans S2) (by decide) (by decide), ((HBX.out.trans (((Below.refl _ wr).drew).mono HBX.out.size)).trans (((below_box wr.drew (.cells #[.int .i64 99, .int .i64 0, .string ⟨#[]⟩, .slice none 0 0] 48)).mono (show w.heap.size ≤ wr.drew.heap.size from HBX.out.size)).trans KC.keep.below)).trans (S1.trans S2).below⟩
        have HFIN := Lib.hid FIN
        have z0 := (Lib.cell_of_heap rC 0).trans rfl
        have z1 := (Lib.cell_of_heap rC 1).trans rfl
        clear oC gC nC KC ec eo er LR S1 S2 rB rC FIN
        refine hKB _ _ (.inr SC) ?_
        (try simp only [Act.put, List.getElem_toArray, List.getElem_cons_zero, List.getElem_cons_succ, List.setIfInBounds_toArray, List.set_cons_zero, List.set_cons_succ])
        refine wpAnyB_free (fuel := 2) (i := 10) (v := ?_) rfl (by kernel_rfl) (by kernel_rfl) (by kernel_rfl) (by kernel_rfl) (fun _ _ _ h => h) (.inr SC) ?_ (by rfl) ?_
        rotate_left
        · intro w'; go_simp; (try with_reducible rfl)
        simp only [Act.put, List.getElem_toArray, List.getElem_cons_zero, List.getElem_cons_succ, List.setIfInBounds_toArray, List.set_cons_zero, List.set_cons_succ]
        refine wpAnyB_free (fuel := 1) (i := 11) (v := ?_) rfl (by kernel_rfl) (by kernel_rfl) (by kernel_rfl) (by kernel_rfl) (fun _ _ _ h => h) (.inr SC) ?_ (by rfl) ?_
        rotate_left
        · intro w'; go_simp; (try with_reducible rfl)
        simp only [Act.put, List.getElem_toArray, List.getElem_cons_zero, List.getElem_cons_succ, List.setIfInBounds_toArray, List.set_cons_zero, List.set_cons_succ]
        refine wpAnyB_one (fuel := 0) (i := 12) rfl (by kernel_rfl) ?_
        intro KB hKB
        go_simp
        refine hKB _ _ (.inl (by kernel_rfl)) ?_
        (try simp only [Act.put, List.getElem_toArray, List.getElem_cons_zero, List.getElem_cons_succ, List.setIfInBounds_toArray, List.set_cons_zero, List.set_cons_succ])
        refine wpAnyB_done (by kernel_rfl) ?_
        go_wp2_with fail
        exact bodyPost_ret (v := chAgg f (.slice (some ⟨gg, 0, none⟩) ops.length gc)) (by simp [results, Tryz.results10, go_sem, z0, z1]) rfl HFIN.out
  · have BZ : Below W.heap.size W ((W.alloc (.cells #[.int .i64 f, .slice (some ⟨W.heap.size + 1, 0, none⟩) 0 (ops.length + 1)] 24)).alloc (.cells M 48)).drew := (((Below.refl _ _).alloc (Nat.le_refl _) _).alloc (by simp) _).drew
    have hz0 : LWay ((W.alloc (.cells #[.int .i64 f, .slice (some ⟨W.heap.size + 1, 0, none⟩) 0 (ops.length + 1)] 24)).alloc (.cells M 48)).drew w.heap.size (W.heap.size) f (.slice aa ops.length acap) 0 (some ⟨W.heap.size + 1, 0, none⟩) (ops.length + 1) [] := by
      refine ⟨?_, (BZ.block _ (by omega)).trans HB0.out, (BZ.block _ (by omega)).trans HR0.out, ?_, (fun q hq => by cases hq), List.Pairwise.nil⟩
      · show ((W.alloc (.cells #[.int .i64 f, .slice (some ⟨W.heap.size + 1, 0, none⟩) 0 (ops.length + 1)] 24)).alloc _).heap[W.heap.size]? = _; rw [Below.heap_alloc _ _ _ (by simp)]; exact heap_new _ _
      · have := HMK.out (W.alloc (.cells #[.int .i64 f, .slice (some ⟨W.heap.size + 1, 0, none⟩) 0 (ops.length + 1)] 24)) (by simp; omega); show ((W.alloc (.cells #[.int .i64 f, .slice (some ⟨W.heap.size + 1, 0, none⟩) 0 (ops.length + 1)] 24)).alloc (.cells M 48)).ownsRow _ _ _ _ _ []; simpa using this
    have hob1 : w.heap.size + 2 ≤ W.heap.size := by omega
    have HBZ := Lib.hid (BW.out.trans (BZ.mono BW.out.size))
    obtain ⟨Z, hZ⟩ : ∃ Z, Z = ((W.alloc (.cells #[.int .i64 f, .slice (some ⟨W.heap.size + 1, 0, none⟩) 0 (ops.length + 1)] 24)).alloc (.cells M 48)).drew := ⟨_, rfl⟩
    obtain ⟨ob, hob⟩ : ∃ ob, ob = W.heap.size := ⟨_, rfl⟩
    obtain ⟨oa0, hoa⟩ : ∃ oa0, oa0 = some (⟨W.heap.size + 1, 0, none⟩ : Addr) := ⟨_, rfl⟩
    go_wp2_with fail
    rw [← hZ] at hz0 HBZ ⊢
    rw [← hoa] at hz0
    rw [← hob] at hz0 hob1 ⊢
    have HZ0 := Lib.hid hz0
    clear BZ hz0 hZ hob hoa c0 c1 nn0 nn1 hmk
    go_loopw [4] (fun i wr => ∃ (ps : List PA) (oa : Option Addr) (oc : Nat), i = .int .i64 (ps.length : Int) ∧ ps.length ≤ ops.length ∧ ps.map (·.1) = ops.take ps.length ∧ LWay wr w.heap.size ob f (.slice aa ops.length acap) 0 oa oc ps ∧ Below w.heap.size w wr) (fun i _ => ops.length - (intOf i).toNat)
    case atStart => exact ⟨[], oa0, ops.length + 1, rfl, Nat.zero_le _, rfl, HZ0.out, HBZ.out⟩
    case round =>
      obtain ⟨ps, oa, oc, rfl, hk, hps, hL, hB⟩ := hrel
      have s0 : wr.cell? ⟨w.heap.size, 0, none⟩ = some (.int .i64 f) := (Lib.cell_of_heap hL.c 0).trans rfl
      have s1 : wr.cell? ⟨w.heap.size, 1, none⟩ = some (.slice aa ops.length acap) := (Lib.cell_of_heap hL.c 1).trans rfl
      have s2 : wr.cell? ⟨ob, 1, none⟩ = some (.slice oa ps.length oc) := (Lib.cell_of_heap hL.out 1).trans rfl
      have hobl := lt_of_heap hL.out
      have hbw := lt_of_heap hL.c
      by_cases hlt : ps.length < ops.length
      · have hlt' : (ps.length : Int) < (ops.length : Int) := by omega
        obtain ⟨b, off, rfl, hbl, av, q0, qp, x0, x1, x2, x3⟩ := V3.out ps.length hlt
        obtain ⟨z1, z2⟩ := Hz.out.2 _ (List.getElem_mem hlt)
        have htk : ops.take (ps.length + 1) = ops.take ps.length ++ [ops[ps.length]] := List.take_succ_eq_append_getElem hlt
        obtain ⟨o, ho⟩ : ∃ o, o = ops[ps.length] := ⟨_, rfl⟩
        rw [← ho] at q0 x0 x1 x2 z1 z2 htk
        obtain ⟨ar, cr, rfl⟩ := q0.shape
        have y0 : wr.cell? ⟨b, off + ps.length * 4, none⟩ = some (.int .i64 o.kind) := (hB.cell (by exact hbl)).trans x0
        have y1 : wr.cell? ⟨b, off + ps.length * 4 + 1, none⟩ = some (.int .i64 o.n) := (hB.cell (by exact hbl)).trans x1
        have y2 : wr.cell? ⟨b, off + ps.length * 4 + 2, none⟩ = some (.string o.text) := (hB.cell (by exact hbl)).trans x2
        have y3 : wr.cell? ⟨b, off + ps.length * 4 + 3, none⟩ = some (.slice ar o.attrs.length cr) := (hB.cell (by exact hbl)).trans x3
        obtain ⟨X, hX⟩ : ∃ X, X = wr.alloc (.cells #[.int .i64 o.kind, .int .i64 o.n, .string o.text, .slice ar o.attrs.length cr] 48) := ⟨_, rfl⟩
        have BX : Below wr.heap.size wr X := by rw [hX]; exact below_box _ _
        have hbox : X.heap[wr.heap.size]? = some (.cells #[.int .i64 o.kind, .int .i64 o.n, .string o.text, .slice ar o.attrs.length cr] 48 (0, 0)) := by rw [hX]; exact heap_new _ _
        have d3 : X.cell? ⟨wr.heap.size, 3, none⟩ = some (.slice ar o.attrs.length cr) := (Lib.cell_of_heap hbox 3).trans rfl
        have hXs : wr.heap.size < X.heap.size := lt_of_heap hbox
        have HX := Lib.hid hX
        have HLX := Lib.hid (hL.below BX)
        have HBX := Lib.hid (hB.trans (BX.mono hB.size))
        have HBOX := Lib.hid hbox
        have HTK := Lib.hid htk
        have HPS := Lib.hid hps
        have HOLD := Lib.hid (fun q (hq : q ∈ ps) j (hj : q.2.ownBlock = some j) => ((hL.att q hq).lt j hj).2)
        have HOWN := Lib.hid (fun j (hj : (Value.slice oa ps.length oc).ownBlock = some j) => (hL.row.lt j hj).2)
        have HLN := Lib.hid (lent_any (.slice ar o.attrs.length cr) o.attrs X (q0.below (hB.trans (BX.mono hB.size))) qp (by have := z2.1; omega))
        clear q0 qp x0 x1 x2 x3 z1 z2 htk hps hL ho BX hX hbox s0
        go_wp2_with fail
        rw [← HX.out]
        go_wp2_with fail
        refine HLN.out.mono ?_
        rintro e w2 ⟨g, rfl, o2, b2⟩
        have hg := (o2.lt g rfl)
        have bx2 := (b2.block _ hXs).trans HBOX.out
        have g3 : w2.cell? ⟨wr.heap.size, 3, none⟩ = some (.slice ar o.attrs.length cr) := (Lib.cell_of_heap bx2 3).trans rfl
        have fz3 : w2.frozen? ⟨wr.heap.size, 3, none⟩ = false := Lib.frozen_of_heap bx2 3
        have hs2 := b2.size
        have kY : Keep w.heap.size [48] w2 (w2.setCell ⟨wr.heap.size, 3, none⟩ (.slice (some ⟨g, 0, none⟩) o.attrs.length (o.attrs.length + 1))) := keep_set bx2 (by simp) (by omega) _ rfl _
        have bY : (w2.setCell ⟨wr.heap.size, 3, none⟩ (.slice (some ⟨g, 0, none⟩) o.attrs.length (o.attrs.length + 1))).heap[wr.heap.size]? = some (.cells #[.int .i64 o.kind, .int .i64 o.n, .string o.text, .slice (some ⟨g, 0, none⟩) o.attrs.length (o.attrs.length + 1)] 48 (0, 0)) := nblk_set bx2
        have LY : LWay (w2.setCell ⟨wr.heap.size, 3, none⟩ (.slice (some ⟨g, 0, none⟩) o.attrs.length (o.attrs.length + 1))) w.heap.size ob f (.slice (some ⟨b, off, none⟩) ops.length acap) 0 oa oc ps := by
          have h2 := HLX.out.below b2
          exact ⟨kY.kept _ _ _ _ h2.out (by decide), kY.kept _ _ _ _ h2.c (by decide), kY.kept _ _ _ _ h2.res (by decide), own_set_other h2.row _ (fun hj => absurd (HOWN.out _ hj) (Nat.lt_irrefl _)) _, fun q hq => (h2.att q hq).keep kY (by decide), h2.pw⟩
        have LQ : LAtt (w2.setCell ⟨wr.heap.size, 3, none⟩ (.slice (some ⟨g, 0, none⟩) o.attrs.length (o.attrs.length + 1))) w.heap.size (o, .slice (some ⟨g, 0, none⟩) o.attrs.length (o.attrs.length + 1)) := ⟨g, rfl, kY.own (own_base o2 (by omega)) (by decide)⟩
        have hsY : X.heap.size ≤ (w2.setCell ⟨wr.heap.size, 3, none⟩ (.slice (some ⟨g, 0, none⟩) o.attrs.length (o.attrs.length + 1))).heap.size := by simpa [World.setCell] using hs2
        have m0 : w2.cell? ⟨wr.heap.size, 0, none⟩ = some (.int .i64 o.kind) := (Lib.cell_of_heap bx2 0).trans rfl
        have m1 : w2.cell? ⟨wr.heap.size, 1, none⟩ = some (.int .i64 o.n) := (Lib.cell_of_heap bx2 1).trans rfl
        have m2 : w2.cell? ⟨wr.heap.size, 2, none⟩ = some (.string o.text) := (Lib.cell_of_heap bx2 2).trans rfl
        have m4 : w2.cell? ⟨ob, 1, none⟩ = some (.slice oa ps.length oc) := (Lib.cell_of_heap (HLX.out.below b2).out 1).trans rfl
        have HLY := Lib.hid LY
        have HLQ := Lib.hid LQ
        have HBY := Lib.hid (HBX.out.trans ((b2.mono HBX.out.size).trans kY.below))
        have hBYs : w.heap.size ≤ (w2.setCell ⟨wr.heap.size, 3, none⟩ (.slice (some ⟨g, 0, none⟩) o.attrs.length (o.attrs.length + 1))).heap.size := by omega
        have hgX : X.heap.size ≤ g := hg.1
        clear o2 b2 bx2 kY bY LY LQ hg
        have HSZ := Lib.hid (show (w2.setCell ⟨wr.heap.size, 3, none⟩ (.slice (some ⟨g, 0, none⟩) o.attrs.length (o.attrs.length + 1))).heap.size = w2.heap.size by simp [World.setCell])
        have hA : ((w2.setCell ⟨wr.heap.size, 3, none⟩ (.slice (some ⟨g, 0, none⟩) o.attrs.length (o.attrs.length + 1))).alloc (.cells #[.int .i64 o.kind, .int .i64 o.n, .string o.text, .slice (some ⟨g, 0, none⟩) o.attrs.length (o.attrs.length + 1)] 48)).heap.size = (w2.setCell ⟨wr.heap.size, 3, none⟩ (.slice (some ⟨g, 0, none⟩) o.attrs.length (o.attrs.length + 1))).heap.size + 1 := by simp
        have HA := Lib.hid hA
        clear hA
        go_wp2_with (at_builtin; refine wpList_append_new rfl (.tmp 31) (.tmp 33) 22 rfl 48 i0 (.agg #[.int .i64 0, .int .i64 0, .string ⟨#[]⟩, .slice none 0 0]) 4 56 Tryz.underlying22 Hi.out.1 Hi.out.2.1 Hi.out.2.2.1 Hi.out.2.2.2 rfl (by decide) w.heap.size (.slice oa ps.length oc) ps.length (flatO ps) rfl (HLY.out.row.alloc _) ⟨w2.heap.size, 0, none⟩ 1 1 [.int .i64 o.kind, .int .i64 o.n, .string o.text, .slice (some ⟨g, 0, none⟩) o.attrs.length (o.attrs.length + 1)] rfl rfl (by have := new_at4 (w2.setCell ⟨wr.heap.size, 3, none⟩ (.slice (some ⟨g, 0, none⟩) o.attrs.length (o.attrs.length + 1))) (.int .i64 o.kind) (.int .i64 o.n) (.string o.text) (.slice (some ⟨g, 0, none⟩) o.attrs.length (o.attrs.length + 1)) 48; rw [HSZ.out] at this; exact this) (fun u hu => by simp at hu; rcases hu with rfl | rfl | rfl | rfl <;> rfl) (by unfold maxLen; omega) (by omega) (by have := HA.out; omega) ?_; intro v' w5 oC gC nC; obtain ⟨oa', oc', rfl⟩ := own_slice oC; have LA := HLY.out.below (below_box (w2.setCell ⟨wr.heap.size, 3, none⟩ (.slice (some ⟨g, 0, none⟩) o.attrs.length (o.attrs.length + 1))) (.cells #[.int .i64 o.kind, .int .i64 o.n, .string o.text, .slice (some ⟨g, 0, none⟩) o.attrs.length (o.attrs.length + 1)] 48)); have KC := keepO_grown LA.row gC (by have := HA.out; omega) nC; have e5 := KC.keep.kept _ _ _ _ LA.out (by decide); have e1 : w5.cell? ⟨ob, 1, none⟩ = some (.slice oa ps.length oc) := (Lib.cell_of_heap e5 1).trans rfl; have e2 : w5.frozen? ⟨ob, 1, none⟩ = false := Lib.frozen_of_heap e5 1; have NX := Lib.hid (lway_put LA KC oC ((HLQ.out.keep (keep_below (B := w.heap.size) (ts := []) (below_box (w2.setCell ⟨wr.heap.size, 3, none⟩ (.slice (some ⟨g, 0, none⟩) o.attrs.length (o.attrs.length + 1))) _) hBYs) (by simp)).keep KC.keep (by decide)) (fun x hx hh => by have := HOLD.out x hx g (hh.trans rfl); omega) hob1); have HB5 := Lib.hid ((HBY.out.trans ((below_box (w2.setCell ⟨wr.heap.size, 3, none⟩ (.slice (some ⟨g, 0, none⟩) o.attrs.length (o.attrs.length + 1))) _).mono HBY.out.size)).trans KC.keep.below); clear oC gC nC LA KC e5)
        go_roundw
        case rel => exact ⟨ps ++ [(o, .slice (some ⟨g, 0, none⟩) o.attrs.length (o.attrs.length + 1))], oa', oc', by rw [List.length_append, List.length_singleton]; go_num, by rw [List.length_append, List.length_singleton]; omega, by rw [List.map_append, List.length_append, List.length_singleton, HTK.out, HPS.out]; rfl, NX.out.1, HB5.out.trans NX.out.2.below⟩
        case measure => simp [intOf]; omega
      · have hkn : ps.length = ops.length := by omega
        rw [hkn, List.take_length] at hps
        have HPS := Lib.hid hps
        have hLw := hL
        have HBX := Lib.hid hB
        have hobN : ob < wr.heap.size := hobl
        have hcN : w.heap.size < wr.heap.size := hbw
        obtain ⟨N, hN⟩ : ∃ N, N = ops.length := ⟨_, rfl⟩
        have HN := Lib.hid hN
        rw [hkn] at s2
        clear hps hL hB hlt hk
        go_wp2_with fail
        have HKN := Lib.hid hkn
        have HLX' := Lib.hid hLw
        have S0 : wr.drew.cell? ⟨w.heap.size, 0, none⟩ = some (.int .i64 f) ∧ wr.drew.cell? ⟨w.heap.size, 1, none⟩ = some (.slice aa ops.length acap) ∧ wr.drew.cell? ⟨ob, 1, none⟩ = some (.slice oa ops.length oc) := ⟨s0, s1, s2⟩
        clear hkn hLw
        refine wp_region_B (fun w' => w'.cell? ⟨w.heap.size, 0, none⟩ = some (.int .i64 f) ∧ w'.cell? ⟨w.heap.size, 1, none⟩ = some (.slice aa ops.length acap) ∧ w'.cell? ⟨ob, 1, none⟩ = some (.slice oa ops.length oc)) [12] (by kernel_rfl) (?_ : wpAnyB _ _ _ _ _ _ 13 (Array.replicate 13 false) _ _)
        refine wpAnyB_free (fuel := 12) (i := 0) (v := ?_) rfl (by kernel_rfl) (by kernel_rfl) (by kernel_rfl) (by kernel_rfl) (fun _ _ _ h => h) (.inr S0) ?_ (by rfl) ?_
        rotate_left
        · intro w'; go_simp; (try with_reducible rfl)
        simp only [Act.put, List.getElem_toArray, List.getElem_cons_zero, List.setIfInBounds_toArray, List.set_cons_zero, List.set_cons_succ]
        refine wpAnyB_load [1,11,12] (fuel := 11) (i := 1) (v := ?_) rfl (by kernel_rfl) (by kernel_rfl) (by kernel_rfl) (by kernel_rfl) (by kernel_rfl) (fun _ _ _ h => h) (.inr S0) ?_ (by rfl) ?_
        rotate_left
        · intro w' hw'; obtain ⟨m0, m1, m2⟩ := hw'; go_simp; (try with_reducible rfl)
        simp only [Act.put, List.getElem_toArray, List.getElem_cons_zero, List.getElem_cons_succ, List.setIfInBounds_toArray, List.set_cons_zero, List.set_cons_succ]
        refine wpAnyB_free (fuel := 10) (i := 2) (v := ?_) rfl (by kernel_rfl) (by kernel_rfl) (by kernel_rfl) (by kernel_rfl) (fun _ _ _ h => h) (.inr S0) ?_ (by rfl) ?_
        rotate_left
        · intro w'; go_simp; (try with_reducible rfl)
        simp only [Act.put, List.getElem_toArray, List.getElem_cons_zero, List.getElem_cons_succ, List.setIfInBounds_toArray, List.set_cons_zero, List.set_cons_succ]
        refine wpAnyB_load [3,6,10,11,12] (fuel := 9) (i := 3) (v := ?_) rfl (by kernel_rfl) (by kernel_rfl) (by kernel_rfl) (by kernel_rfl) (by kernel_rfl) (fun _ _ _ h => h) (.inr S0) ?_ (by rfl) ?_
        rotate_left
        · intro w' hw'; obtain ⟨m0, m1, m2⟩ := hw'; go_simp; (try with_reducible rfl)
        simp only [Act.put, List.getElem_toArray, List.getElem_cons_zero, List.getElem_cons_succ, List.setIfInBounds_toArray, List.set_cons_zero, List.set_cons_succ]
        refine wpAnyB_free (fuel := 8) (i := 4) (v := ?_) rfl (by kernel_rfl) (by kernel_rfl) (by kernel_rfl) (by kernel_rfl) (fun _ _ _ h => h) (.inr S0) ?_ (by rfl) ?_
        rotate_left
        · intro w'; go_simp; (try with_reducible rfl)
        simp only [Act.put, List.getElem_toArray, List.getElem_cons_zero, List.getElem_cons_succ, List.setIfInBounds_toArray, List.set_cons_zero, List.set_cons_succ]
        refine wpAnyB_free (fuel := 7) (i := 7) (v := ?_) rfl (by kernel_rfl) (by kernel_rfl) (by kernel_rfl) (by kernel_rfl) (fun _ _ _ h => h) (.inr S0) ?_ (by rfl) ?_
        rotate_left
        · intro w'; go_simp; (try with_reducible rfl)
        simp only [Act.put, List.getElem_toArray, List.getElem_cons_zero, List.getElem_cons_succ, List.setIfInBounds_toArray, List.set_cons_zero, List.set_cons_succ]
        refine wpAnyB_load [8,9,10,11,12] (fuel := 6) (i := 8) (v := ?_) rfl (by kernel_rfl) (by kernel_rfl) (by kernel_rfl) (by kernel_rfl) (by kernel_rfl) (fun _ _ _ h => h) (.inr S0) ?_ (by rfl) ?_
        rotate_left
        · intro w' hw'; obtain ⟨m0, m1, m2⟩ := hw'; go_simp; (try with_reducible rfl)
        simp only [Act.put, List.getElem_toArray, List.getElem_cons_zero, List.getElem_cons_succ, List.setIfInBounds_toArray, List.set_cons_zero, List.set_cons_succ]
        refine wpAnyB_free (fuel := 5) (i := 9) (v := ?_) rfl (by kernel_rfl) (by kernel_rfl) (by kernel_rfl) (by kernel_rfl) (fun _ _ _ h => h) (.inr S0) ?_ (by rfl) ?_
        rotate_left
        · intro w'; go_simp; (try with_reducible rfl)
        simp only [Act.put, List.getElem_toArray, List.getElem_cons_zero, List.getElem_cons_succ, List.setIfInBounds_toArray, List.set_cons_zero, List.set_cons_succ]
        refine wpAnyB_one (fuel := 4) (i := 5) rfl (by kernel_rfl) ?_
        intro KB hKB
        go_simp
        have SB : (wr.drew.alloc (.cells #[.int .i64 99, .int .i64 0, .string ⟨#[]⟩, .slice none 0 0] 48)).cell? ⟨w.heap.size, 0, none⟩ = some (.int .i64 f) ∧ (wr.drew.alloc (.cells #[.int .i64 99, .int .i64 0, .string ⟨#[]⟩, .slice none 0 0] 48)).cell? ⟨w.heap.size, 1, none⟩ = some (.slice aa ops.length acap) ∧ (wr.drew.alloc (.cells #[.int .i64 99, .int .i64 0, .string ⟨#[]⟩, .slice none 0 0] 48)).cell? ⟨ob, 1, none⟩ = some (.slice oa ops.length oc) := ⟨((below_box wr.drew _).cell (by exact hcN)).trans s0, ((below_box wr.drew _).cell (by exact hcN)).trans s1, ((below_box wr.drew _).cell (by exact hobN)).trans s2⟩
        have HLA := Lib.hid ((show LWay wr.drew w.heap.size ob f (.slice aa ops.length acap) 0 oa oc ps from HLX'.out.below (Below.refl _ _).drew).below (below_box wr.drew (.cells #[.int .i64 99, .int .i64 0, .string ⟨#[]⟩, .slice none 0 0] 48)))
        refine hKB _ _ (.inr SB) ?_
        (try simp only [Act.put, List.getElem_toArray, List.getElem_cons_zero, List.getElem_cons_succ, List.setIfInBounds_toArray, List.set_cons_zero, List.set_cons_succ])
        refine wpAnyB_one (fuel := 3) (i := 6) rfl (by kernel_rfl) ?_
        intro KB hKB
        refine step_append_new rfl (.tmp 39) (.tmp 41) 22 rfl 48 i0 (.agg #[.int .i64 0, .int .i64 0, .string ⟨#[]⟩, .slice none 0 0]) 4 56 Tryz.underlying22 Hi.out.1 Hi.out.2.1 Hi.out.2.2.1 Hi.out.2.2.2 rfl (by decide) w.heap.size (.slice oa ops.length oc) ops.length (flatO ps) rfl (by have := HLA.out.row; rwa [HKN.out] at this) ⟨wr.heap.size, 0, none⟩ 1 1 (opCells (markO, .slice none 0 0)) rfl rfl (new_at4 _ _ _ _ _ _) (fun u hu => by simp [opCells, markO] at hu; rcases hu with rfl | rfl | rfl | rfl <;> rfl) (by unfold maxLen; omega) (by omega) (by simp; omega) ?_
        intro v' w5 oC gC nC
        obtain ⟨gg, gc, rfl⟩ := ownsRow_open oC (Nat.succ_pos _)
        have KC := keepO_grown (show (wr.drew.alloc (.cells #[.int .i64 99, .int .i64 0, .string ⟨#[]⟩, .slice none 0 0] 48)).ownsRow w.heap.size 48 4 (.slice oa ops.length oc) ops.length (flatO ps) by have := HLA.out.row; rwa [HKN.out] at this) gC (by simp; omega) nC
        have ec := KC.keep.kept _ _ _ _ HLA.out.c (by decide)
        have eo := KC.keep.kept _ _ _ _ HLA.out.out (by decide)
        have er := KC.keep.kept _ _ _ _ HLA.out.res (by decide)
        rw [HKN.out] at eo
        have SC : w5.cell? ⟨w.heap.size, 0, none⟩ = some (.int .i64 f) ∧ w5.cell? ⟨w.heap.size, 1, none⟩ = some (.slice aa ops.length acap) ∧ w5.cell? ⟨ob, 1, none⟩ = some (.slice oa ops.length oc) := ⟨(Lib.cell_of_heap ec 0).trans rfl, (Lib.cell_of_heap ec 1).trans rfl, (Lib.cell_of_heap eo 1).trans rfl⟩
        have t0 : w5.cell? ⟨w.heap.size + 1, 0, none⟩ = some (.int .i64 0) := (Lib.cell_of_heap er 0).trans rfl
        have t1 : w5.cell? ⟨w.heap.size + 1, 1, none⟩ = some (.slice none 0 0) := (Lib.cell_of_heap er 1).trans rfl
        have t2 : w5.frozen? ⟨w.heap.size + 1, 0, none⟩ = false := Lib.frozen_of_heap er 0
        have t3 : w5.frozen? ⟨w.heap.size + 1, 1, none⟩ = false := Lib.frozen_of_heap er 1
        have LR : LRow w5 w.heap.size gg gc ps := ⟨by rw [HKN.out, flatO_snoc]; exact oC, fun q hq => (HLA.out.att q hq).keep KC.keep (by decide), HLA.out.pw⟩
        have hsl := slice_ops gg (ops.length + 1) gc ops.length (by have := LR.cap; rw [HKN.out] at this; omega)
        have S1 : Keep w.heap.size [24] w5 (w5.setCell ⟨w.heap.size + 1, 0, none⟩ (.int .i64 f)) := keep_set er (by simp) (Nat.le_succ _) _ rfl _
        have rB := nblk_set (j := 0) (u := .int .i64 f) er
        have S2 : Keep w.heap.size [24] (w5.setCell ⟨w.heap.size + 1, 0, none⟩ (.int .i64 f)) ((w5.setCell ⟨w.heap.size + 1, 0, none⟩ (.int .i64 f)).setCell ⟨w.heap.size + 1, 1, none⟩ (.slice (some ⟨gg, 0, none⟩) ops.length gc)) := keep_set rB (by simp) (Nat.le_succ _) _ rfl _
        have rC := nblk_set (j := 1) (u := .slice (some ⟨gg, 0, none⟩) ops.length gc) rB
        have FIN : LentOutC w f ops (.returned (chAgg f (.slice (some ⟨gg, 0, none⟩) ops.length gc))) ((w5.setCell ⟨w.heap.size + 1, 0, none⟩ (.int .i64 f)).setCell ⟨w.heap.size + 1, 1, none⟩ (.slice (some ⟨gg, 0, none⟩) ops.length gc)) := ⟨gg, gc, ps, rfl, HPS.out, LR.keep (S1.trans S2) (by decide) (by decide), ((HBX.out.trans (((Below.refl _ wr).drew).mono HBX.out.size)).trans (((below_box wr.drew (.cells #[.int .i64 99, .int .i64 0, .string ⟨#[]⟩, .slice none 0 0] 48)).mono (show w.heap.size ≤ wr.drew.heap.size from HBX.out.size)).trans KC.keep.below)).trans (S1.trans S2).below⟩
        have HFIN := Lib.hid FIN
        have z0 := (Lib.cell_of_heap rC 0).trans rfl
        have z1 := (Lib.cell_of_heap rC 1).trans rfl
        clear oC gC nC KC ec eo er LR S1 S2 rB rC FIN
        refine hKB _ _ (.inr SC) ?_
        (try simp only [Act.put, List.getElem_toArray, List.getElem_cons_zero, List.getElem_cons_succ, List.setIfInBounds_toArray, List.set_cons_zero, List.set_cons_succ])
        refine wpAnyB_free (fuel := 2) (i := 10) (v := ?_) rfl (by kernel_rfl) (by kernel_rfl) (by kernel_rfl) (by kernel_rfl) (fun _ _ _ h => h) (.inr SC) ?_ (by rfl) ?_
        rotate_left
        · intro w'; go_simp; (try with_reducible rfl)
        simp only [Act.put, List.getElem_toArray, List.getElem_cons_zero, List.getElem_cons_succ, List.setIfInBounds_toArray, List.set_cons_zero, List.set_cons_succ]
        refine wpAnyB_free (fuel := 1) (i := 11) (v := ?_) rfl (by kernel_rfl) (by kernel_rfl) (by kernel_rfl) (by kernel_rfl) (fun _ _ _ h => h) (.inr SC) ?_ (by rfl) ?_
        rotate_left
        · intro w'; go_simp; (try with_reducible rfl)
        simp only [Act.put, List.getElem_toArray, List.getElem_cons_zero, List.getElem_cons_succ, List.setIfInBounds_toArray, List.set_cons_zero, List.set_cons_succ]
        refine wpAnyB_one (fuel := 0) (i := 12) rfl (by kernel_rfl) ?_
        intro KB hKB
        go_simp
        refine hKB _ _ (.inl (by kernel_rfl)) ?_
        (try simp only [Act.put, List.getElem_toArray, List.getElem_cons_zero, List.getElem_cons_succ, List.setIfInBounds_toArray, List.set_cons_zero, List.set_cons_succ])
        refine wpAnyB_done (by kernel_rfl) ?_
        go_wp2_with fail
        exact bodyPost_ret (v := chAgg f (.slice (some ⟨gg, 0, none⟩) ops.length gc)) (by simp [results, Tryz.results10, go_sem, z0, z1]) rfl HFIN.out
end Go.Proofs.YtacgkbdldbppjaaGreatDoor

/- The law's Kept and Spoil, of changesets. -/
namespace Go.Proofs.YtacgkbdldbppjaaGreatDoor
open Go.RowKit Ch At

theorem span_new {lo hi : Nat} {w w' : World} (h : Span lo hi w w') {p : Addr} (hp : w.heap.size ≤ p.block) (hl : lo ≤ p.block) (u : Value) : Span lo hi w (w'.setCell p u) :=
  ⟨h.below.setCell hl u, fun i hi' hh => (Below.heap_setCell w' p u i (by omega)).trans (h.block i hi' hh)⟩
theorem span_alloc {lo hi : Nat} {w w' : World} (h : Span lo hi w w') (hl : lo ≤ w.heap.size) (o : Obj) : Span lo hi w (w'.alloc o) := h.trans (span_below (below_box _ _) (Nat.le_trans hl h.below.size))
theorem op_cell {w : World} {B g n cap j : Nat} {xs : List Value} (h : w.ownsRow B 48 4 (.slice (some ⟨g, 0, none⟩) n cap) n xs) (hj : j < n * 4) : ∃ u, w.cell? ⟨g, j, none⟩ = some u := by
  have hl : j < xs.length := by rw [h.1]; exact hj
  exact ⟨xs[j], by rw [h.cellAt j hj]; exact List.getElem?_eq_getElem hl⟩
/-- One operation written over in one's own row: what it is then, elsewhere. -/
theorem op_stored {w : World} {B g n cap k : Nat} {xs : List Value} (h : w.ownsRow B 48 4 (.slice (some ⟨g, 0, none⟩) n cap) n xs) (u0 u1 u2 u3 : Value) :
    ∃ ys, ((((w.setCell ⟨g, k * 4, none⟩ u0).setCell ⟨g, k * 4 + 1, none⟩ u1).setCell ⟨g, k * 4 + 2, none⟩ u2).setCell ⟨g, k * 4 + 3, none⟩ u3).ownsRow B 48 4 (.slice (some ⟨g, 0, none⟩) n cap) n ys ∧ ∀ j, (k + 1) * 4 ≤ j → ys[j]? = xs[j]? := by
  refine ⟨_, ((((h.stored (k * 4) u0).1.stored (k * 4 + 1) u1).1.stored (k * 4 + 2) u2).1.stored (k * 4 + 3) u3).1, fun j hj => ?_⟩
  rw [List.getElem?_set_ne (by omega), List.getElem?_set_ne (by omega), List.getElem?_set_ne (by omega), List.getElem?_set_ne (by omega)]
theorem keep_ops4 {w : World} {B g n cap k : Nat} {xs : List Value} (h : w.ownsRow B 48 4 (.slice (some ⟨g, 0, none⟩) n cap) n xs) (u0 u1 u2 u3 : Value) :
    Keep B [48] w ((((w.setCell ⟨g, k * 4, none⟩ u0).setCell ⟨g, k * 4 + 1, none⟩ u1).setCell ⟨g, k * 4 + 2, none⟩ u2).setCell ⟨g, k * 4 + 3, none⟩ u3) := by
  obtain ⟨hB, cs, hcs⟩ := own_heap h
  have b1 := nblk_set (j := k * 4) (u := u0) hcs
  have b2 := nblk_set (j := k * 4 + 1) (u := u1) b1
  have b3 := nblk_set (j := k * 4 + 2) (u := u2) b2
  exact (((keep_set hcs (by simp) hB ⟨g, k * 4, none⟩ rfl u0).trans (keep_set b1 (by simp) hB ⟨g, k * 4 + 1, none⟩ rfl u1)).trans (keep_set b2 (by simp) hB ⟨g, k * 4 + 2, none⟩ rfl u2)).trans (keep_set b3 (by simp) hB ⟨g, k * 4 + 3, none⟩ rfl u3)
theorem span_ops4 {lo hi g k : Nat} {w : World} (h1 : lo ≤ g) (h2 : g < hi) (u0 u1 u2 u3 : Value) : Span lo hi w ((((w.setCell ⟨g, k * 4, none⟩ u0).setCell ⟨g, k * 4 + 1, none⟩ u1).setCell ⟨g, k * 4 + 2, none⟩ u2).setCell ⟨g, k * 4 + 3, none⟩ u3) :=
  (((span_set (p := ⟨g, k * 4, none⟩) h1 h2 u0).trans (span_set (p := ⟨g, k * 4 + 1, none⟩) h1 h2 u1)).trans (span_set (p := ⟨g, k * 4 + 2, none⟩) h1 h2 u2)).trans (span_set (p := ⟨g, k * 4 + 3, none⟩) h1 h2 u3)

theorem latt_kept {w w' : World} {B g : Nat} {q : PA} (h : LAtt w B q) (hg : w.grownBy w' (some g)) (hne : q.2.ownBlock ≠ some g) : LAtt w' B q := by
  obtain ⟨g', e, h⟩ := h
  exact ⟨g', e, h.kept hg (.inr (by rw [e] at hne; exact hne))⟩
def KeptOutC (w : World) (B E : Nat) (e : Ending) (w' : World) : Prop := e = .returned (.bool true) ∧ Span B E w w'
set_option maxRecDepth 100000 in
set_option maxHeartbeats 8000000 in
theorem keptC_any (f : Int) (v : Value) (ops : List OpD) (B E gg gc : Nat) (ps : List PA) (w0 w : World) (hL : LRow w B gg gc ps) (hps : ps.map (·.1) = ops) (hv : OpRow w0 v ops) (hw0 : Below w0.heap.size w0 w) (hB : w0.heap.size ≤ B) (hz : SmallO ops)
    (hgE : gg < E) (haE : ∀ q ∈ ps, ∀ j, q.2.ownBlock = some j → j < E) (hEw : E ≤ w.heap.size) :
    Calls Tryz.prog 12 #[chAgg f (.slice (some ⟨gg, 0, none⟩) ops.length gc), chAgg f v] w (KeptOutC w B E) := by
  have hln : ps.length = ops.length := by rw [← hps]; simp
  have hn : ops.length ≤ 1048576 := hz.1
  have hcap := hL.cap
  have hBw : B ≤ w.heap.size := by have := (hL.row.lt gg rfl).1; omega
  have HSM := Lib.hid (refSameCh_any f f (.slice (some ⟨gg, 0, none⟩) ops.length gc) v ops ops)
  obtain ⟨aa, acap, rfl, v1, v2, v3⟩ := hv
  obtain ⟨W, hW⟩ : ∃ W, W = (w.alloc (.cells #[.int .i64 f, .slice (some ⟨gg, 0, none⟩) ops.length gc] 24)).alloc (.cells #[.int .i64 f, .slice aa ops.length acap] 24) := ⟨_, rfl⟩
  have BW : Below w.heap.size w W := by rw [hW]; exact ((Below.refl _ _).alloc (Nat.le_refl _) _).alloc (by simp) _
  have b0 : W.heap[w.heap.size]? = some (.cells #[.int .i64 f, .slice (some ⟨gg, 0, none⟩) ops.length gc] 24 (0, 0)) := by
    rw [hW, Below.heap_alloc _ _ _ (by simp)]
    exact heap_new _ _
  have b1 : W.heap[w.heap.size + 1]? = some (.cells #[.int .i64 f, .slice aa ops.length acap] 24 (0, 0)) := by
    rw [hW]
    have := heap_new (w.alloc (.cells #[.int .i64 f, .slice (some ⟨gg, 0, none⟩) ops.length gc] 24)) (.cells #[.int .i64 f, .slice aa ops.length acap] 24)
    simpa using this
  have hc0 : OpRow w (.slice aa ops.length acap) ops := OpRow.below ⟨aa, acap, rfl, v1, v2, v3⟩ hw0
  have hin : OpRow W (.slice (some ⟨gg, 0, none⟩) ops.length gc) ops := by
    have := (hL.below BW).ops
    rw [hln, hps] at this
    exact this
  have HS := Lib.hid (HSM.out W hin (hc0.below BW))
  rw [show sameCh f f ops ops = true from decide_eq_true ⟨rfl, rfl⟩] at HS
  have c0 : W.cell? ⟨w.heap.size, 0, none⟩ = some (.int .i64 f) := (Lib.cell_of_heap b0 0).trans rfl
  have c1 : W.cell? ⟨w.heap.size, 1, none⟩ = some (.slice (some ⟨gg, 0, none⟩) ops.length gc) := (Lib.cell_of_heap b0 1).trans rfl
  have d0 : W.cell? ⟨w.heap.size + 1, 0, none⟩ = some (.int .i64 f) := (Lib.cell_of_heap b1 0).trans rfl
  have d1 : W.cell? ⟨w.heap.size + 1, 1, none⟩ = some (.slice aa ops.length acap) := (Lib.cell_of_heap b1 1).trans rfl
  have HB0 := Lib.hid b0
  have HB1 := Lib.hid b1
  have HW := Lib.hid hW
  have HBW := Lib.hid BW
  have HLW := Lib.hid (hL.below BW)
  have V3 := Lib.hid v3
  have HW0 := Lib.hid (hw0.trans (BW.mono hw0.size))
  have HLN := Lib.hid hln
  have HPS := Lib.hid hps
  have HAE := Lib.hid haE
  have hsl := slice_ops gg ops.length gc (ops.length + 1) (by omega)
  have ecast : ((ops.length + 1 : Nat) : Int) = (ops.length : Int) + 1 := by omega
  rw [ecast] at hsl
  have hz' := Lib.hid hz
  have hWs : w.heap.size + 2 = W.heap.size := by rw [hW]; simp
  have hggB : B ≤ gg := (hL.row.lt gg rfl).1
  clear hL hps hz haE v1 v2 v3 hin hc0 hW BW b0 b1 hw0 ecast hln
  go_enter Tryz.func12, Tryz.ntmps12
  go_wp2_with fail
  rw [← HW.out]
  go_wp2_with fail
  refine HS.out.mono ?_
  rintro e w1 ⟨rfl, bb⟩
  have HS1 := Lib.hid (show Span B E W w1 from span_below bb (by have := HBW.out.size; omega))
  have HL1 := Lib.hid (HLW.out.below bb)
  have hW1 := bb.size
  have x0 := (bb.block _ (show w.heap.size < W.heap.size by omega)).trans HB0.out
  have x1 := (bb.block _ (show w.heap.size + 1 < W.heap.size by omega)).trans HB1.out
  have e1 : w1.cell? ⟨w.heap.size, 1, none⟩ = some (.slice (some ⟨gg, 0, none⟩) ops.length gc) := (Lib.cell_of_heap x0 1).trans rfl
  have em : w1.cell? ⟨gg, ops.length * 4, none⟩ = some (.int .i64 99) := by
    have := (last_cells HL1.out.row).1
    rw [HLN.out] at this
    exact this
  have i1 : (0 : Int) ≤ (ops.length : Int) := by omega
  have i2 : (ops.length : Int) < (ops.length : Int) + 1 := by omega
  clear bb c0 c1 d0 d1 x0 x1
  go_wp2_with fail
  go_loopw [7, 8] (fun s i wr => ∃ k : Nat, s = .bool true ∧ i = .int .i64 (k : Int) ∧ k ≤ ops.length ∧ Span B E W wr ∧ wr.ownsRow B 48 4 (.slice (some ⟨gg, 0, none⟩) (ops.length + 1) gc) (ops.length + 1) (flatO (ps ++ [(markO, .slice none 0 0)])) ∧ (∀ j (hj : j < ps.length), k ≤ j → LAtt wr B ps[j])) (fun _ i _ => ops.length - (intOf i).toNat)
  case atStart => exact ⟨0, rfl, rfl, Nat.zero_le _, HS1.out, by have := HL1.out.row; rwa [HLN.out] at this, fun j hj _ => HL1.out.att _ (List.getElem_mem hj)⟩
  case round =>
    obtain ⟨k, rfl, rfl, hk, hS, hr, hA⟩ := hrel
    have xb0 := (hS.block _ (show w.heap.size < W.heap.size by omega) hEw).trans HB0.out
    have xb1 := (hS.block _ (show w.heap.size + 1 < W.heap.size by omega) (by omega)).trans HB1.out
    have s0 : wr.cell? ⟨w.heap.size, 1, none⟩ = some (.slice (some ⟨gg, 0, none⟩) ops.length gc) := (Lib.cell_of_heap xb0 1).trans rfl
    have s1 : wr.cell? ⟨w.heap.size + 1, 1, none⟩ = some (.slice aa ops.length acap) := (Lib.cell_of_heap xb1 1).trans rfl
    clear xb0 xb1 e1 em
    by_cases hlt : k < ops.length
    · have hlt' : (k : Int) < (ops.length : Int) := by omega
      have hlt2 : (k : Int) < (ops.length : Int) + 1 := by omega
      have k0 : (0 : Int) ≤ (k : Int) := by omega
      have hkp : k < ps.length := by have := HLN.out; omega
      obtain ⟨b, off, rfl, hbl, av, q0, qp, _, _, _, x3⟩ := V3.out k hlt
      have hpo : ps[k].1 = ops[k] := by
        have h1 : (ps.map (·.1))[k]'(by simp; exact hkp) = ps[k].1 := List.getElem_map _
        rw [← h1]
        simp only [HPS.out]
      have BC : Below w0.heap.size w0 wr := HW0.out.trans (hS.below.mono hB)
      obtain ⟨o, ho⟩ : ∃ o, o = ops[k] := ⟨_, rfl⟩
      rw [← ho] at q0 hpo
      obtain ⟨ar, cr, rfl⟩ := q0.shape
      obtain ⟨g, e2, orow⟩ := hA k hkp (Nat.le_refl _)
      rw [hpo] at e2 orow
      have y3 : wr.cell? ⟨b, off + k * 4 + 3, none⟩ = some (.slice ar o.attrs.length cr) := (BC.cell (by exact hbl)).trans x3
      have y4 : wr.cell? ⟨gg, k * 4 + 3, none⟩ = some (.slice (some ⟨g, 0, none⟩) o.attrs.length (o.attrs.length + 1)) := by
        rw [hr.cellAt (k * 4 + 3) (by omega), flatO_at (ps := ps ++ [(markO, Value.slice none 0 0)]) (i := k) (by simp; omega) 3 (by omega), List.getElem_append_left hkp]
        show some ps[k].2 = _
        rw [e2]
      have hsa := (hz'.out.2 _ (List.getElem_mem hlt)).2.1
      rw [← ho] at hsa
      have HKE := Lib.hid (kept_any (.slice ar o.attrs.length cr) B g o.attrs wr.drew (show wr.drew.ownsRow B _ _ _ _ _ from orow) (q0.below (BC.drew)) (by omega))
      have hgE2 : g < E := HAE.out _ (List.getElem_mem hkp) g (by rw [e2]; rfl)
      have hgB : B ≤ g := (orow.lt g rfl).1
      have hag := own_heap orow
      have HAG := Lib.hid hag
      have HR := Lib.hid hr
      have HA := Lib.hid hA
      have HSP := Lib.hid hS
      have HE2 := Lib.hid e2
      have hBr : B ≤ wr.heap.size := Nat.le_of_lt (Nat.lt_of_le_of_lt hgB (orow.lt g rfl).2)
      have SY : wr.drew.cell? ⟨gg, k * 4 + 3, none⟩ = some (.slice (some ⟨g, 0, none⟩) o.attrs.length (o.attrs.length + 1)) ∧ wr.drew.cell? ⟨w.heap.size + 1, 1, none⟩ = some (.slice (some ⟨b, off, none⟩) ops.length acap) ∧ wr.drew.cell? ⟨b, off + k * 4 + 3, none⟩ = some (.slice ar o.attrs.length cr) := ⟨y4, s1, y3⟩
      clear hS hr hA q0 qp x3 orow e2 BC ho hpo hag y3 y4
      go_wp2_with fail
      refine wp_region_B (fun w' => w'.cell? ⟨gg, k * 4 + 3, none⟩ = some (.slice (some ⟨g, 0, none⟩) o.attrs.length (o.attrs.length + 1)) ∧ w'.cell? ⟨w.heap.size + 1, 1, none⟩ = some (.slice (some ⟨b, off, none⟩) ops.length acap) ∧ w'.cell? ⟨b, off + k * 4 + 3, none⟩ = some (.slice ar o.attrs.length cr)) [11] (by kernel_rfl) (?_ : wpAnyB _ _ _ _ _ _ 13 (Array.replicate 13 false) _ _)
      refine wpAnyB_free (fuel := 12) (i := 0) (v := ?_) rfl (by kernel_rfl) (by kernel_rfl) (by kernel_rfl) (by kernel_rfl) (fun _ _ _ h => h) (.inr SY) ?_ (by rfl) ?_
      rotate_left
      · intro w'; go_simp; (try with_reducible rfl)
      simp only [Act.put, List.getElem_toArray, List.getElem_cons_zero, List.setIfInBounds_toArray, List.set_cons_zero, List.set_cons_succ]
      refine wpAnyB_free (fuel := 11) (i := 1) (v := ?_) rfl (by kernel_rfl) (by kernel_rfl) (by kernel_rfl) (by kernel_rfl) (fun _ _ _ h => h) (.inr SY) ?_ (by rfl) ?_
      rotate_left
      · intro w'; go_simp; (try with_reducible rfl)
      simp only [Act.put, List.getElem_toArray, List.getElem_cons_zero, List.getElem_cons_succ, List.setIfInBounds_toArray, List.set_cons_zero, List.set_cons_succ]
      refine wpAnyB_free (fuel := 10) (i := 2) (v := .pointer (some ⟨gg, k * 4, none⟩)) rfl (by kernel_rfl) (by kernel_rfl) (by kernel_rfl) (by kernel_rfl) (fun _ _ _ h => h) (.inr SY) ?_ (by rfl) ?_
      · intro w'; go_simp; (try (intro hh; omega))
      simp only [Act.put, List.getElem_toArray, List.getElem_cons_zero, List.getElem_cons_succ, List.setIfInBounds_toArray, List.set_cons_zero, List.set_cons_succ]
      refine wpAnyB_free (fuel := 9) (i := 3) (v := ?_) rfl (by kernel_rfl) (by kernel_rfl) (by kernel_rfl) (by kernel_rfl) (fun _ _ _ h => h) (.inr SY) ?_ (by rfl) ?_
      rotate_left
      · intro w'; go_simp; (try with_reducible rfl)
      simp only [Act.put, List.getElem_toArray, List.getElem_cons_zero, List.getElem_cons_succ, List.setIfInBounds_toArray, List.set_cons_zero, List.set_cons_succ]
      refine wpAnyB_load [4,11] (fuel := 8) (i := 4) (v := ?_) rfl (by kernel_rfl) (by kernel_rfl) (by kernel_rfl) (by kernel_rfl) (by kernel_rfl) (fun _ _ _ h => h) (.inr SY) ?_ (by rfl) ?_
      rotate_left
      · intro w' hw'; obtain ⟨m0, m1, m2⟩ := hw'; go_simp; (try with_reducible rfl)
      simp only [Act.put, List.getElem_toArray, List.getElem_cons_zero, List.getElem_cons_succ, List.setIfInBounds_toArray, List.set_cons_zero, List.set_cons_succ]
      refine wpAnyB_free (fuel := 7) (i := 5) (v := ?_) rfl (by kernel_rfl) (by kernel_rfl) (by kernel_rfl) (by kernel_rfl) (fun _ _ _ h => h) (.inr SY) ?_ (by rfl) ?_
      rotate_left
      · intro w'; go_simp; (try with_reducible rfl)
      simp only [Act.put, List.getElem_toArray, List.getElem_cons_zero, List.getElem_cons_succ, List.setIfInBounds_toArray, List.set_cons_zero, List.set_cons_succ]
      refine wpAnyB_load [6,8,9,10,11] (fuel := 6) (i := 6) (v := ?_) rfl (by kernel_rfl) (by kernel_rfl) (by kernel_rfl) (by kernel_rfl) (by kernel_rfl) (fun _ _ _ h => h) (.inr SY) ?_ (by rfl) ?_
      rotate_left
      · intro w' hw'; obtain ⟨m0, m1, m2⟩ := hw'; go_simp; (try with_reducible rfl)
      simp only [Act.put, List.getElem_toArray, List.getElem_cons_zero, List.getElem_cons_succ, List.setIfInBounds_toArray, List.set_cons_zero, List.set_cons_succ]
      refine wpAnyB_free (fuel := 5) (i := 7) (v := ?_) rfl (by kernel_rfl) (by kernel_rfl) (by kernel_rfl) (by kernel_rfl) (fun _ _ _ h => h) (.inr SY) ?_ (by rfl) ?_
      rotate_left
      · intro w'; go_simp; (try with_reducible rfl)
      simp only [Act.put, List.getElem_toArray, List.getElem_cons_zero, List.getElem_cons_succ, List.setIfInBounds_toArray, List.set_cons_zero, List.set_cons_succ]
      refine wpAnyB_free (fuel := 4) (i := 8) (v := .pointer (some ⟨b, off + k * 4, none⟩)) rfl (by kernel_rfl) (by kernel_rfl) (by kernel_rfl) (by kernel_rfl) (fun _ _ _ h => h) (.inr SY) ?_ (by rfl) ?_
      · intro w'; go_simp; (try (intro hh; omega))
      simp only [Act.put, List.getElem_toArray, List.getElem_cons_zero, List.getElem_cons_succ, List.setIfInBounds_toArray, List.set_cons_zero, List.set_cons_succ]
      refine wpAnyB_free (fuel := 3) (i := 9) (v := ?_) rfl (by kernel_rfl) (by kernel_rfl) (by kernel_rfl) (by kernel_rfl) (fun _ _ _ h => h) (.inr SY) ?_ (by rfl) ?_
      rotate_left
      · intro w'; go_simp; (try with_reducible rfl)
      simp only [Act.put, List.getElem_toArray, List.getElem_cons_zero, List.getElem_cons_succ, List.setIfInBounds_toArray, List.set_cons_zero, List.set_cons_succ]
      refine wpAnyB_load [10,11] (fuel := 2) (i := 10) (v := ?_) rfl (by kernel_rfl) (by kernel_rfl) (by kernel_rfl) (by kernel_rfl) (by kernel_rfl) (fun _ _ _ h => h) (.inr SY) ?_ (by rfl) ?_
      rotate_left
      · intro w' hw'; obtain ⟨m0, m1, m2⟩ := hw'; go_simp; (try with_reducible rfl)
      simp only [Act.put, List.getElem_toArray, List.getElem_cons_zero, List.getElem_cons_succ, List.setIfInBounds_toArray, List.set_cons_zero, List.set_cons_succ]
      refine wpAnyB_one (fuel := 1) (i := 11) rfl (by kernel_rfl) ?_
      intro KB hKB
      go_simp
      refine HKE.out.mono ?_
      rintro e wA ⟨rfl, gA⟩
      have spA := Lib.hid (HSP.out.trans ((Span.refl B E wr).drew.trans (span_grown gA (show B ≤ wr.drew.heap.size from hBr) (fun j hj => by cases hj; exact ⟨hgB, hgE2⟩))))
      have kA : Keep B [52] wr.drew wA := keep_grown gA (show B ≤ wr.drew.heap.size from hBr) (fun j hj => by cases hj; obtain ⟨_, cs, hcs⟩ := HAG.out; exact ⟨hgB, cs, _, _, hcs, by simp⟩)
      have rA := Lib.hid (kA.own (show wr.drew.ownsRow B 48 4 _ _ _ from HR.out) (by decide))
      have aA := Lib.hid (fun j (hj : j < ps.length) (h1 : k + 1 ≤ j) => latt_kept (show LAtt wr.drew B ps[j] from HA.out j hj (by omega)) gA (by have := List.pairwise_iff_getElem.1 HL1.out.pw k j hkp hj (by omega); rw [HE2.out] at this; intro hh; exact this hh.symm))
      clear gA kA
      refine hKB _ _ (.inl (by kernel_rfl)) ?_
      (try simp only [Act.put, List.getElem_toArray, List.getElem_cons_zero, List.getElem_cons_succ, List.setIfInBounds_toArray, List.set_cons_zero, List.set_cons_succ])
      refine wpAnyB_free (fuel := 0) (i := 12) (v := ?_) rfl (by kernel_rfl) (by kernel_rfl) (by kernel_rfl) (by kernel_rfl) (fun _ _ _ h => h) (.inl (by kernel_rfl)) ?_ (by rfl) ?_
      rotate_left
      · intro w'; go_simp; (try with_reducible rfl)
      simp only [Act.put, List.getElem_toArray, List.getElem_cons_zero, List.getElem_cons_succ, List.setIfInBounds_toArray, List.set_cons_zero, List.set_cons_succ]
      refine wpAnyB_done (by kernel_rfl) ?_
      go_wp2_with fail
      go_roundw
      case rel => exact ⟨k + 1, rfl, by go_num, by omega, spA.out, rA.out, aA.out⟩
      case measure => simp [intOf]; omega
    · have hkn : k = ops.length := by omega
      subst hkn
      have HR := Lib.hid hr
      have HSP := Lib.hid hS
      clear hS hr hA hlt hk
      go_wp2_with fail
      obtain ⟨wo, rfl⟩ : ∃ wo : World, wo = wr := ⟨_, rfl⟩
      go_loopw [10] (fun i wr => ∃ (k : Nat) (xs : List Value), i = .int .i64 (k : Int) ∧ k ≤ ops.length + 1 ∧ Span B E W wr ∧ wr.ownsRow B 48 4 (.slice (some ⟨gg, 0, none⟩) (ops.length + 1) gc) (ops.length + 1) xs) (fun i _ => ops.length + 1 - (intOf i).toNat)
      case atStart => exact ⟨0, _, rfl, Nat.zero_le _, HSP.out, HR.out⟩
      case round =>
        obtain ⟨k, xs, rfl, hk, hS, hr⟩ := hrel
        by_cases hlt : k < ops.length + 1
        · have hlt' : (k : Int) < (ops.length : Int) + 1 := by omega
          have k0 : (0 : Int) ≤ (k : Int) := by omega
          obtain ⟨u0, z0⟩ := op_cell hr (j := k * 4) (by omega)
          obtain ⟨u1, z1⟩ := op_cell hr (j := k * 4 + 1) (by omega)
          obtain ⟨u2, z2⟩ := op_cell hr (j := k * 4 + 2) (by omega)
          obtain ⟨u3, z3⟩ := op_cell hr (j := k * 4 + 3) (by omega)
          have f0 : wr.frozen? ⟨gg, k * 4, none⟩ = false := hr.frozenAt _
          have f1 : wr.frozen? ⟨gg, k * 4 + 1, none⟩ = false := hr.frozenAt _
          have f2 : wr.frozen? ⟨gg, k * 4 + 2, none⟩ = false := hr.frozenAt _
          have f3 : wr.frozen? ⟨gg, k * 4 + 3, none⟩ = false := hr.frozenAt _
          obtain ⟨ys, hy, _⟩ := op_stored (k := k) hr (.int .i64 98) (.int .i64 0) (.string ⟨#[]⟩) (.slice none 0 0)
          have HY := Lib.hid hy
          have HS2 := Lib.hid (hS.trans (span_ops4 (k := k) hggB hgE (.int .i64 98) (.int .i64 0) (.string ⟨#[]⟩) (.slice none 0 0)))
          clear hS hr hy s0 s1
          go_wp2_with fail
          go_roundw
          case rel => exact ⟨k + 1, ys, by go_num, by omega, HS2.out, HY.out⟩
          case measure => simp [intOf]; omega
        · have hkn : k = ops.length + 1 := by omega
          subst hkn
          have HS2 := Lib.hid hS
          have t1 : decide ((ops.length : Int) + 1 < (ops.length : Int) + 1) = false := decide_eq_false (by omega)
          clear hS hr hlt hk s0 s1
          go_wp2_with fail
          go_ret
          exact ⟨rfl, (span_below HBW.out hBw).trans HS2.out⟩

def SpoilOutC (w : World) (B E : Nat) (e : Ending) (w' : World) : Prop := ∃ N : Int, e = .returned (.int .i64 N) ∧ 1 ≤ N ∧ N ≤ 4398046511104 ∧ Span B E w w'
set_option maxRecDepth 100000 in
set_option maxHeartbeats 8000000 in
theorem spoilC_any (f : Int) (v : Value) (B E : Nat) (ps : List PA) (w : World) (h : OwnP w B v ps) (hz : SmallO (ps.map (·.1))) (hvE : ∀ j, v.ownBlock = some j → j < E) (haE : ∀ q ∈ ps, ∀ j, q.2.ownBlock = some j → j < E) (hEw : E ≤ w.heap.size) (hBw : B ≤ w.heap.size) :
    Calls Tryz.prog 21 #[chAgg f v] w (SpoilOutC w B E) := by
  have hn : ps.length ≤ 1048576 := by have := hz.1; rwa [List.length_map] at this
  obtain ⟨va, vc, rfl⟩ := own_slice h.1
  obtain ⟨W, hW⟩ : ∃ W, W = w.alloc (.cells #[.int .i64 f, .slice va ps.length vc] 24) := ⟨_, rfl⟩
  have BW : Below w.heap.size w W := by rw [hW]; exact below_box _ _
  have b0 : W.heap[w.heap.size]? = some (.cells #[.int .i64 f, .slice va ps.length vc] 24 (0, 0)) := by rw [hW]; exact heap_new _ _
  have hP := h.keep (keep_below (ts := []) BW (Nat.le_refl _)) (by simp) (by simp)
  have HP := Lib.hid hP
  have HB0 := Lib.hid b0
  have HW := Lib.hid hW
  have HBW := Lib.hid BW
  have HAE := Lib.hid haE
  have HVE := Lib.hid hvE
  have HZ := Lib.hid (fun q (hq : q ∈ ps) => (hz.2 q.1 (List.mem_map.2 ⟨q, hq, rfl⟩)).2.1)
  have hWs : w.heap.size + 1 = W.heap.size := by rw [hW]; simp
  obtain ⟨i0, hi, hz0, hz1, hz2⟩ := info_parts infoOp
  have Hi := Lib.hid (And.intro hi (And.intro hz0 (And.intro hz1 hz2)))
  clear h hz hvE haE hW BW b0 hP hi hz0 hz1 hz2
  go_enter Tryz.func21, Tryz.ntmps21
  go_wp2_with fail
  rw [← HW.out]
  go_wp2_with fail
  go_loopw [3, 4] (fun s i wr => ∃ (k : Nat) (m : Int) (xs : List Value), s = .int .i64 m ∧ i = .int .i64 (k : Int) ∧ k ≤ ps.length ∧ 0 ≤ m ∧ m ≤ 2097152 * (k : Int) ∧ Span B E W wr ∧ wr.ownsRow B 48 4 (.slice va ps.length vc) ps.length xs ∧ (∀ j, k * 4 ≤ j → xs[j]? = (flatO ps)[j]?) ∧ (∀ q ∈ ps, ∃ ys, wr.ownsRow B 52 2 q.2 q.1.attrs.length ys)) (fun _ i _ => ps.length - (intOf i).toNat)
  case atStart => exact ⟨0, 0, _, rfl, rfl, Nat.zero_le _, Int.le_refl _, by omega, Span.refl _ _ _, HP.out.1, fun _ _ => rfl, fun q hq => ⟨_, HP.out.2 q hq⟩⟩
  case round =>
    obtain ⟨k, m, xs, rfl, rfl, hk, hm0, hm1, hS, hr, hx, hA⟩ := hrel
    have xb0 := (hS.block _ (show w.heap.size < W.heap.size by omega) hEw).trans HB0.out
    have s0 : wr.cell? ⟨w.heap.size, 1, none⟩ = some (.slice va ps.length vc) := (Lib.cell_of_heap xb0 1).trans rfl
    have hBr : B ≤ wr.heap.size := by have := hS.below.size; omega
    by_cases hlt : k < ps.length
    · have hlt' : (k : Int) < (ps.length : Int) := by omega
      have k0 : (0 : Int) ≤ (k : Int) := by omega
      obtain ⟨gg, cap, he⟩ := ownsRow_open hr (by omega)
      simp only [Value.slice.injEq, true_and] at he
      obtain ⟨rfl, rfl⟩ := he
      obtain ⟨q, hq⟩ : ∃ q, q = ps[k] := ⟨_, rfl⟩
      have hqm : q ∈ ps := by rw [hq]; exact List.getElem_mem hlt
      obtain ⟨ys, hy⟩ := hA q hqm
      obtain ⟨qa, qc, hqv⟩ := own_slice hy
      have y3 : wr.cell? ⟨gg, k * 4 + 3, none⟩ = some (.slice qa q.1.attrs.length qc) := by
        rw [hr.cellAt (k * 4 + 3) (by omega), hx _ (by omega), flatO_at hlt 3 (by omega), ← hq]
        show some q.2 = _
        rw [hqv]
      have hql := HZ.out q hqm
      rw [hqv] at hy
      have HSP2 := Lib.hid (spoil2_any (.slice qa q.1.attrs.length qc) B q.1.attrs.length ys wr hy hql hBr)
      have hqE := Lib.hid (fun j (hj : (Value.slice qa q.1.attrs.length qc).ownBlock = some j) => And.intro (hy.lt j hj).1 (HAE.out q hqm j (by rw [hqv]; exact hj)))
      have HYH := Lib.hid (fun j (hj : (Value.slice qa q.1.attrs.length qc).ownBlock = some j) => own_row hy j hj)
      have hgE : gg < E := HVE.out gg rfl
      have hgB : B ≤ gg := (hr.lt gg rfl).1
      have HR := Lib.hid hr
      have HA := Lib.hid hA
      have HX := Lib.hid hx
      have HSP := Lib.hid hS
      clear hr hA hx hS hy hqv hq
      go_wp2_with fail
      refine HSP2.out.mono ?_
      rintro e w2 ⟨rfl, g2, sh2⟩
      have k2 : Keep B [52] wr w2 := keep_grown g2 hBr (fun j hj => by obtain ⟨h1, cs, fr, h2⟩ := HYH.out j hj; exact ⟨h1, cs, _, fr, h2, by simp⟩)
      have r2 := k2.own HR.out (by decide)
      have sp2 := HSP.out.trans (span_grown g2 hBr (fun j hj => hqE.out j hj))
      obtain ⟨u0, z0⟩ := op_cell r2 (j := k * 4) (by omega)
      obtain ⟨u1, z1⟩ := op_cell r2 (j := k * 4 + 1) (by omega)
      obtain ⟨u2, z2⟩ := op_cell r2 (j := k * 4 + 2) (by omega)
      obtain ⟨u3, z3⟩ := op_cell r2 (j := k * 4 + 3) (by omega)
      have f0 : w2.frozen? ⟨gg, k * 4, none⟩ = false := r2.frozenAt _
      have f1 : w2.frozen? ⟨gg, k * 4 + 1, none⟩ = false := r2.frozenAt _
      have f2 : w2.frozen? ⟨gg, k * 4 + 2, none⟩ = false := r2.frozenAt _
      have f3 : w2.frozen? ⟨gg, k * 4 + 3, none⟩ = false := r2.frozenAt _
      obtain ⟨zs, hzs, hz3⟩ := op_stored (k := k) r2 (.int .i64 97) (.int .i64 0) (.string ⟨#[]⟩) (.slice none 0 0)
      have kk := keep_ops4 (k := k) r2 (.int .i64 97) (.int .i64 0) (.string ⟨#[]⟩) (.slice none 0 0)
      have HS3 := Lib.hid (sp2.trans (span_ops4 (k := k) hgB hgE (.int .i64 97) (.int .i64 0) (.string ⟨#[]⟩) (.slice none 0 0)))
      have xb2 := (sp2.block _ (show w.heap.size < W.heap.size by omega) hEw).trans HB0.out
      have s2 : w2.cell? ⟨w.heap.size, 1, none⟩ = some (.slice (some ⟨gg, 0, none⟩) ps.length vc) := (Lib.cell_of_heap xb2 1).trans rfl
      have HZS := Lib.hid hzs
      have HZ3 := Lib.hid (fun j (hj : (k + 1) * 4 ≤ j) => (hz3 j hj).trans (HX.out j (by omega)))
      have HA3 := Lib.hid (fun x (hx : x ∈ ps) => by obtain ⟨ys, hy⟩ := HA.out x hx; obtain ⟨ys', hy'⟩ := sh2.own hy; exact (⟨ys', kk.own hy' (by decide)⟩ : ∃ ys, _))
      clear g2 sh2 k2 r2 sp2 hzs hz3 kk xb2 s0 y3
      go_wp2_with fail
      go_roundw
      case rel => exact ⟨k + 1, m + ((q.1.attrs.length : Int) + 1), zs, by go_num, by go_num, by omega, by omega, by omega, HS3.out, HZS.out, HZ3.out, HA3.out⟩
      case measure => simp [intOf]; omega
    · have hkn : k = ps.length := by omega
      subst hkn
      have HR := Lib.hid hr
      have HSP := Lib.hid hS
      have HXB := Lib.hid xb0
      have hcb : w.heap.size < wr.heap.size := by have := hS.below.size; omega
      clear hr hA hx hS hlt hk xb0
      have hA : (wr.alloc (.cells #[.int .i64 96, .int .i64 0, .string ⟨#[]⟩, .slice none 0 0] 48)).heap.size = wr.heap.size + 1 := by simp
      have HA := Lib.hid hA
      clear hA
      go_wp2_with (at_builtin; refine wpList_append_new rfl (.tmp 27) (.tmp 29) 22 rfl 48 i0 (.agg #[.int .i64 0, .int .i64 0, .string ⟨#[]⟩, .slice none 0 0]) 4 56 Tryz.underlying22 Hi.out.1 Hi.out.2.1 Hi.out.2.2.1 Hi.out.2.2.2 rfl (by decide) B (.slice va ps.length vc) ps.length xs rfl (HR.out.alloc _) ⟨wr.heap.size, 0, none⟩ 1 1 [.int .i64 96, .int .i64 0, .string ⟨#[]⟩, .slice none 0 0] rfl rfl (new_at4 _ _ _ _ _ _) (fun u hu => by simp at hu; rcases hu with rfl | rfl | rfl | rfl <;> rfl) (by unfold maxLen; omega) (by omega) (by have := HA.out; omega) ?_; intro v' w5 oC gC _; obtain ⟨oa', oc', rfl⟩ := own_slice oC; have x5 := (gC.block w.heap.size (by have := HA.out; omega) (fun e => by have := HVE.out _ e.symm; omega)).trans ((Below.heap_alloc _ _ _ hcb).trans HXB.out); have e1 : w5.cell? ⟨w.heap.size, 1, none⟩ = some (.slice va ps.length vc) := (Lib.cell_of_heap x5 1).trans rfl; have e2 : w5.frozen? ⟨w.heap.size, 1, none⟩ = false := Lib.frozen_of_heap x5 1; have SP5 := Lib.hid ((span_alloc HSP.out (by omega) _).trans (span_grown gC (by have := HA.out; omega) (fun j hj => ⟨(HR.out.lt j hj).1, HVE.out j hj⟩))); clear oC gC x5)
      go_ret
      exact ⟨_, rfl, by omega, by omega, span_new ((span_below HBW.out hBw).trans SP5.out) (Nat.le_refl _) hBw _⟩
end Go.Proofs.YtacgkbdldbppjaaGreatDoor

/- What the laws of changesets keep: boxes. -/
namespace Go.Proofs.YtacgkbdldbppjaaGreatDoor
open Go.RowKit Ch

theorem small_t {ops : List OpD} (h : SmallO ops) : TSmall ops := fun o ho => (h.2 o ho).1
/-- Boxes of changesets. -/
def Boxes (w : World) (L : List (Nat × Array Value)) : Prop := ∀ x ∈ L, w.heap[x.1]? = some (.cells x.2 24 (0, 0))
theorem Boxes.below {w w' : World} {L : List (Nat × Array Value)} (h : Boxes w L) (hb : Below w.heap.size w w') : Boxes w' L := fun x hx => (hb.block _ (lt_of_heap (h x hx))).trans (h x hx)
theorem Boxes.span {w w' : World} {lo hi : Nat} {L : List (Nat × Array Value)} (h : Boxes w L) (hb : Span lo hi w w') (ho : ∀ x ∈ L, x.1 < lo ∨ hi ≤ x.1) : Boxes w' L := fun x hx => by
  have hl := lt_of_heap (h x hx)
  rcases ho x hx with h1 | h1
  · exact (hb.below.block _ h1).trans (h x hx)
  · exact (hb.block _ hl h1).trans (h x hx)
theorem Boxes.more {w : World} {L : List (Nat × Array Value)} (h : Boxes w L) (cs : Array Value) : Boxes (w.alloc (.cells cs 24)) (L ++ [(w.heap.size, cs)]) := fun x hx => by
  rcases List.mem_append.1 hx with hx | hx
  · exact (h.below (below_box w _)) x hx
  · rw [List.mem_singleton.1 hx]; exact heap_new _ _
theorem Boxes.at {w : World} {L : List (Nat × Array Value)} (h : Boxes w L) {b : Nat} {u v : Value} (hx : (b, #[u, v]) ∈ L) : w.cell? ⟨b, 0, none⟩ = some u ∧ w.cell? ⟨b, 1, none⟩ = some v ∧ b < w.heap.size :=
  ⟨(Lib.cell_of_heap (h _ hx) 0).trans rfl, (Lib.cell_of_heap (h _ hx) 1).trans rfl, lt_of_heap (h _ hx)⟩
end Go.Proofs.YtacgkbdldbppjaaGreatDoor

/- The document's quote: a text in quotes. -/
namespace Go.Proofs.YtacgkbdldbppjaaGreatDoor
open Go.RowKit Ch

theorem newU8 (w : World) (l : List Value) (t : TypeId) (j : Nat) (u : Value) (h : l[j]? = some u) : (w.alloc (.cells l.toArray t)).cell? ((⟨w.heap.size, 0, none⟩ : Addr).add j) = some u := by
  have e : ((⟨w.heap.size, 0, none⟩ : Addr).add j) = ⟨w.heap.size, j, none⟩ := by
    cases j <;> simp [Addr.add]
  rw [e, World.cell?_alloc_at _ _ _ _ rfl]
  simpa using h
/-- A row of bytes of one's own. -/
def OwnB (w : World) (B : Nat) (v : Value) (l : List UInt8) : Prop := w.ownsRow B 5 1 v l.length (Lib.byteCells l)
theorem OwnB.step {w wr w1 : World} {B : Nat} {v v' : Value} {l m : List UInt8} {o : Obj} {vals : List Value} (hown : OwnB wr B v l) (hbw : Below B w wr) (hB : B ≤ w.heap.size) (he : Lib.byteCells m = vals)
    (ho : w1.ownsRow B 5 1 v' (l.length + vals.length) (Lib.byteCells l ++ vals)) (hg : (wr.alloc o).grownBy w1 v.ownBlock) : OwnB w1 B v' (l ++ m) ∧ Below B w w1 := by
  refine ⟨?_, (hbw.alloc (Nat.le_trans hB hbw.size) _).grown hg (by have := hbw.size; simp; omega) (fun j hj => (hown.lt j hj).1)⟩
  unfold OwnB
  have e : m.length = vals.length := by rw [← he]; simp [Lib.byteCells]
  rw [Lib.byteCells_append, he, List.length_append, e]
  exact ho
theorem dg_at2 : ∀ n (h : n < 16), (⟨#[48, 49, 50, 51, 52, 53, 54, 55, 56, 57, 97, 98, 99, 100, 101, 102]⟩ : ByteArray)[n]'h = Sp.hexd n := by decide
theorem qb_take2 (s : ByteArray) (k : Nat) (h : k < s.size) : (s.data.toList.take (k + 1)).flatMap Sp.qb = (s.data.toList.take k).flatMap Sp.qb ++ Sp.qb s[k] := by
  have hl : k < s.data.toList.length := h
  rw [List.take_succ_eq_append_getElem hl, List.flatMap_append]
  simp
  rfl
theorem qb_le2 (l : List UInt8) : (l.flatMap Sp.qb).length ≤ 4 * l.length := by
  have := Sp.qt_len l
  simp only [Sp.qt, List.length_cons, List.length_append, List.length_nil] at this
  omega

theorem wrap_u8 {x : Int} (h0 : 0 ≤ x) (h1 : x < 256) : IntKind.u8.wrap x = x := by
  simp [IntKind.wrap, IntKind.bits, IntKind.signed]; omega
theorem b_is' {x c : UInt8} {n : Int} (hc : (c.toNat : Int) = n) (h : x = c) : ((x.toNat : Int) == n) = true := by subst h; rw [hc]; exact beq_self_eq_true n
theorem b_not' {x c : UInt8} {n : Int} (hc : (c.toNat : Int) = n) (h : x ≠ c) : ((x.toNat : Int) == n) = false := by
  rw [beq_eq_false_iff_ne]
  exact fun e => h (Sp.b_eq.2 (by omega))
set_option maxRecDepth 100000 in
set_option maxHeartbeats 8000000 in
theorem refQuote_any (s : ByteArray) (w : World) (hs : s.size ≤ 1048576) :
    Calls Tryz.prog 39 #[.string s] w fun e w' => e = .returned (.string (Sp.ba (Sp.qt s.data.toList))) ∧ Below w.heap.size w w' := by
  obtain ⟨i0, hi, hz0, hz1, hz2⟩ := info_parts infoU8
  have Hi := Lib.hid (show _ ∧ _ ∧ _ ∧ _ from ⟨hi, hz0, hz1, hz2⟩)
  clear hi hz0 hz1 hz2
  go_enter Tryz.func39, Tryz.ntmps39
  go_wp2_with fail
  go_loopg [3, 4] s.size (fun gk v i wr => ∃ k : Nat, s.size ≤ gk + k ∧ i = .int .i64 (k : Int) ∧ k ≤ s.size ∧ OwnB wr w.heap.size v ([34] ++ (s.data.toList.take k).flatMap Sp.qb) ∧ Below w.heap.size w wr)
  case atStart => exact ⟨0, by omega, rfl, Nat.zero_le _, by rw [List.take_zero]; exact World.ownsRow_lit w #[.int .u8 34] 1 (Nat.le_refl _) (by decide) rfl, below_box _ _⟩
  case round =>
    obtain ⟨k, hgk, rfl, hk, hown, hbw⟩ := hrel
    obtain ⟨oa, oc, rfl⟩ := owns_shape hown
    have Hbw := Lib.hid hbw
    have hlen := qb_le2 (s.data.toList.take k)
    rw [List.length_take, show s.data.toList.length = s.size from rfl, Nat.min_eq_left hk] at hlen
    have hl2 : ([34] ++ (s.data.toList.take k).flatMap Sp.qb : List UInt8).length ≤ 4194305 := by simp only [List.length_append, List.length_cons, List.length_nil]; omega
    generalize hL : ([34] ++ (s.data.toList.take k).flatMap Sp.qb : List UInt8) = L at *
    have Hown := Lib.hid hown
    have HL := Lib.hid hL
    clear hown hbw hL
    by_cases hlt : k < s.size
    · have hlt' : (k : Int) < (s.size : Int) := by omega
      by_cases h9 : s[k] = 34 ∨ s[k] = 92
      · have HQ := Lib.hid (show Sp.qb s[k] = [92, s[k]] by rcases h9 with h | h <;> rw [h] <;> rfl)
        by_cases h34 : s[k] = 34
        · have k2 := b_is' (n := 34) rfl h34
          clear h9 h34
          have HV := Lib.hid (show Lib.byteCells [92, s[k]] = [.int .u8 92, .int .u8 (s[k].toNat : Int)] by rfl)
          have hown := Hown.out
          have hi := Hi.out.1
          have hz0 := Hi.out.2.1
          have hz1 := Hi.out.2.2.1
          have hz2 := Hi.out.2.2.2
          go_wp2_with (first | (at_builtin; refine wpList_append_own _ rfl _ _ 56 rfl w.heap.size 5 i0 (.int .u8 0) 1 1 Tryz.underlying56 hi hz0 hz1 hz2 rfl (by decide) _ _ _ rfl (World.ownsRow.alloc hown _) ⟨wr.heap.size, 0, none⟩ 2 2 [.int .u8 92, .int .u8 (s[k].toNat : Int)] rfl rfl ?_ ?_ ?_ ?_ ?_ ?_))
          all_goals
            first
              | rfl
              | (intro u hu; simp at hu; rcases hu with rfl | rfl | rfl | rfl <;> rfl)
              | (intro u hu; simp at hu; rcases hu with rfl | rfl <;> rfl)
              | (intro u hu; simp at hu; subst hu; rfl)
              | (unfold maxLen; omega)
              | omega
              | (have := Hbw.out.size; simp; omega)
              | exact fun j u hj => newU8 _ _ _ j u hj
              | (intro v' w1 hown' hgrow _
                 clear hown hi hz0 hz1 hz2
                 have hst := Lib.hid (OwnB.step Hown.out Hbw.out (Nat.le_refl _) HV.out hown' hgrow)
                 clear hown' hgrow
                 go_wp2_with fail
                 go_roundg (gk - 1)
                 case measure => omega
                 case rel => exact ⟨k + 1, by omega, by go_num, by omega, by rw [qb_take2 s k hlt, ← List.append_assoc, HQ.out, HL.out]; exact hst.out.1, hst.out.2⟩)
        · have k2 := b_not' (n := 34) rfl h34
          have k3 := b_is' (n := 92) rfl (h9.resolve_left h34)
          clear h9 h34
          have HV := Lib.hid (show Lib.byteCells [92, s[k]] = [.int .u8 92, .int .u8 (s[k].toNat : Int)] by rfl)
          have hown := Hown.out
          have hi := Hi.out.1
          have hz0 := Hi.out.2.1
          have hz1 := Hi.out.2.2.1
          have hz2 := Hi.out.2.2.2
          go_wp2_with (first | (at_builtin; refine wpList_append_own _ rfl _ _ 56 rfl w.heap.size 5 i0 (.int .u8 0) 1 1 Tryz.underlying56 hi hz0 hz1 hz2 rfl (by decide) _ _ _ rfl (World.ownsRow.alloc hown _) ⟨wr.heap.size, 0, none⟩ 2 2 [.int .u8 92, .int .u8 (s[k].toNat : Int)] rfl rfl ?_ ?_ ?_ ?_ ?_ ?_))
          all_goals
            first
              | rfl
              | (intro u hu; simp at hu; rcases hu with rfl | rfl | rfl | rfl <;> rfl)
              | (intro u hu; simp at hu; rcases hu with rfl | rfl <;> rfl)
              | (intro u hu; simp at hu; subst hu; rfl)
              | (unfold maxLen; omega)
              | omega
              | (have := Hbw.out.size; simp; omega)
              | exact fun j u hj => newU8 _ _ _ j u hj
              | (intro v' w1 hown' hgrow _
                 clear hown hi hz0 hz1 hz2
                 have hst := Lib.hid (OwnB.step Hown.out Hbw.out (Nat.le_refl _) HV.out hown' hgrow)
                 clear hown' hgrow
                 go_wp2_with fail
                 go_roundg (gk - 1)
                 case measure => omega
                 case rel => exact ⟨k + 1, by omega, by go_num, by omega, by rw [qb_take2 s k hlt, ← List.append_assoc, HQ.out, HL.out]; exact hst.out.1, hst.out.2⟩)
      · have k2 := b_not' (n := 34) rfl (fun h => h9 (.inl h))
        have k3 := b_not' (n := 92) rfl (fun h => h9 (.inr h))
        by_cases h10 : s[k] = 10
        · have k1 := b_is' (n := 10) rfl h10
          have HQ := Lib.hid (show Sp.qb s[k] = [92, 110] by rw [h10]; rfl)
          clear h9 h10
          have HV := Lib.hid (show Lib.byteCells [92, 110] = [.int .u8 92, .int .u8 110] by rfl)
          have hown := Hown.out
          have hi := Hi.out.1
          have hz0 := Hi.out.2.1
          have hz1 := Hi.out.2.2.1
          have hz2 := Hi.out.2.2.2
          go_wp2_with (first | (at_builtin; refine wpList_append_own _ rfl _ _ 56 rfl w.heap.size 5 i0 (.int .u8 0) 1 1 Tryz.underlying56 hi hz0 hz1 hz2 rfl (by decide) _ _ _ rfl (World.ownsRow.alloc hown _) ⟨wr.heap.size, 0, none⟩ 2 2 [.int .u8 92, .int .u8 110] rfl rfl ?_ ?_ ?_ ?_ ?_ ?_))
          all_goals
            first
              | rfl
              | (intro u hu; simp at hu; rcases hu with rfl | rfl | rfl | rfl <;> rfl)
              | (intro u hu; simp at hu; rcases hu with rfl | rfl <;> rfl)
              | (intro u hu; simp at hu; subst hu; rfl)
              | (unfold maxLen; omega)
              | omega
              | (have := Hbw.out.size; simp; omega)
              | exact fun j u hj => newU8 _ _ _ j u hj
              | (intro v' w1 hown' hgrow _
                 clear hown hi hz0 hz1 hz2
                 have hst := Lib.hid (OwnB.step Hown.out Hbw.out (Nat.le_refl _) HV.out hown' hgrow)
                 clear hown' hgrow
                 go_wp2_with fail
                 go_roundg (gk - 1)
                 case measure => omega
                 case rel => exact ⟨k + 1, by omega, by go_num, by omega, by rw [qb_take2 s k hlt, ← List.append_assoc, HQ.out, HL.out]; exact hst.out.1, hst.out.2⟩)
        · have k1 := b_not' (n := 10) rfl h10
          have hb := Sp.b_lt s[k]
          have j1 : 0 ≤ (s[k].toNat : Int) / 16 ∧ (s[k].toNat : Int) / 16 < 16 := by omega
          have j2 : 0 ≤ (s[k].toNat : Int) % 16 ∧ (s[k].toNat : Int) % 16 < 16 := by omega
          have i1 : s[k].toNat / 16 < 16 := by omega
          have wr1 := wrap_u8 (x := (s[k].toNat : Int) / 16) j1.1 (by omega)
          have wr2 := wrap_u8 (x := (s[k].toNat : Int) % 16) j2.1 (by omega)
          have i2 : s[k].toNat % 16 < 16 := by omega
          by_cases hc : Sp.ctl s[k] = true
          · have HQ := Lib.hid (show Sp.qb s[k] = [92, 120, Sp.hexd (s[k].toNat / 16), Sp.hexd (s[k].toNat % 16)] by unfold Sp.qb; rw [if_neg h10, if_pos hc])
            have hcc := of_decide_eq_true (show decide (s[k].toNat < 32 ∨ s[k].toNat = 127) = true from hc)
            by_cases h32 : s[k].toNat < 32
            · have h32' : (s[k].toNat : Int) < 32 := by omega
              clear h9 h10 hc hcc h32
              have HV := Lib.hid (show Lib.byteCells [92, 120, Sp.hexd (s[k].toNat / 16), Sp.hexd (s[k].toNat % 16)] = [.int .u8 92, .int .u8 120, .int .u8 ((⟨#[48, 49, 50, 51, 52, 53, 54, 55, 56, 57, 97, 98, 99, 100, 101, 102]⟩ : ByteArray)[s[k].toNat / 16].toNat : Int), .int .u8 ((⟨#[48, 49, 50, 51, 52, 53, 54, 55, 56, 57, 97, 98, 99, 100, 101, 102]⟩ : ByteArray)[s[k].toNat % 16].toNat : Int)] by rw [dg_at2 _ (by omega), dg_at2 _ (by omega)]; rfl)
              go_wp2_with fail
              go_region_held3 (fun _ => True) (trivial)
                (first | (refine step_append_own rfl (.tmp 44) (.tmp 51) 56 rfl 5 i0 (.int .u8 0) 1 1 Tryz.underlying56 Hi.out.1 Hi.out.2.1 Hi.out.2.2.1 Hi.out.2.2.2 rfl (by decide) w.heap.size _ L.length (Lib.byteCells L) rfl (World.ownsRow.alloc Hown.out _) ⟨wr.heap.size, 0, none⟩ 4 4 [.int .u8 92, .int .u8 120, .int .u8 ((⟨#[48, 49, 50, 51, 52, 53, 54, 55, 56, 57, 97, 98, 99, 100, 101, 102]⟩ : ByteArray)[s[k].toNat / 16].toNat : Int), .int .u8 ((⟨#[48, 49, 50, 51, 52, 53, 54, 55, 56, 57, 97, 98, 99, 100, 101, 102]⟩ : ByteArray)[s[k].toNat % 16].toNat : Int)] rfl rfl (newU8 _ _ _) (fun u hu => by simp at hu; rcases hu with rfl | rfl | rfl | rfl <;> rfl) (by unfold maxLen; omega) (by omega) (by have := Hbw.out.size; simp; omega) ?_; intro v' w1 hown' hgrow))
              all_goals
                have hst := Lib.hid (OwnB.step (wr := wr.drew) Hown.out Hbw.out.drew (Nat.le_refl _) HV.out hown' hgrow)
                clear hown' hgrow
                go_wp2_with fail
                go_roundg (gk - 1)
                case measure => omega
                case rel => exact ⟨k + 1, by omega, by go_num, by omega, by rw [qb_take2 s k hlt, ← List.append_assoc, HQ.out, HL.out]; exact hst.out.1, hst.out.2⟩
            · have h32' : ¬ (s[k].toNat : Int) < 32 := by omega
              have h127 : ((s[k].toNat : Int) == 127) = true := by rw [beq_iff_eq]; omega
              clear h9 h10 hc hcc h32
              have HV := Lib.hid (show Lib.byteCells [92, 120, Sp.hexd (s[k].toNat / 16), Sp.hexd (s[k].toNat % 16)] = [.int .u8 92, .int .u8 120, .int .u8 ((⟨#[48, 49, 50, 51, 52, 53, 54, 55, 56, 57, 97, 98, 99, 100, 101, 102]⟩ : ByteArray)[s[k].toNat / 16].toNat : Int), .int .u8 ((⟨#[48, 49, 50, 51, 52, 53, 54, 55, 56, 57, 97, 98, 99, 100, 101, 102]⟩ : ByteArray)[s[k].toNat % 16].toNat : Int)] by rw [dg_at2 _ (by omega), dg_at2 _ (by omega)]; rfl)
              go_wp2_with fail
              go_region_held3 (fun _ => True) (trivial)
                (first | (refine step_append_own rfl (.tmp 44) (.tmp 51) 56 rfl 5 i0 (.int .u8 0) 1 1 Tryz.underlying56 Hi.out.1 Hi.out.2.1 Hi.out.2.2.1 Hi.out.2.2.2 rfl (by decide) w.heap.size _ L.length (Lib.byteCells L) rfl (World.ownsRow.alloc Hown.out _) ⟨wr.heap.size, 0, none⟩ 4 4 [.int .u8 92, .int .u8 120, .int .u8 ((⟨#[48, 49, 50, 51, 52, 53, 54, 55, 56, 57, 97, 98, 99, 100, 101, 102]⟩ : ByteArray)[s[k].toNat / 16].toNat : Int), .int .u8 ((⟨#[48, 49, 50, 51, 52, 53, 54, 55, 56, 57, 97, 98, 99, 100, 101, 102]⟩ : ByteArray)[s[k].toNat % 16].toNat : Int)] rfl rfl (newU8 _ _ _) (fun u hu => by simp at hu; rcases hu with rfl | rfl | rfl | rfl <;> rfl) (by unfold maxLen; omega) (by omega) (by have := Hbw.out.size; simp; omega) ?_; intro v' w1 hown' hgrow))
              all_goals
                have hst := Lib.hid (OwnB.step (wr := wr.drew) Hown.out Hbw.out.drew (Nat.le_refl _) HV.out hown' hgrow)
                clear hown' hgrow
                go_wp2_with fail
                go_roundg (gk - 1)
                case measure => omega
                case rel => exact ⟨k + 1, by omega, by go_num, by omega, by rw [qb_take2 s k hlt, ← List.append_assoc, HQ.out, HL.out]; exact hst.out.1, hst.out.2⟩
          · have HQ := Lib.hid (show Sp.qb s[k] = [s[k]] by unfold Sp.qb; rw [if_neg h10, if_neg hc, if_neg h9])
            have hcc := of_decide_eq_false (show decide (s[k].toNat < 32 ∨ s[k].toNat = 127) = false from Bool.eq_false_iff.2 hc)
            have h32' : ¬ (s[k].toNat : Int) < 32 := by omega
            have h127 : ((s[k].toNat : Int) == 127) = false := by rw [beq_eq_false_iff_ne]; omega
            clear h9 h10 hc hcc
            have HV := Lib.hid (show Lib.byteCells [s[k]] = [.int .u8 (s[k].toNat : Int)] by rfl)
            have hown := Hown.out
            have hi := Hi.out.1
            have hz0 := Hi.out.2.1
            have hz1 := Hi.out.2.2.1
            have hz2 := Hi.out.2.2.2
            go_wp2_with (first | (at_builtin; refine wpList_append_own _ rfl _ _ 56 rfl w.heap.size 5 i0 (.int .u8 0) 1 1 Tryz.underlying56 hi hz0 hz1 hz2 rfl (by decide) _ _ _ rfl (World.ownsRow.alloc hown _) ⟨wr.heap.size, 0, none⟩ 1 1 [.int .u8 (s[k].toNat : Int)] rfl rfl ?_ ?_ ?_ ?_ ?_ ?_))
            all_goals
              first
                | rfl
                | (intro u hu; simp at hu; rcases hu with rfl | rfl | rfl | rfl <;> rfl)
                | (intro u hu; simp at hu; rcases hu with rfl | rfl <;> rfl)
                | (intro u hu; simp at hu; subst hu; rfl)
                | (unfold maxLen; omega)
                | omega
                | (have := Hbw.out.size; simp; omega)
                | exact fun j u hj => newU8 _ _ _ j u hj
                | (intro v' w1 hown' hgrow _
                   clear hown hi hz0 hz1 hz2
                   have hst := Lib.hid (OwnB.step Hown.out Hbw.out (Nat.le_refl _) HV.out hown' hgrow)
                   clear hown' hgrow
                   go_wp2_with fail
                   go_roundg (gk - 1)
                   case measure => omega
                   case rel => exact ⟨k + 1, by omega, by go_num, by omega, by rw [qb_take2 s k hlt, ← List.append_assoc, HQ.out, HL.out]; exact hst.out.1, hst.out.2⟩)
    · have hlt' : decide ((k : Int) < (s.size : Int)) = false := decide_eq_false (by omega)
      have hks : k = s.size := by omega
      have HV := Lib.hid (show Lib.byteCells [34] = [.int .u8 34] by rfl)
      have hown := Hown.out
      have hi := Hi.out.1
      have hz0 := Hi.out.2.1
      have hz1 := Hi.out.2.2.1
      have hz2 := Hi.out.2.2.2
      go_wp2_with (first | (at_builtin; refine wpList_append_own _ rfl _ _ 56 rfl w.heap.size 5 i0 (.int .u8 0) 1 1 Tryz.underlying56 hi hz0 hz1 hz2 rfl (by decide) _ _ _ rfl (World.ownsRow.alloc hown _) ⟨wr.heap.size, 0, none⟩ 1 1 [.int .u8 34] rfl rfl ?_ ?_ ?_ ?_ ?_ ?_))
      all_goals
        first
          | rfl
          | (intro u hu; simp at hu; rcases hu with rfl | rfl | rfl | rfl <;> rfl)
          | (intro u hu; simp at hu; rcases hu with rfl | rfl <;> rfl)
          | (intro u hu; simp at hu; subst hu; rfl)
          | (unfold maxLen; omega)
          | omega
          | (have := Hbw.out.size; simp; omega)
          | exact fun j u hj => newU8 _ _ _ j u hj
          | (intro v' w1 hown' hgrow _
             clear hown hi hz0 hz1 hz2
             have hst := Lib.hid (OwnB.step Hown.out Hbw.out (Nat.le_refl _) HV.out hown' hgrow)
             clear hown' hgrow
             obtain ⟨g, cap', hv'⟩ := ownsRow_open hst.out.1 (by simp)
             have hcv := fun wx => run_convert_bytes_back (P := Tryz.prog) wx 56 9 5 ⟨g, 0, none⟩ cap' (L ++ [34]) Tryz.underlying56 Tryz.underlying5 Tryz.underlying9
             have hcv2 := hcv w1 (fun j hj => World.ownsRow.cells hst.out.1 (by rw [hv']; rfl) j _ (by rw [Lib.byteCells, List.getElem?_map, List.getElem?_eq_getElem hj]; rfl))
             subst hv'
             clear hcv
             rw [show (L ++ [(34 : UInt8)]).length = L.length + 1 from List.length_append] at hcv2
             go_wp2_with fail
             go_ret
             refine ⟨?_, hst.out.2⟩
             have e : Sp.qt s.data.toList = L ++ [34] := by rw [← HL.out, hks, show s.data.toList.take s.size = s.data.toList from List.take_of_length_le (Nat.le_refl _)]; rfl
             rw [e]; rfl)
end Go.Proofs.YtacgkbdldbppjaaGreatDoor

/- The document's Utf8, number, Quote. -/
namespace Go.Proofs.YtacgkbdldbppjaaGreatDoor
open Go.RowKit Ch Rn

theorem decodeL_dec (l : List UInt8) : Lib.decodeL l = dec l := by
  unfold Lib.decodeL
  rw [decode_eq]
  simp
theorem valid_runes (n : Nat) : ∀ l : List UInt8, l.length = n → Lib.validD l = (runes l).isSome := by
  induction n using Nat.strongRecOn with
  | ind n ih =>
    intro l hl
    by_cases hne : l = []
    · subst hne; rfl
    · rw [Lib.validD_step l hne, decodeL_dec]
      rcases dec_cases l hne with h | ⟨h1, h2, h3⟩
      · rw [h, if_pos ⟨rfl, rfl⟩, runes_bad l hne h]; rfl
      · have hn : ¬ ((dec l).1 = 65533 ∧ (dec l).2 = 1) := by
          rintro ⟨a, b⟩
          rw [a] at h2
          rw [h2] at b
          exact absurd b (by decide)
        rw [if_neg hn]
        have hp := enc_pos (dec l).1
        have hlen : (l.drop (dec l).2).length < n := by
          rw [List.length_drop, ← hl]
          have : 1 ≤ l.length := by cases l with
            | nil => exact absurd rfl hne
            | cons _ _ => simp
          omega
        rw [ih _ hlen _ rfl]
        have e : l = txt [(dec l).1] ++ l.drop (dec l).2 := by
          rw [txt_cons, txt_nil, List.append_nil]; exact h3
        have e2 := runes_append [(dec l).1] (fun c hc => by rw [List.mem_singleton.1 hc]; exact h1) (l.drop (dec l).2)
        rw [← e] at e2
        rw [e2]
        cases runes (l.drop (dec l).2) <;> rfl

set_option maxRecDepth 100000 in
set_option maxHeartbeats 2000000 in
theorem refUtf8_any (s : ByteArray) (w : World) (hs : s.size ≤ 1048576) :
    Calls Tryz.prog 40 #[.string s] w fun e w' => e = .returned (.bool (Lib.validD s.data.toList)) ∧ Below w.heap.size w w' := by
  have HR := Lib.hid (read_any s w hs)
  rw [valid_runes _ _ rfl]
  go_enter Tryz.func40, Tryz.ntmps40
  go_wp2_with fail
  refine HR.out.mono ?_
  unfold ReadPost
  rintro e w1 ⟨b, ⟨h1, rfl⟩ | ⟨cs, v, h1, rfl, ho⟩⟩
  · have H1 := Lib.hid h1
    clear h1
    go_wp2_with fail
    go_ret
    exact ⟨by rw [H1.out]; rfl, b⟩
  · have H1 := Lib.hid h1
    clear h1
    obtain ⟨a, cap, rfl⟩ := owns_shape ho
    have B1 := Lib.hid b
    by_cases hl : (cs.length : Int) ≤ 20000
    · have hd : decide ((cs.length : Int) ≤ 20000) = true := decide_eq_true hl
      have hl2 : cs.length ≤ 20000 := by omega
      rw [hd]
      clear ho b
      go_wp2_with fail
      go_ret
      exact ⟨by rw [H1.out]; rfl, B1.out⟩
    · have hd : decide ((cs.length : Int) ≤ 20000) = false := decide_eq_false hl
      have hl2 : (20000 : Int) < (cs.length : Int) := by omega
      have hl3 : 20000 < cs.length := by omega
      rw [hd]
      clear ho b
      go_wp2_with fail
      go_ret
      exact ⟨by rw [H1.out]; rfl, B1.out⟩

set_option maxRecDepth 100000 in
set_option maxHeartbeats 2000000 in
theorem refQuoteT_any (s : ByteArray) (w : World) (hs : s.size ≤ 1048576) :
    Calls Tryz.prog 15 #[.string s] w fun e w' => e = .returned (.tuple #[.string (Sp.ba (quoteF s).1), .int .i64 (quoteF s).2]) ∧ Below w.heap.size w w' := by
  have HU := Lib.hid (refUtf8_any s w hs)
  cases hv : Lib.validD s.data.toList with
  | false =>
    have HE := Lib.hid (show quoteF s = ([], 10) by unfold quoteF; rw [if_neg (by rw [hv]; decide)])
    rw [hv] at HU
    go_enter Tryz.func15, Tryz.ntmps15
    go_wp2_with fail
    refine HU.out.mono ?_
    rintro e w1 ⟨rfl, b1⟩
    go_wp2_with fail
    refine bodyPost_ret (v := .tuple #[.string ⟨#[]⟩, .int .i64 10]) (by simp [results, Tryz.results15, go_sem]) rfl ?_
    rw [HE.out]
    exact ⟨rfl, b1⟩
  | true =>
    have HE := Lib.hid (show quoteF s = (Sp.qt s.data.toList, 0) by unfold quoteF; rw [if_pos hv])
    rw [hv] at HU
    go_enter Tryz.func15, Tryz.ntmps15
    go_wp2_with fail
    refine HU.out.mono ?_
    rintro e w1 ⟨rfl, b1⟩
    have B1 := Lib.hid b1
    have HQ := Lib.hid (refQuote_any s w1 hs)
    clear b1
    go_wp2_with fail
    refine HQ.out.mono ?_
    rintro e w2 ⟨rfl, b2⟩
    have B2 := Lib.hid (B1.out.trans (b2.mono B1.out.size))
    clear b2
    go_wp2_with fail
    refine bodyPost_ret (v := .tuple #[.string (Sp.ba (Sp.qt s.data.toList)), .int .i64 0]) (by simp [results, Tryz.results15, go_sem]) rfl ?_
    rw [HE.out]
    exact ⟨rfl, B2.out⟩

theorem conv1 (w : World) (b : UInt8) (x : Int) (hx : (b.toNat : Int) = x) : (convert 56 9 (.slice (some ⟨w.heap.size, 0, none⟩) 1 1)).run Tryz.prog (w.alloc (.cells #[.int .u8 x] 5)) = .ok (.string (Sp.ba [b])) (w.alloc (.cells #[.int .u8 x] 5)) := by
  subst hx
  have := run_convert_bytes_back (P := Tryz.prog) (w.alloc (.cells #[.int .u8 (b.toNat : Int)] 5)) 56 9 5 ⟨w.heap.size, 0, none⟩ 1 [b] Tryz.underlying56 Tryz.underlying5 Tryz.underlying9
  exact this (fun j hj => by
    obtain rfl : j = 0 := by simpa using hj
    exact newU8 w [.int .u8 (b.toNat : Int)] 5 0 _ rfl)
theorem conv2 (W : World) (g : Nat) (b : UInt8) (x : Int) (hx : (b.toNat : Int) = x) (hc : W.cell? ⟨g, 0, none⟩ = some (.int .u8 x)) : (convert 56 9 (.slice (some ⟨g, 0, none⟩) 1 1)).run Tryz.prog W = .ok (.string (Sp.ba [b])) W := by
  subst hx
  have := run_convert_bytes_back (P := Tryz.prog) W 56 9 5 ⟨g, 0, none⟩ 1 [b] Tryz.underlying56 Tryz.underlying5 Tryz.underlying9
  exact this (fun j hj => by
    obtain rfl : j = 0 := by simpa using hj
    exact hc)
theorem wrap_i {x : Int} (h0 : 0 ≤ x) (h1 : x < 65536) : IntKind.i64.wrap x = x := by
  simp [IntKind.wrap, IntKind.bits, IntKind.signed]; omega
set_option maxRecDepth 100000 in
set_option maxHeartbeats 2000000 in
theorem refNumber_any (n : Nat) : ∀ (w : World), (n : Int) ≤ 20000 →
    Calls Tryz.prog 38 #[.int .i64 (n : Int)] w fun e w' => e = .returned (.string (Sp.ba (Lib.decDigits n))) ∧ Below w.heap.size w w' := by
  induction n using Nat.strongRecOn with
  | ind n ih =>
    intro w hn
    by_cases h10 : (n : Int) < 10
    · have Hd := Lib.hid (show Lib.decDigits n = [UInt8.ofNat (48 + n)] by rw [Lib.decDigits, dif_pos (by omega)])
      have wr1 := wrap_u8 (x := 48 + (n : Int)) (by omega) (by omega)
      have hc := conv1 w (UInt8.ofNat (48 + n)) (48 + (n : Int)) (by rw [Sp.of_nat (by omega)]; omega)
      clear ih hn
      go_enter Tryz.func38, Tryz.ntmps38
      go_wp2_with fail
      go_ret
      exact ⟨by rw [Hd.out]; simp, below_box _ _⟩
    · have Hd := Lib.hid (show Lib.decDigits n = Lib.decDigits (n / 10) ++ [UInt8.ofNat (48 + n % 10)] by rw [Lib.decDigits, dif_neg (by omega)])
      have HI := Lib.hid fun w => ih (n / 10) (by omega) w (by omega)
      have HT := Lib.hid (show ∀ w, Calls Tryz.prog 38 #[.int .i64 ((n : Int).tdiv 10)] w fun e w' => e = .returned (.string (Sp.ba (Lib.decDigits (n / 10)))) ∧ Below w.heap.size w w' from HI.out)
      have hc := fun w => conv1 w (UInt8.ofNat (48 + n % 10)) (48 + (n : Int) % 10) (by rw [Sp.of_nat (by omega)]; omega)
      have wr1 := wrap_u8 (x := 48 + (n : Int) % 10) (by omega) (by omega)
      have wr2 := wrap_i (x := 48 + (n : Int) % 10) (by omega) (by omega)
      have wr3 := wrap_i (x := (n : Int) % 10) (by omega) (by omega)
      have wr4 := wrap_i (x := (n : Int) / 10) (by omega) (by omega)
      have hlen : (Lib.decDigits (n / 10)).length ≤ 5 := Sp.dec_len 4 (n / 10) (by omega)
      have hs1 : (9223372036854775807 < (Sp.ba (Lib.decDigits (n / 10))).size + (Sp.ba [UInt8.ofNat (48 + n % 10)]).size) = False := by rw [size_data, size_data, Sp.data_ba, Sp.data_ba]; simp; omega
      have hx2 : ((UInt8.ofNat (48 + n % 10)).toNat : Int) = IntKind.u8.wrap (IntKind.i64.wrap (48 + (n : Int).tmod 10)) := by rw [Int.tmod_eq_emod_of_nonneg (by omega), wr2, wr1, Sp.of_nat (by omega)]; omega
      have hc2 := fun w => conv1 w (UInt8.ofNat (48 + n % 10)) (IntKind.u8.wrap (IntKind.i64.wrap (48 + (n : Int).tmod 10))) hx2
      have hc4 := fun (w : World) => conv2 (w.alloc (.cells #[.int .u8 (IntKind.u8.wrap (IntKind.i64.wrap (48 + (n : Int).tmod 10)))] 5)).drew w.heap.size (UInt8.ofNat (48 + n % 10)) _ hx2 (newU8 w [.int .u8 (IntKind.u8.wrap (IntKind.i64.wrap (48 + (n : Int).tmod 10)))] 5 0 _ rfl)
      generalize UInt8.ofNat (48 + n % 10) = bb at *
      have Hx := Lib.hid hx2
      clear hx2
      generalize Lib.decDigits (n / 10) = D at *
      clear ih hn
      go_enter Tryz.func38, Tryz.ntmps38
      go_wp2_with fail
      go_region_with
        (first
          | (go_at_call 38; refine (HT.out _).mono ?_; rintro e w1 ⟨rfl, b1⟩; (try have hc3 := conv2 w1 w.heap.size bb _ Hx.out ((b1.cell (p := ⟨w.heap.size, 0, none⟩) (by simp)).trans (newU8 w.drew [.int .u8 (IntKind.u8.wrap (IntKind.i64.wrap (48 + (n : Int).tmod 10)))] 5 0 _ rfl)))))
      all_goals
        go_wp2_with fail
        go_ret
        refine ⟨congrArg (fun t => Ending.returned (Value.string t)) ?_, ?_⟩
        · rw [Hd.out]; exact ba_eq (by rw [cat_eq, cat_data]; rfl)
        · first
            | exact below_alloc (B := w.heap.size) (w := w) (of_drew b1) (Nat.le_refl _) _
            | exact Below.trans (Below.drew (below_box w _)) (b1.mono (by simp))
            | exact Below.trans (below_box w _) (b1.mono (by simp))
            | exact Below.trans (Below.alloc (Below.drew (Below.refl w.heap.size w)) (Nat.le_refl _) _) (b1.mono (by simp))
end Go.Proofs.YtacgkbdldbppjaaGreatDoor

/- The document's Print. -/
namespace Go.Proofs.YtacgkbdldbppjaaGreatDoor
open Go.RowKit Ch

/-- 'append' of a text's bytes, as a step of a region that draws. -/
theorem step_append_str {P : Program} {ops : Array Oper} {o : Oper} {a : Act} {w : World} {K : Act → World → Prop} {Q : Exit → Act → World → Prop} {E : Prop}
    (hg : o.guard = none) (s x : Operand) (t u : TypeId) (hop : o.op = Op.call { callee := Callee.builtin Builtin.append, args := #[s, x], argTypes := #[t, u] })
    (e : TypeId) (i : TypeInfo) (h1 : P.underlying t = some (.slice e)) (h1u : P.underlying u = some .string) (h2 : P.info? e = some i) (h3 : i.zero = some (.int .u8 0)) (h4 : i.size = 1) (h5 : i.bytes = 1)
    (base : Nat) (v : Value) (n : Nat) (xs : List Value) (hs : a.eval s = v) (hown : w.ownsRow base e 1 v n xs) (str : ByteArray) (hx : a.eval x = .string str)
    (b1 : n + str.size ≤ maxLen) (b2 : n + str.size ≤ 140737488355328) (hbase : base ≤ w.heap.size)
    (hK : ∀ v' w', w'.ownsRow base e 1 v' (n + str.size) (xs ++ Lib.strCells str) → w.grownBy w' v.ownBlock → K (a.put o.dst v') w') :
    if Region.wanted o (yielded ops a.tmps) = true then Oper.wp P o a w K Q else E := by
  have hw : Region.wanted o (yielded ops a.tmps) = true := by simp [Region.wanted, hg]
  rw [if_pos hw]
  obtain ⟨v', w', hrun, r1, r2, _⟩ := Lib.run_append_own_string (P := P) w base t u o.type e i h1 h1u h2 h3 h4 h5 v n xs hown str b1 b2 hbase
  unfold Oper.wp
  simp [execOp, hop, resolve, invoke, builtin, hs, hx, hrun, Result.andThen]
  exact hK v' w' r1 r2

theorem OwnB.str {w wr w' : World} {B : Nat} {v v' : Value} {l : List UInt8} {s : ByteArray} (hown : OwnB wr B v l) (hbw : Below B w wr) (hB : B ≤ w.heap.size)
    (ho : w'.ownsRow B 5 1 v' (l.length + s.size) (Lib.byteCells l ++ Lib.strCells s)) (hg : wr.grownBy w' v.ownBlock) : OwnB w' B v' (l ++ s.data.toList) ∧ Below B w w' := by
  refine ⟨?_, hbw.grown hg (Nat.le_trans hB hbw.size) (fun j hj => (hown.lt j hj).1)⟩
  unfold OwnB
  rw [Lib.byteCells_append, List.length_append]
  exact ho
theorem OwnOps.keepC {w w' : World} {B C : Nat} {ts : List TypeId} {v : Value} {l : List OpD} (h : OwnOps w B v l) (hk : Keep C ts w w') (h1 : 48 ∉ ts) (h2 : 52 ∉ ts) : OwnOps w' B v l := by
  obtain ⟨ps, e, h⟩ := h
  exact ⟨ps, e, h.keep hk h1 h2⟩
theorem ownOps_row {w : World} {B : Nat} {v : Value} {l : List OpD} (h : OwnOps w B v l) : OpRow w v l := by
  obtain ⟨ps, e, h⟩ := h
  rw [← e]
  exact h.row

set_option maxRecDepth 100000 in
set_option maxHeartbeats 8000000 in
theorem refPrint_any (f : Int) (v : Value) (ops : List OpD) (w : World) (hv : OpRow w v ops) (hz : OSized ops) (hts : TSmall ops) :
    Calls Tryz.prog 14 #[chAgg f v] w (PrintOut w f ops) := by
  obtain ⟨i0, hi, hz0, hz1, hz2⟩ := info_parts infoU8
  have Hi := Lib.hid (show _ ∧ _ ∧ _ ∧ _ from ⟨hi, hz0, hz1, hz2⟩)
  clear hi hz0 hz1 hz2
  obtain ⟨aa, acap, rfl⟩ := hv.shape
  obtain ⟨W, hW⟩ : ∃ W, W = w.alloc (.cells #[.int .i64 f, .slice aa ops.length acap] 24) := ⟨_, rfl⟩
  have bw := show Below w.heap.size w W by rw [hW]; exact below_box _ _
  have BW := Lib.hid bw
  have HW := Lib.hid hW
  have hvW := hv.below bw
  have wh := Lib.hid (show W.heap[w.heap.size]? = some (.cells #[.int .i64 f, .slice aa ops.length acap] 24 (0, 0)) by rw [hW]; exact heap_new _ _)
  have sW : w.heap.size < W.heap.size := by rw [hW]; simp
  clear hW bw hv
  by_cases he : toE f ops = 0
  · have HN := Lib.hid (refNormal_ok f _ ops W hvW hz hts he)
    have hok := (toE_iff f ops).1 he
    have HOK := Lib.hid (norm_ok hok).1
    have HE1 := Lib.hid (printF_ok he)
    have HE2 := Lib.hid (printF_big he)
    have hf0 := hok.1
    have hf1 := hok.2.1
    have hn2000 := (norm_ok hok).1.2.2.1
    clear hvW hz hts he hok
    generalize norm ops = ns at *
    go_enter Tryz.func14, Tryz.ntmps14
    go_wp2_with fail
    rw [← HW.out]
    refine HN.out.mono ?_
    rintro e w1 ⟨v1, rfl, o1, b1⟩
    have O1 := Lib.hid o1
    have B1 := Lib.hid (BW.out.trans (b1.mono (Nat.le_of_lt sW)))
    have wh1 := (b1.block _ (lt_of_heap wh.out)).trans wh.out
    have WH1 := Lib.hid wh1
    have g0 := Joins.unfrozen_of_block wh1 0
    have g1 := Joins.unfrozen_of_block wh1 1
    have y0 := (Lib.cell_of_heap wh1 0).trans (show _ = some _ from rfl)
    have y1 := (Lib.cell_of_heap wh1 1).trans (show _ = some _ from rfl)
    obtain ⟨na, ncap, rfl⟩ := o1.row.shape
    have HR := Lib.hid o1.row
    clear o1 b1 wh1
    obtain ⟨nf, rfl⟩ : ∃ nf : Nat, f = nf := ⟨f.toNat, (Int.toNat_of_nonneg hf0).symm⟩
    obtain ⟨X, hX⟩ : ∃ X, X = (w1.setCell ⟨w.heap.size, 0, none⟩ (.int .i64 nf)).setCell ⟨w.heap.size, 1, none⟩ (.slice na ns.length ncap) := ⟨_, rfl⟩
    have x2 : X.heap[w.heap.size]? = some (.cells #[.int .i64 nf, .slice na ns.length ncap] 24 (0, 0)) := by rw [hX]; exact Joins.block_setCell (i := 1) (Joins.block_setCell (i := 0) WH1.out (.int .i64 nf)) (.slice na ns.length ncap)
    have kX : Keep w.heap.size [24] w1 X := by rw [hX]; exact (set_keep (i := 0) WH1.out (Nat.le_refl _) (.int .i64 nf)).trans (set_keep (i := 1) (Joins.block_setCell (i := 0) WH1.out (.int .i64 nf)) (Nat.le_refl _) (.slice na ns.length ncap))
    have HRX := Lib.hid (ownOps_row (OwnOps.keepC O1.out kX (by decide) (by decide)))
    have sX : X.heap.size = w1.heap.size := by rw [hX]; simp
    have BX := Lib.hid (B1.out.trans kX.below)
    have HX := Lib.hid hX
    have HXB := Lib.hid x2
    have HNf := Lib.hid fun w => refNumber_any nf w hf1
    have HIt := Lib.hid (show Lib.itoa (nf : Int) = Lib.decDigits nf by rw [Sp.itoa_n (by omega)]; simp)
    have hlen := Lib.hid (Sp.pCh_le HOK.out)
    clear hX x2 kX sX
    go_wp2_with fail
    rw [← HX.out]
    refine (HNf.out X).mono ?_
    rintro e w2 ⟨rfl, b2⟩
    rw [HIt.out] at hlen
    have hl0 := hlen.out.1
    have B2 := Lib.hid b2
    have O2 := Lib.hid (World.ownsRow_nil w2 X.heap.size 5 1)
    clear b2 y0 y1 g0 g1
    go_wp2_with (at_builtin; refine Lib.wpList_append_own_string _ rfl (.tmp 18) (.tmp 21) 56 9 rfl X.heap.size 5 i0 Tryz.underlying56 Tryz.underlying9 Hi.out.1 Hi.out.2.1 Hi.out.2.2.1 Hi.out.2.2.2 (.slice none 0 0) 0 [] rfl O2.out (Sp.ba (Lib.decDigits nf)) rfl (by rw [size_data, Sp.data_ba]; unfold maxLen; omega) (by rw [size_data, Sp.data_ba]; omega) B2.out.size ?_; intro v3 w3 o3 g3 _; have H3 := Lib.hid (OwnB.str (l := []) O2.out B2.out (Nat.le_refl _) o3 g3); clear o3 g3; obtain ⟨va, vc, rfl⟩ := owns_shape H3.out.1)
    go_loopg [5, 6] ns.length (fun gk v i wr => ∃ k : Nat, ns.length ≤ gk + k ∧ i = .int .i64 (k : Int) ∧ k ≤ ns.length ∧ OwnB wr X.heap.size v (Lib.decDigits nf ++ (ns.take k).flatMap Sp.pOp) ∧ Below X.heap.size X wr)
    case atStart => exact ⟨0, by omega, rfl, Nat.zero_le _, by have := H3.out.1; rw [Sp.data_ba] at this; simpa [Sp.data_ba, size_data] using this, H3.out.2⟩
    case round =>
      obtain ⟨k, hgk, rfl, hk, hown, hbw⟩ := hrel
      have hpre : ((ns.take k).flatMap Sp.pOp).length ≤ 800000000 := by
        have h1 := hlen.out.2
        have h2 : (ns.flatMap Sp.pOp).length = ((ns.take k).flatMap Sp.pOp).length + ((ns.drop k).flatMap Sp.pOp).length := by rw [← List.length_append, ← List.flatMap_append, List.take_append_drop]
        omega
      obtain ⟨L, hL⟩ : ∃ L, L = Lib.decDigits nf ++ (ns.take k).flatMap Sp.pOp := ⟨_, rfl⟩
      have hLl : L.length + 400000 ≤ 140737488355328 := by rw [hL, List.length_append]; omega
      rw [← hL] at hown
      obtain ⟨oa, oc, rfl⟩ := owns_shape hown
      have Hown := Lib.hid hown
      have HL := Lib.hid hL
      have bwr := Lib.hid hbw
      have hcx := (hbw.block _ (lt_of_heap HXB.out)).trans HXB.out
      have y1 : wr.cell? ⟨w.heap.size, 1, none⟩ = some (.slice na ns.length ncap) := (Lib.cell_of_heap hcx 1).trans rfl
      clear hown hbw hL hcx
      by_cases hlt : k < ns.length
      · have hlt' : (k : Int) < (ns.length : Int) := by omega
        have HT := Lib.hid (pOps_take ns k hlt)
        obtain ⟨_, _, he, g1, g2, g3⟩ := HRX.out
        simp only [Value.slice.injEq, true_and] at he
        obtain ⟨rfl, rfl⟩ := he
        obtain ⟨b, off, rfl, hbl, av, hav, hpr, x0', x1', x2', x3'⟩ := g3 k hlt
        have hvo := vop_of HOK.out (List.getElem_mem hlt)
        have hao := Sp.attrs_of (HOK.out.2.2.2.1 _ (List.getElem_mem hlt))
        obtain ⟨o, ho⟩ : ∃ o, o = ns[k] := ⟨_, rfl⟩
        rw [← ho] at hav x0' x1' x2' HT hvo hao
        have z0 : wr.cell? ⟨b, off + k * 4, none⟩ = some (.int .i64 o.kind) := by rw [bwr.out.cell (by exact hbl)]; exact x0'
        have z1 : wr.cell? ⟨b, off + k * 4 + 1, none⟩ = some (.int .i64 o.n) := by rw [bwr.out.cell (by exact hbl)]; exact x1'
        have z2 : wr.cell? ⟨b, off + k * 4 + 2, none⟩ = some (.string o.text) := by rw [bwr.out.cell (by exact hbl)]; exact x2'
        have z3 : wr.cell? ⟨b, off + k * 4 + 3, none⟩ = some av := by rw [bwr.out.cell (by exact hbl)]; exact x3'
        obtain ⟨va, vc, rfl⟩ := hav.shape
        have Hav := Lib.hid hav
        have hao1 := hao.1
        have HAZ := Lib.hid hao.2
        have hkd := hvo.kind
        obtain ⟨nn, hnn⟩ : ∃ nn : Nat, o.n = nn := ⟨o.n.toNat, (Int.toNat_of_nonneg hvo.n0).symm⟩
        have HNm := Lib.hid fun w => refNumber_any nn w (by rw [← hnn]; exact hvo.n1)
        have hdl : (Lib.decDigits nn).length ≤ 5 := Sp.dec_len 4 nn (by have := hvo.n1; omega)
        have HIn := Lib.hid (show Lib.itoa o.n = Lib.decDigits nn by rw [hnn, Sp.itoa_n (by omega)]; simp)
        have htx := hvo.text
        have HQm := Lib.hid fun w => refQuote_any o.text w (by omega)
        have hql := Sp.qt_len o.text.data.toList
        rw [← size_data] at hql
        rw [← hnn] at HNm
        obtain ⟨Y, hY⟩ : ∃ Y, Y = wr.alloc (.cells #[.int .i64 o.kind, .int .i64 o.n, .string o.text, .slice va o.attrs.length vc] 48) := ⟨_, rfl⟩
        have bY := show Below wr.heap.size wr Y by rw [hY]; exact below_box _ _
        have sXr : X.heap.size ≤ wr.heap.size := bwr.out.size
        have HY := Lib.hid hY
        have KY := Lib.hid (bwr.out.trans (bY.mono sXr))
        have OY := Lib.hid (show OwnB Y X.heap.size (.slice oa L.length oc) L from (keep_below (ts := []) bY sXr).own Hown.out (by simp))
        have b0 := Lib.hid (show Y.heap[wr.heap.size]? = some (.cells #[.int .i64 o.kind, .int .i64 o.n, .string o.text, .slice va o.attrs.length vc] 48 (0, 0)) by rw [hY]; exact heap_new _ _)
        have c0 : Y.cell? ⟨wr.heap.size, 0, none⟩ = some (.int .i64 o.kind) := (Lib.cell_of_heap b0.out 0).trans rfl
        have c1 : Y.cell? ⟨wr.heap.size, 1, none⟩ = some (.int .i64 o.n) := (Lib.cell_of_heap b0.out 1).trans rfl
        have c2 : Y.cell? ⟨wr.heap.size, 2, none⟩ = some (.string o.text) := (Lib.cell_of_heap b0.out 2).trans rfl
        clear hav hY bY x0' x1' x2' x3' g1 g2 g3 ho hvo hao hpr hnn
        rcases hkd with hk1 | hk1 | hk1
        · have q1 : (o.kind == 1) = true := beq_iff_eq.2 hk1
          have HP := Lib.hid (show Sp.pKind o = 61 :: Lib.decDigits nn by unfold Sp.pKind; rw [if_pos hk1, HIn.out])
          clear hk1
          go_wp2_with fail
          rw [← HY.out]
          go_wp2_with fail
          refine (HNm.out Y).mono ?_
          rintro e w4 ⟨rfl, b4⟩
          have B4 := Lib.hid (KY.out.trans (b4.mono KY.out.size))
          have O4 := Lib.hid ((keep_below (ts := []) b4 KY.out.size).own OY.out (by simp))
          have D4 := Lib.hid ((b4.block _ (lt_of_heap b0.out)).trans b0.out)
          have hsz : (Sp.ba (Lib.decDigits nn)).size = (Lib.decDigits nn).length := by rw [size_data, Sp.data_ba]
          have hs2 : (⟨#[32, 61]⟩ : ByteArray).size = 2 := rfl
          clear b4 c0 c1 c2
          go_wp2_with (at_builtin; refine Lib.wpList_append_own_string _ rfl (.tmp 45) (.tmp 49) 56 9 rfl X.heap.size 5 i0 Tryz.underlying56 Tryz.underlying9 Hi.out.1 Hi.out.2.1 Hi.out.2.2.1 Hi.out.2.2.2 (.slice oa L.length oc) L.length (Lib.byteCells L) rfl O4.out _ rfl (by unfold maxLen; simp; omega) (by simp; omega) B4.out.size ?_; intro v5 w5 o5 g5 _; have H5 := Lib.hid (OwnB.str O4.out B4.out (Nat.le_refl _) o5 g5); have D5 := Lib.hid ((g5.block _ (lt_of_heap D4.out) (fun e => own_ne O4.out D4.out (by decide) e.symm)).trans D4.out); clear o5 g5; obtain ⟨a5, n5, c5, rfl⟩ : ∃ a n c, v5 = Value.slice a n c := (owns_shape H5.out.1).elim fun a ha => ha.elim fun c hc => ⟨a, _, c, hc⟩)
          have hE : L ++ ((⟨#[32, 61]⟩ : ByteArray) ++ Sp.ba (Lib.decDigits nn)).data.toList = L ++ 32 :: Sp.pKind o := by rw [HP.out, cat_eq, cat_data, Sp.data_ba]; rfl
          have hL2l : (L ++ ((⟨#[32, 61]⟩ : ByteArray) ++ Sp.ba (Lib.decDigits nn)).data.toList).length ≤ L.length + 330000 := by rw [cat_eq, cat_data, Sp.data_ba, List.length_append, List.length_append]; simp; omega
          rw [hE] at H5 hL2l
          have HLL := Lib.hid (show L ++ Sp.pOp o = (L ++ 32 :: Sp.pKind o) ++ Sp.pAttrs o.attrs by simp [Sp.pOp])
          clear hE HP Hown OY b0 D4 O4 B4 KY HY
          generalize wr.heap.size = ob at *
          generalize gk = gO at *
          generalize (L ++ 32 :: Sp.pKind o) = L2 at *
          go_loopg [5, 8] o.attrs.length (fun gj v j wr => ∃ m : Nat, o.attrs.length ≤ gj + m ∧ j = .int .i64 (m : Int) ∧ m ≤ o.attrs.length ∧ OwnB wr X.heap.size v (L2 ++ Sp.pL (o.attrs.take m)) ∧ Below X.heap.size X wr ∧ wr.heap[ob]? = some (.cells #[.int .i64 o.kind, .int .i64 o.n, .string o.text, .slice va o.attrs.length vc] 48 (0, 0)))
          case atStart => exact ⟨0, by omega, rfl, Nat.zero_le _, by simpa [Sp.pL] using H5.out.1, H5.out.2, D5.out⟩
          case round =>
            obtain ⟨m, hgj, rfl, hm, hox, hbx, hdx⟩ := hrel
            have hM := Sp.pL_le (o.attrs.take m) fun y hy => (HAZ.out y (List.mem_of_mem_take hy)).2
            rw [List.length_take, Nat.min_eq_left hm] at hM
            obtain ⟨M, hMe⟩ : ∃ M, M = L2 ++ Sp.pL (o.attrs.take m) := ⟨_, rfl⟩
            have hMl : M.length + 1000 ≤ 140737488355328 := by rw [hMe, List.length_append]; omega
            rw [← hMe] at hox
            obtain ⟨ma, mc, rfl⟩ := owns_shape hox
            have Hox := Lib.hid hox
            have Hbx := Lib.hid hbx
            have Hdx := Lib.hid hdx
            have HM := Lib.hid hMe
            have e3 : wr.cell? ⟨ob, 3, none⟩ = some (.slice va o.attrs.length vc) := (Lib.cell_of_heap hdx 3).trans rfl
            clear hox hbx hdx hMe hM
            by_cases hmt : m < o.attrs.length
            · have hmt' : (m : Int) < (o.attrs.length : Int) := by omega
              have HMT := Lib.hid (Sp.pL_take hmt)
              obtain ⟨_, _, he, h1, h2, h3⟩ := Hav.out
              simp only [Value.slice.injEq, true_and] at he
              obtain ⟨rfl, rfl⟩ := he
              obtain ⟨ab, aoff, rfl, habl, u1, u2⟩ := h3 m hmt
              obtain ⟨z1, z2⟩ := (HAZ.out _ (List.getElem_mem hmt)).2
              obtain ⟨x, hx⟩ : ∃ x, x = o.attrs[m] := ⟨_, rfl⟩
              rw [← hx] at u1 u2 HMT z1 z2
              rw [← Hbx.out.cell (by exact habl)] at u1 u2
              have HQ := Lib.hid fun w => refQuote_any x.2 w (by omega)
              have hqx := Sp.qt_len x.2.data.toList
              rw [← size_data] at hqx
              clear h1 h2 h3 hx
              have la : ab < wr.heap.size := Nat.lt_of_lt_of_le habl Hbx.out.size
              have lo : ob < wr.heap.size := lt_of_heap Hdx.out
              have hq1 : (Sp.ba (Sp.qt x.2.data.toList)).size = (Sp.qt x.2.data.toList).length := by rw [size_data, Sp.data_ba]
              have hq2 : (⟨#[58]⟩ : ByteArray).size = 1 := rfl
              by_cases hm0 : m = 0
              · have q0 : ((m : Int) == 0) = true := by rw [hm0]; rfl
                have hsp := Lib.hid (show Sp.sepOf m = 123 by rw [hm0]; rfl)
                have hq3 : (⟨#[123]⟩ : ByteArray).size = 1 := rfl
                have hs1 : (9223372036854775807 < 1 + x.1.size) = False := eq_false (by omega)
                have hs2 : (9223372036854775807 < 1 + x.1.size + 1) = False := eq_false (by omega)
                have hs3 : (9223372036854775807 < 1 + x.1.size + 1 + (Sp.qt x.2.data.toList).length) = False := eq_false (by omega)
                clear hm0
                go_wp2_with fail
                go_region_held3 (fun w' => w'.cell? ⟨ob, 3, none⟩ = some (.slice (some ⟨ab, aoff, none⟩) o.attrs.length vc) ∧ w'.cell? ⟨ab, aoff + m * 2, none⟩ = some (.string x.1) ∧ w'.cell? ⟨ab, aoff + m * 2 + 1, none⟩ = some (.string x.2))
                  (first
                    | exact ⟨e3, u1, u2⟩
                    | exact S6
                    | exact S7)
                  (first
                    | (go_at_call_of 39 (Value.string x.2); refine (HQ.out _).mono ?_; rintro e w6 ⟨rfl, b6⟩; have B6 := Lib.hid (of_drew b6); have S6 := And.intro ((B6.out.cell (by exact lo)).trans e3) (And.intro ((B6.out.cell (by exact la)).trans u1) ((B6.out.cell (by exact la)).trans u2)); have O6 := Lib.hid ((keep_below (ts := []) B6.out Hbx.out.size).own Hox.out (by simp)); have D6 := Lib.hid ((B6.out.block _ lo).trans Hdx.out); clear b6)
                    | (refine step_append_str rfl (.tmp 68) (.tmp 85) 56 9 rfl 5 i0 Tryz.underlying56 Tryz.underlying9 Hi.out.1 Hi.out.2.1 Hi.out.2.2.1 Hi.out.2.2.2 X.heap.size (.slice ma M.length mc) M.length (Lib.byteCells M) rfl O6.out _ rfl (by unfold maxLen; simp; omega) (by simp; omega) (Nat.le_trans Hbx.out.size B6.out.size) ?_; intro v7 w7 o7 g7; have D7 := Lib.hid ((g7.block _ (lt_of_heap D6.out) (fun e => own_ne O6.out D6.out (by decide) e.symm)).trans D6.out); have H7 := Lib.hid (OwnB.str O6.out (Hbx.out.trans (B6.out.mono Hbx.out.size)) (Nat.le_refl _) o7 g7); have B67 := (Below.refl X.heap.size w6).grown g7 (Nat.le_trans Hbx.out.size B6.out.size) (fun j hj => (O6.out.lt j hj).1); have S7 := And.intro ((Lib.cell_of_heap D7.out 3).trans (show _ = some (Value.slice (some ⟨ab, aoff, none⟩) o.attrs.length vc) from rfl)) (And.intro ((B67.cell (by exact habl)).trans S6.2.1) ((B67.cell (by exact habl)).trans S6.2.2)); clear o7 g7 B67))
                go_wp2_with fail
                go_roundg (gk - 1)
                case measure => omega
                case rel =>
                  refine ⟨m + 1, by omega, by go_num, hmt, ?_, H7.out.2, D7.out⟩
                  rw [HMT.out, ← List.append_assoc, ← HM.out, hsp.out]
                  have := H7.out.1
                  simpa [cat_eq, cat_data, Sp.pAttr, Sp.data_ba] using this
              · have q0 : ((m : Int) == 0) = false := by rw [beq_eq_false_iff_ne]; omega
                have hsp := Lib.hid (show Sp.sepOf m = 44 by cases m with
                  | zero => exact absurd rfl hm0
                  | succ _ => rfl)
                have hq3 : (⟨#[44]⟩ : ByteArray).size = 1 := rfl
                have hs1 : (9223372036854775807 < 1 + x.1.size) = False := eq_false (by omega)
                have hs2 : (9223372036854775807 < 1 + x.1.size + 1) = False := eq_false (by omega)
                have hs3 : (9223372036854775807 < 1 + x.1.size + 1 + (Sp.qt x.2.data.toList).length) = False := eq_false (by omega)
                clear hm0
                go_wp2_with fail
                go_region_held3 (fun w' => w'.cell? ⟨ob, 3, none⟩ = some (.slice (some ⟨ab, aoff, none⟩) o.attrs.length vc) ∧ w'.cell? ⟨ab, aoff + m * 2, none⟩ = some (.string x.1) ∧ w'.cell? ⟨ab, aoff + m * 2 + 1, none⟩ = some (.string x.2))
                  (first
                    | exact ⟨e3, u1, u2⟩
                    | exact S6
                    | exact S7)
                  (first
                    | (go_at_call_of 39 (Value.string x.2); refine (HQ.out _).mono ?_; rintro e w6 ⟨rfl, b6⟩; have B6 := Lib.hid (of_drew b6); have S6 := And.intro ((B6.out.cell (by exact lo)).trans e3) (And.intro ((B6.out.cell (by exact la)).trans u1) ((B6.out.cell (by exact la)).trans u2)); have O6 := Lib.hid ((keep_below (ts := []) B6.out Hbx.out.size).own Hox.out (by simp)); have D6 := Lib.hid ((B6.out.block _ lo).trans Hdx.out); clear b6)
                    | (refine step_append_str rfl (.tmp 68) (.tmp 85) 56 9 rfl 5 i0 Tryz.underlying56 Tryz.underlying9 Hi.out.1 Hi.out.2.1 Hi.out.2.2.1 Hi.out.2.2.2 X.heap.size (.slice ma M.length mc) M.length (Lib.byteCells M) rfl O6.out _ rfl (by unfold maxLen; simp; omega) (by simp; omega) (Nat.le_trans Hbx.out.size B6.out.size) ?_; intro v7 w7 o7 g7; have D7 := Lib.hid ((g7.block _ (lt_of_heap D6.out) (fun e => own_ne O6.out D6.out (by decide) e.symm)).trans D6.out); have H7 := Lib.hid (OwnB.str O6.out (Hbx.out.trans (B6.out.mono Hbx.out.size)) (Nat.le_refl _) o7 g7); have B67 := (Below.refl X.heap.size w6).grown g7 (Nat.le_trans Hbx.out.size B6.out.size) (fun j hj => (O6.out.lt j hj).1); have S7 := And.intro ((Lib.cell_of_heap D7.out 3).trans (show _ = some (Value.slice (some ⟨ab, aoff, none⟩) o.attrs.length vc) from rfl)) (And.intro ((B67.cell (by exact habl)).trans S6.2.1) ((B67.cell (by exact habl)).trans S6.2.2)); clear o7 g7 B67))
                go_wp2_with fail
                go_roundg (gk - 1)
                case measure => omega
                case rel =>
                  refine ⟨m + 1, by omega, by go_num, hmt, ?_, H7.out.2, D7.out⟩
                  rw [HMT.out, ← List.append_assoc, ← HM.out, hsp.out]
                  have := H7.out.1
                  simpa [cat_eq, cat_data, Sp.pAttr, Sp.data_ba] using this
            · have hmt' : decide ((m : Int) < (o.attrs.length : Int)) = false := decide_eq_false (by omega)
              have hme : m = o.attrs.length := by omega
              rw [hme, List.take_length] at HM
              clear hme
              by_cases ha0 : o.attrs.length = 0
              · have q0 : ¬ (0 : Int) < (o.attrs.length : Int) := by omega
                have q0' : ¬ 0 < o.attrs.length := by omega
                have e0 := List.length_eq_zero_iff.1 ha0
                have HM0 := Lib.hid (show L ++ Sp.pOp o = M by rw [HLL.out, HM.out, e0]; rfl)
                clear ha0 e0
                go_wp2_with fail
                go_roundg (gO - 1)
                case measure => omega
                case rel =>
                  refine ⟨k + 1, by omega, by go_num, hlt, ?_, Hbx.out⟩
                  rw [HT.out, ← List.append_assoc, ← HL.out, HM0.out]
                  exact Hox.out
              · have q0 : (0 : Int) < (o.attrs.length : Int) := by omega
                have q0' : 0 < o.attrs.length := by omega
                have HM0 := Lib.hid (show L ++ Sp.pOp o = M ++ [125] by rw [HLL.out, HM.out, Sp.pAttrs_pL (fun e => ha0 (by rw [e]; rfl)), List.append_assoc])
                have HV := Lib.hid (show Lib.byteCells [125] = [.int .u8 125] by rfl)
                have hown := Hox.out
                have hi := Hi.out.1
                have hz0 := Hi.out.2.1
                have hz1 := Hi.out.2.2.1
                have hz2 := Hi.out.2.2.2
                clear ha0
                go_wp2_with (first | (at_builtin; refine wpList_append_own _ rfl _ _ 56 rfl X.heap.size 5 i0 (.int .u8 0) 1 1 Tryz.underlying56 hi hz0 hz1 hz2 rfl (by decide) _ _ _ rfl (World.ownsRow.alloc hown _) ⟨wr.heap.size, 0, none⟩ 1 1 [.int .u8 125] rfl rfl ?_ ?_ ?_ ?_ ?_ ?_))
                all_goals
                  first
                    | rfl
                    | (intro u hu; simp at hu; subst hu; rfl)
                    | (unfold maxLen; omega)
                    | omega
                    | (have := Hbx.out.size; simp; omega)
                    | exact fun j u hj => newU8 _ _ _ j u hj
                    | (intro v' w8 hown' hgrow _
                       clear hown hi hz0 hz1 hz2
                       have hst := Lib.hid (OwnB.step Hox.out Hbx.out (Nat.le_refl _) HV.out hown' hgrow)
                       clear hown' hgrow
                       go_wp2_with fail
                       go_roundg (gO - 1)
                       case measure => omega
                       case rel =>
                         refine ⟨k + 1, by omega, by go_num, hlt, ?_, hst.out.2⟩
                         rw [HT.out, ← List.append_assoc, ← HL.out, HM0.out]
                         exact hst.out.1)
        · have q1 : (o.kind == 1) = false := by rw [beq_eq_false_iff_ne]; omega
          have q3 : (o.kind == 3) = false := by rw [beq_eq_false_iff_ne]; omega
          have HP := Lib.hid (show Sp.pKind o = 43 :: Sp.qt o.text.data.toList by unfold Sp.pKind; rw [if_neg (by omega), if_neg (by omega), if_pos hk1])
          clear hk1
          go_wp2_with fail
          rw [← HY.out]
          go_wp2_with fail
          refine (HQm.out Y).mono ?_
          rintro e w4 ⟨rfl, b4⟩
          have B4 := Lib.hid (KY.out.trans (b4.mono KY.out.size))
          have O4 := Lib.hid ((keep_below (ts := []) b4 KY.out.size).own OY.out (by simp))
          have D4 := Lib.hid ((b4.block _ (lt_of_heap b0.out)).trans b0.out)
          have hsz : (Sp.ba (Sp.qt o.text.data.toList)).size = (Sp.qt o.text.data.toList).length := by rw [size_data, Sp.data_ba]
          have hs2 : (⟨#[32, 43]⟩ : ByteArray).size = 2 := rfl
          clear b4 c0 c1 c2
          go_wp2_with (at_builtin; refine Lib.wpList_append_own_string _ rfl (.tmp 37) (.tmp 41) 56 9 rfl X.heap.size 5 i0 Tryz.underlying56 Tryz.underlying9 Hi.out.1 Hi.out.2.1 Hi.out.2.2.1 Hi.out.2.2.2 (.slice oa L.length oc) L.length (Lib.byteCells L) rfl O4.out _ rfl (by unfold maxLen; simp; omega) (by simp; omega) B4.out.size ?_; intro v5 w5 o5 g5 _; have H5 := Lib.hid (OwnB.str O4.out B4.out (Nat.le_refl _) o5 g5); have D5 := Lib.hid ((g5.block _ (lt_of_heap D4.out) (fun e => own_ne O4.out D4.out (by decide) e.symm)).trans D4.out); clear o5 g5; obtain ⟨a5, n5, c5, rfl⟩ : ∃ a n c, v5 = Value.slice a n c := (owns_shape H5.out.1).elim fun a ha => ha.elim fun c hc => ⟨a, _, c, hc⟩)
          have hE : L ++ ((⟨#[32, 43]⟩ : ByteArray) ++ Sp.ba (Sp.qt o.text.data.toList)).data.toList = L ++ 32 :: Sp.pKind o := by rw [HP.out, cat_eq, cat_data, Sp.data_ba]; rfl
          have hL2l : (L ++ ((⟨#[32, 43]⟩ : ByteArray) ++ Sp.ba (Sp.qt o.text.data.toList)).data.toList).length ≤ L.length + 330000 := by rw [cat_eq, cat_data, Sp.data_ba, List.length_append, List.length_append]; simp; omega
          rw [hE] at H5 hL2l
          have HLL := Lib.hid (show L ++ Sp.pOp o = (L ++ 32 :: Sp.pKind o) ++ Sp.pAttrs o.attrs by simp [Sp.pOp])
          clear hE HP Hown OY b0 D4 O4 B4 KY HY
          generalize wr.heap.size = ob at *
          generalize gk = gO at *
          generalize (L ++ 32 :: Sp.pKind o) = L2 at *
          go_loopg [5, 8] o.attrs.length (fun gj v j wr => ∃ m : Nat, o.attrs.length ≤ gj + m ∧ j = .int .i64 (m : Int) ∧ m ≤ o.attrs.length ∧ OwnB wr X.heap.size v (L2 ++ Sp.pL (o.attrs.take m)) ∧ Below X.heap.size X wr ∧ wr.heap[ob]? = some (.cells #[.int .i64 o.kind, .int .i64 o.n, .string o.text, .slice va o.attrs.length vc] 48 (0, 0)))
          case atStart => exact ⟨0, by omega, rfl, Nat.zero_le _, by simpa [Sp.pL] using H5.out.1, H5.out.2, D5.out⟩
          case round =>
            obtain ⟨m, hgj, rfl, hm, hox, hbx, hdx⟩ := hrel
            have hM := Sp.pL_le (o.attrs.take m) fun y hy => (HAZ.out y (List.mem_of_mem_take hy)).2
            rw [List.length_take, Nat.min_eq_left hm] at hM
            obtain ⟨M, hMe⟩ : ∃ M, M = L2 ++ Sp.pL (o.attrs.take m) := ⟨_, rfl⟩
            have hMl : M.length + 1000 ≤ 140737488355328 := by rw [hMe, List.length_append]; omega
            rw [← hMe] at hox
            obtain ⟨ma, mc, rfl⟩ := owns_shape hox
            have Hox := Lib.hid hox
            have Hbx := Lib.hid hbx
            have Hdx := Lib.hid hdx
            have HM := Lib.hid hMe
            have e3 : wr.cell? ⟨ob, 3, none⟩ = some (.slice va o.attrs.length vc) := (Lib.cell_of_heap hdx 3).trans rfl
            clear hox hbx hdx hMe hM
            by_cases hmt : m < o.attrs.length
            · have hmt' : (m : Int) < (o.attrs.length : Int) := by omega
              have HMT := Lib.hid (Sp.pL_take hmt)
              obtain ⟨_, _, he, h1, h2, h3⟩ := Hav.out
              simp only [Value.slice.injEq, true_and] at he
              obtain ⟨rfl, rfl⟩ := he
              obtain ⟨ab, aoff, rfl, habl, u1, u2⟩ := h3 m hmt
              obtain ⟨z1, z2⟩ := (HAZ.out _ (List.getElem_mem hmt)).2
              obtain ⟨x, hx⟩ : ∃ x, x = o.attrs[m] := ⟨_, rfl⟩
              rw [← hx] at u1 u2 HMT z1 z2
              rw [← Hbx.out.cell (by exact habl)] at u1 u2
              have HQ := Lib.hid fun w => refQuote_any x.2 w (by omega)
              have hqx := Sp.qt_len x.2.data.toList
              rw [← size_data] at hqx
              clear h1 h2 h3 hx
              have la : ab < wr.heap.size := Nat.lt_of_lt_of_le habl Hbx.out.size
              have lo : ob < wr.heap.size := lt_of_heap Hdx.out
              have hq1 : (Sp.ba (Sp.qt x.2.data.toList)).size = (Sp.qt x.2.data.toList).length := by rw [size_data, Sp.data_ba]
              have hq2 : (⟨#[58]⟩ : ByteArray).size = 1 := rfl
              by_cases hm0 : m = 0
              · have q0 : ((m : Int) == 0) = true := by rw [hm0]; rfl
                have hsp := Lib.hid (show Sp.sepOf m = 123 by rw [hm0]; rfl)
                have hq3 : (⟨#[123]⟩ : ByteArray).size = 1 := rfl
                have hs1 : (9223372036854775807 < 1 + x.1.size) = False := eq_false (by omega)
                have hs2 : (9223372036854775807 < 1 + x.1.size + 1) = False := eq_false (by omega)
                have hs3 : (9223372036854775807 < 1 + x.1.size + 1 + (Sp.qt x.2.data.toList).length) = False := eq_false (by omega)
                clear hm0
                go_wp2_with fail
                go_region_held3 (fun w' => w'.cell? ⟨ob, 3, none⟩ = some (.slice (some ⟨ab, aoff, none⟩) o.attrs.length vc) ∧ w'.cell? ⟨ab, aoff + m * 2, none⟩ = some (.string x.1) ∧ w'.cell? ⟨ab, aoff + m * 2 + 1, none⟩ = some (.string x.2))
                  (first
                    | exact ⟨e3, u1, u2⟩
                    | exact S6
                    | exact S7)
                  (first
                    | (go_at_call_of 39 (Value.string x.2); refine (HQ.out _).mono ?_; rintro e w6 ⟨rfl, b6⟩; have B6 := Lib.hid (of_drew b6); have S6 := And.intro ((B6.out.cell (by exact lo)).trans e3) (And.intro ((B6.out.cell (by exact la)).trans u1) ((B6.out.cell (by exact la)).trans u2)); have O6 := Lib.hid ((keep_below (ts := []) B6.out Hbx.out.size).own Hox.out (by simp)); have D6 := Lib.hid ((B6.out.block _ lo).trans Hdx.out); clear b6)
                    | (refine step_append_str rfl (.tmp 68) (.tmp 85) 56 9 rfl 5 i0 Tryz.underlying56 Tryz.underlying9 Hi.out.1 Hi.out.2.1 Hi.out.2.2.1 Hi.out.2.2.2 X.heap.size (.slice ma M.length mc) M.length (Lib.byteCells M) rfl O6.out _ rfl (by unfold maxLen; simp; omega) (by simp; omega) (Nat.le_trans Hbx.out.size B6.out.size) ?_; intro v7 w7 o7 g7; have D7 := Lib.hid ((g7.block _ (lt_of_heap D6.out) (fun e => own_ne O6.out D6.out (by decide) e.symm)).trans D6.out); have H7 := Lib.hid (OwnB.str O6.out (Hbx.out.trans (B6.out.mono Hbx.out.size)) (Nat.le_refl _) o7 g7); have B67 := (Below.refl X.heap.size w6).grown g7 (Nat.le_trans Hbx.out.size B6.out.size) (fun j hj => (O6.out.lt j hj).1); have S7 := And.intro ((Lib.cell_of_heap D7.out 3).trans (show _ = some (Value.slice (some ⟨ab, aoff, none⟩) o.attrs.length vc) from rfl)) (And.intro ((B67.cell (by exact habl)).trans S6.2.1) ((B67.cell (by exact habl)).trans S6.2.2)); clear o7 g7 B67))
                go_wp2_with fail
                go_roundg (gk - 1)
                case measure => omega
                case rel =>
                  refine ⟨m + 1, by omega, by go_num, hmt, ?_, H7.out.2, D7.out⟩
                  rw [HMT.out, ← List.append_assoc, ← HM.out, hsp.out]
                  have := H7.out.1
                  simpa [cat_eq, cat_data, Sp.pAttr, Sp.data_ba] using this
              · have q0 : ((m : Int) == 0) = false := by rw [beq_eq_false_iff_ne]; omega
                have hsp := Lib.hid (show Sp.sepOf m = 44 by cases m with
                  | zero => exact absurd rfl hm0
                  | succ _ => rfl)
                have hq3 : (⟨#[44]⟩ : ByteArray).size = 1 := rfl
                have hs1 : (9223372036854775807 < 1 + x.1.size) = False := eq_false (by omega)
                have hs2 : (9223372036854775807 < 1 + x.1.size + 1) = False := eq_false (by omega)
                have hs3 : (9223372036854775807 < 1 + x.1.size + 1 + (Sp.qt x.2.data.toList).length) = False := eq_false (by omega)
                clear hm0
                go_wp2_with fail
                go_region_held3 (fun w' => w'.cell? ⟨ob, 3, none⟩ = some (.slice (some ⟨ab, aoff, none⟩) o.attrs.length vc) ∧ w'.cell? ⟨ab, aoff + m * 2, none⟩ = some (.string x.1) ∧ w'.cell? ⟨ab, aoff + m * 2 + 1, none⟩ = some (.string x.2))
                  (first
                    | exact ⟨e3, u1, u2⟩
                    | exact S6
                    | exact S7)
                  (first
                    | (go_at_call_of 39 (Value.string x.2); refine (HQ.out _).mono ?_; rintro e w6 ⟨rfl, b6⟩; have B6 := Lib.hid (of_drew b6); have S6 := And.intro ((B6.out.cell (by exact lo)).trans e3) (And.intro ((B6.out.cell (by exact la)).trans u1) ((B6.out.cell (by exact la)).trans u2)); have O6 := Lib.hid ((keep_below (ts := []) B6.out Hbx.out.size).own Hox.out (by simp)); have D6 := Lib.hid ((B6.out.block _ lo).trans Hdx.out); clear b6)
                    | (refine step_append_str rfl (.tmp 68) (.tmp 85) 56 9 rfl 5 i0 Tryz.underlying56 Tryz.underlying9 Hi.out.1 Hi.out.2.1 Hi.out.2.2.1 Hi.out.2.2.2 X.heap.size (.slice ma M.length mc) M.length (Lib.byteCells M) rfl O6.out _ rfl (by unfold maxLen; simp; omega) (by simp; omega) (Nat.le_trans Hbx.out.size B6.out.size) ?_; intro v7 w7 o7 g7; have D7 := Lib.hid ((g7.block _ (lt_of_heap D6.out) (fun e => own_ne O6.out D6.out (by decide) e.symm)).trans D6.out); have H7 := Lib.hid (OwnB.str O6.out (Hbx.out.trans (B6.out.mono Hbx.out.size)) (Nat.le_refl _) o7 g7); have B67 := (Below.refl X.heap.size w6).grown g7 (Nat.le_trans Hbx.out.size B6.out.size) (fun j hj => (O6.out.lt j hj).1); have S7 := And.intro ((Lib.cell_of_heap D7.out 3).trans (show _ = some (Value.slice (some ⟨ab, aoff, none⟩) o.attrs.length vc) from rfl)) (And.intro ((B67.cell (by exact habl)).trans S6.2.1) ((B67.cell (by exact habl)).trans S6.2.2)); clear o7 g7 B67))
                go_wp2_with fail
                go_roundg (gk - 1)
                case measure => omega
                case rel =>
                  refine ⟨m + 1, by omega, by go_num, hmt, ?_, H7.out.2, D7.out⟩
                  rw [HMT.out, ← List.append_assoc, ← HM.out, hsp.out]
                  have := H7.out.1
                  simpa [cat_eq, cat_data, Sp.pAttr, Sp.data_ba] using this
            · have hmt' : decide ((m : Int) < (o.attrs.length : Int)) = false := decide_eq_false (by omega)
              have hme : m = o.attrs.length := by omega
              rw [hme, List.take_length] at HM
              clear hme
              by_cases ha0 : o.attrs.length = 0
              · have q0 : ¬ (0 : Int) < (o.attrs.length : Int) := by omega
                have q0' : ¬ 0 < o.attrs.length := by omega
                have e0 := List.length_eq_zero_iff.1 ha0
                have HM0 := Lib.hid (show L ++ Sp.pOp o = M by rw [HLL.out, HM.out, e0]; rfl)
                clear ha0 e0
                go_wp2_with fail
                go_roundg (gO - 1)
                case measure => omega
                case rel =>
                  refine ⟨k + 1, by omega, by go_num, hlt, ?_, Hbx.out⟩
                  rw [HT.out, ← List.append_assoc, ← HL.out, HM0.out]
                  exact Hox.out
              · have q0 : (0 : Int) < (o.attrs.length : Int) := by omega
                have q0' : 0 < o.attrs.length := by omega
                have HM0 := Lib.hid (show L ++ Sp.pOp o = M ++ [125] by rw [HLL.out, HM.out, Sp.pAttrs_pL (fun e => ha0 (by rw [e]; rfl)), List.append_assoc])
                have HV := Lib.hid (show Lib.byteCells [125] = [.int .u8 125] by rfl)
                have hown := Hox.out
                have hi := Hi.out.1
                have hz0 := Hi.out.2.1
                have hz1 := Hi.out.2.2.1
                have hz2 := Hi.out.2.2.2
                clear ha0
                go_wp2_with (first | (at_builtin; refine wpList_append_own _ rfl _ _ 56 rfl X.heap.size 5 i0 (.int .u8 0) 1 1 Tryz.underlying56 hi hz0 hz1 hz2 rfl (by decide) _ _ _ rfl (World.ownsRow.alloc hown _) ⟨wr.heap.size, 0, none⟩ 1 1 [.int .u8 125] rfl rfl ?_ ?_ ?_ ?_ ?_ ?_))
                all_goals
                  first
                    | rfl
                    | (intro u hu; simp at hu; subst hu; rfl)
                    | (unfold maxLen; omega)
                    | omega
                    | (have := Hbx.out.size; simp; omega)
                    | exact fun j u hj => newU8 _ _ _ j u hj
                    | (intro v' w8 hown' hgrow _
                       clear hown hi hz0 hz1 hz2
                       have hst := Lib.hid (OwnB.step Hox.out Hbx.out (Nat.le_refl _) HV.out hown' hgrow)
                       clear hown' hgrow
                       go_wp2_with fail
                       go_roundg (gO - 1)
                       case measure => omega
                       case rel =>
                         refine ⟨k + 1, by omega, by go_num, hlt, ?_, hst.out.2⟩
                         rw [HT.out, ← List.append_assoc, ← HL.out, HM0.out]
                         exact hst.out.1)
        · have q1 : (o.kind == 1) = false := by rw [beq_eq_false_iff_ne]; omega
          have q3 : (o.kind == 3) = true := by rw [beq_iff_eq]; omega
          have HP := Lib.hid (show Sp.pKind o = 45 :: Lib.decDigits nn by unfold Sp.pKind; rw [if_neg (by omega), if_pos hk1, HIn.out])
          clear hk1
          go_wp2_with fail
          rw [← HY.out]
          go_wp2_with fail
          refine (HNm.out Y).mono ?_
          rintro e w4 ⟨rfl, b4⟩
          have B4 := Lib.hid (KY.out.trans (b4.mono KY.out.size))
          have O4 := Lib.hid ((keep_below (ts := []) b4 KY.out.size).own OY.out (by simp))
          have D4 := Lib.hid ((b4.block _ (lt_of_heap b0.out)).trans b0.out)
          have hsz : (Sp.ba (Lib.decDigits nn)).size = (Lib.decDigits nn).length := by rw [size_data, Sp.data_ba]
          have hs2 : (⟨#[32, 45]⟩ : ByteArray).size = 2 := rfl
          clear b4 c0 c1 c2
          go_wp2_with (at_builtin; refine Lib.wpList_append_own_string _ rfl (.tmp 53) (.tmp 57) 56 9 rfl X.heap.size 5 i0 Tryz.underlying56 Tryz.underlying9 Hi.out.1 Hi.out.2.1 Hi.out.2.2.1 Hi.out.2.2.2 (.slice oa L.length oc) L.length (Lib.byteCells L) rfl O4.out _ rfl (by unfold maxLen; simp; omega) (by simp; omega) B4.out.size ?_; intro v5 w5 o5 g5 _; have H5 := Lib.hid (OwnB.str O4.out B4.out (Nat.le_refl _) o5 g5); have D5 := Lib.hid ((g5.block _ (lt_of_heap D4.out) (fun e => own_ne O4.out D4.out (by decide) e.symm)).trans D4.out); clear o5 g5; obtain ⟨a5, n5, c5, rfl⟩ : ∃ a n c, v5 = Value.slice a n c := (owns_shape H5.out.1).elim fun a ha => ha.elim fun c hc => ⟨a, _, c, hc⟩)
          have hE : L ++ ((⟨#[32, 45]⟩ : ByteArray) ++ Sp.ba (Lib.decDigits nn)).data.toList = L ++ 32 :: Sp.pKind o := by rw [HP.out, cat_eq, cat_data, Sp.data_ba]; rfl
          have hL2l : (L ++ ((⟨#[32, 45]⟩ : ByteArray) ++ Sp.ba (Lib.decDigits nn)).data.toList).length ≤ L.length + 330000 := by rw [cat_eq, cat_data, Sp.data_ba, List.length_append, List.length_append]; simp; omega
          rw [hE] at H5 hL2l
          have HLL := Lib.hid (show L ++ Sp.pOp o = (L ++ 32 :: Sp.pKind o) ++ Sp.pAttrs o.attrs by simp [Sp.pOp])
          clear hE HP Hown OY b0 D4 O4 B4 KY HY
          generalize wr.heap.size = ob at *
          generalize gk = gO at *
          generalize (L ++ 32 :: Sp.pKind o) = L2 at *
          go_loopg [5, 8] o.attrs.length (fun gj v j wr => ∃ m : Nat, o.attrs.length ≤ gj + m ∧ j = .int .i64 (m : Int) ∧ m ≤ o.attrs.length ∧ OwnB wr X.heap.size v (L2 ++ Sp.pL (o.attrs.take m)) ∧ Below X.heap.size X wr ∧ wr.heap[ob]? = some (.cells #[.int .i64 o.kind, .int .i64 o.n, .string o.text, .slice va o.attrs.length vc] 48 (0, 0)))
          case atStart => exact ⟨0, by omega, rfl, Nat.zero_le _, by simpa [Sp.pL] using H5.out.1, H5.out.2, D5.out⟩
          case round =>
            obtain ⟨m, hgj, rfl, hm, hox, hbx, hdx⟩ := hrel
            have hM := Sp.pL_le (o.attrs.take m) fun y hy => (HAZ.out y (List.mem_of_mem_take hy)).2
            rw [List.length_take, Nat.min_eq_left hm] at hM
            obtain ⟨M, hMe⟩ : ∃ M, M = L2 ++ Sp.pL (o.attrs.take m) := ⟨_, rfl⟩
            have hMl : M.length + 1000 ≤ 140737488355328 := by rw [hMe, List.length_append]; omega
            rw [← hMe] at hox
            obtain ⟨ma, mc, rfl⟩ := owns_shape hox
            have Hox := Lib.hid hox
            have Hbx := Lib.hid hbx
            have Hdx := Lib.hid hdx
            have HM := Lib.hid hMe
            have e3 : wr.cell? ⟨ob, 3, none⟩ = some (.slice va o.attrs.length vc) := (Lib.cell_of_heap hdx 3).trans rfl
            clear hox hbx hdx hMe hM
            by_cases hmt : m < o.attrs.length
            · have hmt' : (m : Int) < (o.attrs.length : Int) := by omega
              have HMT := Lib.hid (Sp.pL_take hmt)
              obtain ⟨_, _, he, h1, h2, h3⟩ := Hav.out
              simp only [Value.slice.injEq, true_and] at he
              obtain ⟨rfl, rfl⟩ := he
              obtain ⟨ab, aoff, rfl, habl, u1, u2⟩ := h3 m hmt
              obtain ⟨z1, z2⟩ := (HAZ.out _ (List.getElem_mem hmt)).2
              obtain ⟨x, hx⟩ : ∃ x, x = o.attrs[m] := ⟨_, rfl⟩
              rw [← hx] at u1 u2 HMT z1 z2
              rw [← Hbx.out.cell (by exact habl)] at u1 u2
              have HQ := Lib.hid fun w => refQuote_any x.2 w (by omega)
              have hqx := Sp.qt_len x.2.data.toList
              rw [← size_data] at hqx
              clear h1 h2 h3 hx
              have la : ab < wr.heap.size := Nat.lt_of_lt_of_le habl Hbx.out.size
              have lo : ob < wr.heap.size := lt_of_heap Hdx.out
              have hq1 : (Sp.ba (Sp.qt x.2.data.toList)).size = (Sp.qt x.2.data.toList).length := by rw [size_data, Sp.data_ba]
              have hq2 : (⟨#[58]⟩ : ByteArray).size = 1 := rfl
              by_cases hm0 : m = 0
              · have q0 : ((m : Int) == 0) = true := by rw [hm0]; rfl
                have hsp := Lib.hid (show Sp.sepOf m = 123 by rw [hm0]; rfl)
                have hq3 : (⟨#[123]⟩ : ByteArray).size = 1 := rfl
                have hs1 : (9223372036854775807 < 1 + x.1.size) = False := eq_false (by omega)
                have hs2 : (9223372036854775807 < 1 + x.1.size + 1) = False := eq_false (by omega)
                have hs3 : (9223372036854775807 < 1 + x.1.size + 1 + (Sp.qt x.2.data.toList).length) = False := eq_false (by omega)
                clear hm0
                go_wp2_with fail
                go_region_held3 (fun w' => w'.cell? ⟨ob, 3, none⟩ = some (.slice (some ⟨ab, aoff, none⟩) o.attrs.length vc) ∧ w'.cell? ⟨ab, aoff + m * 2, none⟩ = some (.string x.1) ∧ w'.cell? ⟨ab, aoff + m * 2 + 1, none⟩ = some (.string x.2))
                  (first
                    | exact ⟨e3, u1, u2⟩
                    | exact S6
                    | exact S7)
                  (first
                    | (go_at_call_of 39 (Value.string x.2); refine (HQ.out _).mono ?_; rintro e w6 ⟨rfl, b6⟩; have B6 := Lib.hid (of_drew b6); have S6 := And.intro ((B6.out.cell (by exact lo)).trans e3) (And.intro ((B6.out.cell (by exact la)).trans u1) ((B6.out.cell (by exact la)).trans u2)); have O6 := Lib.hid ((keep_below (ts := []) B6.out Hbx.out.size).own Hox.out (by simp)); have D6 := Lib.hid ((B6.out.block _ lo).trans Hdx.out); clear b6)
                    | (refine step_append_str rfl (.tmp 68) (.tmp 85) 56 9 rfl 5 i0 Tryz.underlying56 Tryz.underlying9 Hi.out.1 Hi.out.2.1 Hi.out.2.2.1 Hi.out.2.2.2 X.heap.size (.slice ma M.length mc) M.length (Lib.byteCells M) rfl O6.out _ rfl (by unfold maxLen; simp; omega) (by simp; omega) (Nat.le_trans Hbx.out.size B6.out.size) ?_; intro v7 w7 o7 g7; have D7 := Lib.hid ((g7.block _ (lt_of_heap D6.out) (fun e => own_ne O6.out D6.out (by decide) e.symm)).trans D6.out); have H7 := Lib.hid (OwnB.str O6.out (Hbx.out.trans (B6.out.mono Hbx.out.size)) (Nat.le_refl _) o7 g7); have B67 := (Below.refl X.heap.size w6).grown g7 (Nat.le_trans Hbx.out.size B6.out.size) (fun j hj => (O6.out.lt j hj).1); have S7 := And.intro ((Lib.cell_of_heap D7.out 3).trans (show _ = some (Value.slice (some ⟨ab, aoff, none⟩) o.attrs.length vc) from rfl)) (And.intro ((B67.cell (by exact habl)).trans S6.2.1) ((B67.cell (by exact habl)).trans S6.2.2)); clear o7 g7 B67))
                go_wp2_with fail
                go_roundg (gk - 1)
                case measure => omega
                case rel =>
                  refine ⟨m + 1, by omega, by go_num, hmt, ?_, H7.out.2, D7.out⟩
                  rw [HMT.out, ← List.append_assoc, ← HM.out, hsp.out]
                  have := H7.out.1
                  simpa [cat_eq, cat_data, Sp.pAttr, Sp.data_ba] using this
              · have q0 : ((m : Int) == 0) = false := by rw [beq_eq_false_iff_ne]; omega
                have hsp := Lib.hid (show Sp.sepOf m = 44 by cases m with
                  | zero => exact absurd rfl hm0
                  | succ _ => rfl)
                have hq3 : (⟨#[44]⟩ : ByteArray).size = 1 := rfl
                have hs1 : (9223372036854775807 < 1 + x.1.size) = False := eq_false (by omega)
                have hs2 : (9223372036854775807 < 1 + x.1.size + 1) = False := eq_false (by omega)
                have hs3 : (9223372036854775807 < 1 + x.1.size + 1 + (Sp.qt x.2.data.toList).length) = False := eq_false (by omega)
                clear hm0
                go_wp2_with fail
                go_region_held3 (fun w' => w'.cell? ⟨ob, 3, none⟩ = some (.slice (some ⟨ab, aoff, none⟩) o.attrs.length vc) ∧ w'.cell? ⟨ab, aoff + m * 2, none⟩ = some (.string x.1) ∧ w'.cell? ⟨ab, aoff + m * 2 + 1, none⟩ = some (.string x.2))
                  (first
                    | exact ⟨e3, u1, u2⟩
                    | exact S6
                    | exact S7)
                  (first
                    | (go_at_call_of 39 (Value.string x.2); refine (HQ.out _).mono ?_; rintro e w6 ⟨rfl, b6⟩; have B6 := Lib.hid (of_drew b6); have S6 := And.intro ((B6.out.cell (by exact lo)).trans e3) (And.intro ((B6.out.cell (by exact la)).trans u1) ((B6.out.cell (by exact la)).trans u2)); have O6 := Lib.hid ((keep_below (ts := []) B6.out Hbx.out.size).own Hox.out (by simp)); have D6 := Lib.hid ((B6.out.block _ lo).trans Hdx.out); clear b6)
                    | (refine step_append_str rfl (.tmp 68) (.tmp 85) 56 9 rfl 5 i0 Tryz.underlying56 Tryz.underlying9 Hi.out.1 Hi.out.2.1 Hi.out.2.2.1 Hi.out.2.2.2 X.heap.size (.slice ma M.length mc) M.length (Lib.byteCells M) rfl O6.out _ rfl (by unfold maxLen; simp; omega) (by simp; omega) (Nat.le_trans Hbx.out.size B6.out.size) ?_; intro v7 w7 o7 g7; have D7 := Lib.hid ((g7.block _ (lt_of_heap D6.out) (fun e => own_ne O6.out D6.out (by decide) e.symm)).trans D6.out); have H7 := Lib.hid (OwnB.str O6.out (Hbx.out.trans (B6.out.mono Hbx.out.size)) (Nat.le_refl _) o7 g7); have B67 := (Below.refl X.heap.size w6).grown g7 (Nat.le_trans Hbx.out.size B6.out.size) (fun j hj => (O6.out.lt j hj).1); have S7 := And.intro ((Lib.cell_of_heap D7.out 3).trans (show _ = some (Value.slice (some ⟨ab, aoff, none⟩) o.attrs.length vc) from rfl)) (And.intro ((B67.cell (by exact habl)).trans S6.2.1) ((B67.cell (by exact habl)).trans S6.2.2)); clear o7 g7 B67))
                go_wp2_with fail
                go_roundg (gk - 1)
                case measure => omega
                case rel =>
                  refine ⟨m + 1, by omega, by go_num, hmt, ?_, H7.out.2, D7.out⟩
                  rw [HMT.out, ← List.append_assoc, ← HM.out, hsp.out]
                  have := H7.out.1
                  simpa [cat_eq, cat_data, Sp.pAttr, Sp.data_ba] using this
            · have hmt' : decide ((m : Int) < (o.attrs.length : Int)) = false := decide_eq_false (by omega)
              have hme : m = o.attrs.length := by omega
              rw [hme, List.take_length] at HM
              clear hme
              by_cases ha0 : o.attrs.length = 0
              · have q0 : ¬ (0 : Int) < (o.attrs.length : Int) := by omega
                have q0' : ¬ 0 < o.attrs.length := by omega
                have e0 := List.length_eq_zero_iff.1 ha0
                have HM0 := Lib.hid (show L ++ Sp.pOp o = M by rw [HLL.out, HM.out, e0]; rfl)
                clear ha0 e0
                go_wp2_with fail
                go_roundg (gO - 1)
                case measure => omega
                case rel =>
                  refine ⟨k + 1, by omega, by go_num, hlt, ?_, Hbx.out⟩
                  rw [HT.out, ← List.append_assoc, ← HL.out, HM0.out]
                  exact Hox.out
              · have q0 : (0 : Int) < (o.attrs.length : Int) := by omega
                have q0' : 0 < o.attrs.length := by omega
                have HM0 := Lib.hid (show L ++ Sp.pOp o = M ++ [125] by rw [HLL.out, HM.out, Sp.pAttrs_pL (fun e => ha0 (by rw [e]; rfl)), List.append_assoc])
                have HV := Lib.hid (show Lib.byteCells [125] = [.int .u8 125] by rfl)
                have hown := Hox.out
                have hi := Hi.out.1
                have hz0 := Hi.out.2.1
                have hz1 := Hi.out.2.2.1
                have hz2 := Hi.out.2.2.2
                clear ha0
                go_wp2_with (first | (at_builtin; refine wpList_append_own _ rfl _ _ 56 rfl X.heap.size 5 i0 (.int .u8 0) 1 1 Tryz.underlying56 hi hz0 hz1 hz2 rfl (by decide) _ _ _ rfl (World.ownsRow.alloc hown _) ⟨wr.heap.size, 0, none⟩ 1 1 [.int .u8 125] rfl rfl ?_ ?_ ?_ ?_ ?_ ?_))
                all_goals
                  first
                    | rfl
                    | (intro u hu; simp at hu; subst hu; rfl)
                    | (unfold maxLen; omega)
                    | omega
                    | (have := Hbx.out.size; simp; omega)
                    | exact fun j u hj => newU8 _ _ _ j u hj
                    | (intro v' w8 hown' hgrow _
                       clear hown hi hz0 hz1 hz2
                       have hst := Lib.hid (OwnB.step Hox.out Hbx.out (Nat.le_refl _) HV.out hown' hgrow)
                       clear hown' hgrow
                       go_wp2_with fail
                       go_roundg (gO - 1)
                       case measure => omega
                       case rel =>
                         refine ⟨k + 1, by omega, by go_num, hlt, ?_, hst.out.2⟩
                         rw [HT.out, ← List.append_assoc, ← HL.out, HM0.out]
                         exact hst.out.1)
      · have hlt' : decide ((k : Int) < (ns.length : Int)) = false := decide_eq_false (by omega)
        have hks : k = ns.length := by omega
        have HC := Lib.hid (show Sp.pCh (nf : Int) ns = L by rw [HL.out, hks, List.take_length, ← HIt.out]; rfl)
        rw [HC.out] at HE1 HE2
        have hpos : 0 < L.length := by rw [HL.out, List.length_append]; have := Sp.dec_ne nf; have := List.length_pos_iff.2 this; omega
        by_cases hbig : 262144 < L.length
        · have HE := Lib.hid (HE2.out hbig)
          have hb : (262144 : Int) < (L.length : Int) := by omega
          clear hbig
          go_wp2_with fail
          refine bodyPost_ret (v := .tuple #[.string ⟨#[]⟩, .int .i64 3]) (by simp [results, Tryz.results14, go_sem]) rfl ?_
          rw [PrintOut, HE.out]
          exact ⟨rfl, BX.out.trans (bwr.out.mono (by have := BX.out.size; omega))⟩
        · have HE := Lib.hid (HE1.out hbig)
          have hb : ¬ (262144 : Int) < (L.length : Int) := by omega
          obtain ⟨g, cap', hv'⟩ := ownsRow_open Hown.out hpos
          have hcv2 := run_convert_bytes_back (P := Tryz.prog) wr 56 9 5 ⟨g, 0, none⟩ cap' L Tryz.underlying56 Tryz.underlying5 Tryz.underlying9 (fun j hj => World.ownsRow.cells Hown.out (by rw [hv']; rfl) j _ (by rw [Lib.byteCells, List.getElem?_map, List.getElem?_eq_getElem hj]; rfl))
          rw [← hv'] at hcv2
          clear hbig hv'
          go_wp2_with fail
          refine bodyPost_ret (v := .tuple #[.string (Sp.ba L), .int .i64 0]) (by simp [results, Tryz.results14, go_sem, Sp.ba]) rfl ?_
          rw [PrintOut, HE.out]
          exact ⟨rfl, BX.out.trans (bwr.out.mono (by have := BX.out.size; omega))⟩
  · have HN := Lib.hid (refNormal_bad f _ ops W hvW hz hts he)
    have HE := Lib.hid (printF_bad he)
    have hb : (toE f ops == 0) = false := by rw [beq_eq_false_iff_ne]; exact he
    generalize toE f ops = t at *
    clear hvW hz he hts
    go_enter Tryz.func14, Tryz.ntmps14
    go_wp2_with fail
    rw [← HW.out]
    refine HN.out.mono ?_
    rintro e w1 ⟨rfl, b1⟩
    have B1 := Lib.hid (BW.out.trans (b1.mono (Nat.le_of_lt sW)))
    have wh1 := (b1.block _ (lt_of_heap wh.out)).trans wh.out
    have g0 := Joins.unfrozen_of_block wh1 0
    have g1 := Joins.unfrozen_of_block wh1 1
    have y0 := (Lib.cell_of_heap wh1 0).trans (show _ = some _ from rfl)
    have y1 := (Lib.cell_of_heap wh1 1).trans (show _ = some _ from rfl)
    clear b1 wh1
    go_wp2_with fail
    refine bodyPost_ret (v := .tuple #[.string ⟨#[]⟩, .int .i64 t]) (by simp [results, Tryz.results14, go_sem]) rfl ?_
    rw [PrintOut, HE.out]
    exact ⟨rfl, (B1.out.setCell (p := ⟨w.heap.size, 0, none⟩) (Nat.le_refl w.heap.size) _).setCell (p := ⟨w.heap.size, 1, none⟩) (Nat.le_refl w.heap.size) _⟩
end Go.Proofs.YtacgkbdldbppjaaGreatDoor

/- The law SpellPrints, walked. -/
namespace Go.Proofs.YtacgkbdldbppjaaGreatDoor
open Go.RowKit Ch

set_option maxRecDepth 100000 in
set_option maxHeartbeats 8000000 in
theorem prints_walk4 (f : Int) (v : Value) (ops : List OpD) (s : ByteArray) (w : World) (hv : OpRow w v ops) (hz : SmallO ops) (hsz : s.size ≤ 1048576) (hs : Std w) (hu : U8 w) (hg1 : 0 < w.heap.size) (hg2 : 1 < w.heap.size) :
    Calls Tryz.prog 3 #[chAgg f v, .string s] w (OutB w true) := by
  have HV := Lib.hid hv
  have HZ := Lib.hid hz
  have HSZ := Lib.hid (small_sized hz)
  have HTS := Lib.hid (small_t hz)
  have HS := Lib.hid hs
  have HU := Lib.hid (fun X (hb : Below w.heap.size w X) => U8.below hu hb hg1 hg2)
  obtain ⟨aa, acap, rfl⟩ := hv.shape
  obtain ⟨W, hW⟩ : ∃ W, W = w.alloc (.cells #[.int .i64 f, .slice aa ops.length acap] 24) := ⟨_, rfl⟩
  have bW := show Below w.heap.size w W by rw [hW]; exact below_box _ _
  have B0 := Lib.hid bW
  have K0 := Lib.hid (show Boxes W [(w.heap.size, #[.int .i64 f, .slice aa ops.length acap])] by rw [hW]; have := (show Boxes w [] from fun x hx => by cases hx).more #[.int .i64 f, .slice aa ops.length acap]; simpa using this)
  have HW := Lib.hid hW
  have SW := hs.keep bW
  have HAW := Lib.hid (awake4_any W SW.pow SW.syn SW.pl SW.sl)
  clear hv hz hW bW SW hs hu
  go_enter Tryz.func3, Tryz.ntmps3
  go_wp2_with fail
  rw [← HW.out]
  refine HAW.out.mono ?_
  rintro e w1 ⟨rfl, b1⟩
  have B1 := Lib.hid (B0.out.trans (b1.mono B0.out.size))
  have K1 := Lib.hid (K0.out.below b1)
  obtain ⟨c0, c1, c2⟩ := K1.out.at (b := w.heap.size) (u := .int .i64 f) (v := .slice aa ops.length acap) (by simp)
  have HC := Lib.hid (lentC_any f (.slice aa ops.length acap) ops w1 (HV.out.below B1.out) HZ.out)
  clear b1
  go_wp2_with fail
  refine HC.out.mono ?_
  rintro e w2 ⟨gg, gc, ps, rfl, hps, L2, b2⟩
  have HPS := Lib.hid hps
  have hln : ps.length = ops.length := by rw [← hps]; simp
  have hgE : gg < w2.heap.size := (L2.row.lt gg rfl).2
  have haE := Lib.hid (fun q (hq : q ∈ ps) j (hj : q.2.ownBlock = some j) => ((L2.att q hq).lt j hj).2)
  have B2 := Lib.hid (B1.out.trans (b2.mono B1.out.size))
  have K2 := Lib.hid (K1.out.below b2)
  have s12 := b2.size
  have s01 := B1.out.size
  obtain ⟨X2, hX2⟩ : ∃ X, X = w2.alloc (.cells #[.int .i64 f, .slice (some ⟨gg, 0, none⟩) ops.length gc] 24) := ⟨_, rfl⟩
  have bx := show Below w2.heap.size w2 X2 by rw [hX2]; exact below_box _ _
  have KX2 := Lib.hid (show Boxes X2 [(w.heap.size, #[.int .i64 f, .slice aa ops.length acap]), (w2.heap.size, #[.int .i64 f, .slice (some ⟨gg, 0, none⟩) ops.length gc])] by rw [hX2]; exact K2.out.more _)
  have LX2 := Lib.hid (L2.below bx)
  have BX2 := Lib.hid (B2.out.trans (bx.mono B2.out.size))
  have HX2 := Lib.hid hX2
  have hin : OpRow X2 (.slice (some ⟨gg, 0, none⟩) ops.length gc) ops := by
    have := LX2.out.ops
    rw [hln, HPS.out] at this
    exact this
  have S2 := HS.out.keep BX2.out
  have HN := Lib.hid (print_any f (.slice (some ⟨gg, 0, none⟩) ops.length gc) ops X2 hin HSZ.out S2.pow S2.pl)
  have sx2 : X2.heap.size = w2.heap.size + 1 := by rw [hX2]; simp
  have SX2 := Lib.hid sx2
  clear hps L2 b2 bx hX2 hin c0 c1 hln sx2 S2
  go_wp2_with fail
  rw [← HX2.out]
  refine HN.out.mono ?_
  clear HN
  rintro e w3 ⟨rfl, b3⟩
  have B3 := Lib.hid (BX2.out.trans (b3.mono BX2.out.size))
  have Y3 := Lib.hid b3
  have K3 := Lib.hid (KX2.out.below b3)
  have s3 := b3.size
  obtain ⟨l0, l1, l2⟩ := K3.out.at (b := w2.heap.size) (u := .int .i64 f) (v := .slice (some ⟨gg, 0, none⟩) ops.length gc) (by simp)
  obtain ⟨m0, m1, m2⟩ := K3.out.at (b := w.heap.size) (u := .int .i64 f) (v := .slice aa ops.length acap) (by simp)
  have HN := Lib.hid (keptC_any f (.slice aa ops.length acap) ops w1.heap.size w2.heap.size gg gc ps w w3 (LX2.out.below b3) HPS.out HV.out B3.out s01 HZ.out hgE haE.out (by have := SX2.out; omega))
  clear b3
  generalize hpf : Sp.printF f ops = pf at *
  have HPF := Lib.hid hpf
  clear hpf
  go_wp2_with fail
  refine HN.out.mono ?_
  clear HN l0 l1 l2 m0 m1 m2
  rintro e w4 ⟨rfl, S4⟩
  have z2 := SX2.out
  have B4 := Lib.hid (B3.out.trans (S4.below.mono s01))
  have K4 := Lib.hid (K3.out.span S4 (by
    intro x hx
    simp only [List.mem_cons, List.not_mem_nil, or_false] at hx
    rcases hx with rfl | rfl <;> (simp only; omega)))
  have HN := Lib.hid (quoteT_any s w4 (by omega) (HU.out w4 B4.out))
  clear S4
  go_wp2_with fail
  refine HN.out.mono ?_
  clear HN
  rintro e w5 ⟨rfl, b5⟩
  have B5 := Lib.hid (B4.out.trans (b5.mono B4.out.size))
  have K5 := Lib.hid (K4.out.below b5)
  obtain ⟨m0, m1, m2⟩ := K5.out.at (b := w.heap.size) (u := .int .i64 f) (v := .slice aa ops.length acap) (by simp)
  have HN := Lib.hid (refPrint_any f (.slice aa ops.length acap) ops w5 (HV.out.below B5.out) HSZ.out HTS.out)
  unfold PrintOut at HN
  rw [HPF.out] at HN
  clear b5
  go_wp2_with fail
  refine HN.out.mono ?_
  clear HN m0 m1 m2
  rintro e w6 ⟨rfl, b6⟩
  have B6 := Lib.hid (B5.out.trans (b6.mono B5.out.size))
  have HN := Lib.hid (refQuoteT_any s w6 hsz)
  clear b6
  go_wp2_with fail
  refine HN.out.mono ?_
  clear HN
  rintro e w7 ⟨rfl, b7⟩
  have B7 := Lib.hid (B6.out.trans (b7.mono B6.out.size))
  clear b7
  have t1 : (pf.2 == pf.2) = true := by simp
  have t2 : (pf.1 == pf.1) = true := by simp
  have t3 : ((Sp.ba pf.2).toList == (Sp.ba pf.2).toList) = true := by simp
  have t4 : ((Sp.ba (quoteF s).1).toList == (Sp.ba (quoteF s).1).toList) = true := by simp
  have t5 : ((quoteF s).2 == (quoteF s).2) = true := by simp
  go_wp2_with fail
  go_ret
  exact ⟨rfl, B7.out⟩
end Go.Proofs.YtacgkbdldbppjaaGreatDoor

/- The law SpellPrints (the form with a bound on the input's bulk): its row and its card, out of the walk (prints_walk4): of every input of bulk at most 1048576 the call returns true, and each argument reads as it did. -/
namespace Go.Proofs.YtacgkbdldbppjaaGreatDoor.spellPrintsUpto
open Go.ChangeShapes Go.WideShapes Go.ChangeAt Go.RowKit Go.WideMaps Go.WideElems
open Go.ChangeMaps (open_string shut_string)

theorem own : ownKnob Tryz.prog.godebug = none := by kernel_rfl
theorem pow_eq : (Rows.laid_internal_strconv_uint64pow10 : DataW Unit) = Lib.tabData .u64 Lib.pow10Tab := by kernel_rfl
theorem first_eq : Rows.laid_unicode_utf8_first = Lib.firstData := Pinned.utf8First_eq
theorem acc_eq : (Rows.laid_unicode_utf8_acceptRanges : DataW Unit) = Lib.acceptData := by kernel_rfl
set_option maxRecDepth 100000 in
theorem contract (H : Type) (enc : TypeId × Value → H) (W : World) (base : Nat) (args : Array Value) (ds gs : List (DataW H)) (before : List MemPlace)
    (hval : ∀ (j : Nat) t v, Tryz.f3.params[j]? = some t → args[j]? = some v → Value.okWide Tryz.prog W .any base t v)
    (hW : DataW.Whole enc Tryz.prog Tryz.f3.params.toList Rows.spellPrintsSpec.vars false W args.toList ds gs before) (hl : laidMetH Tryz.prog Rows.spellPrintsUptoRow.laid W) (hk : Rows.uptoSmall H (ds ++ gs) = true) :
    Calls Tryz.prog 3 args W fun e W' => ∃ v, e = .returned v ∧ Rows.spellPrintsSpec.post enc Tryz.prog Tryz.f3 false true false false W args v W' := by
  have hlaid : laidMet Tryz.prog Rows.spellPrintsUptoRow.laid W := by rw [← MakeChecks.laidMetH_plain Tryz.prog Rows.spellPrintsUptoRow.laid W (by rfl)]; exact hl
  have hstd : Std W := std_of (n := "*errors.errorString") hlaid (by rw [← pow_eq]; exact (.tail _ (.tail _ (.head _)))) (by exact (.tail _ (.tail _ (.tail _ (.tail _ (.tail _ (.head _)))))))
  have hu8 := u8_of hlaid (by rw [← first_eq]; exact (.tail _ (.tail _ (.tail _ (.tail _ (.tail _ (.tail _ (.head _)))))))) (by rw [← acc_eq]; exact (.tail _ (.tail _ (.tail _ (.head _)))))
  have hW' := hW
  have hlt := hW.lt
  obtain ⟨p, q, hA0, hV, rfl, hfz, hnd⟩ := hW
  have hA : DataW.TrodAll enc Tryz.prog W 0 (fun _ => true) true Tryz.f3.params.toList args.toList ds p := hA0
  rw [Tryz.params3] at hA hval
  obtain ⟨v0, vs0, d0, ds0, p0, q0, hargs, rfl, rfl, h0, r0⟩ := trodAll_cons hA
  obtain ⟨v1, vs1, d1, ds1, p1, q1, rfl, rfl, rfl, h1, r1⟩ := trodAll_cons r0
  obtain ⟨rfl, rfl, rfl⟩ := trodAll_nil r1
  obtain rfl : args = #[v0, v1] := by cases args; simp_all
  obtain ⟨rfl, rfl⟩ := trodVars_none hV
  have hb0 := of_decide_eq_true hk
  simp only [List.append_nil, Rows.uptoBulkAll] at hb0
  have k0 := h0
  obtain ⟨f0, y0, o0, rfl, x0, s0⟩ := open_changeB (by omega) (hval 0 24 v0 rfl rfl) h0
  have k1 := h1
  obtain ⟨x1, rfl, rfl, rfl, z1⟩ := open_string Tryz.underlying9 (hval 1 9 v1 rfl rfl) h1
  have u1 : x1.size ≤ 1048576 := by
    have e : x1.data.toList.length = x1.size := by simp
    simp only [Rows.uptoBulk] at hb0
    omega
  clear hA0
  refine (prints_walk4 f0 y0 o0 x1 W x0 s0 u1 hstd hu8.1 hu8.2.1 hu8.2.2).mono fun e W' ⟨he, hb⟩ => ?_
  subst he
  exact ⟨_, rfl, _, _, _, [], _, [], hW', trodAll_mk1 (shut_bool Tryz.underlying4 _), trodAll_cons_mk (Below.trod laidOutC (by kernel_rfl) (of_decide_eq_true (by kernel_rfl)) k0 hb (fun y hy => hlt y (by first | (simp [hy]; done) | (cases hy)))) (trodAll_cons_mk (Below.trod laidOutC (by kernel_rfl) (of_decide_eq_true (by kernel_rfl)) k1 hb (fun y hy => hlt y (by first | (simp; done) | (cases hy)))) (trodAll_mk0)), rfl, hb.frame _, fun h => by cases h⟩

theorem laid_met (os : Os) : laidMet Tryz.prog Rows.spellPrintsUptoRow.laid ((World.laidAll Tryz.prog os Rows.spellPrintsUptoRow.laid).forCall (fun _ _ => 0) ⟨#[], #[.agg #[.int .i64 0, .slice none 0 0], .string ⟨#[]⟩], []⟩).memory :=
  laidMet_laidAll _ (by kernel_rfl) (by kernel_rfl)
theorem reads (os : Os) {H : Type} (enc : TypeId × Value → H) : ∃ places, DataW.whole enc Tryz.prog ((World.laidAll Tryz.prog os Rows.spellPrintsUptoRow.laid).forCall (fun _ _ => 0) ⟨#[], #[.agg #[.int .i64 0, .slice none 0 0], .string ⟨#[]⟩], []⟩).memory Tryz.f3.params.toList Rows.spellPrintsSpec.vars false (#[.agg #[.int .i64 0, .slice none 0 0], .string ⟨#[]⟩] : Array Value).toList 8 = some ([(.agg [.lit (.int .i64 0), .nil]), (.lit (.string []))], [], places) :=
  ⟨[], by kernel_rfl⟩
theorem okB (os : Os) : Input.okWideB Tryz.prog ((World.laidAll Tryz.prog os Rows.spellPrintsUptoRow.laid).forCall (fun _ _ => 0) ⟨#[], #[.agg #[.int .i64 0, .slice none 0 0], .string ⟨#[]⟩], []⟩) 3 ⟨#[], #[.agg #[.int .i64 0, .slice none 0 0], .string ⟨#[]⟩], []⟩ = true := by kernel_rfl
theorem shaped (os : Os) : ((World.laidAll Tryz.prog os Rows.spellPrintsUptoRow.laid).forCall (fun _ _ => 0) ⟨#[], #[.agg #[.int .i64 0, .slice none 0 0], .string ⟨#[]⟩], []⟩).Shaped Tryz.prog := World.shaped_of_ZipB (by kernel_rfl) (by kernel_rfl)

set_option maxRecDepth 100000 in
theorem lifted (os : Os) (started : os.Started) (H : Type) (enc : TypeId × Value → H) (F : Stop.Interp) :
    ReturnsInHanded {} Tryz.checked os 3 .any ((Rows.OpenSpec.upto Rows.spellPrintsSpec).preRow enc Tryz.prog Tryz.f3 Rows.spellPrintsUptoRow.domain false Rows.spellPrintsUptoRow.laid) (((Rows.OpenSpec.upto Rows.spellPrintsSpec).at F).post enc Tryz.prog Tryz.f3 false true false false) := by
  obtain ⟨places, hx⟩ := reads os enc
  refine returnsInHanded_of_row (C := Tryz.checked) (s := Rows.OpenSpec.upto Rows.spellPrintsSpec) own started (by kernel_rfl) Tryz.func3
    ⟨World.laidAll Tryz.prog os Rows.spellPrintsUptoRow.laid, fun _ _ => 0, ⟨#[], #[.agg #[.int .i64 0, .slice none 0 0], .string ⟨#[]⟩], []⟩, World.laidAll_os _ _ _, shaped os, (Input.okWide_of_okWideB (base := 0) (okB os)).1, (Input.okWide_of_okWideB (okB os)).2,
      OpenSpec.preRow_of_cond 8 hx (by kernel_rfl) (fun k hk => by cases hk; kernel_rfl) (by kernel_rfl) (laid_met os), by
        simp only [Assume.holds]
        exact ⟨by simp, by simp, by simp, by simp, by simp⟩⟩ ?_
  intro W base args ds gs before hval hW _ hcond _ hl _ _
  exact contract H enc W base args ds gs before hval hW hl (hcond _ rfl)

theorem said : Rows.SpellPrintsUptoSaid :=
  OpenClaim.holds_of_cond 3 Tryz.f3 rfl rfl rfl rfl rfl rfl rfl ⟨rfl, rfl, rfl, rfl, rfl⟩ rfl rfl rfl rfl rfl (by kernel_rfl) Tryz.func3 (by kernel_rfl)
    (of_decide_eq_true (by kernel_rfl)) (by unfold Func.isWrapper; first | (rw [if_pos (by decide +kernel)]; kernel_rfl) | (rw [if_neg (by decide +kernel)]; exact ⟨rfl, rfl⟩))
    (fun os started H enc _ F => by rw [OpenClaim.pre_eq_preRow]; exact lifted os started H enc F)

/-- No parameter wants a stand-in; the program's own looks are off: what the card asks. -/
theorem plain (f : FuncId) (fn : Func) (hf : Tryz.pinned.checked.prog.funcNamed "blotter/blotterlaw04.SpellPrints" = some f) (hfn : Tryz.pinned.checked.prog.funcs[f]? = some fn) :
    true = Tryz.pinned.checked.prog.looks [] ∧ ∀ (j : Nat) t, fn.params[j]? = some t → Tryz.pinned.checked.prog.wantsStandIn t = false := by
  obtain rfl : f = 3 := Option.some.inj ((show Tryz.prog.funcNamed "blotter/blotterlaw04.SpellPrints" = some 3 by kernel_rfl).symm.trans hf) |>.symm
  obtain rfl : fn = Tryz.f3 := (Option.some.inj (Tryz.func3.symm.trans hfn)).symm
  refine ⟨by kernel_rfl, fun j t ht => ?_⟩
  rw [Tryz.params3] at ht
  have hm : t ∈ [24, 9] := by simpa using Array.mem_of_getElem? ht
  have hall : ([24, 9].all fun u => !Tryz.prog.wantsStandIn u) = true := by kernel_rfl
  exact (show Tryz.prog.wantsStandIn t = false by simpa using List.all_eq_true.1 hall t hm)

theorem card_holds : Rows.SpellPrintsUptoCardSaid :=
  Claim7.holds_tied_plain_at .later [] _ _ _ _ said (fun _ h => by cases h) (by kernel_rfl) (fun _ h => by cases h) spellPrintsUpto_row_tie rfl ⟨rfl, rfl⟩ (by kernel_rfl) rfl plain (by kernel_rfl)
end Go.Proofs.YtacgkbdldbppjaaGreatDoor.spellPrintsUpto
