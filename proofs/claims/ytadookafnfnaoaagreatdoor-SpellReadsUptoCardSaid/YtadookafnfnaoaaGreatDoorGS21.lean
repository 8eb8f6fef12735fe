import Derived.Test.YtadookafnfnaoaaGreatDoorGS15
import Derived.Test.YtadookafnfnaoaaGreatDoorGS3
import Derived.Test.YtadookafnfnaoaaGreatDoorGS1
import Derived.Test.YtadookafnfnaoaaGreatDoorGS20
import Derived.Test.YtadookafnfnaoaaGreatDoorGS16
import Derived.OwnWalk
/- The law SpellReads, walked. -/
namespace Go.Proofs.YtadookafnfnaoaaGreatDoor
open Go.RowKit Ch

theorem ba_nilR : (Sp.ba []).toList.isEmpty = true := by rw [ByteArray.toList_eq]; rfl
theorem read_mid (b s r : ByteArray) : Sp.readF (b ++ Sp.ba (Sp.qt s.data.toList) ++ r).data.toList (b.size : Int) = ⟨0, 0, s.data.toList, ((b.size + (Sp.qt s.data.toList).length : Nat) : Int)⟩ := by
  have := Sp.read_qt b.data.toList s.data.toList r.data.toList
  rw [cat_eq, cat_data, cat_eq, cat_data, Sp.data_ba, List.append_assoc]
  exact this

set_option maxRecDepth 100000 in
set_option maxHeartbeats 8000000 in
theorem reads_walk4 (s b r : ByteArray) (w : World) (hs1 : s.size ≤ 1048576) (hb1 : b.size ≤ 1048576) (hr1 : r.size ≤ 1048576) (hs : Std w) (hu : U8 w) (hg1 : 0 < w.heap.size) (hg2 : 1 < w.heap.size) :
    Calls Tryz.prog 9 #[.string s, .string b, .string r] w (OutB w true) := by
  have HS := Lib.hid hs
  have HU := Lib.hid hu
  have HAW := Lib.hid (awake4_any w hs.pow hs.syn hs.pl hs.sl)
  clear hs hu
  go_enter Tryz.func9, Tryz.ntmps9
  go_wp2_with fail
  refine HAW.out.mono ?_
  rintro e w1 ⟨rfl, h⟩
  have B1 := Lib.hid h
  have HQ := Lib.hid (quoteT_any s w1 (by omega) (HU.out.below h hg1 hg2))
  clear h
  go_wp2_with fail
  refine HQ.out.mono ?_
  rintro e w2 ⟨rfl, h⟩
  have B2 := Lib.hid (B1.out.trans (h.mono B1.out.size))
  clear h HQ
  cases hv : Lib.validD s.data.toList with
  | false =>
    have he : quoteF s = ([], 10) := by unfold quoteF; rw [if_neg (by rw [hv]; decide)]
    have hem := ba_nilR
    rw [he]
    clear he hv
    go_wp2_with fail
    go_ret
    exact ⟨rfl, B2.out⟩
  | true =>
    have he : quoteF s = (Sp.qt s.data.toList, 0) := by unfold quoteF; rw [if_pos hv]
    have hqs : (Sp.ba (Sp.qt s.data.toList)).size = (Sp.qt s.data.toList).length := by rw [size_data, Sp.data_ba]
    have hql := Sp.qt_len s.data.toList
    have hss : s.data.toList.length = s.size := rfl
    have hcat : (b ++ Sp.ba (Sp.qt s.data.toList) ++ r).size = b.size + (Sp.qt s.data.toList).length + r.size := by rw [cat_eq, cat_size, cat_eq, cat_size, hqs]
    have hcat1 : (b ++ Sp.ba (Sp.qt s.data.toList)).size = b.size + (Sp.qt s.data.toList).length := by rw [cat_eq, cat_size, hqs]
    have HR := Lib.hid (spRead_any (b ++ Sp.ba (Sp.qt s.data.toList) ++ r) (b.size : Int) w2 (by omega) (by omega) (by omega))
    rw [show SpReadOut w2 (b ++ Sp.ba (Sp.qt s.data.toList) ++ r) (b.size : Int) = fun e w' => e = .returned (.tuple #[.string s, .int .i64 ((b.size : Int) + (Sp.qt s.data.toList).length), .agg #[.int .i64 0, .int .i64 0]]) ∧ Below w2.heap.size w2 w' by unfold SpReadOut; rw [read_mid, Sp.ba_data]; simp] at HR
    rw [he]
    generalize hqb : Sp.ba (Sp.qt s.data.toList) = qb at *
    generalize hqn : (Sp.qt s.data.toList).length = N at *
    clear he hv hqb hqn
    subst hqs
    have hss1 : (s.toList == s.toList) = true := by simp
    have hqq : (((b.size : Int) + (qb.size : Int)) == ((b.size : Int) + (qb.size : Int))) = true := by simp
    go_wp2_with fail
    refine HR.out.mono ?_
    rintro e w3 ⟨rfl, h⟩
    have B3 := Lib.hid (B2.out.trans (h.mono B2.out.size))
    clear h
    go_wp2_with fail
    go_ret
    exact ⟨rfl, below_alloc B3.out (Nat.le_refl _) _⟩
end Go.Proofs.YtadookafnfnaoaaGreatDoor
/- Lent, Kept, Spoil: attributes in memory of their own, whether they were kept, and their owner writes over them. -/
namespace Go.Proofs.YtadookafnfnaoaaGreatDoor
open Go.RowKit At

def mark : ByteArray × ByteArray := (⟨#[109, 97, 114, 107]⟩, ⟨#[]⟩)
def LentOut (W : World) (l : List (ByteArray × ByteArray)) (e : Ending) (w' : World) : Prop :=
  ∃ g, e = .returned (.slice (some ⟨g, 0, none⟩) l.length (l.length + 1)) ∧ w'.ownsRow W.heap.size 53 2 (.slice (some ⟨g, 0, none⟩) (l.length + 1) (l.length + 1)) (l.length + 1) (flat (l ++ [mark])) ∧ Below W.heap.size W w'

set_option maxRecDepth 100000 in
set_option maxHeartbeats 4000000 in
theorem lent_any (v : Value) (l : List (ByteArray × ByteArray)) (w : World) (hv : AtRow w v l) (hp : Proper v) (hr : l.length * 32 ≤ 140737488351232) :
    Calls Tryz.prog 29 #[v] w (LentOut w l) := by
  have Hv := Lib.hid hv
  have Hp := Lib.hid hp
  obtain ⟨ao, cap, rfl, _⟩ := hv
  have hnone := fun h : ao = none => by subst h; exact hp _ _ rfl
  have Hnone := Lib.hid hnone
  have Hr := Lib.hid hr
  have hn : l.length ≤ 4398046511104 := by omega
  have e0 : ([] : List Value) ++ flat l = flat l := rfl
  have e1 : 0 + l.length = l.length := Nat.zero_add _
  have E1 := Lib.hid (And.intro e0 e1)
  obtain ⟨i0, hi, hz0, hz1, hz2⟩ := info_parts infoAttr
  have Hi := Lib.hid (And.intro hi (And.intro hz0 (And.intro hz1 hz2)))
  have b1 : i0.bytes * (l.length + 1) ≤ 281474976710656 := by rw [hz2]; omega
  have b2 : l.length + 1 ≤ maxLen := by unfold maxLen; omega
  have Hb := Lib.hid (And.intro b1 b2)
  clear hp hr hnone hi hz0 hz1 hz2 b1 b2 e0 e1
  go_enter Tryz.func29, Tryz.ntmps29
  go_wp2_with (first
    | (at_make; refine wpList_make_own _ rfl _ _ 46 rfl w.heap.size 53 i0 (.agg #[.string ⟨#[]⟩, .string ⟨#[]⟩]) 2 Tryz.underlying46 Hi.out.1 Hi.out.2.1 Hi.out.2.2.1 .i64 .i64 _ (l.length + 1) rfl rfl rfl Hb.out.1 Hb.out.2 (Nat.le_refl _) ?_; intro w1 o1 g1; have O1 := Lib.hid o1; have B1 := Lib.hid ((Below.refl w.heap.size w).grown g1 (Nat.le_refl _) (fun k hk => by cases hk)); clear o1 g1)
    | (at_builtin; refine wpList_append_fits_any _ rfl (.tmp 7) (.tmp 8) 46 rfl w.heap.size 53 i0 2 Tryz.underlying46 Hi.out.1 Hi.out.2.2.1 w.heap.size 0 (l.length + 1) [] rfl O1.out ao l.length cap (flat l) rfl (flat_len l) Hnone.out (news_any (Hv.out.below B1.out)) flat_one (by omega) ?_; intro w2 o2 g2; rw [E1.out.1, E1.out.2] at o2; have O2 := Lib.hid o2; have B2 := Lib.hid (B1.out.grown g2 B1.out.size (fun k hk => by cases hk; exact Nat.le_refl _)); clear o2 g2)
    | (at_builtin; refine wpList_append_fits _ rfl (.tmp 10) (.tmp 12) 46 rfl w.heap.size 53 i0 2 Tryz.underlying46 Hi.out.1 Hi.out.2.2.1 w.heap.size l.length (l.length + 1) (flat l) rfl (O2.out.alloc _) ⟨w2.heap.size, 0, none⟩ 1 1 [.string mark.1, .string mark.2] rfl rfl (new_at2 _ _ _ _) (fun u hu => by simp at hu; rcases hu with rfl | rfl <;> rfl) (Nat.le_refl _) ?_; intro w3 o3 g3; rw [← flat_snoc] at o3; have O3 := Lib.hid o3; have B3 := Lib.hid ((B2.out.alloc B2.out.size _).grown g3 (Nat.le_trans B2.out.size (by simp)) (fun k hk => by cases hk; exact Nat.le_refl _)); clear o3 g3)
    | (refine wpList_sliced (.slice (some ⟨w.heap.size, 0, none⟩) (l.length + 1) (l.length + 1)) (.slice (some ⟨w.heap.size, 0, none⟩) l.length (l.length + 1)) rfl (slice_own _ _ _ _ (Nat.le_succ _) _) ?_))
  go_ret
  exact ⟨_, rfl, O3.out, B3.out⟩

/-- One cell pair written over in one's own row. -/
theorem own_stored2 {w : World} {B g n cap j : Nat} {xs : List Value} (h : w.ownsRow B 53 2 (.slice (some ⟨g, 0, none⟩) n cap) n xs) (u v : Value) :
    ∃ ys, ((w.setCell ⟨g, j * 2, none⟩ u).setCell ⟨g, j * 2 + 1, none⟩ v).ownsRow B 53 2 (.slice (some ⟨g, 0, none⟩) n cap) n ys :=
  ⟨_, ((h.stored (j * 2) u).1.stored (j * 2 + 1) v).1⟩
theorem own_cell {w : World} {B g n cap j : Nat} {xs : List Value} (h : w.ownsRow B 53 2 (.slice (some ⟨g, 0, none⟩) n cap) n xs) (hj : j < n * 2) : ∃ u, w.cell? ⟨g, j, none⟩ = some u := by
  have hl : j < xs.length := by rw [h.1]; exact hj
  exact ⟨xs[j], by rw [h.cellAt j hj]; exact List.getElem?_eq_getElem hl⟩

end Go.Proofs.YtadookafnfnaoaaGreatDoor
/- Kept: were the attributes kept, and the mark behind them? -/
namespace Go.Proofs.YtadookafnfnaoaaGreatDoor
open Go.RowKit At

theorem row_lent {w : World} {B g : Nat} {l : List (ByteArray × ByteArray)} (h : w.ownsRow B 53 2 (.slice (some ⟨g, 0, none⟩) (l.length + 1) (l.length + 1)) (l.length + 1) (flat (l ++ [mark]))) :
    AtRow w (.slice (some ⟨g, 0, none⟩) l.length (l.length + 1)) l := by
  have hlt := (h.lt g rfl).2
  have hm : l.length + 1 ≤ maxLen := by
    rcases h.2 with ⟨h0, _⟩ | ⟨g', cap, cur, h0, _, _, _, hm, _⟩
    · simp at h0
    · simp only [Value.slice.injEq] at h0
      omega
  refine ⟨_, l.length + 1, rfl, Nat.le_succ _, hm, fun i hi => ⟨g, 0, rfl, hlt, ?_, ?_⟩⟩
  · rw [Nat.zero_add, h.cellAt _ (by omega), flat_append, List.getElem?_append_left (by rw [flat_len]; omega), flat_at0 hi]
  · rw [Nat.zero_add, h.cellAt _ (by omega), flat_append, List.getElem?_append_left (by rw [flat_len]; omega), flat_at1 hi]
theorem mark_lent {w : World} {B g : Nat} {l : List (ByteArray × ByteArray)} (h : w.ownsRow B 53 2 (.slice (some ⟨g, 0, none⟩) (l.length + 1) (l.length + 1)) (l.length + 1) (flat (l ++ [mark]))) :
    w.cell? ⟨g, l.length * 2, none⟩ = some (.string ⟨#[109, 97, 114, 107]⟩) := by
  rw [h.cellAt _ (by omega), flat_append, List.getElem?_append_right (by rw [flat_len]; omega), flat_len, Nat.sub_self]
  rfl

def KeptOut (W : World) (g : Nat) (e : Ending) (w' : World) : Prop := e = .returned (.bool true) ∧ W.grownBy w' (some g)
set_option maxRecDepth 100000 in
set_option maxHeartbeats 4000000 in
theorem kept_any (v : Value) (B g : Nat) (l : List (ByteArray × ByteArray)) (w : World) (h : w.ownsRow B 53 2 (.slice (some ⟨g, 0, none⟩) (l.length + 1) (l.length + 1)) (l.length + 1) (flat (l ++ [mark]))) (hv : AtRow w v l) (hr : l.length ≤ 4398046511104) :
    Calls Tryz.prog 36 #[.slice (some ⟨g, 0, none⟩) l.length (l.length + 1), v] w (KeptOut w g) := by
  have H := Lib.hid h
  have hs : sameB l l = true := decide_eq_true rfl
  have Hs := Lib.hid (refSame_any _ v l l w (row_lent h) hv)
  rw [hs] at Hs
  have hmk := mark_lent h
  have hn' : l.length + 1 ≤ 9223372036854775807 := by omega
  clear h hv hs
  go_enter Tryz.func36, Tryz.ntmps36
  go_wp2_with fail
  refine Hs.out.mono ?_
  rintro e w1 ⟨rfl, m, rfl⟩
  go_wp2_with (refine wpList_sliced (.slice (some ⟨g, 0, none⟩) l.length (l.length + 1)) (.slice (some ⟨g, 0, none⟩) (l.length + 1) (l.length + 1)) rfl (slice_own _ _ _ _ (Nat.le_refl _) _) ?_)
  go_loopw [8] (fun i wr => ∃ (k : Nat) (ys : List Value), i = .int .i64 (k : Int) ∧ k ≤ l.length + 1 ∧ wr.ownsRow B 53 2 (.slice (some ⟨g, 0, none⟩) (l.length + 1) (l.length + 1)) (l.length + 1) ys ∧ w.grownBy wr (some g)) (fun i _ => l.length + 1 - (intOf i).toNat)
  case atStart => exact ⟨0, _, rfl, Nat.zero_le _, row_below H.out (below_drewN (Below.refl _ _) _), only_drewN (grown_refl _ _) _⟩
  case round =>
    obtain ⟨k, ys, rfl, hk, hown, hg⟩ := hrel
    by_cases hlt : k < l.length + 1
    · have hlt' : (k : Int) < (l.length : Int) + 1 := by omega
      obtain ⟨u1, c1⟩ := own_cell hown (j := k * 2) (by omega)
      obtain ⟨u2, c2⟩ := own_cell hown (j := k * 2 + 1) (by omega)
      have f1 : wr.frozen? ⟨g, k * 2, none⟩ = false := hown.frozenAt _
      have f2 : wr.frozen? ⟨g, k * 2 + 1, none⟩ = false := hown.frozenAt _
      obtain ⟨zs, hz⟩ := own_stored2 (j := k) hown (.string ⟨#[115, 112, 111, 105, 108, 116]⟩) (.string ⟨#[]⟩)
      have Hz := Lib.hid hz
      have Hg := Lib.hid (only_setCell (only_setCell hg (p := ⟨g, k * 2, none⟩) rfl (.string ⟨#[115, 112, 111, 105, 108, 116]⟩)) (p := ⟨g, k * 2 + 1, none⟩) rfl (.string ⟨#[]⟩))
      clear hown hg hz hmk
      go_wp2_with fail
      go_roundw
      case rel => exact ⟨k + 1, zs, by go_num, by omega, Hz.out, Hg.out⟩
      case measure => simp [intOf]; omega
    · have hkn : k = l.length + 1 := by omega
      subst hkn
      have Hg := Lib.hid hg
      have t1 : decide ((l.length : Int) + 1 < (l.length : Int) + 1) = false := decide_eq_false (by omega)
      clear hown hg hk hlt hmk
      go_wp2_with fail
      go_ret
      exact ⟨rfl, Hg.out⟩
end Go.Proofs.YtadookafnfnaoaaGreatDoor
/- What a call keeps that writes over rows that it was given: a span of blocks; the blocks' shapes. -/
namespace Go.Proofs.YtadookafnfnaoaaGreatDoor
open Go.RowKit Ch At

/-- Below lo, and from hi on, all that was there stays. -/
structure Span (lo hi : Nat) (w w' : World) : Prop where
  below : Below lo w w'
  block : ∀ i, i < w.heap.size → hi ≤ i → w'.heap[i]? = w.heap[i]?
theorem Span.refl (lo hi : Nat) (w : World) : Span lo hi w w := ⟨Below.refl _ _, fun _ _ _ => rfl⟩
theorem Span.trans {lo hi : Nat} {a b c : World} (h : Span lo hi a b) (k : Span lo hi b c) : Span lo hi a c :=
  ⟨h.below.trans k.below, fun i hi' hh => (k.block i (Nat.lt_of_lt_of_le hi' h.below.size) hh).trans (h.block i hi' hh)⟩
theorem span_below {lo hi : Nat} {w w' : World} (h : Below w.heap.size w w') (hl : lo ≤ w.heap.size) : Span lo hi w w' := ⟨h.mono hl, fun i hi' _ => h.block i hi'⟩
theorem span_set {lo hi : Nat} {w : World} {p : Addr} (h1 : lo ≤ p.block) (h2 : p.block < hi) (u : Value) : Span lo hi w (w.setCell p u) :=
  ⟨(Below.refl _ _).setCell h1 u, fun i _ hh => Below.heap_setCell w p u i (by omega)⟩
theorem span_grown {lo hi : Nat} {w w' : World} {row : Option Nat} (hg : w.grownBy w' row) (hl : lo ≤ w.heap.size) (hr : ∀ k, row = some k → lo ≤ k ∧ k < hi) : Span lo hi w w' :=
  ⟨(Below.refl _ _).grown hg hl fun k hk => (hr k hk).1, fun i hi' hh => hg.block i hi' (fun e => by have := (hr i e.symm).2; omega)⟩
theorem Span.drew {lo hi : Nat} {a w : World} (h : Span lo hi a w) : Span lo hi a w.drew := ⟨h.below.drew, h.block⟩
theorem Span.own {lo hi B k n : Nat} {w w' : World} {e : TypeId} {v : Value} {xs : List Value} (hs : Span lo hi w w') (h : w.ownsRow B e k v n xs) (hb : hi ≤ B) : w'.ownsRow B e k v n xs :=
  ⟨h.1, h.2.imp id fun ⟨g, cap, cur, a, b, c, d⟩ => ⟨g, cap, cur, a, b, (hs.block g (lt_of_heap c) (Nat.le_trans hb b)).trans c, d⟩⟩
theorem OwnP.span {lo hi B : Nat} {w w' : World} {v : Value} {ps : List PA} (h : OwnP w B v ps) (hs : Span lo hi w w') (hb : hi ≤ B) : OwnP w' B v ps :=
  ⟨hs.own h.1 hb, fun p hp => hs.own (h.2 p hp) hb⟩
theorem OwnOps.span {lo hi B : Nat} {w w' : World} {v : Value} {l : List OpD} (h : OwnOps w B v l) (hs : Span lo hi w w') (hb : hi ≤ B) : OwnOps w' B v l := by
  obtain ⟨ps, e, h⟩ := h
  exact ⟨ps, e, h.span hs hb⟩

/-- Each block of cells stays one, of so many cells. -/
def Shape (w w' : World) : Prop := ∀ (i : Nat) (cs : Array Value) (e : TypeId) (fr : Nat × Nat), w.heap[i]? = some (.cells cs e fr) → ∃ cs' : Array Value, w'.heap[i]? = some (.cells cs' e fr) ∧ cs'.size = cs.size
theorem Shape.refl (w : World) : Shape w w := fun _ cs _ _ h => ⟨cs, h, rfl⟩
theorem Shape.trans {a b c : World} (h : Shape a b) (k : Shape b c) : Shape a c := fun i cs e fr hi => by
  obtain ⟨cs1, h1, s1⟩ := h i cs e fr hi
  obtain ⟨cs2, h2, s2⟩ := k i cs1 e fr h1
  exact ⟨cs2, h2, s2.trans s1⟩
theorem shape_below {w w' : World} (h : Below w.heap.size w w') : Shape w w' := fun i cs _ _ hi => ⟨cs, (h.block i (lt_of_heap hi)).trans hi, rfl⟩
theorem shape_set (w : World) (p : Addr) (u : Value) : Shape w (w.setCell p u) := fun i cs e fr hi => by
  by_cases h : i = p.block
  · subst h
    by_cases hsp : p.spot.isSome = true
    · exact ⟨cs, by simp [World.setCell, Array.getElem?_modify, hi, hsp], rfl⟩
    · exact ⟨cs.setIfInBounds p.off u, by simp [World.setCell, Array.getElem?_modify, hi, hsp], by simp⟩
  · exact ⟨cs, (Below.heap_setCell w p u i h).trans hi, rfl⟩
theorem shape_sets (b : Nat) (news : List Value) : ∀ (off : Nat) (w : World), Shape w (w.setCells b off news) := by
  induction news with
  | nil => intro off w; exact Shape.refl w
  | cons x r ih =>
    intro off w
    exact (shape_set w _ x).trans (ih _ _)
theorem shape_grown {w w' : World} (h : w.grownBy w' none) : Shape w w' := fun i cs _ _ hi => ⟨cs, (h.block i (lt_of_heap hi) (by simp)).trans hi, rfl⟩
theorem Shape.own {w w' : World} (hs : Shape w w') {B k n : Nat} {e : TypeId} {v : Value} {xs : List Value} (h : w.ownsRow B e k v n xs) : ∃ ys, w'.ownsRow B e k v n ys := by
  rcases h.2 with ⟨hv, h0⟩ | ⟨g, cap, cur, hv, hb, hg, h1, h2, h3, h4⟩
  · exact ⟨xs, h.1, .inl ⟨hv, h0⟩⟩
  · obtain ⟨cs', h', hs'⟩ := hs g cur e (0, 0) hg
    have hsz : cs'.size = cap * k := hs'.trans h3
    refine ⟨cs'.toList.take (n * k), ?_, .inr ⟨g, cap, cs', hv, hb, h', h1, h2, hsz, rfl⟩⟩
    rw [List.length_take, Array.length_toList, hsz]
    exact Nat.min_eq_left (Nat.mul_le_mul_right _ h1)

theorem run_append_shape {P : Program} (w : World) (base : Nat) (t ty e : TypeId) (i : TypeInfo) (z : Value) (size bytes : Nat) (ht : P.underlying t = some (.slice e)) (hi : P.info? e = some i) (hz : i.zero = some z)
    (hsize : i.size = size) (hby : i.bytes = bytes) (hzs : z.cells.size = size) (hsz : 0 < size)
    (v : Value) (n : Nat) (xs : List Value) (hown : w.ownsRow base e size v n xs)
    (a : Addr) (m c : Nat) (news : List Value) (hl : news.length = m * size) (hnews : ∀ j u, news[j]? = some u → w.cell? (a.add j) = some u) (h1 : ∀ u ∈ news, u.oneCell' = true)
    (h63 : n + m ≤ maxLen) (hbytes : (n + m) * bytes ≤ 140737488355328) (hbase : base ≤ w.heap.size) :
    ∃ v' w', (Builtin.append_ #[t, t] ty #[v, .slice (some a) m c]).run P w = .ok v' w' ∧ w'.ownsRow base e size v' (n + m) (xs ++ news) ∧ w.grownBy w' v.ownBlock ∧ Shape w w' := by
  obtain ⟨v', w', hrun, h2, h3, _⟩ := run_append_own (P := P) w base t ty e i z size bytes ht hi hz hsize hby hzs hsz v n xs hown a m c news hl hnews h1 h63 hbytes hbase
  refine ⟨v', w', hrun, h2, h3, ?_⟩
  rcases hown.2 with ⟨rfl, rfl⟩ | ⟨g, cap, cur, rfl, hb, hg, hn, hm, hc, ht2⟩
  · exact shape_grown h3
  · by_cases hroom : n + m ≤ cap
    · have hrr := run_append_room_cells (P := P) w t ty e i ht hi g 0 n cap a m c news (by rw [hsize]; exact hl) hnews h1 hroom
        (fun k hk => by
          have hk2 : n * i.size + k < cur.size := by
            rw [hc, hsize]
            have : n * size + m * size ≤ cap * size := by rw [← Nat.add_mul]; exact Nat.mul_le_mul_right _ hroom
            omega
          simp [World.cell?, hg, Array.getElem?_eq_getElem hk2])
        (fun k hk => by simp [World.frozen?, hg])
      rw [hrun] at hrr
      simp only [Result.ok.injEq] at hrr
      obtain ⟨_, rfl⟩ := hrr
      exact shape_sets _ _ _ _
    · obtain ⟨v2, w2, hrun2, k2, k3⟩ := run_append_arg_grows (P := P) w t ty e i z size bytes ht hi hz hsize hby hzs hsz ⟨g, 0, none⟩ n cap xs hown.1 (hown.cells (g := g) rfl) a m c news hl hnews (by omega) h63 hbytes
      rw [hrun] at hrun2
      simp only [Result.ok.injEq] at hrun2
      obtain ⟨rfl, rfl⟩ := hrun2
      exact shape_grown k3
theorem wpList_append_shape {P : Program} {ops : Array Oper} {rest : List Oper} {o : Oper} {a : Act} {w : World} {Q : Exit → Act → World → Prop}
    (hgd : o.guard = none) (s x : Operand) (t : TypeId) (hop : o.op = Op.call { callee := Callee.builtin Builtin.append, args := #[s, x], argTypes := #[t, t] })
    (e : TypeId) (i : TypeInfo) (z : Value) (size bytes : Nat) (h1 : P.underlying t = some (.slice e)) (h2 : P.info? e = some i) (h3 : i.zero = some z) (h4 : i.size = size) (h5 : i.bytes = bytes) (h6 : z.cells.size = size) (h7 : 0 < size)
    (base : Nat) (v : Value) (n : Nat) (xs : List Value) (hs : a.eval s = v) (hown : w.ownsRow base e size v n xs)
    (ad : Addr) (m c : Nat) (news : List Value) (hx : a.eval x = .slice (some ad) m c) (hn : news.length = m * size) (hc : ∀ j u, news[j]? = some u → w.cell? (ad.add j) = some u) (h1c : ∀ u ∈ news, u.oneCell' = true)
    (b1 : n + m ≤ maxLen) (b2 : (n + m) * bytes ≤ 140737488355328) (hbase : base ≤ w.heap.size)
    (h : ∀ v' w', w'.ownsRow base e size v' (n + m) (xs ++ news) → w.grownBy w' v.ownBlock → Shape w w' → wpList P ops Q rest (a.put o.dst v') w') : wpList P ops Q (o :: rest) a w := by
  refine wpList_plain hgd fun K hK => ?_
  obtain ⟨v', w', hr, r1, r2, r3⟩ := run_append_shape (P := P) w base t o.type e i z size bytes h1 h2 h3 h4 h5 h6 h7 v n xs hown ad m c news hn hc h1c b1 b2 hbase
  unfold Oper.wp execOp
  simp only [hop, resolve, invoke, builtin, Sem.run_bind, Sem.run_pure, Result.andThen_ok, List.map_toArray, List.map_cons, List.map_nil, hs, hx, hr]
  exact hK _ _ (h v' w' r1 r2 r3)

def SpoilOut2 (W : World) (v : Value) (n : Nat) (e : Ending) (w' : World) : Prop := e = .returned (.int .i64 ((n + 1 : Nat) : Int)) ∧ W.grownBy w' v.ownBlock ∧ Shape W w'
set_option maxHeartbeats 4000000 in
theorem spoil2_any (v : Value) (B n : Nat) (xs : List Value) (w : World) (h : w.ownsRow B 53 2 v n xs) (hn : n ≤ 1048576) (hB : B ≤ w.heap.size) :
    Calls Tryz.prog 52 #[v] w (SpoilOut2 w v n) := by
  have H := Lib.hid h
  obtain ⟨ao, cap, rfl⟩ := own_slice h
  have hn' : n ≤ 9223372036854775807 := by omega
  have h63 : n + 1 ≤ 1048577 := by omega
  have H63 := Lib.hid h63
  obtain ⟨i0, hi, hz0, hz1, hz2⟩ := info_parts infoAttr
  have Hi := Lib.hid (And.intro hi (And.intro hz0 (And.intro hz1 hz2)))
  clear h h63 hi hz0 hz1 hz2
  go_enter Tryz.func52, Tryz.ntmps52
  go_wp2_with fail
  go_loopw [3] (fun i wr => ∃ (k : Nat) (ys : List Value), i = .int .i64 (k : Int) ∧ k ≤ n ∧ wr.ownsRow B 53 2 (.slice ao n cap) n ys ∧ w.grownBy wr (Value.slice ao n cap).ownBlock ∧ Shape w wr) (fun i _ => n - (intOf i).toNat)
  case atStart => exact ⟨0, xs, rfl, Nat.zero_le _, H.out, grown_refl _ _, Shape.refl _⟩
  case round =>
    obtain ⟨k, ys, rfl, hk, hown, hg, hsh⟩ := hrel
    by_cases hlt : k < n
    · have hlt' : (k : Int) < (n : Int) := by omega
      obtain ⟨g, cap', he⟩ := ownsRow_open hown (by omega)
      simp only [Value.slice.injEq, true_and] at he
      obtain ⟨rfl, rfl⟩ := he
      obtain ⟨u1, c1⟩ := own_cell hown (j := k * 2) (by omega)
      obtain ⟨u2, c2⟩ := own_cell hown (j := k * 2 + 1) (by omega)
      have f1 : wr.frozen? ⟨g, k * 2, none⟩ = false := hown.frozenAt _
      have f2 : wr.frozen? ⟨g, k * 2 + 1, none⟩ = false := hown.frozenAt _
      obtain ⟨zs, hz⟩ := own_stored2 (j := k) hown (.string ⟨#[115, 112, 111, 105, 108, 116]⟩) (.string ⟨#[]⟩)
      have Hz := Lib.hid hz
      have Hg := Lib.hid (And.intro (only_setCell (only_setCell hg (p := ⟨g, k * 2, none⟩) rfl (.string ⟨#[115, 112, 111, 105, 108, 116]⟩)) (p := ⟨g, k * 2 + 1, none⟩) rfl (.string ⟨#[]⟩)) ((hsh.trans (shape_set _ ⟨g, k * 2, none⟩ (.string ⟨#[115, 112, 111, 105, 108, 116]⟩))).trans (shape_set _ ⟨g, k * 2 + 1, none⟩ (.string ⟨#[]⟩))))
      clear hown hg hz hsh
      go_wp2_with fail
      go_roundw
      case rel => exact ⟨k + 1, zs, by go_num, by omega, Hz.out, Hg.out.1, Hg.out.2⟩
      case measure => simp [intOf]; omega
    · have hkn : k = n := by omega
      subst hkn
      have Hown := Lib.hid hown
      have Hg := Lib.hid hg
      have Hs := Lib.hid hsh
      have hBw : B ≤ wr.heap.size := Nat.le_trans hB hg.size
      clear hown hg hk hlt hsh
      go_wp2_with (at_builtin; refine wpList_append_shape rfl (.tmp 14) (.tmp 16) 46 rfl 53 i0 (.agg #[.string ⟨#[]⟩, .string ⟨#[]⟩]) 2 32 Tryz.underlying46 Hi.out.1 Hi.out.2.1 Hi.out.2.2.1 Hi.out.2.2.2 rfl (by decide) B (.slice ao k cap) k ys rfl (Hown.out.alloc _) ⟨wr.heap.size, 0, none⟩ 1 1 [.string ⟨#[109, 111, 114, 101]⟩, .string ⟨#[]⟩] rfl rfl (new_at2 _ _ _ _) (fun u hu => by simp at hu; rcases hu with rfl | rfl <;> rfl) (by unfold maxLen; omega) (by omega) (by simp; omega) ?_; intro u2 w2 o2 g2 s2; obtain ⟨a2, c2, rfl⟩ := own_slice o2; have G2 := Lib.hid (And.intro (grown_trans (grown_trans Hg.out (World.grownBy_alloc _ _ _)) g2) ((Hs.out.trans (shape_below (below_box _ _))).trans s2)); clear o2 g2 s2)
      go_ret
      exact ⟨by simp, G2.out.1, G2.out.2⟩
end Go.Proofs.YtadookafnfnaoaaGreatDoor
