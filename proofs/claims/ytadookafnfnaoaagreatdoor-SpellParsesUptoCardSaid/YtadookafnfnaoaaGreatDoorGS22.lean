import Derived.Test.YtadookafnfnaoaaGreatDoorGS21
import Derived.BigRegion
/- The law's Lent: a changeset in memory of its own, with marks behind its operations and their attributes. -/
namespace Go.Proofs.YtadookafnfnaoaaGreatDoor
open Go.RowKit Ch At

def markO : OpD := ⟨99, 0, ⟨#[]⟩, []⟩
def LAtt (w : World) (B : Nat) (q : PA) : Prop :=
  ∃ g, q.2 = .slice (some ⟨g, 0, none⟩) q.1.attrs.length (q.1.attrs.length + 1) ∧ w.ownsRow B 53 2 (.slice (some ⟨g, 0, none⟩) (q.1.attrs.length + 1) (q.1.attrs.length + 1)) (q.1.attrs.length + 1) (flat (q.1.attrs ++ [mark]))
def LPw (ps : List PA) : Prop := ps.Pairwise fun x y => x.2.ownBlock ≠ y.2.ownBlock
structure LRow (w : World) (B gg gc : Nat) (ps : List PA) : Prop where
  row : w.ownsRow B 48 4 (.slice (some ⟨gg, 0, none⟩) (ps.length + 1) gc) (ps.length + 1) (flatO (ps ++ [(markO, .slice none 0 0)]))
  att : ∀ q ∈ ps, LAtt w B q
  pw : LPw ps
theorem LAtt.keep {w w' : World} {B C : Nat} {ts : List TypeId} {q : PA} (h : LAtt w B q) (hk : Keep C ts w w') (h1 : 53 ∉ ts) : LAtt w' B q := by
  obtain ⟨g, e, h⟩ := h
  exact ⟨g, e, hk.own h h1⟩
theorem LAtt.lt {w : World} {B : Nat} {q : PA} (h : LAtt w B q) : ∀ j, q.2.ownBlock = some j → B ≤ j ∧ j < w.heap.size := by
  obtain ⟨g, e, h⟩ := h
  intro j hj
  rw [e] at hj
  exact h.lt j hj
theorem LRow.keep {w w' : World} {B C gg gc : Nat} {ts : List TypeId} {ps : List PA} (h : LRow w B gg gc ps) (hk : Keep C ts w w') (h1 : 48 ∉ ts) (h2 : 53 ∉ ts) : LRow w' B gg gc ps :=
  ⟨hk.own h.row h1, fun q hq => (h.att q hq).keep hk h2, h.pw⟩
theorem LRow.below {w w' : World} {B gg gc : Nat} {ps : List PA} (h : LRow w B gg gc ps) (hb : Below w.heap.size w w') : LRow w' B gg gc ps := h.keep (keep_below (ts := []) hb (Nat.le_refl _)) (by simp) (by simp)
theorem LRow.cap {w : World} {B gg gc : Nat} {ps : List PA} (h : LRow w B gg gc ps) : ps.length + 1 ≤ gc ∧ gc ≤ maxLen := by
  rcases h.row.2 with ⟨h', _⟩ | ⟨g', cap', cur', h', _, _, hn2, hm, _⟩
  · simp at h'
  · simp only [Value.slice.injEq] at h'
    omega
/-- What is lent is a row of operations. -/
theorem LRow.ops {w : World} {B gg gc : Nat} {ps : List PA} (h : LRow w B gg gc ps) : OpRow w (.slice (some ⟨gg, 0, none⟩) ps.length gc) (ps.map (·.1)) := by
  have hl : (ps.map (·.1)).length = ps.length := by simp
  obtain ⟨_, cs, hcs⟩ := own_heap h.row
  have hc := h.cap
  refine ⟨_, gc, by rw [hl], by omega, hc.2, fun i hi => ?_⟩
  have hi' : i < ps.length := by omega
  obtain ⟨g, e, hr⟩ := h.att _ (List.getElem_mem hi')
  refine ⟨gg, 0, rfl, lt_of_heap hcs, ps[i].2, ?_, ?_, ?_⟩
  · rw [List.getElem_map, e]
    exact row_lent hr
  · intro n' c' he
    rw [e] at he
    simp at he
  · have e4 : ∀ j, j < 4 → w.cell? ⟨gg, 0 + i * 4 + j, none⟩ = (opCells ps[i])[j]? := fun j hj => by
      rw [Nat.zero_add, h.row.cellAt _ (by omega), flatO_at (ps := ps ++ [(markO, Value.slice none 0 0)]) (i := i) (by simp; omega) j hj, List.getElem_append_left hi']
    rw [List.getElem_map]
    exact ⟨e4 0 (by omega), e4 1 (by omega), e4 2 (by omega), e4 3 (by omega)⟩

/-- Operations few and short enough to be lent. -/
def LentOutC (w : World) (f : Int) (ops : List OpD) (e : Ending) (w' : World) : Prop :=
  ∃ gg gc ps, e = .returned (chAgg f (.slice (some ⟨gg, 0, none⟩) ops.length gc)) ∧ ps.map (·.1) = ops ∧ LRow w' w.heap.size gg gc ps ∧ Below w.heap.size w w'
/-- On the way. -/
structure LWay (w : World) (B ob : Nat) (f : Int) (cv : Value) (n : Nat) (oa : Option Addr) (oc : Nat) (ps : List PA) : Prop where
  out : w.heap[ob]? = some (.cells #[.int .i64 f, .slice oa ps.length oc] 24 (0, 0))
  c : w.heap[B]? = some (.cells #[.int .i64 f, cv] 24 (0, 0))
  res : w.heap[B + 1]? = some (.cells #[.int .i64 0, .slice none 0 0] 24 (0, 0))
  row : w.ownsRow B 48 4 (.slice oa ps.length oc) ps.length (flatO ps)
  att : ∀ q ∈ ps, LAtt w B q
  pw : LPw ps
theorem LWay.keep {w w' : World} {B C ob n : Nat} {f : Int} {cv : Value} {oa : Option Addr} {oc : Nat} {ps : List PA} {ts : List TypeId} (h : LWay w B ob f cv n oa oc ps) (hk : Keep C ts w w') (h1 : 48 ∉ ts) (h2 : 53 ∉ ts) (h3 : 24 ∉ ts) : LWay w' B ob f cv n oa oc ps :=
  ⟨hk.kept _ _ _ _ h.out h3, hk.kept _ _ _ _ h.c h3, hk.kept _ _ _ _ h.res h3, hk.own h.row h1, fun q hq => (h.att q hq).keep hk h2, h.pw⟩
theorem LWay.below {w w' : World} {B ob n : Nat} {f : Int} {cv : Value} {oa : Option Addr} {oc : Nat} {ps : List PA} (h : LWay w B ob f cv n oa oc ps) (hb : Below w.heap.size w w') : LWay w' B ob f cv n oa oc ps := h.keep (keep_below (ts := []) hb (Nat.le_refl _)) (by simp) (by simp) (by simp)
theorem lpw_snoc {ps : List PA} {q : PA} : LPw (ps ++ [q]) ↔ LPw ps ∧ ∀ x ∈ ps, x.2.ownBlock ≠ q.2.ownBlock := by
  unfold LPw
  rw [List.pairwise_append]
  simp

theorem own_set_other {w : World} {B k n : Nat} {e : TypeId} {v : Value} {xs : List Value} (h : w.ownsRow B e k v n xs) (p : Addr) (hne : v.ownBlock ≠ some p.block) (u : Value) : (w.setCell p u).ownsRow B e k v n xs :=
  ⟨h.1, h.2.imp id fun ⟨g, cap, cur, a, b, c, d⟩ => ⟨g, cap, cur, a, b, (Below.heap_setCell w p u g (fun e => hne (by rw [a, ← e]; rfl))).trans c, d⟩⟩
theorem lway_put {w w5 : World} {B ob n : Nat} {f : Int} {cv : Value} {oa oa' : Option Addr} {oc oc' : Nat} {ps : List PA} {o : OpD} {av : Value} (h : LWay w B ob f cv n oa oc ps) (hK : KeepO B w w5 (.slice oa ps.length oc) (.slice oa' (ps.length + 1) oc'))
    (h5 : w5.ownsRow B 48 4 (.slice oa' (ps.length + 1) oc') (ps.length + 1) (flatO ps ++ [.int .i64 o.kind, .int .i64 o.n, .string o.text, av])) (hq : LAtt w5 B (o, av)) (hne : ∀ x ∈ ps, x.2.ownBlock ≠ av.ownBlock) (hob : B + 2 ≤ ob) :
    LWay (w5.setCell ⟨ob, 1, none⟩ (.slice oa' (ps.length + 1) oc')) B ob f cv n oa' oc' (ps ++ [(o, av)]) ∧ Keep B [24] w5 (w5.setCell ⟨ob, 1, none⟩ (.slice oa' (ps.length + 1) oc')) := by
  have b1 := hK.keep.kept _ _ _ _ h.out (by decide)
  have c1 := hK.keep.kept _ _ _ _ h.c (by decide)
  have r1 := hK.keep.kept _ _ _ _ h.res (by decide)
  have kk : Keep B [24] w5 (w5.setCell ⟨ob, 1, none⟩ (.slice oa' (ps.length + 1) oc')) := keep_set b1 (by simp) (by omega) _ rfl _
  refine ⟨⟨?_, ?_, ?_, ?_, fun x hx => ?_, lpw_snoc.2 ⟨h.pw, hne⟩⟩, kk⟩
  · rw [List.length_append, List.length_singleton]; exact nblk_set b1
  · rw [Below.heap_setCell _ _ _ _ (show B ≠ ob by omega)]; exact c1
  · rw [Below.heap_setCell _ _ _ _ (show B + 1 ≠ ob by omega)]; exact r1
  · rw [List.length_append, List.length_singleton, flatO_snoc]; exact kk.own h5 (by decide)
  · rcases List.mem_append.1 hx with hx | hx
    · exact ((h.att x hx).keep hK.keep (by decide)).keep kk (by decide)
    · rw [List.mem_singleton.1 hx]; exact hq.keep kk (by decide)

set_option maxRecDepth 100000 in
set_option maxHeartbeats 8000000 in
theorem lentC_any (f : Int) (v : Value) (ops : List OpD) (w : World) (hv : OpRow w v ops) (hz : SmallO ops) :
    Calls Tryz.prog 11 #[chAgg f v] w (LentOutC w f ops) := by
  obtain ⟨aa, acap, rfl, v1, v2, v3⟩ := hv
  have V3 := Lib.hid v3
  have Hz := Lib.hid hz
  have hn : ops.length ≤ 1048576 := hz.1
  obtain ⟨W, hW⟩ : ∃ W, W = (w.alloc (.cells #[.int .i64 f, .slice aa ops.length acap] 24)).alloc (.cells #[.int .i64 0, .slice none 0 0] 24) := ⟨_, rfl⟩
  have BW := Lib.hid (show Below w.heap.size w W by rw [hW]; exact ((Below.refl _ _).alloc (Nat.le_refl _) _).alloc (by simp) _)
  have r0 : W.heap[w.heap.size + 1]? = some (.cells #[.int .i64 0, .slice none 0 0] 24 (0, 0)) := by
    rw [hW]
    have := heap_new (w.alloc (.cells #[.int .i64 f, .slice aa ops.length acap] 24)) (.cells #[.int .i64 0, .slice none 0 0] 24)
    simpa using this
  have b0 : W.heap[w.heap.size]? = some (.cells #[.int .i64 f, .slice aa ops.length acap] 24 (0, 0)) := by
    rw [hW, Below.heap_alloc _ _ _ (by simp)]
    exact heap_new _ _
  have c0 : W.cell? ⟨w.heap.size, 0, none⟩ = some (.int .i64 f) := (Lib.cell_of_heap b0 0).trans rfl
  have c1 : W.cell? ⟨w.heap.size, 1, none⟩ = some (.slice aa ops.length acap) := (Lib.cell_of_heap b0 1).trans rfl
  have HW := Lib.hid hW
  have HR0 := Lib.hid r0
  have HB0 := Lib.hid b0
  have hWs : w.heap.size + 2 = W.heap.size := by rw [hW]; simp
  obtain ⟨i0, hi, hz0, hz1, hz2⟩ := info_parts infoOp
  have Hi := Lib.hid (And.intro hi (And.intro hz0 (And.intro hz1 hz2)))
  obtain ⟨M, hM, hmk⟩ : ∃ M : Array Value, M.size = (ops.length + 1) * 4 ∧ ∀ X : World, (Instr.makeSlice 22 (.int .i64 0) (.int .i64 ((ops.length : Int) + 1))).run Tryz.prog X = .ok (.slice (some ⟨X.heap.size, 0, none⟩) 0 (ops.length + 1)) (X.alloc (.cells M 48)) := by
    refine ⟨madeCells (Value.agg #[.int .i64 0, .int .i64 0, .string ⟨#[]⟩, .slice none 0 0]).cells ((ops.length + 1) * 4), size_madeCells _ _, fun X => ?_⟩
    have := run_make (P := Tryz.prog) X 22 48 i0 (.agg #[.int .i64 0, .int .i64 0, .string ⟨#[]⟩, .slice none 0 0]) Tryz.underlying22 hi hz0 .i64 .i64 0 ((ops.length : Int) + 1) (Int.le_refl _) (by omega) (by rw [hz2]; omega) (by omega)
    rw [this, hz1]
    have e : ((ops.length : Int) + 1).toNat = ops.length + 1 := by omega
    rw [e]; rfl
  have HM := Lib.hid hM
  have MK : ∀ (X : World), w.heap.size ≤ X.heap.size → (X.alloc (.cells M 48)).ownsRow w.heap.size 48 4 (.slice (some ⟨X.heap.size, 0, none⟩) 0 (ops.length + 1)) 0 [] := fun X hX => World.ownsRow_made X M (ops.length + 1) hX (by unfold maxLen; omega) HM.out
  have HMK := Lib.hid MK
  have nn0 := World.new_ne W ⟨w.heap.size, 0, none⟩ c0
  have nn1 := World.new_ne W ⟨w.heap.size, 1, none⟩ c1
  have hW0 : w.heap.size < W.heap.size := by omega
  clear hz hW v1 v2 v3 r0 b0 hi hz0 hz1 hz2 hM MK
  go_enter Tryz.func11, Tryz.ntmps11
  go_wp2_with fail
  rw [← HW.out]
  go_wp2_with fail
  go_region
  · have BZ : Below W.heap.size W ((W.alloc (.cells M 48)).alloc (.cells #[.int .i64 f, .slice (some ⟨W.heap.size, 0, none⟩) 0 (ops.length + 1)] 24)).drew := (((Below.refl _ _).alloc (Nat.le_refl _) _).alloc (by simp) _).drew
    have hz0 : LWay ((W.alloc (.cells M 48)).alloc (.cells #[.int .i64 f, .slice (some ⟨W.heap.size, 0, none⟩) 0 (ops.length + 1)] 24)).drew w.heap.size (W.heap.size + 1) f (.slice aa ops.length acap) 0 (some ⟨W.heap.size, 0, none⟩) (ops.length + 1) [] := by
      refine ⟨?_, (BZ.block _ (by omega)).trans HB0.out, (BZ.block _ (by omega)).trans HR0.out, ?_, (fun q hq => by cases hq), List.Pairwise.nil⟩
      · have := heap_new (W.alloc (.cells M 48)) (.cells #[.int .i64 f, .slice (some ⟨W.heap.size, 0, none⟩) 0 (ops.length + 1)] 24); show ((W.alloc (.cells M 48)).alloc (.cells #[.int .i64 f, .slice (some ⟨W.heap.size, 0, none⟩) 0 (ops.length + 1)] 24)).heap[W.heap.size + 1]? = _; simpa using this
      · exact ((HMK.out W (by omega)).alloc _)
    have hob1 : w.heap.size + 2 ≤ W.heap.size + 1 := by omega
    have HBZ := Lib.hid (BW.out.trans (BZ.mono BW.out.size))
    obtain ⟨Z, hZ⟩ : ∃ Z, Z = ((W.alloc (.cells M 48)).alloc (.cells #[.int .i64 f, .slice (some ⟨W.heap.size, 0, none⟩) 0 (ops.length + 1)] 24)).drew := ⟨_, rfl⟩
    obtain ⟨ob, hob⟩ : ∃ ob, ob = W.heap.size + 1 := ⟨_, rfl⟩
    obtain ⟨oa0, hoa⟩ : ∃ oa0, oa0 = some (⟨W.heap.size, 0, none⟩ : Addr) := ⟨_, rfl⟩
    go_wp2_with fail
    rw [← hZ] at hz0 HBZ ⊢
    rw [← hoa] at hz0
    rw [← hob] at hz0 hob1 ⊢
    have HZ0 := Lib.hid hz0
    clear BZ hz0 hZ hob hoa c0 c1 nn0 nn1 hmk
    go_loopw [4] (fun i wr => ∃ (ps : List PA) (oa : Option Addr) (oc : Nat), i = .int .i64 (ps.length : Int) ∧ ps.length ≤ ops.length ∧ ps.map (·.1) = ops.take ps.length ∧ LWay wr w.heap.size ob f (.slice aa ops.length acap) 0 oa oc ps ∧ Below w.heap.size w wr) (fun i _ => ops.length - (intOf i).toNat)
    case atStart => exact ⟨[], oa0, ops.length + 1, rfl, Nat.zero_le _, rfl, HZ0.out, HBZ.out⟩
    case round =>
      obtain ⟨ps, oa, oc, rfl, hk, hps, hL, hB⟩ := hrel
      have s0 : wr.cell? ⟨w.heap.size, 0, none⟩ = some (.int .i64 f) := (Lib.cell_of_heap hL.c 0).trans rfl
      have s1 : wr.cell? ⟨w.heap.size, 1, none⟩ = some (.slice aa ops.length acap) := (Lib.cell_of_heap hL.c 1).trans rfl
      have s2 : wr.cell? ⟨ob, 1, none⟩ = some (.slice oa ps.length oc) := (Lib.cell_of_heap hL.out 1).trans rfl
      have hobl := lt_of_heap hL.out
      have hbw := lt_of_heap hL.c
      by_cases hlt : ps.length < ops.length
      · have hlt' : (ps.length : Int) < (ops.length : Int) := by omega
        obtain ⟨b, off, rfl, hbl, av, q0, qp, x0, x1, x2, x3⟩ := V3.out ps.length hlt
        obtain ⟨z1, z2⟩ := Hz.out.2 _ (List.getElem_mem hlt)
        have htk : ops.take (ps.length + 1) = ops.take ps.length ++ [ops[ps.length]] := List.take_succ_eq_append_getElem hlt
        obtain ⟨o, ho⟩ : ∃ o, o = ops[ps.length] := ⟨_, rfl⟩
        rw [← ho] at q0 x0 x1 x2 z1 z2 htk
        obtain ⟨ar, cr, rfl⟩ := q0.shape
        have y0 : wr.cell? ⟨b, off + ps.length * 4, none⟩ = some (.int .i64 o.kind) := (hB.cell (by exact hbl)).trans x0
        have y1 : wr.cell? ⟨b, off + ps.length * 4 + 1, none⟩ = some (.int .i64 o.n) := (hB.cell (by exact hbl)).trans x1
        have y2 : wr.cell? ⟨b, off + ps.length * 4 + 2, none⟩ = some (.string o.text) := (hB.cell (by exact hbl)).trans x2
        have y3 : wr.cell? ⟨b, off + ps.length * 4 + 3, none⟩ = some (.slice ar o.attrs.length cr) := (hB.cell (by exact hbl)).trans x3
        obtain ⟨X, hX⟩ : ∃ X, X = wr.alloc (.cells #[.int .i64 o.kind, .int .i64 o.n, .string o.text, .slice ar o.attrs.length cr] 48) := ⟨_, rfl⟩
        have BX : Below wr.heap.size wr X := by rw [hX]; exact below_box _ _
        have hbox : X.heap[wr.heap.size]? = some (.cells #[.int .i64 o.kind, .int .i64 o.n, .string o.text, .slice ar o.attrs.length cr] 48 (0, 0)) := by rw [hX]; exact heap_new _ _
        have d3 : X.cell? ⟨wr.heap.size, 3, none⟩ = some (.slice ar o.attrs.length cr) := (Lib.cell_of_heap hbox 3).trans rfl
        have hXs : wr.heap.size < X.heap.size := lt_of_heap hbox
        have HX := Lib.hid hX
        have HLX := Lib.hid (hL.below BX)
        have HBX := Lib.hid (hB.trans (BX.mono hB.size))
        have HBOX := Lib.hid hbox
        have HTK := Lib.hid htk
        have HPS := Lib.hid hps
        have HOLD := Lib.hid (fun q (hq : q ∈ ps) j (hj : q.2.ownBlock = some j) => ((hL.att q hq).lt j hj).2)
        have HOWN := Lib.hid (fun j (hj : (Value.slice oa ps.length oc).ownBlock = some j) => (hL.row.lt j hj).2)
        have HLN := Lib.hid (lent_any (.slice ar o.attrs.length cr) o.attrs X (q0.below (hB.trans (BX.mono hB.size))) qp (by have := z2.1; omega))
        clear q0 qp x0 x1 x2 x3 z1 z2 htk hps hL ho BX hX hbox s0
        go_wp2_with fail
        rw [← HX.out]
        go_wp2_with fail
        refine HLN.out.mono ?_
        rintro e w2 ⟨g, rfl, o2, b2⟩
        have hg := (o2.lt g rfl)
        have bx2 := (b2.block _ hXs).trans HBOX.out
        have g3 : w2.cell? ⟨wr.heap.size, 3, none⟩ = some (.slice ar o.attrs.length cr) := (Lib.cell_of_heap bx2 3).trans rfl
        have fz3 : w2.frozen? ⟨wr.heap.size, 3, none⟩ = false := Lib.frozen_of_heap bx2 3
        have hs2 := b2.size
        have kY : Keep w.heap.size [48] w2 (w2.setCell ⟨wr.heap.size, 3, none⟩ (.slice (some ⟨g, 0, none⟩) o.attrs.length (o.attrs.length + 1))) := keep_set bx2 (by simp) (by omega) _ rfl _
        have bY : (w2.setCell ⟨wr.heap.size, 3, none⟩ (.slice (some ⟨g, 0, none⟩) o.attrs.length (o.attrs.length + 1))).heap[wr.heap.size]? = some (.cells #[.int .i64 o.kind, .int .i64 o.n, .string o.text, .slice (some ⟨g, 0, none⟩) o.attrs.length (o.attrs.length + 1)] 48 (0, 0)) := nblk_set bx2
        have LY : LWay (w2.setCell ⟨wr.heap.size, 3, none⟩ (.slice (some ⟨g, 0, none⟩) o.attrs.length (o.attrs.length + 1))) w.heap.size ob f (.slice (some ⟨b, off, none⟩) ops.length acap) 0 oa oc ps := by
          have h2 := HLX.out.below b2
          exact ⟨kY.kept _ _ _ _ h2.out (by decide), kY.kept _ _ _ _ h2.c (by decide), kY.kept _ _ _ _ h2.res (by decide), own_set_other h2.row _ (fun hj => absurd (HOWN.out _ hj) (Nat.lt_irrefl _)) _, fun q hq => (h2.att q hq).keep kY (by decide), h2.pw⟩
        have LQ : LAtt (w2.setCell ⟨wr.heap.size, 3, none⟩ (.slice (some ⟨g, 0, none⟩) o.attrs.length (o.attrs.length + 1))) w.heap.size (o, .slice (some ⟨g, 0, none⟩) o.attrs.length (o.attrs.length + 1)) := ⟨g, rfl, kY.own (own_base o2 (by omega)) (by decide)⟩
        have hsY : X.heap.size ≤ (w2.setCell ⟨wr.heap.size, 3, none⟩ (.slice (some ⟨g, 0, none⟩) o.attrs.length (o.attrs.length + 1))).heap.size := by simpa [World.setCell] using hs2
        have m0 : w2.cell? ⟨wr.heap.size, 0, none⟩ = some (.int .i64 o.kind) := (Lib.cell_of_heap bx2 0).trans rfl
        have m1 : w2.cell? ⟨wr.heap.size, 1, none⟩ = some (.int .i64 o.n) := (Lib.cell_of_heap bx2 1).trans rfl
        have m2 : w2.cell? ⟨wr.heap.size, 2, none⟩ = some (.string o.text) := (Lib.cell_of_heap bx2 2).trans rfl
        have m4 : w2.cell? ⟨ob, 1, none⟩ = some (.slice oa ps.length oc) := (Lib.cell_of_heap (HLX.out.below b2).out 1).trans rfl
        have HLY := Lib.hid LY
        have HLQ := Lib.hid LQ
        have HBY := Lib.hid (HBX.out.trans ((b2.mono HBX.out.size).trans kY.below))
        have hBYs : w.heap.size ≤ (w2.setCell ⟨wr.heap.size, 3, none⟩ (.slice (some ⟨g, 0, none⟩) o.attrs.length (o.attrs.length + 1))).heap.size := by omega
        have hgX : X.heap.size ≤ g := hg.1
        clear o2 b2 bx2 kY bY LY LQ hg
        have HSZ := Lib.hid (show (w2.setCell ⟨wr.heap.size, 3, none⟩ (.slice (some ⟨g, 0, none⟩) o.attrs.length (o.attrs.length + 1))).heap.size = w2.heap.size by simp [World.setCell])
        have hA : ((w2.setCell ⟨wr.heap.size, 3, none⟩ (.slice (some ⟨g, 0, none⟩) o.attrs.length (o.attrs.length + 1))).alloc (.cells #[.int .i64 o.kind, .int .i64 o.n, .string o.text, .slice (some ⟨g, 0, none⟩) o.attrs.length (o.attrs.length + 1)] 48)).heap.size = (w2.setCell ⟨wr.heap.size, 3, none⟩ (.slice (some ⟨g, 0, none⟩) o.attrs.length (o.attrs.length + 1))).heap.size + 1 := by simp
        have HA := Lib.hid hA
        clear hA
        go_wp2_with (at_builtin; refine wpList_append_new rfl (.tmp 31) (.tmp 33) 22 rfl 48 i0 (.agg #[.int .i64 0, .int .i64 0, .string ⟨#[]⟩, .slice none 0 0]) 4 56 Tryz.underlying22 Hi.out.1 Hi.out.2.1 Hi.out.2.2.1 Hi.out.2.2.2 rfl (by decide) w.heap.size (.slice oa ps.length oc) ps.length (flatO ps) rfl (HLY.out.row.alloc _) ⟨w2.heap.size, 0, none⟩ 1 1 [.int .i64 o.kind, .int .i64 o.n, .string o.text, .slice (some ⟨g, 0, none⟩) o.attrs.length (o.attrs.length + 1)] rfl rfl (by have := new_at4 (w2.setCell ⟨wr.heap.size, 3, none⟩ (.slice (some ⟨g, 0, none⟩) o.attrs.length (o.attrs.length + 1))) (.int .i64 o.kind) (.int .i64 o.n) (.string o.text) (.slice (some ⟨g, 0, none⟩) o.attrs.length (o.attrs.length + 1)) 48; rw [HSZ.out] at this; exact this) (fun u hu => by simp at hu; rcases hu with rfl | rfl | rfl | rfl <;> rfl) (by unfold maxLen; omega) (by omega) (by have := HA.out; omega) ?_; intro v' w5 oC gC nC; obtain ⟨oa', oc', rfl⟩ := own_slice oC; have LA := HLY.out.below (below_box (w2.setCell ⟨wr.heap.size, 3, none⟩ (.slice (some ⟨g, 0, none⟩) o.attrs.length (o.attrs.length + 1))) (.cells #[.int .i64 o.kind, .int .i64 o.n, .string o.text, .slice (some ⟨g, 0, none⟩) o.attrs.length (o.attrs.length + 1)] 48)); have KC := keepO_grown LA.row gC (by have := HA.out; omega) nC; have e5 := KC.keep.kept _ _ _ _ LA.out (by decide); have e1 : w5.cell? ⟨ob, 1, none⟩ = some (.slice oa ps.length oc) := (Lib.cell_of_heap e5 1).trans rfl; have e2 : w5.frozen? ⟨ob, 1, none⟩ = false := Lib.frozen_of_heap e5 1; have NX := Lib.hid (lway_put LA KC oC ((HLQ.out.keep (keep_below (B := w.heap.size) (ts := []) (below_box (w2.setCell ⟨wr.heap.size, 3, none⟩ (.slice (some ⟨g, 0, none⟩) o.attrs.length (o.attrs.length + 1))) _) hBYs) (by simp)).keep KC.keep (by decide)) (fun x hx hh => by have := HOLD.out x hx g (hh.trans rfl); omega) hob1); have HB5 := Lib.hid ((HBY.out.trans ((below_box (w2.setCell ⟨wr.heap.size, 3, none⟩ (.slice (some ⟨g, 0, none⟩) o.attrs.length (o.attrs.length + 1))) _).mono HBY.out.size)).trans KC.keep.below); clear oC gC nC LA KC e5)
        go_roundw
        case rel => exact ⟨ps ++ [(o, .slice (some ⟨g, 0, none⟩) o.attrs.length (o.attrs.length + 1))], oa', oc', by rw [List.length_append, List.length_singleton]; go_num, by rw [List.length_append, List.length_singleton]; omega, by rw [List.map_append, List.length_append, List.length_singleton, HTK.out, HPS.out]; rfl, NX.out.1, HB5.out.trans NX.out.2.below⟩
        case measure => simp [intOf]; omega
      · have hkn : ps.length = ops.length := by omega
        rw [hkn, List.take_length] at hps
        have HPS := Lib.hid hps
        have hLw := hL
        have HBX := Lib.hid hB
        have hobN : ob < wr.heap.size := hobl
        have hcN : w.heap.size < wr.heap.size := hbw
        obtain ⟨N, hN⟩ : ∃ N, N = ops.length := ⟨_, rfl⟩
        have HN := Lib.hid hN
        rw [hkn] at s2
        clear hps hL hB hlt hk
        go_wp2_with fail
        have HKN := Lib.hid hkn
        have HLX' := Lib.hid hLw
        have S0 : wr.drew.cell? ⟨w.heap.size, 0, none⟩ = some (.int .i64 f) ∧ wr.drew.cell? ⟨w.heap.size, 1, none⟩ = some (.slice aa ops.length acap) ∧ wr.drew.cell? ⟨ob, 1, none⟩ = some (.slice oa ops.length oc) := ⟨s0, s1, s2⟩
        clear hkn hLw
        refine wp_region_B (fun w' => w'.cell? ⟨w.heap.size, 0, none⟩ = some (.int .i64 f) ∧ w'.cell? ⟨w.heap.size, 1, none⟩ = some (.slice aa ops.length acap) ∧ w'.cell? ⟨ob, 1, none⟩ = some (.slice oa ops.length oc)) [12] (by kernel_rfl) (?_ : wpAnyB _ _ _ _ _ _ 13 (Array.replicate 13 false) _ _)
        refine wpAnyB_free (fuel := 12) (i := 0) (v := ?_) rfl (by kernel_rfl) (by kernel_rfl) (by kernel_rfl) (by kernel_rfl) (fun _ _ _ h => h) (.inr S0) ?_ (by rfl) ?_
        rotate_left
        · intro w'; go_simp; (try with_reducible rfl)
        simp only [Act.put, List.getElem_toArray, List.getElem_cons_zero, List.setIfInBounds_toArray, List.set_cons_zero, List.set_cons_succ]
        refine wpAnyB_load [1,11,12] (fuel := 11) (i := 1) (v := ?_) rfl (by kernel_rfl) (by kernel_rfl) (by kernel_rfl) (by kernel_rfl) (by kernel_rfl) (fun _ _ _ h => h) (.inr S0) ?_ (by rfl) ?_
        rotate_left
        · intro w' hw'; obtain ⟨m0, m1, m2⟩ := hw'; go_simp; (try with_reducible rfl)
        simp only [Act.put, List.getElem_toArray, List.getElem_cons_zero, List.getElem_cons_succ, List.setIfInBounds_toArray, List.set_cons_zero, List.set_cons_succ]
        refine wpAnyB_free (fuel := 10) (i := 2) (v := ?_) rfl (by kernel_rfl) (by kernel_rfl) (by kernel_rfl) (by kernel_rfl) (fun _ _ _ h => h) (.inr S0) ?_ (by rfl) ?_
        rotate_left
        · intro w'; go_simp; (try with_reducible rfl)
        simp only [Act.put, List.getElem_toArray, List.getElem_cons_zero, List.getElem_cons_succ, List.setIfInBounds_toArray, List.set_cons_zero, List.set_cons_succ]
        refine wpAnyB_load [3,6,10,11,12] (fuel := 9) (i := 3) (v := ?_) rfl (by kernel_rfl) (by kernel_rfl) (by kernel_rfl) (by kernel_rfl) (by kernel_rfl) (fun _ _ _ h => h) (.inr S0) ?_ (by rfl) ?_
        rotate_left
        · intro w' hw'; obtain ⟨m0, m1, m2⟩ := hw'; go_simp; (try with_reducible rfl)
        simp only [Act.put, List.getElem_toArray, List.getElem_cons_zero, List.getElem_cons_succ, List.setIfInBounds_toArray, List.set_cons_zero, List.set_cons_succ]
        refine wpAnyB_free (fuel := 8) (i := 4) (v := ?_) rfl (by kernel_rfl) (by kernel_rfl) (by kernel_rfl) (by kernel_rfl) (fun _ _ _ h => h) (.inr S0) ?_ (by rfl) ?_
        rotate_left
        · intro w'; go_simp; (try with_reducible rfl)
        simp only [Act.put, List.getElem_toArray, List.getElem_cons_zero, List.getElem_cons_succ, List.setIfInBounds_toArray, List.set_cons_zero, List.set_cons_succ]
        refine wpAnyB_free (fuel := 7) (i := 7) (v := ?_) rfl (by kernel_rfl) (by kernel_rfl) (by kernel_rfl) (by kernel_rfl) (fun _ _ _ h => h) (.inr S0) ?_ (by rfl) ?_
        rotate_left
        · intro w'; go_simp; (try with_reducible rfl)
        simp only [Act.put, List.getElem_toArray, List.getElem_cons_zero, List.getElem_cons_succ, List.setIfInBounds_toArray, List.set_cons_zero, List.set_cons_succ]
        refine wpAnyB_load [8,9,10,11,12] (fuel := 6) (i := 8) (v := ?_) rfl (by kernel_rfl) (by kernel_rfl) (by kernel_rfl) (by kernel_rfl) (by kernel_rfl) (fun _ _ _ h => h) (.inr S0) ?_ (by rfl) ?_
        rotate_left
        · intro w' hw'; obtain ⟨m0, m1, m2⟩ := hw'; go_simp; (try with_reducible rfl)
        simp only [Act.put, List.getElem_toArray, List.getElem_cons_zero, List.getElem_cons_succ, List.setIfInBounds_toArray, List.set_cons_zero, List.set_cons_succ]
        refine wpAnyB_free (fuel := 5) (i := 9) (v := ?_) rfl (by kernel_rfl) (by kernel_rfl) (by kernel_rfl) (by kernel_rfl) (fun _ _ _ h => h) (.inr S0) ?_ (by rfl) ?_
        rotate_left
        · intro w'; go_simp; (try with_reducible rfl)
        simp only [Act.put, List.getElem_toArray, List.getElem_cons_zero, List.getElem_cons_succ, List.setIfInBounds_toArray, List.set_cons_zero, List.set_cons_succ]
        refine wpAnyB_one (fuel := 4) (i := 5) rfl (by kernel_rfl) ?_
        intro KB hKB
        go_simp
        have SB : (wr.drew.alloc (.cells #[.int .i64 99, .int .i64 0, .string ⟨#[]⟩, .slice none 0 0] 48)).cell? ⟨w.heap.size, 0, none⟩ = some (.int .i64 f) ∧ (wr.drew.alloc (.cells #[.int .i64 99, .int .i64 0, .string ⟨#[]⟩, .slice none 0 0] 48)).cell? ⟨w.heap.size, 1, none⟩ = some (.slice aa ops.length acap) ∧ (wr.drew.alloc (.cells #[.int .i64 99, .int .i64 0, .string ⟨#[]⟩, .slice none 0 0] 48)).cell? ⟨ob, 1, none⟩ = some (.slice oa ops.length oc) := ⟨((below_box wr.drew _).cell (by exact hcN)).trans s0, ((below_box wr.drew _).cell (by exact hcN)).trans s1, ((below_box wr.drew _).cell (by exact hobN)).trans s2⟩
        have HLA := Lib.hid ((show LWay wr.drew w.heap.size ob f (.slice aa ops.length acap) 0 oa oc ps from HLX'.out.below (Below.refl _ _).drew).below (below_box wr.drew (.cells #[.int .i64 99, .int .i64 0, .string ⟨#[]⟩, .slice none 0 0] 48)))
        refine hKB _ _ (.inr SB) ?_
        (try simp only [Act.put, List.getElem_toArray, List.getElem_cons_zero, List.getElem_cons_succ, List.setIfInBounds_toArray, List.set_cons_zero, List.set_cons_succ])
        refine wpAnyB_one (fuel := 3) (i := 6) rfl (by kernel_rfl) ?_
        intro KB hKB
        refine step_append_new rfl (.tmp 39) (.tmp 41) 22 rfl 48 i0 (.agg #[.int .i64 0, .int .i64 0, .string ⟨#[]⟩, .slice none 0 0]) 4 56 Tryz.underlying22 Hi.out.1 Hi.out.2.1 Hi.out.2.2.1 Hi.out.2.2.2 rfl (by decide) w.heap.size (.slice oa ops.length oc) ops.length (flatO ps) rfl (by have := HLA.out.row; rwa [HKN.out] at this) ⟨wr.heap.size, 0, none⟩ 1 1 (opCells (markO, .slice none 0 0)) rfl rfl (new_at4 _ _ _ _ _ _) (fun u hu => by simp [opCells, markO] at hu; rcases hu with rfl | rfl | rfl | rfl <;> rfl) (by unfold maxLen; omega) (by omega) (by simp; omega) ?_
        intro v' w5 oC gC nC
        obtain ⟨gg, gc, rfl⟩ := ownsRow_open oC (Nat.succ_pos _)
        have KC := keepO_grown (show (wr.drew.alloc (.cells #[.int .i64 99, .int .i64 0, .string ⟨#[]⟩, .slice none 0 0] 48)).ownsRow w.heap.size 48 4 (.slice oa ops.length oc) ops.length (flatO ps) by have := HLA.out.row; rwa [HKN.out] at this) gC (by simp; omega) nC
        have ec := KC.keep.kept _ _ _ _ HLA.out.c (by decide)
        have eo := KC.keep.kept _ _ _ _ HLA.out.out (by decide)
        have er := KC.keep.kept _ _ _ _ HLA.out.res (by decide)
        rw [HKN.out] at eo
        have SC : w5.cell? ⟨w.heap.size, 0, none⟩ = some (.int .i64 f) ∧ w5.cell? ⟨w.heap.size, 1, none⟩ = some (.slice aa ops.length acap) ∧ w5.cell? ⟨ob, 1, none⟩ = some (.slice oa ops.length oc) := ⟨(Lib.cell_of_heap ec 0).trans rfl, (Lib.cell_of_heap ec 1).trans rfl, (Lib.cell_of_heap eo 1).trans rfl⟩
        have t0 : w5.cell? ⟨w.heap.size + 1, 0, none⟩ = some (.int .i64 0) := (Lib.cell_of_heap er 0).trans rfl
        have t1 : w5.cell? ⟨w.heap.size + 1, 1, none⟩ = some (.slice none 0 0) := (Lib.cell_of_heap er 1).trans rfl
        have t2 : w5.frozen? ⟨w.heap.size + 1, 0, none⟩ = false := Lib.frozen_of_heap er 0
        have t3 : w5.frozen? ⟨w.heap.size + 1, 1, none⟩ = false := Lib.frozen_of_heap er 1
        have LR : LRow w5 w.heap.size gg gc ps := ⟨by rw [HKN.out, flatO_snoc]; exact oC, fun q hq => (HLA.out.att q hq).keep KC.keep (by decide), HLA.out.pw⟩
        have hsl := slice_ops gg (ops.length + 1) gc ops.length (by have := LR.cap; rw [HKN.out] at this; omega)
        have S1 : Keep w.heap.size [24] w5 (w5.setCell ⟨w.heap.size + 1, 0, none⟩ (.int .i64 f)) := keep_set er (by simp) (Nat.le_succ _) _ rfl _
        have rB := nblk_set (j := 0) (u := .int .i64 f) er
        have S2 : Keep w.heap.size [24] (w5.setCell ⟨w.heap.size + 1, 0, none⟩ (.int .i64 f)) ((w5.setCell ⟨w.heap.size + 1, 0, none⟩ (.int .i64 f)).setCell ⟨w.heap.size + 1, 1, none⟩ (.slice (some ⟨gg, 0, none⟩) ops.length gc)) := keep_set rB (by simp) (Nat.le_succ _) _ rfl _
        have rC := nblk_set (j := 1) (u := .slice (some ⟨gg, 0, none⟩) ops.length gc) rB
        have FIN : LentOutC w f ops (.returned (chAgg f (.slice (some ⟨gg, 0, none⟩) ops.length gc))) ((w5.setCell ⟨w.heap.size + 1, 0, none⟩ (.int .i64 f)).setCell ⟨w.heap.size + 1, 1, none⟩ (.slice (some ⟨gg, 0, none⟩) ops.length gc)) := ⟨gg, gc, ps, rfl, HPS.out, LR.keep (S1.trans S2) (by decide) (by decide), ((HBX.out.trans (((Below.refl _ wr).drew).mono HBX.out.size)).trans (((below_box wr.drew (.cells #[.int .i64 99, .int .i64 0, .string ⟨#[]⟩, .slice none 0 0] 48)).mono (show w.heap.size ≤ wr.drew.heap.size from HBX.out.size)).trans KC.keep.below)).trans (S1.trans S2).below⟩
        have HFIN := Lib.hid FIN
        have z0 := (Lib.cell_of_heap rC 0).trans rfl
        have z1 := (Lib.cell_of_heap rC 1).trans rfl
        clear oC gC nC KC ec eo er LR S1 S2 rB rC FIN
        refine hKB _ _ (.inr SC) ?_
        (try simp only [Act.put, List.getElem_toArray, List.getElem_cons_zero, List.getElem_cons_succ, List.setIfInBounds_toArray, List.set_cons_zero, List.set_cons_succ])
        refine wpAnyB_free (fuel := 2) (i := 10) (v := ?_) rfl (by kernel_rfl) (by kernel_rfl) (by kernel_rfl) (by kernel_rfl) (fun _ _ _ h => h) (.inr SC) ?_ (by rfl) ?_
        rotate_left
        · intro w'; go_simp; (try with_reducible rfl)
        simp only [Act.put, List.getElem_toArray, List.getElem_cons_zero, List.getElem_cons_succ, List.setIfInBounds_toArray, List.set_cons_zero, List.set_cons_succ]
        refine wpAnyB_free (fuel := 1) (i := 11) (v := ?_) rfl (by kernel_rfl) (by kernel_rfl) (by kernel_rfl) (by kernel_rfl) (fun _ _ _ h => h) (.inr SC) ?_ (by rfl) ?_
        rotate_left
        · intro w'; go_simp; (try with_reducible rfl)
        simp only [Act.put, List.getElem_toArray, List.getElem_cons_zero, List.getElem_cons_succ, List.setIfInBounds_toArray, List.set_cons_zero, List.set_cons_succ]
        refine wpAnyB_one (fuel := 0) (i := 12) rfl (by kernel_rfl) ?_
        intro KB hKB
        go_simp
        refine hKB _ _ (.inl (by kernel_rfl)) ?_
        (try simp only [Act.put, List.getElem_toArray, List.getElem_cons_zero, List.getElem_cons_succ, List.setIfInBounds_toArray, List.set_cons_zero, List.set_cons_succ])
        refine wpAnyB_done (by kernel_rfl) ?_
        go_wp2_with fail
        exact bodyPost_ret (v := chAgg f (.slice (some ⟨gg, 0, none⟩) ops.length gc)) (by simp [results, Tryz.results11, go_sem, z0, z1]) rfl HFIN.out
  · have BZ : Below W.heap.size W ((W.alloc (.cells #[.int .i64 f, .slice (some ⟨W.heap.size + 1, 0, none⟩) 0 (ops.length + 1)] 24)).alloc (.cells M 48)).drew := (((Below.refl _ _).alloc (Nat.le_refl _) _).alloc (by simp) _).drew
    have hz0 : LWay ((W.alloc (.cells #[.int .i64 f, .slice (some ⟨W.heap.size + 1, 0, none⟩) 0 (ops.length + 1)] 24)).alloc (.cells M 48)).drew w.heap.size (W.heap.size) f (.slice aa ops.length acap) 0 (some ⟨W.heap.size + 1, 0, none⟩) (ops.length + 1) [] := by
      refine ⟨?_, (BZ.block _ (by omega)).trans HB0.out, (BZ.block _ (by omega)).trans HR0.out, ?_, (fun q hq => by cases hq), List.Pairwise.nil⟩
      · show ((W.alloc (.cells #[.int .i64 f, .slice (some ⟨W.heap.size + 1, 0, none⟩) 0 (ops.length + 1)] 24)).alloc _).heap[W.heap.size]? = _; rw [Below.heap_alloc _ _ _ (by simp)]; exact heap_new _ _
      · have := HMK.out (W.alloc (.cells #[.int .i64 f, .slice (some ⟨W.heap.size + 1, 0, none⟩) 0 (ops.length + 1)] 24)) (by simp; omega); show ((W.alloc (.cells #[.int .i64 f, .slice (some ⟨W.heap.size + 1, 0, none⟩) 0 (ops.length + 1)] 24)).alloc (.cells M 48)).ownsRow _ _ _ _ _ []; simpa using this
    have hob1 : w.heap.size + 2 ≤ W.heap.size := by omega
    have HBZ := Lib.hid (BW.out.trans (BZ.mono BW.out.size))
    obtain ⟨Z, hZ⟩ : ∃ Z, Z = ((W.alloc (.cells #[.int .i64 f, .slice (some ⟨W.heap.size + 1, 0, none⟩) 0 (ops.length + 1)] 24)).alloc (.cells M 48)).drew := ⟨_, rfl⟩
    obtain ⟨ob, hob⟩ : ∃ ob, ob = W.heap.size := ⟨_, rfl⟩
    obtain ⟨oa0, hoa⟩ : ∃ oa0, oa0 = some (⟨W.heap.size + 1, 0, none⟩ : Addr) := ⟨_, rfl⟩
    go_wp2_with fail
    rw [← hZ] at hz0 HBZ ⊢
    rw [← hoa] at hz0
    rw [← hob] at hz0 hob1 ⊢
    have HZ0 := Lib.hid hz0
    clear BZ hz0 hZ hob hoa c0 c1 nn0 nn1 hmk
    go_loopw [4] (fun i wr => ∃ (ps : List PA) (oa : Option Addr) (oc : Nat), i = .int .i64 (ps.length : Int) ∧ ps.length ≤ ops.length ∧ ps.map (·.1) = ops.take ps.length ∧ LWay wr w.heap.size ob f (.slice aa ops.length acap) 0 oa oc ps ∧ Below w.heap.size w wr) (fun i _ => ops.length - (intOf i).toNat)
    case atStart => exact ⟨[], oa0, ops.length + 1, rfl, Nat.zero_le _, rfl, HZ0.out, HBZ.out⟩
    case round =>
      obtain ⟨ps, oa, oc, rfl, hk, hps, hL, hB⟩ := hrel
      have s0 : wr.cell? ⟨w.heap.size, 0, none⟩ = some (.int .i64 f) := (Lib.cell_of_heap hL.c 0).trans rfl
      have s1 : wr.cell? ⟨w.heap.size, 1, none⟩ = some (.slice aa ops.length acap) := (Lib.cell_of_heap hL.c 1).trans rfl
      have s2 : wr.cell? ⟨ob, 1, none⟩ = some (.slice oa ps.length oc) := (Lib.cell_of_heap hL.out 1).trans rfl
      have hobl := lt_of_heap hL.out
      have hbw := lt_of_heap hL.c
      by_cases hlt : ps.length < ops.length
      · have hlt' : (ps.length : Int) < (ops.length : Int) := by omega
        obtain ⟨b, off, rfl, hbl, av, q0, qp, x0, x1, x2, x3⟩ := V3.out ps.length hlt
        obtain ⟨z1, z2⟩ := Hz.out.2 _ (List.getElem_mem hlt)
        have htk : ops.take (ps.length + 1) = ops.take ps.length ++ [ops[ps.length]] := List.take_succ_eq_append_getElem hlt
        obtain ⟨o, ho⟩ : ∃ o, o = ops[ps.length] := ⟨_, rfl⟩
        rw [← ho] at q0 x0 x1 x2 z1 z2 htk
        obtain ⟨ar, cr, rfl⟩ := q0.shape
        have y0 : wr.cell? ⟨b, off + ps.length * 4, none⟩ = some (.int .i64 o.kind) := (hB.cell (by exact hbl)).trans x0
        have y1 : wr.cell? ⟨b, off + ps.length * 4 + 1, none⟩ = some (.int .i64 o.n) := (hB.cell (by exact hbl)).trans x1
        have y2 : wr.cell? ⟨b, off + ps.length * 4 + 2, none⟩ = some (.string o.text) := (hB.cell (by exact hbl)).trans x2
        have y3 : wr.cell? ⟨b, off + ps.length * 4 + 3, none⟩ = some (.slice ar o.attrs.length cr) := (hB.cell (by exact hbl)).trans x3
        obtain ⟨X, hX⟩ : ∃ X, X = wr.alloc (.cells #[.int .i64 o.kind, .int .i64 o.n, .string o.text, .slice ar o.attrs.length cr] 48) := ⟨_, rfl⟩
        have BX : Below wr.heap.size wr X := by rw [hX]; exact below_box _ _
        have hbox : X.heap[wr.heap.size]? = some (.cells #[.int .i64 o.kind, .int .i64 o.n, .string o.text, .slice ar o.attrs.length cr] 48 (0, 0)) := by rw [hX]; exact heap_new _ _
        have d3 : X.cell? ⟨wr.heap.size, 3, none⟩ = some (.slice ar o.attrs.length cr) := (Lib.cell_of_heap hbox 3).trans rfl
        have hXs : wr.heap.size < X.heap.size := lt_of_heap hbox
        have HX := Lib.hid hX
        have HLX := Lib.hid (hL.below BX)
        have HBX := Lib.hid (hB.trans (BX.mono hB.size))
        have HBOX := Lib.hid hbox
        have HTK := Lib.hid htk
        have HPS := Lib.hid hps
        have HOLD := Lib.hid (fun q (hq : q ∈ ps) j (hj : q.2.ownBlock = some j) => ((hL.att q hq).lt j hj).2)
        have HOWN := Lib.hid (fun j (hj : (Value.slice oa ps.length oc).ownBlock = some j) => (hL.row.lt j hj).2)
        have HLN := Lib.hid (lent_any (.slice ar o.attrs.length cr) o.attrs X (q0.below (hB.trans (BX.mono hB.size))) qp (by have := z2.1; omega))
        clear q0 qp x0 x1 x2 x3 z1 z2 htk hps hL ho BX hX hbox s0
        go_wp2_with fail
        rw [← HX.out]
        go_wp2_with fail
        refine HLN.out.mono ?_
        rintro e w2 ⟨g, rfl, o2, b2⟩
        have hg := (o2.lt g rfl)
        have bx2 := (b2.block _ hXs).trans HBOX.out
        have g3 : w2.cell? ⟨wr.heap.size, 3, none⟩ = some (.slice ar o.attrs.length cr) := (Lib.cell_of_heap bx2 3).trans rfl
        have fz3 : w2.frozen? ⟨wr.heap.size, 3, none⟩ = false := Lib.frozen_of_heap bx2 3
        have hs2 := b2.size
        have kY : Keep w.heap.size [48] w2 (w2.setCell ⟨wr.heap.size, 3, none⟩ (.slice (some ⟨g, 0, none⟩) o.attrs.length (o.attrs.length + 1))) := keep_set bx2 (by simp) (by omega) _ rfl _
        have bY : (w2.setCell ⟨wr.heap.size, 3, none⟩ (.slice (some ⟨g, 0, none⟩) o.attrs.length (o.attrs.length + 1))).heap[wr.heap.size]? = some (.cells #[.int .i64 o.kind, .int .i64 o.n, .string o.text, .slice (some ⟨g, 0, none⟩) o.attrs.length (o.attrs.length + 1)] 48 (0, 0)) := nblk_set bx2
        have LY : LWay (w2.setCell ⟨wr.heap.size, 3, none⟩ (.slice (some ⟨g, 0, none⟩) o.attrs.length (o.attrs.length + 1))) w.heap.size ob f (.slice (some ⟨b, off, none⟩) ops.length acap) 0 oa oc ps := by
          have h2 := HLX.out.below b2
          exact ⟨kY.kept _ _ _ _ h2.out (by decide), kY.kept _ _ _ _ h2.c (by decide), kY.kept _ _ _ _ h2.res (by decide), own_set_other h2.row _ (fun hj => absurd (HOWN.out _ hj) (Nat.lt_irrefl _)) _, fun q hq => (h2.att q hq).keep kY (by decide), h2.pw⟩
        have LQ : LAtt (w2.setCell ⟨wr.heap.size, 3, none⟩ (.slice (some ⟨g, 0, none⟩) o.attrs.length (o.attrs.length + 1))) w.heap.size (o, .slice (some ⟨g, 0, none⟩) o.attrs.length (o.attrs.length + 1)) := ⟨g, rfl, kY.own (own_base o2 (by omega)) (by decide)⟩
        have hsY : X.heap.size ≤ (w2.setCell ⟨wr.heap.size, 3, none⟩ (.slice (some ⟨g, 0, none⟩) o.attrs.length (o.attrs.length + 1))).heap.size := by simpa [World.setCell] using hs2
        have m0 : w2.cell? ⟨wr.heap.size, 0, none⟩ = some (.int .i64 o.kind) := (Lib.cell_of_heap bx2 0).trans rfl
        have m1 : w2.cell? ⟨wr.heap.size, 1, none⟩ = some (.int .i64 o.n) := (Lib.cell_of_heap bx2 1).trans rfl
        have m2 : w2.cell? ⟨wr.heap.size, 2, none⟩ = some (.string o.text) := (Lib.cell_of_heap bx2 2).trans rfl
        have m4 : w2.cell? ⟨ob, 1, none⟩ = some (.slice oa ps.length oc) := (Lib.cell_of_heap (HLX.out.below b2).out 1).trans rfl
        have HLY := Lib.hid LY
        have HLQ := Lib.hid LQ
        have HBY := Lib.hid (HBX.out.trans ((b2.mono HBX.out.size).trans kY.below))
        have hBYs : w.heap.size ≤ (w2.setCell ⟨wr.heap.size, 3, none⟩ (.slice (some ⟨g, 0, none⟩) o.attrs.length (o.attrs.length + 1))).heap.size := by omega
        have hgX : X.heap.size ≤ g := hg.1
        clear o2 b2 bx2 kY bY LY LQ hg
        have HSZ := Lib.hid (show (w2.setCell ⟨wr.heap.size, 3, none⟩ (.slice (some ⟨g, 0, none⟩) o.attrs.length (o.attrs.length + 1))).heap.size = w2.heap.size by simp [World.setCell])
        have hA : ((w2.setCell ⟨wr.heap.size, 3, none⟩ (.slice (some ⟨g, 0, none⟩) o.attrs.length (o.attrs.length + 1))).alloc (.cells #[.int .i64 o.kind, .int .i64 o.n, .string o.text, .slice (some ⟨g, 0, none⟩) o.attrs.length (o.attrs.length + 1)] 48)).heap.size = (w2.setCell ⟨wr.heap.size, 3, none⟩ (.slice (some ⟨g, 0, none⟩) o.attrs.length (o.attrs.length + 1))).heap.size + 1 := by simp
        have HA := Lib.hid hA
        clear hA
        go_wp2_with (at_builtin; refine wpList_append_new rfl (.tmp 31) (.tmp 33) 22 rfl 48 i0 (.agg #[.int .i64 0, .int .i64 0, .string ⟨#[]⟩, .slice none 0 0]) 4 56 Tryz.underlying22 Hi.out.1 Hi.out.2.1 Hi.out.2.2.1 Hi.out.2.2.2 rfl (by decide) w.heap.size (.slice oa ps.length oc) ps.length (flatO ps) rfl (HLY.out.row.alloc _) ⟨w2.heap.size, 0, none⟩ 1 1 [.int .i64 o.kind, .int .i64 o.n, .string o.text, .slice (some ⟨g, 0, none⟩) o.attrs.length (o.attrs.length + 1)] rfl rfl (by have := new_at4 (w2.setCell ⟨wr.heap.size, 3, none⟩ (.slice (some ⟨g, 0, none⟩) o.attrs.length (o.attrs.length + 1))) (.int .i64 o.kind) (.int .i64 o.n) (.string o.text) (.slice (some ⟨g, 0, none⟩) o.attrs.length (o.attrs.length + 1)) 48; rw [HSZ.out] at this; exact this) (fun u hu => by simp at hu; rcases hu with rfl | rfl | rfl | rfl <;> rfl) (by unfold maxLen; omega) (by omega) (by have := HA.out; omega) ?_; intro v' w5 oC gC nC; obtain ⟨oa', oc', rfl⟩ := own_slice oC; have LA := HLY.out.below (below_box (w2.setCell ⟨wr.heap.size, 3, none⟩ (.slice (some ⟨g, 0, none⟩) o.attrs.length (o.attrs.length + 1))) (.cells #[.int .i64 o.kind, .int .i64 o.n, .string o.text, .slice (some ⟨g, 0, none⟩) o.attrs.length (o.attrs.length + 1)] 48)); have KC := keepO_grown LA.row gC (by have := HA.out; omega) nC; have e5 := KC.keep.kept _ _ _ _ LA.out (by decide); have e1 : w5.cell? ⟨ob, 1, none⟩ = some (.slice oa ps.length oc) := (Lib.cell_of_heap e5 1).trans rfl; have e2 : w5.frozen? ⟨ob, 1, none⟩ = false := Lib.frozen_of_heap e5 1; have NX := Lib.hid (lway_put LA KC oC ((HLQ.out.keep (keep_below (B := w.heap.size) (ts := []) (below_box (w2.setCell ⟨wr.heap.size, 3, none⟩ (.slice (some ⟨g, 0, none⟩) o.attrs.length (o.attrs.length + 1))) _) hBYs) (by simp)).keep KC.keep (by decide)) (fun x hx hh => by have := HOLD.out x hx g (hh.trans rfl); omega) hob1); have HB5 := Lib.hid ((HBY.out.trans ((below_box (w2.setCell ⟨wr.heap.size, 3, none⟩ (.slice (some ⟨g, 0, none⟩) o.attrs.length (o.attrs.length + 1))) _).mono HBY.out.size)).trans KC.keep.below); clear oC gC nC LA KC e5)
        go_roundw
        case rel => exact ⟨ps ++ [(o, .slice (some ⟨g, 0, none⟩) o.attrs.length (o.attrs.length + 1))], oa', oc', by rw [List.length_append, List.length_singleton]; go_num, by rw [List.length_append, List.length_singleton]; omega, by rw [List.map_append, List.length_append, List.length_singleton, HTK.out, HPS.out]; rfl, NX.out.1, HB5.out.trans NX.out.2.below⟩
        case measure => simp [intOf]; omega
      · have hkn : ps.length = ops.length := by omega
        rw [hkn, List.take_length] at hps
        have HPS := Lib.hid hps
        have hLw := hL
        have HBX := Lib.hid hB
        have hobN : ob < wr.heap.size := hobl
        have hcN : w.heap.size < wr.heap.size := hbw
        obtain ⟨N, hN⟩ : ∃ N, N = ops.length := ⟨_, rfl⟩
        have HN := Lib.hid hN
        rw [hkn] at s2
        clear hps hL hB hlt hk
        go_wp2_with fail
        have HKN := Lib.hid hkn
        have HLX' := Lib.hid hLw
        have S0 : wr.drew.cell? ⟨w.heap.size, 0, none⟩ = some (.int .i64 f) ∧ wr.drew.cell? ⟨w.heap.size, 1, none⟩ = some (.slice aa ops.length acap) ∧ wr.drew.cell? ⟨ob, 1, none⟩ = some (.slice oa ops.length oc) := ⟨s0, s1, s2⟩
        clear hkn hLw
        refine wp_region_B (fun w' => w'.cell? ⟨w.heap.size, 0, none⟩ = some (.int .i64 f) ∧ w'.cell? ⟨w.heap.size, 1, none⟩ = some (.slice aa ops.length acap) ∧ w'.cell? ⟨ob, 1, none⟩ = some (.slice oa ops.length oc)) [12] (by kernel_rfl) (?_ : wpAnyB _ _ _ _ _ _ 13 (Array.replicate 13 false) _ _)
        refine wpAnyB_free (fuel := 12) (i := 0) (v := ?_) rfl (by kernel_rfl) (by kernel_rfl) (by kernel_rfl) (by kernel_rfl) (fun _ _ _ h => h) (.inr S0) ?_ (by rfl) ?_
        rotate_left
        · intro w'; go_simp; (try with_reducible rfl)
        simp only [Act.put, List.getElem_toArray, List.getElem_cons_zero, List.setIfInBounds_toArray, List.set_cons_zero, List.set_cons_succ]
        refine wpAnyB_load [1,11,12] (fuel := 11) (i := 1) (v := ?_) rfl (by kernel_rfl) (by kernel_rfl) (by kernel_rfl) (by kernel_rfl) (by kernel_rfl) (fun _ _ _ h => h) (.inr S0) ?_ (by rfl) ?_
        rotate_left
        · intro w' hw'; obtain ⟨m0, m1, m2⟩ := hw'; go_simp; (try with_reducible rfl)
        simp only [Act.put, List.getElem_toArray, List.getElem_cons_zero, List.getElem_cons_succ, List.setIfInBounds_toArray, List.set_cons_zero, List.set_cons_succ]
        refine wpAnyB_free (fuel := 10) (i := 2) (v := ?_) rfl (by kernel_rfl) (by kernel_rfl) (by kernel_rfl) (by kernel_rfl) (fun _ _ _ h => h) (.inr S0) ?_ (by rfl) ?_
        rotate_left
        · intro w'; go_simp; (try with_reducible rfl)
        simp only [Act.put, List.getElem_toArray, List.getElem_cons_zero, List.getElem_cons_succ, List.setIfInBounds_toArray, List.set_cons_zero, List.set_cons_succ]
        refine wpAnyB_load [3,6,10,11,12] (fuel := 9) (i := 3) (v := ?_) rfl (by kernel_rfl) (by kernel_rfl) (by kernel_rfl) (by kernel_rfl) (by kernel_rfl) (fun _ _ _ h => h) (.inr S0) ?_ (by rfl) ?_
        rotate_left
        · intro w' hw'; obtain ⟨m0, m1, m2⟩ := hw'; go_simp; (try with_reducible rfl)
        simp only [Act.put, List.getElem_toArray, List.getElem_cons_zero, List.getElem_cons_succ, List.setIfInBounds_toArray, List.set_cons_zero, List.set_cons_succ]
        refine wpAnyB_free (fuel := 8) (i := 4) (v := ?_) rfl (by kernel_rfl) (by kernel_rfl) (by kernel_rfl) (by kernel_rfl) (fun _ _ _ h => h) (.inr S0) ?_ (by rfl) ?_
        rotate_left
        · intro w'; go_simp; (try with_reducible rfl)
        simp only [Act.put, List.getElem_toArray, List.getElem_cons_zero, List.getElem_cons_succ, List.setIfInBounds_toArray, List.set_cons_zero, List.set_cons_succ]
        refine wpAnyB_free (fuel := 7) (i := 7) (v := ?_) rfl (by kernel_rfl) (by kernel_rfl) (by kernel_rfl) (by kernel_rfl) (fun _ _ _ h => h) (.inr S0) ?_ (by rfl) ?_
        rotate_left
        · intro w'; go_simp; (try with_reducible rfl)
        simp only [Act.put, List.getElem_toArray, List.getElem_cons_zero, List.getElem_cons_succ, List.setIfInBounds_toArray, List.set_cons_zero, List.set_cons_succ]
        refine wpAnyB_load [8,9,10,11,12] (fuel := 6) (i := 8) (v := ?_) rfl (by kernel_rfl) (by kernel_rfl) (by kernel_rfl) (by kernel_rfl) (by kernel_rfl) (fun _ _ _ h => h) (.inr S0) ?_ (by rfl) ?_
        rotate_left
        · intro w' hw'; obtain ⟨m0, m1, m2⟩ := hw'; go_simp; (try with_reducible rfl)
        simp only [Act.put, List.getElem_toArray, List.getElem_cons_zero, List.getElem_cons_succ, List.setIfInBounds_toArray, List.set_cons_zero, List.set_cons_succ]
        refine wpAnyB_free (fuel := 5) (i := 9) (v := ?_) rfl (by kernel_rfl) (by kernel_rfl) (by kernel_rfl) (by kernel_rfl) (fun _ _ _ h => h) (.inr S0) ?_ (by rfl) ?_
        rotate_left
        · intro w'; go_simp; (try with_reducible rfl)
        simp only [Act.put, List.getElem_toArray, List.getElem_cons_zero, List.getElem_cons_succ, List.setIfInBounds_toArray, List.set_cons_zero, List.set_cons_succ]
        refine wpAnyB_one (fuel := 4) (i := 5) rfl (by kernel_rfl) ?_
        intro KB hKB
        go_simp
        have SB : (wr.drew.alloc (.cells #[.int .i64 99, .int .i64 0, .string ⟨#[]⟩, .slice none 0 0] 48)).cell? ⟨w.heap.size, 0, none⟩ = some (.int .i64 f) ∧ (wr.drew.alloc (.cells #[.int .i64 99, .int .i64 0, .string ⟨#[]⟩, .slice none 0 0] 48)).cell? ⟨w.heap.size, 1, none⟩ = some (.slice aa ops.length acap) ∧ (wr.drew.alloc (.cells #[.int .i64 99, .int .i64 0, .string ⟨#[]⟩, .slice none 0 0] 48)).cell? ⟨ob, 1, none⟩ = some (.slice oa ops.length oc) := ⟨((below_box wr.drew _).cell (by exact hcN)).trans s0, ((below_box wr.drew _).cell (by exact hcN)).trans s1, ((below_box wr.drew _).cell (by exact hobN)).trans s2⟩
        have HLA := Lib.hid ((show LWay wr.drew w.heap.size ob f (.slice aa ops.length acap) 0 oa oc ps from HLX'.out.below (Below.refl _ _).drew).below (below_box wr.drew (.cells #[.int .i64 99, .int .i64 0, .string ⟨#[]⟩, .slice none 0 0] 48)))
        refine hKB _ _ (.inr SB) ?_
        (try simp only [Act.put, List.getElem_toArray, List.getElem_cons_zero, List.getElem_cons_succ, List.setIfInBounds_toArray, List.set_cons_zero, List.set_cons_succ])
        refine wpAnyB_one (fuel := 3) (i := 6) rfl (by kernel_rfl) ?_
        intro KB hKB
        refine step_append_new rfl (.tmp 39) (.tmp 41) 22 rfl 48 i0 (.agg #[.int .i64 0, .int .i64 0, .string ⟨#[]⟩, .slice none 0 0]) 4 56 Tryz.underlying22 Hi.out.1 Hi.out.2.1 Hi.out.2.2.1 Hi.out.2.2.2 rfl (by decide) w.heap.size (.slice oa ops.length oc) ops.length (flatO ps) rfl (by have := HLA.out.row; rwa [HKN.out] at this) ⟨wr.heap.size, 0, none⟩ 1 1 (opCells (markO, .slice none 0 0)) rfl rfl (new_at4 _ _ _ _ _ _) (fun u hu => by simp [opCells, markO] at hu; rcases hu with rfl | rfl | rfl | rfl <;> rfl) (by unfold maxLen; omega) (by omega) (by simp; omega) ?_
        intro v' w5 oC gC nC
        obtain ⟨gg, gc, rfl⟩ := ownsRow_open oC (Nat.succ_pos _)
        have KC := keepO_grown (show (wr.drew.alloc (.cells #[.int .i64 99, .int .i64 0, .string ⟨#[]⟩, .slice none 0 0] 48)).ownsRow w.heap.size 48 4 (.slice oa ops.length oc) ops.length (flatO ps) by have := HLA.out.row; rwa [HKN.out] at this) gC (by simp; omega) nC
        have ec := KC.keep.kept _ _ _ _ HLA.out.c (by decide)
        have eo := KC.keep.kept _ _ _ _ HLA.out.out (by decide)
        have er := KC.keep.kept _ _ _ _ HLA.out.res (by decide)
        rw [HKN.out] at eo
        have SC : w5.cell? ⟨w.heap.size, 0, none⟩ = some (.int .i64 f) ∧ w5.cell? ⟨w.heap.size, 1, none⟩ = some (.slice aa ops.length acap) ∧ w5.cell? ⟨ob, 1, none⟩ = some (.slice oa ops.length oc) := ⟨(Lib.cell_of_heap ec 0).trans rfl, (Lib.cell_of_heap ec 1).trans rfl, (Lib.cell_of_heap eo 1).trans rfl⟩
        have t0 : w5.cell? ⟨w.heap.size + 1, 0, none⟩ = some (.int .i64 0) := (Lib.cell_of_heap er 0).trans rfl
        have t1 : w5.cell? ⟨w.heap.size + 1, 1, none⟩ = some (.slice none 0 0) := (Lib.cell_of_heap er 1).trans rfl
        have t2 : w5.frozen? ⟨w.heap.size + 1, 0, none⟩ = false := Lib.frozen_of_heap er 0
        have t3 : w5.frozen? ⟨w.heap.size + 1, 1, none⟩ = false := Lib.frozen_of_heap er 1
        have LR : LRow w5 w.heap.size gg gc ps := ⟨by rw [HKN.out, flatO_snoc]; exact oC, fun q hq => (HLA.out.att q hq).keep KC.keep (by decide), HLA.out.pw⟩
        have hsl := slice_ops gg (ops.length + 1) gc ops.length (by have := LR.cap; rw [HKN.out] at this; omega)
        have S1 : Keep w.heap.size [24] w5 (w5.setCell ⟨w.heap.size + 1, 0, none⟩ (.int .i64 f)) := keep_set er (by simp) (Nat.le_succ _) _ rfl _
        have rB := nblk_set (j := 0) (u := .int .i64 f) er
        have S2 : Keep w.heap.size [24] (w5.setCell ⟨w.heap.size + 1, 0, none⟩ (.int .i64 f)) ((w5.setCell ⟨w.heap.size + 1, 0, none⟩ (.int .i64 f)).setCell ⟨w.heap.size + 1, 1, none⟩ (.slice (some ⟨gg, 0, none⟩) ops.length gc)) := keep_set rB (by simp) (Nat.le_succ _) _ rfl _
        have rC := nblk_set (j := 1) (u := .slice (some ⟨gg, 0, none⟩) ops.length gc) rB
        have FIN : LentOutC w f ops (.returned (chAgg f (.slice (some ⟨gg, 0, none⟩) ops.length gc))) ((w5.setCell ⟨w.heap.size + 1, 0, none⟩ (.int .i64 f)).setCell ⟨w.heap.size + 1, 1, none⟩ (.slice (some ⟨gg, 0, none⟩) ops.length gc)) := ⟨gg, gc, ps, rfl, HPS.out, LR.keep (S1.trans S2) (by decide) (by decide), ((HBX.out.trans (((Below.refl _ wr).drew).mono HBX.out.size)).trans (((below_box wr.drew (.cells #[.int .i64 99, .int .i64 0, .string ⟨#[]⟩, .slice none 0 0] 48)).mono (show w.heap.size ≤ wr.drew.heap.size from HBX.out.size)).trans KC.keep.below)).trans (S1.trans S2).below⟩
        have HFIN := Lib.hid FIN
        have z0 := (Lib.cell_of_heap rC 0).trans rfl
        have z1 := (Lib.cell_of_heap rC 1).trans rfl
        clear oC gC nC KC ec eo er LR S1 S2 rB rC FIN
        refine hKB _ _ (.inr SC) ?_
        (try simp only [Act.put, List.getElem_toArray, List.getElem_cons_zero, List.getElem_cons_succ, List.setIfInBounds_toArray, List.set_cons_zero, List.set_cons_succ])
        refine wpAnyB_free (fuel := 2) (i := 10) (v := ?_) rfl (by kernel_rfl) (by kernel_rfl) (by kernel_rfl) (by kernel_rfl) (fun _ _ _ h => h) (.inr SC) ?_ (by rfl) ?_
        rotate_left
        · intro w'; go_simp; (try with_reducible rfl)
        simp only [Act.put, List.getElem_toArray, List.getElem_cons_zero, List.getElem_cons_succ, List.setIfInBounds_toArray, List.set_cons_zero, List.set_cons_succ]
        refine wpAnyB_free (fuel := 1) (i := 11) (v := ?_) rfl (by kernel_rfl) (by kernel_rfl) (by kernel_rfl) (by kernel_rfl) (fun _ _ _ h => h) (.inr SC) ?_ (by rfl) ?_
        rotate_left
        · intro w'; go_simp; (try with_reducible rfl)
        simp only [Act.put, List.getElem_toArray, List.getElem_cons_zero, List.getElem_cons_succ, List.setIfInBounds_toArray, List.set_cons_zero, List.set_cons_succ]
        refine wpAnyB_one (fuel := 0) (i := 12) rfl (by kernel_rfl) ?_
        intro KB hKB
        go_simp
        refine hKB _ _ (.inl (by kernel_rfl)) ?_
        (try simp only [Act.put, List.getElem_toArray, List.getElem_cons_zero, List.getElem_cons_succ, List.setIfInBounds_toArray, List.set_cons_zero, List.set_cons_succ])
        refine wpAnyB_done (by kernel_rfl) ?_
        go_wp2_with fail
        exact bodyPost_ret (v := chAgg f (.slice (some ⟨gg, 0, none⟩) ops.length gc)) (by simp [results, Tryz.results11, go_sem, z0, z1]) rfl HFIN.out
end Go.Proofs.YtadookafnfnaoaaGreatDoor
