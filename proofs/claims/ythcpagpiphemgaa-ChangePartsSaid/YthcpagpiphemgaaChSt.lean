/- The program's normal on the way, in memory; its finish. -/
import Derived.Test.YthcpagpiphemgaaChBuild
import Derived.Test.YthcpagpiphemgaaChCopy
import Derived.Test.YthcpagpiphemgaaChSame
import Derived.StillTailTactics
namespace Go.Proofs.Ythcpagpiphemgaa
open Go.RowKit Ch

theorem run_append_new {P : Program} (w : World) (base : Nat) (t ty e : TypeId) (i : TypeInfo) (z : Value) (size bytes : Nat) (ht : P.underlying t = some (.slice e)) (hi : P.info? e = some i) (hz : i.zero = some z)
    (hsize : i.size = size) (hby : i.bytes = bytes) (hzs : z.cells.size = size) (hsz : 0 < size)
    (v : Value) (n : Nat) (xs : List Value) (hown : w.ownsRow base e size v n xs)
    (a : Addr) (m c : Nat) (news : List Value) (hl : news.length = m * size) (hnews : ∀ j u, news[j]? = some u → w.cell? (a.add j) = some u) (h1 : ∀ u ∈ news, u.oneCell' = true)
    (h63 : n + m ≤ maxLen) (hbytes : (n + m) * bytes ≤ 140737488355328) (hbase : base ≤ w.heap.size) :
    ∃ v' w', (Builtin.append_ #[t, t] ty #[v, .slice (some a) m c]).run P w = .ok v' w' ∧ w'.ownsRow base e size v' (n + m) (xs ++ news) ∧ w.grownBy w' v.ownBlock ∧
      ∀ j, j < w.heap.size → v.ownBlock ≠ some j → v'.ownBlock ≠ some j := by
  obtain ⟨v', w', hrun, h2, h3, _⟩ := run_append_own (P := P) w base t ty e i z size bytes ht hi hz hsize hby hzs hsz v n xs hown a m c news hl hnews h1 h63 hbytes hbase
  refine ⟨v', w', hrun, h2, h3, fun j hj hne => ?_⟩
  rcases hown.2 with ⟨rfl, rfl⟩ | ⟨g, cap, cur, rfl, hb, hg, hn, hm, hc, ht2⟩
  · have hx : xs = [] := List.length_eq_zero_iff.1 (by rw [hown.1]; simp)
    subst hx
    obtain ⟨v2, w2, hrun2, k2, k3, _⟩ := run_append_own (P := P) w w.heap.size t ty e i z size bytes ht hi hz hsize hby hzs hsz (.slice none 0 0) 0 [] (World.ownsRow_nil w _ e size) a m c news hl hnews h1 h63 hbytes (Nat.le_refl _)
    rw [hrun] at hrun2
    simp only [Result.ok.injEq] at hrun2
    obtain ⟨rfl, rfl⟩ := hrun2
    intro hv
    have := (k2.lt j hv).1
    omega
  · by_cases hroom : n + m ≤ cap
    · have hrr := run_append_room_cells (P := P) w t ty e i ht hi g 0 n cap a m c news (by rw [hsize]; exact hl) hnews h1 hroom
        (fun k hk => by
          have hk2 : n * i.size + k < cur.size := by
            rw [hc, hsize]
            have : n * size + m * size ≤ cap * size := by rw [← Nat.add_mul]; exact Nat.mul_le_mul_right _ hroom
            omega
          simp [World.cell?, hg, Array.getElem?_eq_getElem hk2])
        (fun k hk => by simp [World.frozen?, hg])
      rw [hrun] at hrr
      simp only [Result.ok.injEq] at hrr
      obtain ⟨rfl, _⟩ := hrr
      exact hne
    · obtain ⟨v2, w2, hrun2, k2, k3⟩ := run_append_arg_grows (P := P) w t ty e i z size bytes ht hi hz hsize hby hzs hsz ⟨g, 0, none⟩ n cap xs hown.1 (hown.cells (g := g) rfl) a m c news hl hnews (by omega) h63 hbytes
      rw [hrun] at hrun2
      simp only [Result.ok.injEq] at hrun2
      obtain ⟨rfl, rfl⟩ := hrun2
      intro hv
      have := (k2.lt j hv).1
      omega
/-- .. as a step of a region that draws. -/
theorem step_append_new {P : Program} {ops : Array Oper} {o : Oper} {a : Act} {w : World} {K : Act → World → Prop} {Q : Exit → Act → World → Prop} {E : Prop}
    (hg : o.guard = none) (s x : Operand) (t : TypeId) (hop : o.op = Op.call { callee := Callee.builtin Builtin.append, args := #[s, x], argTypes := #[t, t] })
    (e : TypeId) (i : TypeInfo) (z : Value) (size bytes : Nat) (h1 : P.underlying t = some (.slice e)) (h2 : P.info? e = some i) (h3 : i.zero = some z) (h4 : i.size = size) (h5 : i.bytes = bytes) (h6 : z.cells.size = size) (h7 : 0 < size)
    (base : Nat) (v : Value) (n : Nat) (xs : List Value) (hs : a.eval s = v) (hown : w.ownsRow base e size v n xs)
    (ad : Addr) (m c : Nat) (news : List Value) (hx : a.eval x = .slice (some ad) m c) (hn : news.length = m * size) (hc : ∀ j u, news[j]? = some u → w.cell? (ad.add j) = some u) (h1c : ∀ u ∈ news, u.oneCell' = true)
    (b1 : n + m ≤ maxLen) (b2 : (n + m) * bytes ≤ 140737488355328) (hbase : base ≤ w.heap.size)
    (hK : ∀ v' w', w'.ownsRow base e size v' (n + m) (xs ++ news) → w.grownBy w' v.ownBlock → (∀ j, j < w.heap.size → v.ownBlock ≠ some j → v'.ownBlock ≠ some j) → K (a.put o.dst v') w') :
    if Region.wanted o (yielded ops a.tmps) = true then Oper.wp P o a w K Q else E := by
  have hw : Region.wanted o (yielded ops a.tmps) = true := by simp [Region.wanted, hg]
  rw [if_pos hw]
  obtain ⟨v', w', hrun, r1, r2, r3⟩ := run_append_new (P := P) w base t o.type e i z size bytes h1 h2 h3 h4 h5 h6 h7 v n xs hown ad m c news hn hc h1c b1 b2 hbase
  unfold Oper.wp
  simp [execOp, hop, resolve, invoke, builtin, hs, hx, hrun, Result.andThen]
  exact hK v' w' r1 r2 r3

/-- .. and of a list. -/
theorem wpList_append_new {P : Program} {ops : Array Oper} {rest : List Oper} {o : Oper} {a : Act} {w : World} {Q : Exit → Act → World → Prop}
    (hgd : o.guard = none) (s x : Operand) (t : TypeId) (hop : o.op = Op.call { callee := Callee.builtin Builtin.append, args := #[s, x], argTypes := #[t, t] })
    (e : TypeId) (i : TypeInfo) (z : Value) (size bytes : Nat) (h1 : P.underlying t = some (.slice e)) (h2 : P.info? e = some i) (h3 : i.zero = some z) (h4 : i.size = size) (h5 : i.bytes = bytes) (h6 : z.cells.size = size) (h7 : 0 < size)
    (base : Nat) (v : Value) (n : Nat) (xs : List Value) (hs : a.eval s = v) (hown : w.ownsRow base e size v n xs)
    (ad : Addr) (m c : Nat) (news : List Value) (hx : a.eval x = .slice (some ad) m c) (hn : news.length = m * size) (hc : ∀ j u, news[j]? = some u → w.cell? (ad.add j) = some u) (h1c : ∀ u ∈ news, u.oneCell' = true)
    (b1 : n + m ≤ maxLen) (b2 : (n + m) * bytes ≤ 140737488355328) (hbase : base ≤ w.heap.size)
    (h : ∀ v' w', w'.ownsRow base e size v' (n + m) (xs ++ news) → w.grownBy w' v.ownBlock → (∀ j, j < w.heap.size → v.ownBlock ≠ some j → v'.ownBlock ≠ some j) → wpList P ops Q rest (a.put o.dst v') w') : wpList P ops Q (o :: rest) a w := by
  refine wpList_plain hgd fun K hK => ?_
  obtain ⟨v', w', hr, r1, r2, r3⟩ := run_append_new (P := P) w base t o.type e i z size bytes h1 h2 h3 h4 h5 h6 h7 v n xs hown ad m c news hn hc h1c b1 b2 hbase
  unfold Oper.wp execOp
  simp only [hop, resolve, invoke, builtin, Sem.run_bind, Sem.run_pure, Result.andThen_ok, List.map_toArray, List.map_cons, List.map_nil, hs, hx, hr]
  exact hK _ _ (h v' w' r1 r2 r3)

/-- The types of the blocks that normal's methods write into. -/
abbrev TS : List TypeId := [40, 60, 5]
/-- What a method keeps: all but blocks of those types; and of rows of operations all but the one that it is given. -/
structure KeepO (B : Nat) (w w' : World) (ov ov' : Value) : Prop where
  keep : Keep B TS w w'
  ops : ∀ (i : Nat) (cs : Array Value) (fr : Nat × Nat), w.heap[i]? = some (Obj.cells cs 40 fr) → ov.ownBlock ≠ some i → w'.heap[i]? = some (Obj.cells cs 40 fr) ∧ ov'.ownBlock ≠ some i
theorem KeepO.trans {B : Nat} {a b c : World} {u v x : Value} (h : KeepO B a b u v) (k : KeepO B b c v x) : KeepO B a c u x :=
  ⟨h.keep.trans k.keep, fun i cs fr hi hne => k.ops i cs fr (h.ops i cs fr hi hne).1 (h.ops i cs fr hi hne).2⟩
theorem keepO_of {B : Nat} {ts : List TypeId} {w w' : World} (h : Keep B ts w w') (hs : ∀ t, t ∈ ts → t ∈ TS) (ho : 40 ∉ ts) (v : Value) : KeepO B w w' v v :=
  ⟨h.more hs, fun i cs fr hi hne => ⟨h.kept i cs _ fr hi ho, hne⟩⟩
theorem keepO_below {B : Nat} {w w' : World} (h : Below w.heap.size w w') (hB : B ≤ w.heap.size) (v : Value) : KeepO B w w' v v :=
  keepO_of (ts := []) (keep_below h hB) (fun t ht => by cases ht) (by simp) v
theorem keepO_grown {B n : Nat} {w w' : World} {v v' : Value} {xs : List Value} (h : w.ownsRow B 40 4 v n xs) (hg : w.grownBy w' v.ownBlock) (hB : B ≤ w.heap.size) (hn : ∀ j, j < w.heap.size → v.ownBlock ≠ some j → v'.ownBlock ≠ some j) : KeepO B w w' v v' :=
  ⟨keep_row h hg (by simp) hB, fun i cs fr hi hne => ⟨(hg.block i (lt_of_heap hi) (fun e => hne e.symm)).trans hi, hn i (lt_of_heap hi) hne⟩⟩
theorem KeepO.base {B C : Nat} {w w' : World} {u v : Value} (h : KeepO B w w' u v) (hc : C ≤ B) : KeepO C w w' u v := ⟨h.keep.mono hc, h.ops⟩

def noText (o : OpD) : OpD := { o with text := ⟨#[]⟩ }
theorem noText_attrs (o : OpD) : (noText o).attrs = o.attrs := rfl
/-- On the way: the last operation's text lies in the builder. -/
def NSt (w : World) (B b : Nat) (ov : Value) (l : List OpD) (g : Int) : Prop :=
  ∃ (ps : List (OpD × Value)) (ad bv : Value) (bt : List UInt8), NBlk w b ov ad bv g ∧ Addrs b ad ∧ OwnP w B ov ps ∧ Holds8 w B bv bt ∧
    ((l = [] ∧ ps = [] ∧ bt = []) ∨ ∃ x r fr xv, l = x :: r ∧ ps = fr ++ [(noText x, xv)] ∧ fr.map (·.1) = r.reverse ∧ bt = x.text.data.toList)
/-- The last one has its text. -/
def FSt (w : World) (B b : Nat) (ov : Value) (l : List OpD) (g : Int) : Prop :=
  ∃ (ps : List (OpD × Value)) (ad bv : Value), NBlk w b ov ad bv g ∧ Addrs b ad ∧ OwnP w B ov ps ∧ Holds8 w B bv [] ∧ ps.map (·.1) = l.reverse
theorem NSt.lt {w : World} {B b : Nat} {ov : Value} {l : List OpD} {g : Int} (h : NSt w B b ov l g) : b < w.heap.size := by
  obtain ⟨_, _, _, _, h, _⟩ := h
  exact lt_of_heap h

/-- The last operation of a row of one's own. -/
theorem last_cells {w : World} {B gg cap : Nat} {fr : List (OpD × Value)} {p : OpD × Value} (h : w.ownsRow B 40 4 (.slice (some ⟨gg, 0, none⟩) (fr.length + 1) cap) (fr.length + 1) (flatO (fr ++ [p]))) :
    w.cell? ⟨gg, fr.length * 4, none⟩ = some (.int .i64 p.1.kind) ∧ w.cell? ⟨gg, fr.length * 4 + 1, none⟩ = some (.int .i64 p.1.n) ∧ w.cell? ⟨gg, fr.length * 4 + 2, none⟩ = some (.string p.1.text) ∧ w.cell? ⟨gg, fr.length * 4 + 3, none⟩ = some p.2 := by
  have e : ∀ j, j < 4 → w.cell? ⟨gg, fr.length * 4 + j, none⟩ = (opCells p)[j]? := fun j hj => by
    rw [h.cellAt _ (by omega), flatO_snoc, List.getElem?_append_right (by rw [flatO_len]; omega), flatO_len]
    congr 1
    omega
  exact ⟨e 0 (by omega), e 1 (by omega), e 2 (by omega), e 3 (by omega)⟩
theorem last_set {w : World} {B gg cap : Nat} {fr : List (OpD × Value)} {p q : OpD × Value} (h : w.ownsRow B 40 4 (.slice (some ⟨gg, 0, none⟩) (fr.length + 1) cap) (fr.length + 1) (flatO (fr ++ [p]))) (j : Nat) (u : Value) (hq : (opCells p).set j u = opCells q) :
    (w.setCell ⟨gg, fr.length * 4 + j, none⟩ u).ownsRow B 40 4 (.slice (some ⟨gg, 0, none⟩) (fr.length + 1) cap) (fr.length + 1) (flatO (fr ++ [q])) := by
  have := (h.stored (fr.length * 4 + j) u).1
  have e : (flatO (fr ++ [p])).set (fr.length * 4 + j) u = flatO (fr ++ [q]) := by
    rw [flatO_snoc, flatO_snoc, List.set_append_right _ _ (by rw [flatO_len]; omega), flatO_len, ← hq]
    congr 2
    omega
  rw [e] at this
  exact this
theorem OwnP.len {w : World} {B : Nat} {v : Value} {fr : List (OpD × Value)} {p : OpD × Value} (h : OwnP w B v (fr ++ [p])) : w.ownsRow B 40 4 v (fr.length + 1) (flatO (fr ++ [p])) := by
  have := h.1
  rwa [List.length_append, List.length_singleton] at this
theorem ownP_mk {w : World} {B : Nat} {v : Value} {fr : List (OpD × Value)} {p : OpD × Value} (h : w.ownsRow B 40 4 v (fr.length + 1) (flatO (fr ++ [p]))) (ha : ∀ q ∈ fr, w.ownsRow B 71 2 q.2 q.1.attrs.length (flat q.1.attrs)) (hp : w.ownsRow B 71 2 p.2 p.1.attrs.length (flat p.1.attrs)) : OwnP w B v (fr ++ [p]) := by
  refine ⟨by rw [List.length_append, List.length_singleton]; exact h, fun q hq => ?_⟩
  rcases List.mem_append.1 hq with hq | hq
  · exact ha q hq
  · rw [List.mem_singleton.1 hq]; exact hp
theorem own_heap {w : World} {B k gg n m cap : Nat} {e : TypeId} {xs : List Value} (h : w.ownsRow B e k (.slice (some ⟨gg, 0, none⟩) n cap) m xs) : B ≤ gg ∧ ∃ cs, w.heap[gg]? = some (.cells cs e (0, 0)) := by
  rcases h.2 with ⟨h', _⟩ | ⟨g', cap', cur, h', hb, hg, _⟩
  · simp at h'
  · simp only [Value.slice.injEq, Option.some.injEq, Addr.mk.injEq, and_true, true_and] at h'
    obtain ⟨rfl, _, _⟩ := h'
    exact ⟨hb, cur, hg⟩
/-- One field of the last operation, written. -/
theorem OwnP.setLast {w : World} {B gg cap : Nat} {fr : List (OpD × Value)} {x y : OpD} {xv : Value} (h : OwnP w B (.slice (some ⟨gg, 0, none⟩) (fr.length + 1) cap) (fr ++ [(x, xv)])) (j : Nat) (u : Value) (hq : (opCells (x, xv)).set j u = opCells (y, xv)) (ha : y.attrs = x.attrs) :
    OwnP (w.setCell ⟨gg, fr.length * 4 + j, none⟩ u) B (.slice (some ⟨gg, 0, none⟩) (fr.length + 1) cap) (fr ++ [(y, xv)]) ∧ KeepO B w (w.setCell ⟨gg, fr.length * 4 + j, none⟩ u) (.slice (some ⟨gg, 0, none⟩) (fr.length + 1) cap) (.slice (some ⟨gg, 0, none⟩) (fr.length + 1) cap) := by
  obtain ⟨hB, cs, hg⟩ := own_heap h.len
  have hk : Keep B [40] w (w.setCell ⟨gg, fr.length * 4 + j, none⟩ u) := keep_set hg (by simp) hB _ rfl u
  refine ⟨ownP_mk (last_set h.len j u hq) (fun q hq => hk.own (h.2 q (List.mem_append_left _ hq)) (by decide)) ?_, hk.more (by simp), fun i cs' fr' hi hne => ⟨?_, hne⟩⟩
  · have := hk.own (h.2 (x, xv) (by simp)) (by decide)
    show World.ownsRow _ _ _ _ xv y.attrs.length (flat y.attrs)
    rw [ha]
    exact this
  · rw [Below.heap_setCell _ _ _ _ (fun e => hne (by rw [e]; rfl))]
    exact hi
theorem set_other {w : World} {p q : Addr} {u v : Value} (h : p.block ≠ q.block) (hc : w.cell? q = some v) : (w.setCell p u).cell? q = some v :=
  (World.cell?_of_block (Below.heap_setCell w p u q.block fun e => h e.symm)).trans hc
def FinOut (w : World) (B b : Nat) (ov : Value) (l : List OpD) (g : Int) (e : Ending) (w' : World) : Prop := e = .returned (.tuple #[]) ∧ FSt w' B b ov l g ∧ KeepO B w w' ov ov

set_option maxHeartbeats 4000000 in
set_option maxRecDepth 100000 in
theorem finish_any (B b : Nat) (ov : Value) (l : List OpD) (g : Int) (w : World) (h : NSt w B b ov l g) (hB : B ≤ b) (hl : l.length ≤ 4096) :
    Calls Try.prog 53 #[.pointer (some ⟨b, 0, none⟩)] w (FinOut w B b ov l g) := by
  have hBw : B ≤ w.heap.size := Nat.le_trans hB (Nat.le_of_lt h.lt)
  obtain ⟨ps, ad, bv, bt, hN, hA, hP, hH, hcase⟩ := h
  obtain ⟨k0, k1, k2, k3, k4⟩ := hN.cells
  rcases hcase with ⟨rfl, rfl, rfl⟩ | ⟨x, r, fr, xv, rfl, rfl, hfr, rfl⟩
  · obtain ⟨a, c, rfl⟩ := own_slice hP.1
    have HF := Lib.hid (show FSt w B b (.slice a ([] : List (OpD × Value)).length c) [] g from ⟨[], ad, bv, hN, hA, hP, hH, rfl⟩)
    clear hN hP hH hA k1 k2 k3 k4
    go_enter Try.func53, Try.ntmps53
    go_wp2_with fail
    go_end0
    exact ⟨rfl, HF.out, keepO_below (Below.refl _ _) hBw _⟩
  · obtain ⟨gg, cap, hov⟩ := ownsRow_open hP.len (Nat.succ_pos _)
    subst hov
    have hm : fr.length ≤ 4096 := by
      have := congrArg List.length hfr
      simp at this hl
      omega
    obtain ⟨q0, q1, q2, q3⟩ := last_cells hP.len
    have f2 : w.frozen? ⟨gg, fr.length * 4 + 2, none⟩ = false := hP.len.frozenAt _
    have HN := Lib.hid hN
    have HP := Lib.hid hP
    have HH := Lib.hid hH
    have HFR := Lib.hid hfr
    clear hN hP hH hA k1 k2 k3 k4 q0 q1 q3 hfr hl
    have hneq : gg ≠ b := by
      obtain ⟨_, cs, hcs⟩ := own_heap HP.out.len
      exact block_ne hcs HN.out (by decide)
    have HNE := Lib.hid hneq
    have i1 : (0 : Int) ≤ (fr.length : Int) := by omega
    have i2 : (fr.length : Int) < (fr.length : Int) + 1 := by omega
    clear hneq
    go_enter Try.func53, Try.ntmps53
    go_wp2_with fail
    go_region_held3 (fun w' => w'.cell? ⟨b, 0, none⟩ = some (.slice (some ⟨gg, 0, none⟩) (fr.length + 1) cap))
      (first
        | exact k0
        | exact kA
        | exact set_other HNE.out kA)
      (first
        | (go_at_call 64; refine (builderString_any B b _ ad bv g x.text.data.toList _ (by exact HN.out) (by exact HH.out)).mono ?_; rintro e wA ⟨rfl, KA⟩; have NA := NBlk.keep (w := w.drew) HN.out KA (by decide); have kA := NA.cells.1; have PA := OwnP.keep (w := w.drew) HP.out KA (by decide) (by decide); have qA := (last_cells PA.len).2.2.1; have fA : wA.frozen? ⟨gg, fr.length * 4 + 2, none⟩ = false := PA.len.frozenAt _))
    obtain ⟨P2, K2⟩ := OwnP.setLast (y := x) PA 2 (.string ⟨x.text.data⟩) rfl rfl
    have N2 := NBlk.keep (w := wA) NA (keep_set (B := B) (ts := [40]) (own_heap PA.len).2.choose_spec (by simp) (own_heap PA.len).1 ⟨gg, fr.length * 4 + 2, none⟩ rfl (.string ⟨x.text.data⟩)) (by decide)
    have KK := Lib.hid ((keepO_of (B := B) (of_drewK KA) (by simp) (by decide) (.slice (some ⟨gg, 0, none⟩) (fr.length + 1) cap)).trans K2)
    have HP2 := Lib.hid P2
    have HN2 := Lib.hid N2
    clear P2 K2 N2 PA NA KA kA qA fA
    go_wp2_with fail
    refine (reset_any b _ ad bv g _ HN2.out).mono ?_
    rintro e w3 ⟨rfl, N3, g3⟩
    have K3 : Keep B [60] _ w3 := keep_grown g3 (by have := KK.out.keep.below.size; omega) fun k hk => by
      cases hk
      exact ⟨hB, _, _, _, HN2.out, by simp⟩
    have F3 : FSt w3 B b (.slice (some ⟨gg, 0, none⟩) (fr.length + 1) cap) (x :: r) g := ⟨_, _, _, N3, .inl rfl, HP2.out.keep K3 (by decide) (by decide), holds8_nil _ _, by rw [List.map_append, HFR.out, List.reverse_cons]; rfl⟩
    have KK3 := KK.out.trans (keepO_of K3 (by simp) (by decide) _)
    have HF3 := Lib.hid F3
    have HK3 := Lib.hid KK3
    clear N3 g3 K3 F3 KK3
    go_wp2_with fail
    go_end0
    exact ⟨rfl, HF3.out, HK3.out⟩
end Go.Proofs.Ythcpagpiphemgaa
