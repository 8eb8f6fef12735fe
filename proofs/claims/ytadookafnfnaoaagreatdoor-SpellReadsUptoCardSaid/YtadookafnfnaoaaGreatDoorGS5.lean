import Derived.Test.YtadookafnfnaoaaGreatDoorGS4
import Derived.StillTailTactics
import Derived.Test.YtadookafnfnaoaaGreatDoorProg
import Derived.Deep.RegionHeld3
/- The program's normal on the way, in memory; its finish. -/
namespace Go.Proofs.YtadookafnfnaoaaGreatDoor
open Go.RowKit Ch

theorem run_append_new {P : Program} (w : World) (base : Nat) (t ty e : TypeId) (i : TypeInfo) (z : Value) (size bytes : Nat) (ht : P.underlying t = some (.slice e)) (hi : P.info? e = some i) (hz : i.zero = some z)
    (hsize : i.size = size) (hby : i.bytes = bytes) (hzs : z.cells.size = size) (hsz : 0 < size)
    (v : Value) (n : Nat) (xs : List Value) (hown : w.ownsRow base e size v n xs)
    (a : Addr) (m c : Nat) (news : List Value) (hl : news.length = m * size) (hnews : ∀ j u, news[j]? = some u → w.cell? (a.add j) = some u) (h1 : ∀ u ∈ news, u.oneCell' = true)
    (h63 : n + m ≤ maxLen) (hbytes : (n + m) * bytes ≤ 140737488355328) (hbase : base ≤ w.heap.size) :
    ∃ v' w', (Builtin.append_ #[t, t] ty #[v, .slice (some a) m c]).run P w = .ok v' w' ∧ w'.ownsRow base e size v' (n + m) (xs ++ news) ∧ w.grownBy w' v.ownBlock ∧
      ∀ j, j < w.heap.size → v.ownBlock ≠ some j → v'.ownBlock ≠ some j := by
  obtain ⟨v', w', hrun, h2, h3, _⟩ := run_append_own (P := P) w base t ty e i z size bytes ht hi hz hsize hby hzs hsz v n xs hown a m c news hl hnews h1 h63 hbytes hbase
  refine ⟨v', w', hrun, h2, h3, fun j hj hne => ?_⟩
  rcases hown.2 with ⟨rfl, rfl⟩ | ⟨g, cap, cur, rfl, hb, hg, hn, hm, hc, ht2⟩
  · have hx : xs = [] := List.length_eq_zero_iff.1 (by rw [hown.1]; simp)
    subst hx
    obtain ⟨v2, w2, hrun2, k2, k3, _⟩ := run_append_own (P := P) w w.heap.size t ty e i z size bytes ht hi hz hsize hby hzs hsz (.slice none 0 0) 0 [] (World.ownsRow_nil w _ e size) a m c news hl hnews h1 h63 hbytes (Nat.le_refl _)
    rw [hrun] at hrun2
    simp only [Result.ok.injEq] at hrun2
    obtain ⟨rfl, rfl⟩ := hrun2
    intro hv
    have := (k2.lt j hv).1
    omega
  · by_cases hroom : n + m ≤ cap
    · have hrr := run_append_room_cells (P := P) w t ty e i ht hi g 0 n cap a m c news (by rw [hsize]; exact hl) hnews h1 hroom
        (fun k hk => by
          have hk2 : n * i.size + k < cur.size := by
            rw [hc, hsize]
            have : n * size + m * size ≤ cap * size := by rw [← Nat.add_mul]; exact Nat.mul_le_mul_right _ hroom
            omega
          simp [World.cell?, hg, Array.getElem?_eq_getElem hk2])
        (fun k hk => by simp [World.frozen?, hg])
      rw [hrun] at hrr
      simp only [Result.ok.injEq] at hrr
      obtain ⟨rfl, _⟩ := hrr
      exact hne
    · obtain ⟨v2, w2, hrun2, k2, k3⟩ := run_append_arg_grows (P := P) w t ty e i z size bytes ht hi hz hsize hby hzs hsz ⟨g, 0, none⟩ n cap xs hown.1 (hown.cells (g := g) rfl) a m c news hl hnews (by omega) h63 hbytes
      rw [hrun] at hrun2
      simp only [Result.ok.injEq] at hrun2
      obtain ⟨rfl, rfl⟩ := hrun2
      intro hv
      have := (k2.lt j hv).1
      omega
/-- .. as a step of a region that draws. -/
theorem step_append_new {P : Program} {ops : Array Oper} {o : Oper} {a : Act} {w : World} {K : Act → World → Prop} {Q : Exit → Act → World → Prop} {E : Prop}
    (hg : o.guard = none) (s x : Operand) (t : TypeId) (hop : o.op = Op.call { callee := Callee.builtin Builtin.append, args := #[s, x], argTypes := #[t, t] })
    (e : TypeId) (i : TypeInfo) (z : Value) (size bytes : Nat) (h1 : P.underlying t = some (.slice e)) (h2 : P.info? e = some i) (h3 : i.zero = some z) (h4 : i.size = size) (h5 : i.bytes = bytes) (h6 : z.cells.size = size) (h7 : 0 < size)
    (base : Nat) (v : Value) (n : Nat) (xs : List Value) (hs : a.eval s = v) (hown : w.ownsRow base e size v n xs)
    (ad : Addr) (m c : Nat) (news : List Value) (hx : a.eval x = .slice (some ad) m c) (hn : news.length = m * size) (hc : ∀ j u, news[j]? = some u → w.cell? (ad.add j) = some u) (h1c : ∀ u ∈ news, u.oneCell' = true)
    (b1 : n + m ≤ maxLen) (b2 : (n + m) * bytes ≤ 140737488355328) (hbase : base ≤ w.heap.size)
    (hK : ∀ v' w', w'.ownsRow base e size v' (n + m) (xs ++ news) → w.grownBy w' v.ownBlock → (∀ j, j < w.heap.size → v.ownBlock ≠ some j → v'.ownBlock ≠ some j) → K (a.put o.dst v') w') :
    if Region.wanted o (yielded ops a.tmps) = true then Oper.wp P o a w K Q else E := by
  have hw : Region.wanted o (yielded ops a.tmps) = true := by simp [Region.wanted, hg]
  rw [if_pos hw]
  obtain ⟨v', w', hrun, r1, r2, r3⟩ := run_append_new (P := P) w base t o.type e i z size bytes h1 h2 h3 h4 h5 h6 h7 v n xs hown ad m c news hn hc h1c b1 b2 hbase
  unfold Oper.wp
  simp [execOp, hop, resolve, invoke, builtin, hs, hx, hrun, Result.andThen]
  exact hK v' w' r1 r2 r3

/-- .. and of a list. -/
theorem wpList_append_new {P : Program} {ops : Array Oper} {rest : List Oper} {o : Oper} {a : Act} {w : World} {Q : Exit → Act → World → Prop}
    (hgd : o.guard = none) (s x : Operand) (t : TypeId) (hop : o.op = Op.call { callee := Callee.builtin Builtin.append, args := #[s, x], argTypes := #[t, t] })
    (e : TypeId) (i : TypeInfo) (z : Value) (size bytes : Nat) (h1 : P.underlying t = some (.slice e)) (h2 : P.info? e = some i) (h3 : i.zero = some z) (h4 : i.size = size) (h5 : i.bytes = bytes) (h6 : z.cells.size = size) (h7 : 0 < size)
    (base : Nat) (v : Value) (n : Nat) (xs : List Value) (hs : a.eval s = v) (hown : w.ownsRow base e size v n xs)
    (ad : Addr) (m c : Nat) (news : List Value) (hx : a.eval x = .slice (some ad) m c) (hn : news.length = m * size) (hc : ∀ j u, news[j]? = some u → w.cell? (ad.add j) = some u) (h1c : ∀ u ∈ news, u.oneCell' = true)
    (b1 : n + m ≤ maxLen) (b2 : (n + m) * bytes ≤ 140737488355328) (hbase : base ≤ w.heap.size)
    (h : ∀ v' w', w'.ownsRow base e size v' (n + m) (xs ++ news) → w.grownBy w' v.ownBlock → (∀ j, j < w.heap.size → v.ownBlock ≠ some j → v'.ownBlock ≠ some j) → wpList P ops Q rest (a.put o.dst v') w') : wpList P ops Q (o :: rest) a w := by
  refine wpList_plain hgd fun K hK => ?_
  obtain ⟨v', w', hr, r1, r2, r3⟩ := run_append_new (P := P) w base t o.type e i z size bytes h1 h2 h3 h4 h5 h6 h7 v n xs hown ad m c news hn hc h1c b1 b2 hbase
  unfold Oper.wp execOp
  simp only [hop, resolve, invoke, builtin, Sem.run_bind, Sem.run_pure, Result.andThen_ok, List.map_toArray, List.map_cons, List.map_nil, hs, hx, hr]
  exact hK _ _ (h v' w' r1 r2 r3)

/-- The types of the blocks that normal's methods write into. -/
abbrev TS : List TypeId := [48, 90, 5]
/-- What a method keeps: all but blocks of those types; and of rows of operations all but the one that it is given. -/
structure KeepO (B : Nat) (w w' : World) (ov ov' : Value) : Prop where
  keep : Keep B TS w w'
  ops : ∀ (i : Nat) (cs : Array Value) (fr : Nat × Nat), w.heap[i]? = some (Obj.cells cs 48 fr) → ov.ownBlock ≠ some i → w'.heap[i]? = some (Obj.cells cs 48 fr) ∧ ov'.ownBlock ≠ some i
theorem KeepO.trans {B : Nat} {a b c : World} {u v x : Value} (h : KeepO B a b u v) (k : KeepO B b c v x) : KeepO B a c u x :=
  ⟨h.keep.trans k.keep, fun i cs fr hi hne => k.ops i cs fr (h.ops i cs fr hi hne).1 (h.ops i cs fr hi hne).2⟩
theorem keepO_of {B : Nat} {ts : List TypeId} {w w' : World} (h : Keep B ts w w') (hs : ∀ t, t ∈ ts → t ∈ TS) (ho : 48 ∉ ts) (v : Value) : KeepO B w w' v v :=
  ⟨h.more hs, fun i cs fr hi hne => ⟨h.kept i cs _ fr hi ho, hne⟩⟩
theorem keepO_below {B : Nat} {w w' : World} (h : Below w.heap.size w w') (hB : B ≤ w.heap.size) (v : Value) : KeepO B w w' v v :=
  keepO_of (ts := []) (keep_below h hB) (fun t ht => by cases ht) (by simp) v
theorem keepO_grown {B n : Nat} {w w' : World} {v v' : Value} {xs : List Value} (h : w.ownsRow B 48 4 v n xs) (hg : w.grownBy w' v.ownBlock) (hB : B ≤ w.heap.size) (hn : ∀ j, j < w.heap.size → v.ownBlock ≠ some j → v'.ownBlock ≠ some j) : KeepO B w w' v v' :=
  ⟨keep_row h hg (by simp) hB, fun i cs fr hi hne => ⟨(hg.block i (lt_of_heap hi) (fun e => hne e.symm)).trans hi, hn i (lt_of_heap hi) hne⟩⟩
theorem KeepO.base {B C : Nat} {w w' : World} {u v : Value} (h : KeepO B w w' u v) (hc : C ≤ B) : KeepO C w w' u v := ⟨h.keep.mono hc, h.ops⟩

def noText (o : OpD) : OpD := { o with text := ⟨#[]⟩ }
/-- On the way: the last operation's text lies in the builder. -/
def NSt (w : World) (B b : Nat) (ov : Value) (l : List OpD) (g : Int) : Prop :=
  ∃ (ps : List (OpD × Value)) (ad bv : Value) (bt : List UInt8), NBlk w b ov ad bv g ∧ Addrs b ad ∧ OwnP w B ov ps ∧ Holds8 w B bv bt ∧
    ((l = [] ∧ ps = [] ∧ bt = []) ∨ ∃ x r fr xv, l = x :: r ∧ ps = fr ++ [(noText x, xv)] ∧ fr.map (·.1) = r.reverse ∧ bt = x.text.data.toList)
/-- The last one has its text. -/
def FSt (w : World) (B b : Nat) (ov : Value) (l : List OpD) (g : Int) : Prop :=
  ∃ (ps : List (OpD × Value)) (ad bv : Value), NBlk w b ov ad bv g ∧ Addrs b ad ∧ OwnP w B ov ps ∧ Holds8 w B bv [] ∧ ps.map (·.1) = l.reverse
theorem NSt.lt {w : World} {B b : Nat} {ov : Value} {l : List OpD} {g : Int} (h : NSt w B b ov l g) : b < w.heap.size := by
  obtain ⟨_, _, _, _, h, _⟩ := h
  exact lt_of_heap h

/-- The last operation of a row of one's own. -/
theorem last_cells {w : World} {B gg cap : Nat} {fr : List (OpD × Value)} {p : OpD × Value} (h : w.ownsRow B 48 4 (.slice (some ⟨gg, 0, none⟩) (fr.length + 1) cap) (fr.length + 1) (flatO (fr ++ [p]))) :
    w.cell? ⟨gg, fr.length * 4, none⟩ = some (.int .i64 p.1.kind) ∧ w.cell? ⟨gg, fr.length * 4 + 1, none⟩ = some (.int .i64 p.1.n) ∧ w.cell? ⟨gg, fr.length * 4 + 2, none⟩ = some (.string p.1.text) ∧ w.cell? ⟨gg, fr.length * 4 + 3, none⟩ = some p.2 := by
  have e : ∀ j, j < 4 → w.cell? ⟨gg, fr.length * 4 + j, none⟩ = (opCells p)[j]? := fun j hj => by
    rw [h.cellAt _ (by omega), flatO_snoc, List.getElem?_append_right (by rw [flatO_len]; omega), flatO_len]
    congr 1
    omega
  exact ⟨e 0 (by omega), e 1 (by omega), e 2 (by omega), e 3 (by omega)⟩
theorem last_set {w : World} {B gg cap : Nat} {fr : List (OpD × Value)} {p q : OpD × Value} (h : w.ownsRow B 48 4 (.slice (some ⟨gg, 0, none⟩) (fr.length + 1) cap) (fr.length + 1) (flatO (fr ++ [p]))) (j : Nat) (u : Value) (hq : (opCells p).set j u = opCells q) :
    (w.setCell ⟨gg, fr.length * 4 + j, none⟩ u).ownsRow B 48 4 (.slice (some ⟨gg, 0, none⟩) (fr.length + 1) cap) (fr.length + 1) (flatO (fr ++ [q])) := by
  have := (h.stored (fr.length * 4 + j) u).1
  have e : (flatO (fr ++ [p])).set (fr.length * 4 + j) u = flatO (fr ++ [q]) := by
    rw [flatO_snoc, flatO_snoc, List.set_append_right _ _ (by rw [flatO_len]; omega), flatO_len, ← hq]
    congr 2
    omega
  rw [e] at this
  exact this
theorem OwnP.len {w : World} {B : Nat} {v : Value} {fr : List (OpD × Value)} {p : OpD × Value} (h : OwnP w B v (fr ++ [p])) : w.ownsRow B 48 4 v (fr.length + 1) (flatO (fr ++ [p])) := by
  have := h.1
  rwa [List.length_append, List.length_singleton] at this
theorem ownP_mk {w : World} {B : Nat} {v : Value} {fr : List (OpD × Value)} {p : OpD × Value} (h : w.ownsRow B 48 4 v (fr.length + 1) (flatO (fr ++ [p]))) (ha : ∀ q ∈ fr, w.ownsRow B 53 2 q.2 q.1.attrs.length (flat q.1.attrs)) (hp : w.ownsRow B 53 2 p.2 p.1.attrs.length (flat p.1.attrs)) : OwnP w B v (fr ++ [p]) := by
  refine ⟨by rw [List.length_append, List.length_singleton]; exact h, fun q hq => ?_⟩
  rcases List.mem_append.1 hq with hq | hq
  · exact ha q hq
  · rw [List.mem_singleton.1 hq]; exact hp
theorem own_heap {w : World} {B k gg n m cap : Nat} {e : TypeId} {xs : List Value} (h : w.ownsRow B e k (.slice (some ⟨gg, 0, none⟩) n cap) m xs) : B ≤ gg ∧ ∃ cs, w.heap[gg]? = some (.cells cs e (0, 0)) := by
  rcases h.2 with ⟨h', _⟩ | ⟨g', cap', cur, h', hb, hg, _⟩
  · simp at h'
  · simp only [Value.slice.injEq, Option.some.injEq, Addr.mk.injEq, and_true] at h'
    obtain ⟨rfl, _, _⟩ := h'
    exact ⟨hb, cur, hg⟩
/-- One field of the last operation, written. -/
theorem OwnP.setLast {w : World} {B gg cap : Nat} {fr : List (OpD × Value)} {x y : OpD} {xv : Value} (h : OwnP w B (.slice (some ⟨gg, 0, none⟩) (fr.length + 1) cap) (fr ++ [(x, xv)])) (j : Nat) (u : Value) (hq : (opCells (x, xv)).set j u = opCells (y, xv)) (ha : y.attrs = x.attrs) :
    OwnP (w.setCell ⟨gg, fr.length * 4 + j, none⟩ u) B (.slice (some ⟨gg, 0, none⟩) (fr.length + 1) cap) (fr ++ [(y, xv)]) ∧ KeepO B w (w.setCell ⟨gg, fr.length * 4 + j, none⟩ u) (.slice (some ⟨gg, 0, none⟩) (fr.length + 1) cap) (.slice (some ⟨gg, 0, none⟩) (fr.length + 1) cap) := by
  obtain ⟨hB, cs, hg⟩ := own_heap h.len
  have hk : Keep B [48] w (w.setCell ⟨gg, fr.length * 4 + j, none⟩ u) := keep_set hg (by simp) hB _ rfl u
  refine ⟨ownP_mk (last_set h.len j u hq) (fun q hq => hk.own (h.2 q (List.mem_append_left _ hq)) (by decide)) ?_, hk.more (by simp), fun i cs' fr' hi hne => ⟨?_, hne⟩⟩
  · have := hk.own (h.2 (x, xv) (by simp)) (by decide)
    show World.ownsRow _ _ _ _ xv y.attrs.length (flat y.attrs)
    rw [ha]
    exact this
  · rw [Below.heap_setCell _ _ _ _ (fun e => hne (by rw [e]; rfl))]
    exact hi
theorem set_other {w : World} {p q : Addr} {u v : Value} (h : p.block ≠ q.block) (hc : w.cell? q = some v) : (w.setCell p u).cell? q = some v :=
  (World.cell?_of_block (Below.heap_setCell w p u q.block fun e => h e.symm)).trans hc
def FinOut (w : World) (B b : Nat) (ov : Value) (l : List OpD) (g : Int) (e : Ending) (w' : World) : Prop := e = .returned (.tuple #[]) ∧ FSt w' B b ov l g ∧ KeepO B w w' ov ov

set_option maxHeartbeats 4000000 in
set_option maxRecDepth 100000 in
theorem finish_any (B b : Nat) (ov : Value) (l : List OpD) (g : Int) (w : World) (h : NSt w B b ov l g) (hB : B ≤ b) (hl : l.length ≤ 1000100) :
    Calls Tryz.prog 104 #[.pointer (some ⟨b, 0, none⟩)] w (FinOut w B b ov l g) := by
  have hBw : B ≤ w.heap.size := Nat.le_trans hB (Nat.le_of_lt h.lt)
  obtain ⟨ps, ad, bv, bt, hN, hA, hP, hH, hcase⟩ := h
  obtain ⟨k0, k1, k2, k3, k4⟩ := hN.cells
  rcases hcase with ⟨rfl, rfl, rfl⟩ | ⟨x, r, fr, xv, rfl, rfl, hfr, rfl⟩
  · obtain ⟨a, c, rfl⟩ := own_slice hP.1
    have HF := Lib.hid (show FSt w B b (.slice a ([] : List (OpD × Value)).length c) [] g from ⟨[], ad, bv, hN, hA, hP, hH, rfl⟩)
    clear hN hP hH hA k1 k2 k3 k4
    go_enter Tryz.func104, Tryz.ntmps104
    go_wp2_with fail
    go_end0
    exact ⟨rfl, HF.out, keepO_below (Below.refl _ _) hBw _⟩
  · obtain ⟨gg, cap, hov⟩ := ownsRow_open hP.len (Nat.succ_pos _)
    subst hov
    have hm : fr.length ≤ 1000100 := by
      have := congrArg List.length hfr
      simp at this hl
      omega
    obtain ⟨q0, q1, q2, q3⟩ := last_cells hP.len
    have f2 : w.frozen? ⟨gg, fr.length * 4 + 2, none⟩ = false := hP.len.frozenAt _
    have HN := Lib.hid hN
    have HP := Lib.hid hP
    have HH := Lib.hid hH
    have HFR := Lib.hid hfr
    clear hN hP hH hA k1 k2 k3 k4 q0 q1 q3 hfr hl
    have hneq : gg ≠ b := by
      obtain ⟨_, cs, hcs⟩ := own_heap HP.out.len
      exact block_ne hcs HN.out (by decide)
    have HNE := Lib.hid hneq
    have i1 : (0 : Int) ≤ (fr.length : Int) := by omega
    have i2 : (fr.length : Int) < (fr.length : Int) + 1 := by omega
    clear hneq
    go_enter Tryz.func104, Tryz.ntmps104
    go_wp2_with fail
    go_region_held3 (fun w' => w'.cell? ⟨b, 0, none⟩ = some (.slice (some ⟨gg, 0, none⟩) (fr.length + 1) cap))
      (first
        | exact k0
        | exact kA
        | exact set_other HNE.out kA)
      (first
        | (go_at_call 35; refine (builderString_any B b _ ad bv g x.text.data.toList _ (by exact HN.out) (by exact HH.out)).mono ?_; rintro e wA ⟨rfl, KA⟩; have NA := NBlk.keep (w := w.drew) HN.out KA (by decide); have kA := NA.cells.1; have PA := OwnP.keep (w := w.drew) HP.out KA (by decide) (by decide); have qA := (last_cells PA.len).2.2.1; have fA : wA.frozen? ⟨gg, fr.length * 4 + 2, none⟩ = false := PA.len.frozenAt _))
    obtain ⟨P2, K2⟩ := OwnP.setLast (y := x) PA 2 (.string ⟨x.text.data⟩) rfl rfl
    have N2 := NBlk.keep (w := wA) NA (keep_set (B := B) (ts := [48]) (own_heap PA.len).2.choose_spec (by simp) (own_heap PA.len).1 ⟨gg, fr.length * 4 + 2, none⟩ rfl (.string ⟨x.text.data⟩)) (by decide)
    have KK := Lib.hid ((keepO_of (B := B) (of_drewK KA) (by simp) (by decide) (.slice (some ⟨gg, 0, none⟩) (fr.length + 1) cap)).trans K2)
    have HP2 := Lib.hid P2
    have HN2 := Lib.hid N2
    clear P2 K2 N2 PA NA KA kA qA fA
    go_wp2_with fail
    refine (reset_any b _ ad bv g _ HN2.out).mono ?_
    rintro e w3 ⟨rfl, N3, g3⟩
    have K3 : Keep B [90] _ w3 := keep_grown g3 (by have := KK.out.keep.below.size; omega) fun k hk => by
      cases hk
      exact ⟨hB, _, _, _, HN2.out, by simp⟩
    have F3 : FSt w3 B b (.slice (some ⟨gg, 0, none⟩) (fr.length + 1) cap) (x :: r) g := ⟨_, _, _, N3, .inl rfl, HP2.out.keep K3 (by decide) (by decide), holds8_nil _ _, by rw [List.map_append, HFR.out, List.reverse_cons]; rfl⟩
    have KK3 := KK.out.trans (keepO_of K3 (by simp) (by decide) _)
    have HF3 := Lib.hid F3
    have HK3 := Lib.hid KK3
    clear N3 g3 K3 F3 KK3
    go_wp2_with fail
    go_end0
    exact ⟨rfl, HF3.out, HK3.out⟩
end Go.Proofs.YtadookafnfnaoaaGreatDoor
/- Regions that draw their order, in which what is loaded is written at the end: a condition on the world that holds up to the operations that break it, each of which waits for every load that leans on it. -/
namespace Go.Proofs.YtadookafnfnaoaaGreatDoor
open Go

section
variable {P : Program} {ops : Array Oper} {Q : Exit → Act → World → Prop} {md : Region.Mode} {S : World → Prop} {brk : List Nat}

/-- Has one of brk come up? -/
def brokenB (brk : List Nat) (listed : Array Bool) : Bool := brk.any fun k => listed.getD k false
/-- Whatever order is picked from here on; S holds behind every operation till one of brk has come up. -/
def wpAnyB (P : Program) (md : Region.Mode) (ops : Array Oper) (Q : Exit → Act → World → Prop) (S : World → Prop) (brk : List Nat) : Nat → Array Bool → Act → World → Prop
  | 0, listed, a, w => Region.ready md ops listed = [] ∧ Q .normal a w
  | fuel + 1, listed, a, w =>
    (Region.ready md ops listed = [] → Q .normal a w) ∧
    ∀ i ∈ Region.ready md ops listed, wpOp P ops Q i (fun a' w' => (brokenB brk (listed.setIfInBounds i true) = true ∨ S w') ∧ wpAnyB P md ops Q S brk fuel (listed.setIfInBounds i true) a' w') a w
theorem wpAny_of_B : ∀ (fuel : Nat) (listed : Array Bool) (a : Act) (w : World), wpAnyB P md ops Q S brk fuel listed a w → wpAny P md ops Q fuel listed a w
  | 0, _, _, _, h => h
  | fuel + 1, _, _, _, h => ⟨h.1, fun i hi => wpOp_mono (fun a' w' h' => wpAny_of_B fuel _ a' w' h'.2) (h.2 i hi)⟩
theorem broken_set {listed : Array Bool} {i : Nat} (h : i ∉ brk) : brokenB brk (listed.setIfInBounds i true) = brokenB brk listed := by
  unfold brokenB
  rw [Bool.eq_iff_iff, List.any_eq_true, List.any_eq_true]
  constructor
  · rintro ⟨k, hk, h1⟩
    refine ⟨k, hk, ?_⟩
    rw [getD_set_ne false (fun e => h (by rw [e]; exact hk))] at h1
    exact h1
  · rintro ⟨k, hk, h1⟩
    refine ⟨k, hk, ?_⟩
    rw [getD_set_ne false (fun e => h (by rw [e]; exact hk))]
    exact h1

/-- Does j wait for i? -/
def waitsB (md : Region.Mode) (ops : Array Oper) (j i : Nat) : Bool :=
  match ops[j]? with
  | some oj => oj.after.any fun e => Region.binds md e && e.on == i
  | none => false
theorem not_ready {listed : Array Bool} {c p : Nat} (hw : waitsB md ops c p = true) (hp : listed.getD p true = false) : c ∉ Region.ready md ops listed := fun hc => by
  obtain ⟨_, oc, hoc, hall⟩ := mem_ready.1 hc
  unfold waitsB at hw
  rw [hoc] at hw
  obtain ⟨e, he, hb⟩ := Array.any_eq_true'.1 hw
  rw [Bool.and_eq_true, beq_iff_eq] at hb
  have h1 := hall e he hb.1
  rw [hb.2] at h1
  rcases Nat.lt_or_ge p listed.size with h' | h'
  · simp [h'] at hp h1; rw [hp] at h1; cases h1
  · simp [Array.getElem?_eq_none h'] at h1

/-- What may come up, and yields in every world that meets T, may be taken first: T is nothing; or S, and as long as it is to come none of brk may (chain: from it up to them). -/
theorem wpAnyB_first {i : Nat} {oi : Oper} {v : Value} {T : World → Prop} (chain : List Nat) (hib : i ∉ brk) (hT : (∀ w, T w) ∨ ((∀ w, S w → T w) ∧ (∀ c ∈ chain, c ≠ i → ∃ p ∈ chain, waitsB md ops c p = true) ∧ ∀ j ∈ brk, j ∈ chain))
    (hi : ops[i]? = some oi) (hsel : ∀ (j : Nat) (o : Oper) cs b, ops[j]? = some o → o.op ≠ .select cs b) (hQ : ∀ c a w, Q (.panic c) (a.put oi.dst v) w → Q (.panic c) a w) :
    ∀ (fuel : Nat) (listed : Array Bool) (a : Act) (w : World),
      (∀ j oj, ops[j]? = some oj → j ≠ i → listed.getD j true = false → (∀ e ∈ oj.after, Region.binds md e = true → e.on ≠ i) → oi.apart ops oj = true) →
      ((∀ w, T w) ∨ ∀ c ∈ chain, listed.getD c true = false) →
      i ∈ Region.ready md ops listed → YieldsIf P ops T oi v a →
      wpAnyB P md ops Q S brk fuel (listed.setIfInBounds i true) (a.put oi.dst v) w → (brokenB brk listed = true ∨ S w) → wpAnyB P md ops Q S brk (fuel + 1) listed a w := by
  have key : ∀ (listed : Array Bool) (w : World), ((∀ w, T w) ∨ ∀ c ∈ chain, listed.getD c true = false) → (brokenB brk listed = true ∨ S w) → T w := fun listed w hun hb => by
    rcases hT with h | ⟨h, _, hbk⟩
    · exact h w
    · rcases hun with h' | hun
      · exact h' w
      · rcases hb with hb | hb
        · unfold brokenB at hb
          obtain ⟨k, hk, h1⟩ := List.any_eq_true.1 hb
          have h2 := hun k (hbk k hk)
          rcases Nat.lt_or_ge k listed.size with h' | h'
          · simp [h'] at h1 h2; rw [h2] at h1; cases h1
          · simp [Array.getElem?_eq_none h'] at h1
        · exact h w hb
  intro fuel
  induction fuel with
  | zero =>
    intro listed a w _ hun hr hy H hb
    refine ⟨fun h => (by rw [h] at hr; cases hr), fun j hj => ?_⟩
    by_cases hji : j = i
    · subst hji
      exact hy.wpOp hi (key listed w hun hb) ⟨by rw [broken_set hib]; exact hb, H⟩
    · have := ready_mono hj hji
      rw [H.1] at this
      cases this
  | succ fuel ih =>
    intro listed a w hfree hun0 hr hy H hb
    refine ⟨fun h => (by rw [h] at hr; cases hr), fun j hj => ?_⟩
    by_cases hji : j = i
    · subst hji; exact hy.wpOp hi (key listed w hun0 hb) ⟨by rw [broken_set hib]; exact hb, H⟩
    · have h1 := H.2 j (ready_mono hj hji)
      obtain ⟨hjun, oj, hoj, hall⟩ := mem_ready.1 hj
      have hnot : ∀ e ∈ oj.after, Region.binds md e = true → e.on ≠ i := fun e he hb heq => by
        have h1 := hall e he hb
        have h0 := (mem_ready.1 hr).1
        rw [heq] at h1
        rcases Nat.lt_or_ge i listed.size with h' | h'
        · simp [h'] at h0 h1; rw [h0] at h1; cases h1
        · simp [Array.getElem?_eq_none h'] at h1
      have h2 := wpOp_putIf hoj (hfree j oj hoj hji hjun hnot) (fun cs b => hsel i oi cs b hi) (fun cs b => hsel j oj cs b hoj) hQ hy h1
      have hfree' : ∀ k ok, ops[k]? = some ok → k ≠ i → (listed.setIfInBounds j true).getD k true = false →
          (∀ e ∈ ok.after, Region.binds md e = true → e.on ≠ i) → oi.apart ops ok = true := fun k ok hk hki hun hno => by
        refine hfree k ok hk hki ?_ hno
        by_cases hjk : j = k
        · subst hjk; exact hjun
        · rw [getD_set_ne true hjk] at hun; exact hun
      have hjc : (∀ w, T w) ∨ j ∉ chain := by
        rcases hT with h | ⟨_, hcw, _⟩
        · exact .inl h
        · rcases hun0 with h | hun
          · exact .inl h
          · refine .inr fun hc => ?_
            obtain ⟨p, hp, hw⟩ := hcw j hc hji
            exact not_ready hw (hun p hp) hj
      have hcomm : (listed.setIfInBounds i true).setIfInBounds j true = (listed.setIfInBounds j true).setIfInBounds i true := Array.setIfInBounds_comm _ _ (fun e => hji e.symm)
      rw [hcomm] at h2
      refine wpOp_mono (fun a' w' h3 => ?_) h2
      have hb3 : brokenB brk (listed.setIfInBounds j true) = true ∨ S w' := by
        have := h3.2.1
        rwa [broken_set hib] at this
      refine ⟨hb3, ih (listed.setIfInBounds j true) a' w' hfree' ?_ (ready_mono hr (Ne.symm hji)) h3.1 h3.2.2 hb3⟩
      rcases hjc with h | h
      · exact .inl h
      · rcases hun0 with h' | hun
        · exact .inl h'
        · refine .inr fun c hc => ?_
          rw [getD_set_ne true (fun e => h (by rw [e]; exact hc))]
          exact hun c hc

/-- The moves: what looks at no memory. -/
theorem wpAnyB_free {i : Nat} {oi : Oper} {v : Value} {fuel : Nat} {listed : Array Bool} {a : Act} {w : World} (hi : ops[i]? = some oi)
    (hib : brk.contains i = false) (hs : Region.noSelect ops = true) (hf : Region.free md ops listed i = true) (hr : (Region.ready md ops listed).contains i = true)
    (hQ : ∀ c a w, Q (.panic c) (a.put oi.dst v) w → Q (.panic c) a w) (hb : brokenB brk listed = true ∨ S w) (hy : ∀ w, (execOp a.eval oi).run P w = .ok (.value v) w) (hw : Region.wanted oi (yielded ops a.tmps) = true)
    (h : wpAnyB P md ops Q S brk fuel (listed.setIfInBounds i true) (a.put oi.dst v) w) : wpAnyB P md ops Q S brk (fuel + 1) listed a w :=
  wpAnyB_first (T := fun _ => True) [] (fun hh => by rw [List.contains_iff_mem.2 hh] at hib; cases hib) (.inl fun _ => trivial) hi (Region.noSelect_spec hs) hQ fuel listed a w (Region.free_spec hi hf) (.inl fun _ => trivial) (by simpa using hr) (.inl ⟨hw, fun w _ => hy w⟩) h hb
/-- .. what looks at memory of which S tells. -/
def chainOk (md : Region.Mode) (ops : Array Oper) (listed : Array Bool) (brk : List Nat) (i : Nat) (chain : List Nat) : Bool :=
  (chain.all fun c => c == i || chain.any fun p => waitsB md ops c p) && (brk.all fun j => chain.contains j) && chain.all fun c => !(listed.getD c true)
theorem wpAnyB_load (chain : List Nat) {i : Nat} {oi : Oper} {v : Value} {fuel : Nat} {listed : Array Bool} {a : Act} {w : World} (hi : ops[i]? = some oi)
    (hib : brk.contains i = false) (hs : Region.noSelect ops = true) (hf : Region.free md ops listed i = true) (hr : (Region.ready md ops listed).contains i = true) (hc : chainOk md ops listed brk i chain = true)
    (hQ : ∀ c a w, Q (.panic c) (a.put oi.dst v) w → Q (.panic c) a w) (hb : brokenB brk listed = true ∨ S w) (hy : ∀ w, S w → (execOp a.eval oi).run P w = .ok (.value v) w) (hw : Region.wanted oi (yielded ops a.tmps) = true)
    (h : wpAnyB P md ops Q S brk fuel (listed.setIfInBounds i true) (a.put oi.dst v) w) : wpAnyB P md ops Q S brk (fuel + 1) listed a w := by
  unfold chainOk at hc
  rw [Bool.and_eq_true, Bool.and_eq_true, List.all_eq_true, List.all_eq_true, List.all_eq_true] at hc
  obtain ⟨⟨h1, h2⟩, h3⟩ := hc
  refine wpAnyB_first (T := S) chain (fun hh => by rw [List.contains_iff_mem.2 hh] at hib; cases hib) (.inr ⟨fun _ h => h, fun c hc hne => ?_, fun j hj => List.contains_iff_mem.1 (h2 j hj)⟩) hi (Region.noSelect_spec hs) hQ fuel listed a w (Region.free_spec hi hf) (.inr fun c hc => by simpa using h3 c hc) (by simpa using hr) (.inl ⟨hw, hy⟩) h hb
  have := h1 c hc
  rw [Bool.or_eq_true, beq_iff_eq, List.any_eq_true] at this
  exact this.resolve_left hne
/-- The one that may come up. -/
theorem wpAnyB_one {i : Nat} {o : Oper} {fuel : Nat} {listed : Array Bool} {a : Act} {w : World} (ho : ops[i]? = some o) (hr : Region.ready md ops listed = [i])
    (h : ∀ K' : Act → World → Prop, (∀ a w, (brokenB brk (listed.setIfInBounds i true) = true ∨ S w) → wpAnyB P md ops Q S brk fuel (listed.setIfInBounds i true) a w → K' a w) → if Region.wanted o (yielded ops a.tmps) = true then Oper.wp P o a w K' Q else K' (a.put o.dst undef) w) :
    wpAnyB P md ops Q S brk (fuel + 1) listed a w :=
  ⟨fun h0 => (by rw [hr] at h0; cases h0), fun j hj => by
    rw [hr] at hj
    obtain rfl : j = i := by simpa using hj
    exact wpOp_step ho (fun K' hK => h K' (fun a w hS hW => hK a w ⟨hS, hW⟩))⟩
theorem wpAnyB_done {listed : Array Bool} {a : Act} {w : World} (hr : Region.ready md ops listed = []) (h : Q .normal a w) : wpAnyB P md ops Q S brk 0 listed a w := ⟨hr, h⟩
theorem wp_region_B (S : World → Prop) (brk : List Nat) {id : Nat} {a : Act} {w : World} (hm : P.follows .mixedOrders = true)
    (h : wpAnyB P .any ops Q S brk ops.size (Array.replicate ops.size false) a w.drew) : (Code.region id ops true).wp P Q a w :=
  wp_region_any hm (wpAny_of_B _ _ _ _ h)
end
end Go.Proofs.YtadookafnfnaoaaGreatDoor
/- The program's put: an operation behind the others, as one with the last, if they do the same. -/
namespace Go.Proofs.YtadookafnfnaoaaGreatDoor
open Go.RowKit Ch

theorem NSt.below {w w' : World} {B b : Nat} {ov : Value} {l : List OpD} {g : Int} (h : NSt w B b ov l g) (hb : Below w.heap.size w w') : NSt w' B b ov l g := by
  obtain ⟨ps, ad, bv, bt, h1, h2, h3, h4, h5⟩ := h
  have hk : Keep w.heap.size [] w w' := keep_below hb (Nat.le_refl _)
  exact ⟨ps, ad, bv, bt, h1.keep hk (by simp), h2, h3.keep hk (by simp) (by simp), ⟨hk.own h4.1 (by simp), h4.2⟩, h5⟩
theorem NSt.ov_lt {w : World} {B b : Nat} {ov : Value} {l : List OpD} {g : Int} (h : NSt w B b ov l g) : ∀ j, ov.ownBlock = some j → j < w.heap.size := by
  obtain ⟨ps, _, _, _, _, _, h3, _⟩ := h
  exact fun j hj => (h3.1.lt j hj).2
theorem NSt.slice {w : World} {B b : Nat} {ov : Value} {l : List OpD} {g : Int} (h : NSt w B b ov l g) : ∃ a c, ov = .slice a l.length c := by
  obtain ⟨ps, _, _, _, _, _, h3, _, h5⟩ := h
  obtain ⟨a, c, rfl⟩ := own_slice h3.1
  have : ps.length = l.length := by
    rcases h5 with ⟨rfl, rfl, _⟩ | ⟨x, r, fr, xv, rfl, rfl, hf, _⟩
    · rfl
    · have := congrArg List.length hf
      simp at this ⊢
      exact this
  exact ⟨a, c, by rw [this]⟩
theorem new_at4 (w : World) (u0 u1 u2 u3 : Value) (e : TypeId) : ∀ j x, [u0, u1, u2, u3][j]? = some x → (w.alloc (.cells #[u0, u1, u2, u3] e)).cell? ((⟨w.heap.size, 0, none⟩ : Addr).add j) = some x := by
  intro j x hj
  match j, hj with
  | 0, hj => simp at hj; subst hj; go_simp
  | 1, hj => simp at hj; subst hj; go_simp
  | 2, hj => simp at hj; subst hj; go_simp
  | 3, hj => simp at hj; subst hj; go_simp
  | j + 4, hj => simp at hj
theorem heap_new (w : World) (o : Obj) : (w.alloc o).heap[w.heap.size]? = some o := heap_alloc_new w o
def PutOut (w : World) (B b : Nat) (ov : Value) (l : List OpD) (o : OpD) (g : Int) (e : Ending) (w' : World) : Prop := e = .returned (.tuple #[]) ∧ ∃ ov', NSt w' B b ov' (put l o) g ∧ KeepO B w w' ov ov'
/-- What a put asks. -/
structure Fits (l : List OpD) (o : OpD) : Prop where
  len : l.length ≤ 1000000
  last : ∀ x r, l = x :: r → 0 ≤ x.n ∧ x.n ≤ 1073741824 ∧ x.text.size ≤ 1073741824
  n0 : 0 ≤ o.n
  n1 : o.n ≤ 1073741824
  text : o.text.size ≤ 1073741824
  attrs : SmallA o.attrs

set_option maxHeartbeats 4000000 in
set_option maxRecDepth 100000 in
theorem put_empty (B b : Nat) (ov : Value) (l : List OpD) (g : Int) (o : OpD) (av : Value) (w : World) (h : NSt w B b ov l g) (hB : B ≤ b) (hf : Fits l o) (hv : ∀ w', Keep B TS w w' → AtRow w' av o.attrs) (hnil : l = []) :
    Calls Tryz.prog 86 #[.pointer (some ⟨b, 0, none⟩), opAgg o av] w (PutOut w B b ov l o g) := by
  have hBw : B ≤ w.heap.size := Nat.le_trans hB (Nat.le_of_lt h.lt)
  obtain ⟨ar, cr, rfl⟩ := (hv w (Keep.refl _ _ _)).shape
  obtain ⟨W, hW⟩ : ∃ W, W = w.alloc (.cells #[.int .i64 o.kind, .int .i64 o.n, .string o.text, .slice ar o.attrs.length cr] 48) := ⟨_, rfl⟩
  have BW : Below w.heap.size w W := by rw [hW]; exact below_box _ _
  have HBW := Lib.hid BW
  have hbox : W.heap[w.heap.size]? = some (.cells #[.int .i64 o.kind, .int .i64 o.n, .string o.text, .slice ar o.attrs.length cr] 48 (0, 0)) := by rw [hW]; exact heap_new _ _
  have HBX := Lib.hid hbox
  have HNE := Lib.hid (show ov.ownBlock ≠ some w.heap.size from fun e => by have := h.ov_lt _ e; omega)
  have HS := Lib.hid (h.below BW)
  have HV := Lib.hid hv
  have HF := Lib.hid hf
  have HW := Lib.hid hW
  have HBw := Lib.hid hBw
  obtain ⟨oa, oc, rfl⟩ := h.slice
  subst hnil
  have hblw := h.lt
  have p0 : w.cell? ⟨b, 0, none⟩ = some (.slice oa 0 oc) := by
    obtain ⟨_, _, _, _, hN0, _⟩ := h
    exact hN0.cells.1
  clear hf hv hW BW hbox hBw
  go_enter Tryz.func86, Tryz.ntmps86
  go_wp2_with fail
  rw [← HW.out]
  go_wp2_with fail
  go_quiet (fail)
  go_wp2_with fail
  refine (finish_any B b _ _ g _ (HS.out.below (below_drewN (Below.refl _ _) nq)) hB (by have := HF.out.len; omega)).mono ?_
  rintro e w1 ⟨rfl, F1, KF⟩
  have hb1 : w1.heap[w.heap.size]? = some (.cells #[.int .i64 o.kind, .int .i64 o.n, .string o.text, .slice ar o.attrs.length cr] 48 (0, 0)) := (KF.ops _ _ _ (by exact HBX.out) HNE.out).1
  have K1 : KeepO B w w1 (.slice oa 0 oc) (.slice oa 0 oc) := (keepO_below (below_drewN HBW.out nq) HBw.out _).trans KF
  have HK1 := Lib.hid K1
  have HB1 := Lib.hid hb1
  have hs1 : w.heap.size < w1.heap.size := lt_of_heap hb1
  obtain ⟨ps, ad, bv, hN, hA, hP, hH, hps⟩ := F1
  have hpl : ps.length ≤ 1000000 := by have h1 := congrArg List.length hps; rw [List.length_map, List.length_reverse] at h1; have := HF.out.len; omega
  have hPL : ps.length = 0 := by
    obtain ⟨a', c', e⟩ := own_slice hP.1
    simp only [Value.slice.injEq] at e
    exact e.2.1.symm
  have HPLN := Lib.hid hPL
  obtain ⟨k0, k1, k2, k3, k4⟩ := hN.cells
  have hbl : b < w1.heap.size := lt_of_heap hN
  have c0 : w1.cell? ⟨w.heap.size, 0, none⟩ = some (.int .i64 o.kind) := by rw [Lib.cell_of_heap hb1]; rfl
  have c1 : w1.cell? ⟨w.heap.size, 1, none⟩ = some (.int .i64 o.n) := by rw [Lib.cell_of_heap hb1]; rfl
  have c3 : w1.cell? ⟨w.heap.size, 3, none⟩ = some (.slice ar o.attrs.length cr) := by rw [Lib.cell_of_heap hb1]; rfl
  obtain ⟨i0, hi, hz0, hz1, hz2⟩ := info_parts infoOp
  have Hi := Lib.hid (And.intro hi (And.intro hz0 (And.intro hz1 hz2)))
  have HN := Lib.hid hN
  have HP := Lib.hid hP
  have HH := Lib.hid hH
  have HA := Lib.hid hA
  have HPS := Lib.hid hps
  have HCL := Lib.hid (fun W' (hb : Below w1.heap.size w1 W') => cloneAttrs_any (.slice ar o.attrs.length cr) o.attrs W' (HV.out W' (K1.keep.trans (keep_below hb (Nat.le_trans HBw.out K1.keep.below.size)))) HF.out.attrs)
  have HPL := Lib.hid hpl
  have hnb : w.heap.size ≠ b := by
    have := HS.out.lt
    have := HBW.out.size
    exact block_ne hb1 hN (by decide)
  have HNB := Lib.hid hnb
  clear hN hP hH hA hps hPL KF K1 hi hz0 hz1 hz2 k1 k2 k3 k4 hb1 hpl hnb
  go_wp2_with fail
  have S1 : w1.drew.cell? ⟨b, 0, none⟩ = some (.slice oa 0 oc) ∧ w1.drew.cell? ⟨w.heap.size, 0, none⟩ = some (.int .i64 o.kind) ∧ w1.drew.cell? ⟨w.heap.size, 1, none⟩ = some (.int .i64 o.n) ∧ w1.drew.cell? ⟨w.heap.size, 3, none⟩ = some (.slice ar o.attrs.length cr) := ⟨k0, c0, c1, c3⟩
  refine wp_region_B (fun w' => w'.cell? ⟨b, 0, none⟩ = some (.slice oa 0 oc) ∧ w'.cell? ⟨w.heap.size, 0, none⟩ = some (.int .i64 o.kind) ∧ w'.cell? ⟨w.heap.size, 1, none⟩ = some (.int .i64 o.n) ∧ w'.cell? ⟨w.heap.size, 3, none⟩ = some (.slice ar o.attrs.length cr)) [17] (by kernel_rfl) (?_ : wpAnyB _ _ _ _ _ _ 18 (Array.replicate 18 false) _ _)
  refine wpAnyB_free (fuel := 17) (i := 0) (v := ?_) rfl (by kernel_rfl) (by kernel_rfl) (by kernel_rfl) (by kernel_rfl) (fun _ _ _ h => h) (.inr S1) ?_ (by rfl) ?_
  rotate_left
  · intro w'; go_simp; (try with_reducible rfl)
  simp only [Act.put, List.setIfInBounds_toArray]
  refine wpAnyB_free (fuel := 16) (i := 1) (v := ?_) rfl (by kernel_rfl) (by kernel_rfl) (by kernel_rfl) (by kernel_rfl) (fun _ _ _ h => h) (.inr S1) ?_ (by rfl) ?_
  rotate_left
  · intro w'; go_simp; (try with_reducible rfl)
  simp only [Act.put]
  refine wpAnyB_free (fuel := 15) (i := 2) (v := ?_) rfl (by kernel_rfl) (by kernel_rfl) (by kernel_rfl) (by kernel_rfl) (fun _ _ _ h => h) (.inr S1) ?_ (by rfl) ?_
  rotate_left
  · intro w'; go_simp; (try with_reducible rfl)
  simp only [Act.put]
  refine wpAnyB_free (fuel := 14) (i := 3) (v := ?_) rfl (by kernel_rfl) (by kernel_rfl) (by kernel_rfl) (by kernel_rfl) (fun _ _ _ h => h) (.inr S1) ?_ (by rfl) ?_
  rotate_left
  · intro w'; go_simp; (try with_reducible rfl)
  simp only [Act.put]
  refine wpAnyB_load [4,14,17] (fuel := 13) (i := 4) (v := ?_) rfl (by kernel_rfl) (by kernel_rfl) (by kernel_rfl) (by kernel_rfl) (by kernel_rfl) (fun _ _ _ h => h) (.inr S1) ?_ (by rfl) ?_
  rotate_left
  · intro w' hw'; go_simp; (try with_reducible rfl)
  simp only [Act.put]
  refine wpAnyB_free (fuel := 12) (i := 5) (v := ?_) rfl (by kernel_rfl) (by kernel_rfl) (by kernel_rfl) (by kernel_rfl) (fun _ _ _ h => h) (.inr S1) ?_ (by rfl) ?_
  rotate_left
  · intro w'; go_simp; (try with_reducible rfl)
  simp only [Act.put]
  refine wpAnyB_load [6,12,13,14,17] (fuel := 11) (i := 6) (v := ?_) rfl (by kernel_rfl) (by kernel_rfl) (by kernel_rfl) (by kernel_rfl) (by kernel_rfl) (fun _ _ _ h => h) (.inr S1) ?_ (by rfl) ?_
  rotate_left
  · intro w' hw'; go_simp; (try with_reducible rfl)
  simp only [Act.put]
  refine wpAnyB_free (fuel := 10) (i := 7) (v := ?_) rfl (by kernel_rfl) (by kernel_rfl) (by kernel_rfl) (by kernel_rfl) (fun _ _ _ h => h) (.inr S1) ?_ (by rfl) ?_
  rotate_left
  · intro w'; go_simp; (try with_reducible rfl)
  simp only [Act.put]
  refine wpAnyB_load [8,12,13,14,17] (fuel := 9) (i := 8) (v := ?_) rfl (by kernel_rfl) (by kernel_rfl) (by kernel_rfl) (by kernel_rfl) (by kernel_rfl) (fun _ _ _ h => h) (.inr S1) ?_ (by rfl) ?_
  rotate_left
  · intro w' hw'; go_simp; (try with_reducible rfl)
  simp only [Act.put]
  refine wpAnyB_free (fuel := 8) (i := 9) (v := ?_) rfl (by kernel_rfl) (by kernel_rfl) (by kernel_rfl) (by kernel_rfl) (fun _ _ _ h => h) (.inr S1) ?_ (by rfl) ?_
  rotate_left
  · intro w'; go_simp; (try with_reducible rfl)
  simp only [Act.put]
  refine wpAnyB_load [10,11,12,13,14,17] (fuel := 7) (i := 10) (v := ?_) rfl (by kernel_rfl) (by kernel_rfl) (by kernel_rfl) (by kernel_rfl) (by kernel_rfl) (fun _ _ _ h => h) (.inr S1) ?_ (by rfl) ?_
  rotate_left
  · intro w' hw'; go_simp; (try with_reducible rfl)
  simp only [Act.put]
  refine wpAnyB_one (fuel := 6) (i := 11) rfl (by kernel_rfl) ?_
  intro KB hKB
  go_simp
  refine (HCL.out _ (Below.refl _ _).drew).mono ?_
  rintro e wA ⟨vA, rfl, oA, bA⟩
  obtain ⟨aa, ca, rfl⟩ := own_slice oA
  have BA : Below w1.heap.size w1 wA := of_drew bA
  have OA := Lib.hid (own_base oA (show B ≤ w1.drew.heap.size from by have := hbl; show B ≤ w1.heap.size; omega))
  have PA := Lib.hid (HP.out.keep (keep_below (ts := []) BA (Nat.le_refl _)) (by simp) (by simp))
  have NA := Lib.hid (HN.out.keep (keep_below (ts := []) BA (Nat.le_refl _)) (by simp))
  have HA1 := Lib.hid (show Holds8 wA B bv [] from ⟨(keep_below (B := B) (ts := []) BA (by omega)).own HH.out.1 (by simp), HH.out.2⟩)
  have PO := Lib.hid (show wA.ownsRow B 48 4 (.slice oa 0 oc) 0 (flatO ps) from by have := PA.out.1; rwa [HPLN.out] at this)
  have bxA := Lib.hid ((BA.block _ hs1).trans HB1.out)
  have hBA := Lib.hid (show B ≤ wA.heap.size from by have := BA.size; omega)
  have KA := Lib.hid (HK1.out.trans (keepO_below BA (by omega) _))
  have SA : wA.cell? ⟨b, 0, none⟩ = some (.slice oa 0 oc) ∧ wA.cell? ⟨w.heap.size, 0, none⟩ = some (.int .i64 o.kind) ∧ wA.cell? ⟨w.heap.size, 1, none⟩ = some (.int .i64 o.n) ∧ wA.cell? ⟨w.heap.size, 3, none⟩ = some (.slice ar o.attrs.length cr) := ⟨(BA.cell (by exact hbl)).trans k0, (BA.cell (by exact hs1)).trans c0, (BA.cell (by exact hs1)).trans c1, (BA.cell (by exact hs1)).trans c3⟩
  have AC := Below.alloc (Below.refl wA.heap.size wA) (Nat.le_refl _) (Obj.cells #[.int .i64 o.kind, .int .i64 o.n, .string ⟨#[]⟩, .slice aa o.attrs.length ca] 48)
  have HAC := Lib.hid AC
  have lA := Nat.lt_of_lt_of_le hbl BA.size
  have lA2 := Nat.lt_of_lt_of_le hs1 BA.size
  have SB : (wA.alloc (Obj.cells #[.int .i64 o.kind, .int .i64 o.n, .string ⟨#[]⟩, .slice aa o.attrs.length ca] 48)).cell? ⟨b, 0, none⟩ = some (.slice oa 0 oc) ∧ (wA.alloc (Obj.cells #[.int .i64 o.kind, .int .i64 o.n, .string ⟨#[]⟩, .slice aa o.attrs.length ca] 48)).cell? ⟨w.heap.size, 0, none⟩ = some (.int .i64 o.kind) ∧ (wA.alloc (Obj.cells #[.int .i64 o.kind, .int .i64 o.n, .string ⟨#[]⟩, .slice aa o.attrs.length ca] 48)).cell? ⟨w.heap.size, 1, none⟩ = some (.int .i64 o.n) ∧ (wA.alloc (Obj.cells #[.int .i64 o.kind, .int .i64 o.n, .string ⟨#[]⟩, .slice aa o.attrs.length ca] 48)).cell? ⟨w.heap.size, 3, none⟩ = some (.slice ar o.attrs.length cr) := ⟨(AC.cell (by exact lA)).trans SA.1, (AC.cell (by exact lA2)).trans SA.2.1, (AC.cell (by exact lA2)).trans SA.2.2.1, (AC.cell (by exact lA2)).trans SA.2.2.2⟩
  have HSA := Lib.hid SA
  have HSB := Lib.hid SB
  clear oA bA BA SA SB AC
  refine hKB _ _ (.inr HSA.out) ?_
  try simp only [Act.put, List.setIfInBounds_toArray, List.set_cons_zero, List.set_cons_succ]
  refine wpAnyB_free (fuel := 5) (i := 12) (v := ?_) rfl (by kernel_rfl) (by kernel_rfl) (by kernel_rfl) (by kernel_rfl) (fun _ _ _ h => h) (.inr HSA.out) ?_ (by rfl) ?_
  rotate_left
  · intro w'; go_simp; (try with_reducible rfl)
  simp only [Act.put, List.setIfInBounds_toArray]
  refine wpAnyB_one (fuel := 4) (i := 13) rfl (by kernel_rfl) ?_
  intro KB hKB
  go_simp
  refine hKB _ _ (.inr HSB.out) ?_
  try simp only [Act.put, List.setIfInBounds_toArray, List.set_cons_zero, List.set_cons_succ]
  refine wpAnyB_one (fuel := 3) (i := 14) rfl (by kernel_rfl) ?_
  intro KB hKB
  refine step_append_new rfl (.tmp 43) (.tmp 52) 22 rfl 48 i0 (.agg #[.int .i64 0, .int .i64 0, .string ⟨#[]⟩, .slice none 0 0]) 4 56 Tryz.underlying22 Hi.out.1 Hi.out.2.1 Hi.out.2.2.1 Hi.out.2.2.2 rfl (by decide) B (.slice oa 0 oc) 0 (flatO ps) rfl (PO.out.alloc _) ⟨wA.heap.size, 0, none⟩ 1 1 [.int .i64 o.kind, .int .i64 o.n, .string ⟨#[]⟩, .slice aa o.attrs.length ca] rfl rfl (new_at4 _ _ _ _ _ _) (fun u hu => by simp at hu; rcases hu with rfl | rfl | rfl | rfl <;> rfl) (by unfold maxLen; have := HPL.out; have := HPLN.out; omega) (by have := HPL.out; have := HPLN.out; omega) (by have := hBA.out; simp; omega) ?_
  intro v' wC oC gC nC
  obtain ⟨oa', oc', rfl⟩ := own_slice oC
  have KC1 := keepO_below (B := B) HAC.out hBA.out (.slice oa 0 oc)
  have KC2 := keepO_grown (PO.out.alloc _) gC (by have := hBA.out; simp; omega) nC
  have NC : NBlk wC b _ _ _ g := (NA.out.keep (keep_below (ts := []) HAC.out (Nat.le_refl _)) (by simp)).keep (ts := [48]) (keep_row (PO.out.alloc _) gC (by simp) (by have := hBA.out; simp; omega)) (by decide)
  have bC := (KC2.ops w.heap.size _ _ ((HAC.out.block _ (lt_of_heap bxA.out)).trans bxA.out) HNE.out).1
  obtain ⟨kC, _, _, _, fC⟩ := NC.cells
  have fC0 := fC 0
  have SC : wC.cell? ⟨b, 0, none⟩ = some (.slice oa 0 oc) ∧ wC.cell? ⟨w.heap.size, 0, none⟩ = some (.int .i64 o.kind) ∧ wC.cell? ⟨w.heap.size, 1, none⟩ = some (.int .i64 o.n) ∧ wC.cell? ⟨w.heap.size, 3, none⟩ = some (.slice ar o.attrs.length cr) := ⟨kC, by rw [Lib.cell_of_heap bC]; rfl, by rw [Lib.cell_of_heap bC]; rfl, by rw [Lib.cell_of_heap bC]; rfl⟩
  have HSC := Lib.hid SC
  have HNC := Lib.hid NC
  have HOC := Lib.hid oC
  have HBC := Lib.hid bC
  have HKC := Lib.hid (KA.out.trans (KC1.trans KC2))
  have HKC2 := Lib.hid (KC1.trans KC2)
  clear oC gC nC KC1 KC2 NC fC SC bC
  refine hKB _ _ (.inr HSC.out) ?_
  try simp only [Act.put, List.setIfInBounds_toArray]
  refine wpAnyB_free (fuel := 2) (i := 15) (v := ?_) rfl (by kernel_rfl) (by kernel_rfl) (by kernel_rfl) (by kernel_rfl) (fun _ _ _ h => h) (.inr HSC.out) ?_ (by rfl) ?_
  rotate_left
  · intro w'; go_simp; (try with_reducible rfl)
  simp only [Act.put]
  refine wpAnyB_free (fuel := 1) (i := 16) (v := ?_) rfl (by kernel_rfl) (by kernel_rfl) (by kernel_rfl) (by kernel_rfl) (fun _ _ _ h => h) (.inr HSC.out) ?_ (by rfl) ?_
  rotate_left
  · intro w'; go_simp; (try with_reducible rfl)
  simp only [Act.put]
  refine wpAnyB_one (fuel := 0) (i := 17) rfl (by kernel_rfl) ?_
  intro KB hKB
  go_simp
  refine hKB _ _ (.inl (by kernel_rfl)) ?_
  try simp only [Act.put, List.setIfInBounds_toArray, List.set_cons_zero, List.set_cons_succ]
  refine wpAnyB_done (by kernel_rfl) ?_
  have KD1 : Keep B [90] wC (wC.setCell ⟨b, 0, none⟩ (.slice oa' (0 + 1) oc')) := keep_set HNC.out (by simp) hB _ rfl _
  have KAD : Keep B TS wA (wC.setCell ⟨b, 0, none⟩ (.slice oa' (0 + 1) oc')) := HKC2.out.keep.trans (KD1.more (by simp))
  have OD : OwnP (wC.setCell ⟨b, 0, none⟩ (.slice oa' (0 + 1) oc')) B (.slice oa' (0 + 1) oc') (ps ++ [(noText o, .slice aa o.attrs.length ca)]) := ownP_mk (by have h1 := KD1.own HOC.out (by decide); rw [HPLN.out, flatO_snoc]; exact h1) (fun q hq => KAD.own (PA.out.2 q hq) (by decide)) (KAD.own OA.out (by decide))
  have ND : NBlk (wC.setCell ⟨b, 0, none⟩ (.slice oa' (0 + 1) oc')) b (.slice oa' (0 + 1) oc') ad bv g := HNC.out.set0
  have KD : KeepO B w (wC.setCell ⟨b, 0, none⟩ (.slice oa' (0 + 1) oc')) (.slice oa 0 oc) (.slice oa' (0 + 1) oc') := HKC.out.trans (keepO_of KD1 (by simp) (by decide) _)
  have bD : (wC.setCell ⟨b, 0, none⟩ (.slice oa' (0 + 1) oc')).heap[w.heap.size]? = _ := KD1.kept _ _ _ _ HBC.out (by decide)
  have HD : Holds8 (wC.setCell ⟨b, 0, none⟩ (.slice oa' (0 + 1) oc')) B bv [] := by rw [HH.out.2 rfl]; exact holds8_nil _ _
  obtain ⟨wD, hwD⟩ : ∃ wD, wD = wC.setCell ⟨b, 0, none⟩ (.slice oa' (0 + 1) oc') := ⟨_, rfl⟩
  change (Exit.then _ _) _ _ (wC.setCell ⟨b, 0, none⟩ (.slice oa' (0 + 1) oc'))
  rw [← hwD] at OD ND KD bD HD ⊢
  have HOD := Lib.hid OD
  have HND := Lib.hid ND
  have HKD := Lib.hid KD
  have HHD := Lib.hid HD
  have HbD := Lib.hid bD
  have c2 : wD.cell? ⟨w.heap.size, 2, none⟩ = some (.string o.text) := by rw [Lib.cell_of_heap bD]; rfl
  clear OD ND KD bD HD KD1 KAD hwD S1
  go_wp2_with fail
  go_region_held3 (fun w' => w'.cell? ⟨w.heap.size, 2, none⟩ = some (.string o.text))
    (first
      | exact c2
      | exact cE)
    (first
      | (go_at_call 31; refine (writeString_any B b _ ad bv g [] o.text _ (by exact HND.out) HA.out hB (by exact HHD.out) (by have := HF.out.text; simp; omega)).mono ?_; rintro e wE ⟨⟨nE, rfl⟩, ⟨bE, NE, HE⟩, KE⟩; have kbE := KE.kept (w := wD.drew) _ _ _ _ HbD.out (by decide); have cE : wE.cell? ⟨w.heap.size, 2, none⟩ = some (.string o.text) := by rw [Lib.cell_of_heap kbE]; rfl))
  have KE2 : Keep B [90, 5] wD wE := of_drewK KE
  have OE := HOD.out.keep KE2 (by decide) (by decide)
  have FIN : ∃ ov', NSt wE B b ov' (put [] o) g ∧ KeepO B w wE (.slice oa 0 oc) ov' := by
    rw [show put [] o = o :: [] from rfl]
    exact ⟨_, ⟨_, _, _, _, NE, .inr rfl, OE, HE, .inr ⟨o, [], ps, _, rfl, rfl, HPS.out, rfl⟩⟩, HKD.out.trans (keepO_of KE2 (by simp) (by decide) _)⟩
  have HFIN := Lib.hid FIN
  clear FIN OE KE2 KE kbE cE NE HE
  go_wp2_with fail
  go_end0
  exact ⟨rfl, HFIN.out⟩
end Go.Proofs.YtadookafnfnaoaaGreatDoor
