/- The document's own put: an attribute into a rising row. -/
import Derived.Test.YtpbdbiconcmcfaaAtLaws
import Derived.Laws.AppendOwnNone
namespace Go.Proofs.Ytpbdbiconcmcfaa
open Go.RowKit At

/-- A slice that is nil has no room. -/
def Proper (v : Value) : Prop := ∀ n cap, v = .slice none n cap → n = 0 ∧ cap = 0
theorem proper_own {w : World} {B k n : Nat} {e : TypeId} {v : Value} {xs : List Value} (h : w.ownsRow B e k v n xs) : Proper v := fun n' cap' he => by
  rcases h.2 with ⟨rfl, h0⟩ | ⟨g, cap, _, rfl, _⟩
  · simp only [Value.slice.injEq, true_and] at he
    exact ⟨he.1.symm, he.2.symm⟩
  · simp at he
theorem proper_sliced {a : Option Addr} {n cap k l m : Nat} (h : Proper (.slice a n cap)) (hl : l ≤ n) (hm : m ≤ cap) : Proper (sliced a k l m 2) := fun n' cap' he => by
  unfold sliced at he
  cases a with
  | none =>
    obtain ⟨h1, h2⟩ := h n cap rfl
    simp at he
    omega
  | some a =>
    simp only [Value.slice.injEq] at he
    split at he <;> simp at he
theorem flat_append (l m : List (ByteArray × ByteArray)) : flat (l ++ m) = flat l ++ flat m := by simp [flat]
theorem slice_to {w : World} {v : Value} {l : List (ByteArray × ByteArray)} (h : AtRow w v l) (hp : Proper v) (k : Nat) (hk : k ≤ l.length) :
    ∃ v', Proper v' ∧ (∀ W, (Instr.sliceAt 22 v none (some (.int .i64 (k : Int))) none).run Try.prog W = .ok v' W) ∧ AtRow w v' (l.take k) := by
  obtain ⟨a, cap, rfl, h1, h2, h3⟩ := h
  have hl : (l.take k).length = k := by rw [List.length_take]; omega
  refine ⟨sliced a 0 k cap 2, proper_sliced hp hk (Nat.le_refl _), fun W => by rw [run_sliceAt_slice W _ _ _ _ _ undAttrs, run_slice_h W _ _ _ _ undAttrs .i64 _ (by omega) (by omega), elemAttrs, Try.sizeOf33, Int.toNat_natCast]; rfl, ?_⟩
  unfold sliced
  refine ⟨_, cap, by rw [hl, Nat.sub_zero, Nat.sub_zero], by omega, h2, fun i hi => ?_⟩
  rw [hl] at hi
  obtain ⟨b, off, rfl, h4, h5, h6⟩ := h3 i (by omega)
  have e : (if cap = 0 then some (⟨b, off, none⟩ : Addr) else Option.map (fun x : Addr => x.add (0 * 2)) (some ⟨b, off, none⟩)) = some ⟨b, off, none⟩ := by
    split
    · rfl
    · simp [Addr.add]
  rw [e]
  exact ⟨b, off, rfl, h4, by rw [List.getElem_take]; exact h5, by rw [List.getElem_take]; exact h6⟩
theorem slice_from {w : World} {v : Value} {l : List (ByteArray × ByteArray)} (h : AtRow w v l) (hp : Proper v) (k : Nat) (hk : k ≤ l.length) :
    ∃ v', Proper v' ∧ (∀ W, (Instr.sliceAt 22 v (some (.int .i64 (k : Int))) none none).run Try.prog W = .ok v' W) ∧ AtRow w v' (l.drop k) := by
  obtain ⟨a, cap, rfl, h1, h2, h3⟩ := h
  have hl : (l.drop k).length = l.length - k := by rw [List.length_drop]
  refine ⟨sliced a k l.length cap 2, proper_sliced hp (Nat.le_refl _) (Nat.le_refl _), fun W => by rw [run_sliceAt_slice W _ _ _ _ _ undAttrs, run_slice_l W _ _ _ _ undAttrs .i64 _ (by omega) (by omega), elemAttrs, Try.sizeOf33, Int.toNat_natCast]; rfl, ?_⟩
  unfold sliced
  refine ⟨_, cap - k, by rw [hl], by omega, by omega, fun i hi => ?_⟩
  rw [hl] at hi
  obtain ⟨b, off, rfl, h4, h5, h6⟩ := h3 (k + i) (by omega)
  rw [if_neg (by omega)]
  have e1 : off + k * 2 + i * 2 = off + (k + i) * 2 := by omega
  refine ⟨b, off + k * 2, ?_, h4, by rw [e1, List.getElem_drop]; exact h5, by rw [e1, List.getElem_drop]; exact h6⟩
  by_cases h0 : k * 2 = 0
  · simp [Addr.add, h0]
  · simp [Addr.add, h0]
theorem wpList_sliced {P : Program} {ops : Array Oper} {Q : Exit → Act → World → Prop} {a : Act} {w : World} {rest : List Oper} {dst : Option Tmp} {t ty : TypeId} {pos : String} {after : Array Edge} {x : Operand} {lo hi mx : Option Operand} (v v' : Value)
    (hx : a.eval x = v) (hrun : (Instr.sliceAt t v (lo.map a.eval) (hi.map a.eval) (mx.map a.eval)).run P w = .ok v' w) (h : wpList P ops Q rest (a.put dst v') w) :
    wpList P ops Q ({ dst := dst, op := .slice t x lo hi mx, type := ty, pos := pos, after := after, guard := none } :: rest) a w :=
  wpList_plain rfl fun K hK => by
    subst hx
    have hk := hK _ _ h
    have e : (execOp a.eval { dst := dst, op := .slice t x lo hi mx, type := ty, pos := pos, after := after, guard := none }).run P w = .ok (.value v') w := by
      show (Sem.run P (do let v ← Instr.sliceAt t (a.eval x) (lo.map a.eval) (hi.map a.eval) (mx.map a.eval); pure (Next.value v)) w) = _
      rw [Sem.run_bind, hrun]
      rfl
    show Oper.upon _ _ _ _ _ _
    rw [e]
    exact hk

theorem cell_spot {w : World} {a : Addr} {u : Value} (h : w.cell? a = some u) : a.spot = none := World.cell?_spot h
theorem flat_one {l : List (ByteArray × ByteArray)} : ∀ u ∈ flat l, u.oneCell' = true := fun u hu => by
  unfold flat at hu
  obtain ⟨x, _, hx⟩ := List.mem_flatMap.1 hu
  simp at hx
  rcases hx with rfl | rfl <;> rfl
theorem flat_news {w : World} {a : Addr} {cap : Nat} {l : List (ByteArray × ByteArray)} (h : AtRow w (.slice (some a) l.length cap) l) : ∀ j u, (flat l)[j]? = some u → w.cell? (a.add j) = some u := by
  intro j u hu
  obtain ⟨a', cap', he, _, _, h3⟩ := h
  simp only [Value.slice.injEq, true_and] at he
  obtain ⟨rfl, _⟩ := he
  have hj : j < l.length * 2 := by
    rw [← flat_len]
    exact (List.getElem?_eq_some_iff.1 hu).1
  obtain ⟨b, off, he, _, h5, h6⟩ := h3 (j / 2) (by omega)
  simp only [Option.some.injEq] at he
  subst he
  rw [Go.WideShapes.add_plain]
  by_cases h2 : j % 2 = 0
  · obtain ⟨i, rfl⟩ : ∃ i, j = i * 2 := ⟨j / 2, by omega⟩
    have hi : i < l.length := by omega
    rw [flat_at0 hi] at hu
    have e : i * 2 / 2 = i := by omega
    simp only [e] at h5
    rw [h5]; exact hu
  · obtain ⟨i, rfl⟩ : ∃ i, j = i * 2 + 1 := ⟨j / 2, by omega⟩
    have hi : i < l.length := by omega
    rw [flat_at1 hi] at hu
    have e : (i * 2 + 1) / 2 = i := by omega
    simp only [e] at h6
    rw [← Nat.add_assoc, h6]; exact hu

/-- 'append(own, row...)'. -/
theorem wpList_append_row {w : World} {ops : Array Oper} {rest : List Oper} {o : Oper} {a : Act} {Q : Exit → Act → World → Prop} (hgd : o.guard = none) (s x : Operand)
    (ho : o.op = .call { callee := .builtin .append, args := #[s, x], argTypes := #[22, 22] })
    (base : Nat) (v v' : Value) (n : Nat) (xs : List Value) (m : List (ByteArray × ByteArray)) (hs : a.eval s = v) (hx : a.eval x = v') (hown : w.ownsRow base 33 2 v n xs) (hrow : AtRow w v' m) (hp : Proper v')
    (N : Nat) (ys : List Value) (hN : n + m.length = N) (hy : xs ++ flat m = ys) (h63 : N ≤ 4096) (hbase : base ≤ w.heap.size)
    (h : ∀ u w', w'.ownsRow base 33 2 u N ys → w.grownBy w' v.ownBlock → wpList Try.prog ops Q rest (a.put o.dst u) w') : wpList Try.prog ops Q (o :: rest) a w := by
  subst hN
  subst hy
  have h63' : n + m.length ≤ maxLen := by unfold maxLen; omega
  have hbytes : (n + m.length) * 32 ≤ 140737488355328 := by omega
  obtain ⟨i0, hi, hz0, hz1, hz2⟩ := info_parts infoAttr
  have hrow' := hrow
  obtain ⟨ad, cap, rfl, h1, h2, h3⟩ := hrow
  cases ad with
  | none =>
    have hm : m = [] := by
      cases m with
      | nil => rfl
      | cons y r =>
        obtain ⟨b, off, he, _⟩ := h3 0 (by simp)
        cases he
    subst hm
    obtain ⟨_, rfl⟩ := hp _ _ rfl
    refine wpList_append_own_none hgd s x 22 ho base 33 i0 2 Try.underlying22 hi v n xs hs hown hx ?_
    refine h v w ?_ ⟨rfl, rfl, rfl, Nat.le_refl _, fun _ _ _ => rfl⟩
    have : xs ++ flat [] = xs := by simp [flat]
    rw [this]; exact hown
  | some ad =>
    refine wpList_append_own w hgd s x 22 ho base 33 i0 (.agg #[.string ⟨#[]⟩, .string ⟨#[]⟩]) 2 32 Try.underlying22 hi hz0 hz1 hz2 rfl (by decide) v n xs hs hown ad m.length cap (flat m) hx (flat_len m) (flat_news hrow') flat_one h63' hbytes hbase
      fun u w' h1 h2 _ => h u w' h1 h2

/-- 'append(own, one)'. -/
theorem wpList_append_one {w : World} {ops : Array Oper} {rest : List Oper} {o : Oper} {a : Act} {Q : Exit → Act → World → Prop} (hgd : o.guard = none) (s x : Operand)
    (ho : o.op = .call { callee := .builtin .append, args := #[s, x], argTypes := #[22, 22] })
    (base : Nat) (v : Value) (n : Nat) (xs : List Value) (p : ByteArray × ByteArray) (hs : a.eval s = v) (hx : a.eval x = .slice (some ⟨w.heap.size, 0, none⟩) 1 1) (hown : w.ownsRow base 33 2 v n xs)
    (N : Nat) (ys : List Value) (hN : n + 1 = N) (hy : xs ++ [.string p.1, .string p.2] = ys) (h63 : N ≤ 4096) (hbase : base ≤ w.heap.size)
    (h : ∀ u w', w'.ownsRow base 33 2 u N ys → (w.alloc (.cells #[.string p.1, .string p.2] 33)).grownBy w' v.ownBlock → wpList Try.prog ops Q rest (a.put o.dst u) w') :
    wpList Try.prog ops Q (o :: rest) a (w.alloc (.cells #[.string p.1, .string p.2] 33)) := by
  subst hN
  subst hy
  have h63' : n + 1 ≤ maxLen := by unfold maxLen; omega
  obtain ⟨i0, hi, hz0, hz1, hz2⟩ := info_parts infoAttr
  refine wpList_append_own _ hgd s x 22 ho base 33 i0 (.agg #[.string ⟨#[]⟩, .string ⟨#[]⟩]) 2 32 Try.underlying22 hi hz0 hz1 hz2 rfl (by decide) v n xs hs (hown.alloc _) ⟨w.heap.size, 0, none⟩ 1 1 [.string p.1, .string p.2] hx rfl (new_at2 _ _ _ _) (fun u hu => by simp at hu; rcases hu with rfl | rfl <;> rfl) h63' (by omega) (by simp; omega)
    fun u w' h1 h2 _ => h u w' h1 h2

/-- Where it goes. -/
def pos (l : List (K × V)) (p : K × V) : Nat := (l.takeWhile fun x => ltB x.1 p.1).length
theorem pos_cons (q : K × V) (r : List (K × V)) (p : K × V) : pos (q :: r) p = if ltB q.1 p.1 = true then pos r p + 1 else 0 := by
  unfold pos
  rw [List.takeWhile_cons]
  split <;> rfl
theorem pos_le (l : List (K × V)) (p : K × V) : pos l p ≤ l.length := by
  induction l with
  | nil => exact Nat.le_refl _
  | cons q r ih =>
    rw [pos_cons, List.length_cons]
    split <;> omega
theorem put_pos (l : List (K × V)) (p : K × V) : put ltB l p = l.take (pos l p) ++ p :: l.drop (pos l p) := by
  induction l with
  | nil => rfl
  | cons q r ih =>
    rw [put, pos_cons]
    split
    · rw [ih]; rfl
    · rfl
theorem pos_before (l : List (K × V)) (p : K × V) : ∀ k (h : k < l.length), k < pos l p → ltB l[k].1 p.1 = true := by
  induction l with
  | nil => intro k h; simp at h
  | cons q r ih =>
    intro k h hk
    rw [pos_cons] at hk
    split at hk
    · rename_i hq
      cases k with
      | zero => exact hq
      | succ k => exact ih k (by simpa using h) (by omega)
    · omega
theorem pos_at (l : List (K × V)) (p : K × V) : ∀ k (h : k < l.length), k = pos l p → ltB l[k].1 p.1 = false := by
  induction l with
  | nil => intro k h; simp at h
  | cons q r ih =>
    intro k h hk
    rw [pos_cons] at hk
    split at hk
    · rename_i hq
      subst hk
      exact ih (pos r p) (by simpa using h) rfl
    · rename_i hq
      subst hk
      simpa using hq
theorem own0 (W : World) (k : Nat) : ((W.drewN k).alloc (.cells #[] 33)).ownsRow W.heap.size 33 2 (.slice (some ⟨W.heap.size, 0, none⟩) 0 0) 0 [] := World.ownsRow_lit (W.drewN k) #[] 0 (Nat.le_refl _) (Nat.zero_le _) rfl
theorem bel0 (W : World) (k : Nat) : Below W.heap.size W ((W.drewN k).alloc (.cells #[] 33)) := (below_drewN (Below.refl _ _) k).alloc (Nat.le_refl _) _
theorem own_ge {w : World} {B k n : Nat} {e : TypeId} {v : Value} {xs : List Value} (h : w.ownsRow B e k v n xs) : ∀ j, v.ownBlock = some j → B ≤ j := fun j hj => (h.lt j hj).1
theorem new_at2' {w : World} {u v : Value} {e : TypeId} : (w.alloc (.cells #[u, v] e)).cell? ⟨w.heap.size, 0, none⟩ = some u ∧ (w.alloc (.cells #[u, v] e)).cell? ⟨w.heap.size, 1, none⟩ = some v := ⟨by go_simp, by go_simp⟩

set_option maxRecDepth 100000 in
set_option maxHeartbeats 4000000 in
theorem put_any (v : Value) (l : List (ByteArray × ByteArray)) (p : ByteArray × ByteArray) (w : World) (hv : AtRow w v l) (hp : Proper v) (hl : l.length ≤ 64) :
    Calls Try.prog 28 #[v, .agg #[.string p.1, .string p.2]] w (MergeOut w (put ltB l p)) := by
  have hvW := hv.below ((Below.refl _ _).alloc (Nat.le_refl _) (.cells #[.string p.1, .string p.2] 33))
  obtain ⟨vt, pt, st, rt⟩ := slice_to hvW hp (pos l p) (pos_le l p)
  obtain ⟨vd, pd, sd, rd⟩ := slice_from hvW hp (pos l p) (pos_le l p)
  obtain ⟨a, cap, rfl, h1, h2, h3⟩ := id hvW
  have hn : l.length ≤ 9223372036854775807 := by omega
  have Hput := Lib.hid (put_pos l p)
  have Hbefore := Lib.hid (pos_before l p)
  have Hat := Lib.hid (pos_at l p)
  have Hposle := Lib.hid (pos_le l p)
  have Hl := Lib.hid hl
  have Hrt := Lib.hid rt
  have Hrd := Lib.hid rd
  have H3 := Lib.hid h3
  generalize pos l p = K at *
  have hKn : K ≤ 9223372036854775807 := by have := Hposle.out; omega
  clear hv hvW rt rd h3 hl
  go_enter Try.func28, Try.ntmps28
  go_wp2_with fail
  obtain ⟨W, hW⟩ : ∃ W, W = w.alloc (.cells #[.string p.1, .string p.2] 33) := ⟨_, rfl⟩
  rw [← hW] at H3 Hrt Hrd ⊢
  have hbox : W.cell? ⟨w.heap.size, 0, none⟩ = some (.string p.1) ∧ W.cell? ⟨w.heap.size, 1, none⟩ = some (.string p.2) := by rw [hW]; exact new_at2'
  have hWs : W.heap.size = w.heap.size + 1 := by rw [hW]; simp
  have BW := Lib.hid (show Below w.heap.size w W by rw [hW]; exact (Below.refl _ _).alloc (Nat.le_refl _) _)
  have HWs := Lib.hid hWs
  have x0 := hbox.1
  have x1 := hbox.2
  have hlt0 : w.heap.size < W.heap.size := by omega
  clear hW hbox hWs
  go_loopw [5] (fun i wr => ∃ n m : Nat, i = .int .i64 (n : Int) ∧ n ≤ K ∧ wr = W.drewN m) (fun i _ => l.length - (intOf i).toNat)
  case atStart => exact ⟨0, 0, rfl, Nat.zero_le _, rfl⟩
  case round =>
    obtain ⟨n, m, rfl, hk, rfl⟩ := hrel
    by_cases hlt : n < l.length
    · have hlt' : (n : Int) < (l.length : Int) := by omega
      obtain ⟨b, off, rfl, _, y1, _⟩ := H3.out n hlt
      by_cases hK : n < K
      · have t1 : Op.bytesLess l[n].1.toList p.1.toList = true := Hbefore.out n hlt hK
        go_wp2_with fail
        go_quiet (fail)
        go_wp2_with fail
        go_roundw
        case rel => exact ⟨n + 1, _, by go_num, by omega, rfl⟩
        case measure => simp [intOf]; omega
      · have hnK : n = K := by omega
        have t1 : Op.bytesLess l[n].1.toList p.1.toList = false := Hat.out n hlt hnK
        subst hnK
        clear hk hK
        go_wp2_with fail
        go_quiet (fail)
        have hl := Hl.out
        have hle := Hposle.out
        have e1 : 0 + (l.take n).length = n := by rw [List.length_take]; omega
        have e2 : ([] : List Value) ++ flat (l.take n) = flat (l.take n) := rfl
        have e3 : flat (l.take n) ++ [.string p.1, .string p.2] = flat (l.take n ++ [p]) := (flat_snoc _ _).symm
        have e4 : n + 1 + (l.drop n).length = (put ltB l p).length := by rw [Hput.out, List.length_append, List.length_cons, List.length_take, List.length_drop]; omega
        have e5 : flat (l.take n ++ [p]) ++ flat (l.drop n) = flat (put ltB l p) := by rw [Hput.out, ← flat_append, List.append_assoc]; rfl
        have e6 : (put ltB l p).length ≤ 4096 := by rw [put_len]; omega
        have e7 : n + 1 ≤ 4096 := by omega
        have e8 : n ≤ 4096 := by omega
        have E1 := Lib.hid e1
        have E2 := Lib.hid e2
        have E3 := Lib.hid e3
        have E4 := Lib.hid e4
        have E5 := Lib.hid e5
        have E6 := Lib.hid (And.intro e6 (And.intro e7 e8))
        clear e1 e2 e3 e4 e5 e6 e7 e8 hl hle t1
        go_wp2_with (first
          | (refine wpList_sliced (.slice (some ⟨b, off, none⟩) l.length cap) vt rfl (st _) ?_)
          | (at_builtin; refine wpList_append_row rfl (.tmp 23) (.tmp 26) rfl W.heap.size (.slice (some ⟨W.heap.size, 0, none⟩) 0 0) vt 0 [] (l.take n) rfl rfl (own0 W _) (Hrt.out.below (bel0 W _)) pt n _ E1.out E2.out E6.out.2.2 (bel0 W _).size ?_; intro u1 w1 o1 g1; have B1 := (bel0 W _).grown g1 (bel0 W _).size (own_ge (own0 W 0)); have x2 : w1.cell? ⟨w.heap.size, 0, none⟩ = some (.string p.1) := (B1.cell (by exact hlt0)).trans x0; have x3 : w1.cell? ⟨w.heap.size, 1, none⟩ = some (.string p.2) := (B1.cell (by exact hlt0)).trans x1; have HB1 := Lib.hid B1; have O1 := Lib.hid o1; clear g1 o1 B1)
          | (at_builtin; refine wpList_append_one rfl (.tmp 28) (.tmp 30) rfl W.heap.size u1 n (flat (l.take n)) p rfl rfl O1.out (n + 1) _ rfl E3.out E6.out.2.1 HB1.out.size ?_; intro u2 w2 o2 g2; have B2 := (HB1.out.alloc HB1.out.size _).grown g2 (Nat.le_trans HB1.out.size (by simp)) (own_ge O1.out); have HB2 := Lib.hid B2; have O2 := Lib.hid o2; clear g2 o2 B2)
          | (refine wpList_sliced (.slice (some ⟨b, off, none⟩) l.length cap) vd rfl (sd _) ?_)
          | (at_builtin; refine wpList_append_row rfl (.tmp 32) (.tmp 35) rfl W.heap.size u2 vd (n + 1) (flat (l.take n ++ [p])) (l.drop n) rfl rfl O2.out (Hrd.out.below HB2.out) pd (put ltB l p).length (flat (put ltB l p)) E4.out E5.out E6.out.1 HB2.out.size ?_; intro u3 w3 o3 g3; have B3 := HB2.out.grown g3 HB2.out.size (own_ge O2.out); have HB3 := Lib.hid B3; have O3 := Lib.hid o3; clear g3 o3 B3))
        go_ret
        exact ⟨_, rfl, own_base O3.out (by have := HWs.out; omega), BW.out.trans (HB3.out.mono BW.out.size)⟩
    · have hnK : n = K := by have := Hposle.out; omega
      have t1 : n = l.length := by have := Hposle.out; omega
      subst hnK
      have T1 := Lib.hid t1
      have t2 : decide ((n : Int) < (l.length : Int)) = false := decide_eq_false (by omega)
      have t3 : decide (n < l.length) = false := decide_eq_false (by omega)
      clear hk hlt
      go_wp2_with fail
      go_quiet (fail)
      have hl := Hl.out
      have hle := Hposle.out
      have e1 : 0 + (l.take n).length = n := by rw [List.length_take]; omega
      have e2 : ([] : List Value) ++ flat (l.take n) = flat (l.take n) := rfl
      have e3 : flat (l.take n) ++ [.string p.1, .string p.2] = flat (l.take n ++ [p]) := (flat_snoc _ _).symm
      have e4 : n + 1 + (l.drop n).length = (put ltB l p).length := by rw [Hput.out, List.length_append, List.length_cons, List.length_take, List.length_drop]; omega
      have e5 : flat (l.take n ++ [p]) ++ flat (l.drop n) = flat (put ltB l p) := by rw [Hput.out, ← flat_append, List.append_assoc]; rfl
      have e6 : (put ltB l p).length ≤ 4096 := by rw [put_len]; omega
      have e7 : n + 1 ≤ 4096 := by omega
      have e8 : n ≤ 4096 := by omega
      have E1 := Lib.hid e1
      have E2 := Lib.hid e2
      have E3 := Lib.hid e3
      have E4 := Lib.hid e4
      have E5 := Lib.hid e5
      have E6 := Lib.hid (And.intro e6 (And.intro e7 e8))
      clear e1 e2 e3 e4 e5 e6 e7 e8 hl hle t1
      go_wp2_with (first
        | (refine wpList_sliced (.slice a l.length cap) vt rfl (st _) ?_)
        | (at_builtin; refine wpList_append_row rfl (.tmp 23) (.tmp 26) rfl W.heap.size (.slice (some ⟨W.heap.size, 0, none⟩) 0 0) vt 0 [] (l.take n) rfl rfl (own0 W _) (Hrt.out.below (bel0 W _)) pt n _ E1.out E2.out E6.out.2.2 (bel0 W _).size ?_; intro u1 w1 o1 g1; have B1 := (bel0 W _).grown g1 (bel0 W _).size (own_ge (own0 W 0)); have x2 : w1.cell? ⟨w.heap.size, 0, none⟩ = some (.string p.1) := (B1.cell (by exact hlt0)).trans x0; have x3 : w1.cell? ⟨w.heap.size, 1, none⟩ = some (.string p.2) := (B1.cell (by exact hlt0)).trans x1; have HB1 := Lib.hid B1; have O1 := Lib.hid o1; clear g1 o1 B1)
        | (at_builtin; refine wpList_append_one rfl (.tmp 28) (.tmp 30) rfl W.heap.size u1 n (flat (l.take n)) p rfl rfl O1.out (n + 1) _ rfl E3.out E6.out.2.1 HB1.out.size ?_; intro u2 w2 o2 g2; have B2 := (HB1.out.alloc HB1.out.size _).grown g2 (Nat.le_trans HB1.out.size (by simp)) (own_ge O1.out); have HB2 := Lib.hid B2; have O2 := Lib.hid o2; clear g2 o2 B2)
        | (refine wpList_sliced (.slice a l.length cap) vd rfl (sd _) ?_)
        | (at_builtin; refine wpList_append_row rfl (.tmp 32) (.tmp 35) rfl W.heap.size u2 vd (n + 1) (flat (l.take n ++ [p])) (l.drop n) rfl rfl O2.out (Hrd.out.below HB2.out) pd (put ltB l p).length (flat (put ltB l p)) E4.out E5.out E6.out.1 HB2.out.size ?_; intro u3 w3 o3 g3; have B3 := HB2.out.grown g3 HB2.out.size (own_ge O2.out); have HB3 := Lib.hid B3; have O3 := Lib.hid o3; clear g3 o3 B3))
      go_ret
      exact ⟨_, rfl, own_base O3.out (by have := HWs.out; omega), BW.out.trans (HB3.out.mono BW.out.size)⟩
end Go.Proofs.Ytpbdbiconcmcfaa
