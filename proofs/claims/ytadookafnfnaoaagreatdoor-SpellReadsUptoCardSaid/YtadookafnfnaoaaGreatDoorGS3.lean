import Derived.Test.YtadookafnfnaoaaGreatDoorGS2
import Derived.Test.YtadookafnfnaoaaGreatDoorGS1
import Derived.Laws.OwnMore
import Derived.Laws.AppendOwnNone
import Derived.OwnWalk
import Derived.Lib.Hide
import Derived.Deep.RegionHeld3
/- Rows of attributes that a call owns, and what appends, cuts and stores make of them. -/
namespace Go.Proofs.YtadookafnfnaoaaGreatDoor
open Go.RowKit At

def flat (l : List (ByteArray × ByteArray)) : List Value := l.flatMap fun x => [Value.string x.1, Value.string x.2]
theorem flat_len (l : List (ByteArray × ByteArray)) : (flat l).length = l.length * 2 := by
  induction l with
  | nil => rfl
  | cons x r ih => simp [flat] at ih ⊢; omega
theorem flat_snoc (l : List (ByteArray × ByteArray)) (z : ByteArray × ByteArray) : flat (l ++ [z]) = flat l ++ [.string z.1, .string z.2] := by simp [flat]
theorem undAttrs : Tryz.prog.underlying 46 = some (.slice (Tryz.prog.elem 46)) := by kernel_rfl
theorem elemAttrs : Tryz.prog.elem 46 = 53 := by kernel_rfl
theorem infoAttr : (Tryz.prog.info? 53).map (fun i => (i.zero, i.size, i.bytes)) = some (some (.agg #[.string ⟨#[]⟩, .string ⟨#[]⟩]), 2, 32) := by kernel_rfl
theorem row_below {w w' : World} {B n k : Nat} {e : TypeId} {v : Value} {xs : List Value} (h : w.ownsRow B e k v n xs) (hb : Below w.heap.size w w') : w'.ownsRow B e k v n xs :=
  ⟨h.1, h.2.imp id fun ⟨g, cap, cur, a, b, c, d⟩ => ⟨g, cap, cur, a, b, (hb.block g (Array.getElem?_eq_some_iff.1 c).1).trans c, d⟩⟩
theorem of_drew {a w : World} (h : Below a.drew.heap.size a.drew w) : Below a.heap.size a w := ⟨h.os, h.tape, h.output, h.size, h.block⟩
theorem new_at2 (w : World) (u v : Value) (e : TypeId) : ∀ j x, [u, v][j]? = some x → (w.alloc (.cells #[u, v] e)).cell? ((⟨w.heap.size, 0, none⟩ : Addr).add j) = some x := by
  intro j x hj
  match j, hj with
  | 0, hj => simp at hj; subst hj; go_simp
  | 1, hj => simp at hj; subst hj; go_simp
  | j + 2, hj => simp at hj
def MergeOut (W : World) (R : List (ByteArray × ByteArray)) (e : Ending) (w' : World) : Prop := ∃ v, e = .returned v ∧ w'.ownsRow W.heap.size 53 2 v R.length (flat R) ∧ Below W.heap.size W w'
theorem ownsRow_open {w : World} {base k : Nat} {e : TypeId} {v : Value} {n : Nat} {xs : List Value} (h : w.ownsRow base e k v n xs) (hn : 0 < n) : ∃ g cap, v = .slice (some ⟨g, 0, none⟩) n cap := by
  rcases h.2 with ⟨_, h⟩ | ⟨g, cap, _, hv, _⟩
  · omega
  · exact ⟨g, cap, hv⟩
theorem flat_at0 {l : List (ByteArray × ByteArray)} {i : Nat} (h : i < l.length) : (flat l)[i * 2]? = some (.string l[i].1) := by
  induction l generalizing i with
  | nil => simp at h
  | cons x r ih =>
    cases i with
    | zero => rfl
    | succ i =>
      have e : (i + 1) * 2 = i * 2 + 1 + 1 := by omega
      rw [e]
      exact ih (by simpa using h)
theorem flat_at1 {l : List (ByteArray × ByteArray)} {i : Nat} (h : i < l.length) : (flat l)[i * 2 + 1]? = some (.string l[i].2) := by
  induction l generalizing i with
  | nil => simp at h
  | cons x r ih =>
    cases i with
    | zero => rfl
    | succ i =>
      have e : (i + 1) * 2 + 1 = i * 2 + 1 + 1 + 1 := by omega
      rw [e]
      exact ih (by simpa using h)
def Sized (l : List (K × V)) : Prop := ∀ x ∈ l, x.1.size ≤ maxLen ∧ x.2.size ≤ maxLen
theorem own_base {w : World} {B C k n : Nat} {e : TypeId} {v : Value} {xs : List Value} (h : w.ownsRow B e k v n xs) (hc : C ≤ B) : w.ownsRow C e k v n xs :=
  ⟨h.1, h.2.imp id fun ⟨g, cap, cur, a, b, c⟩ => ⟨g, cap, cur, a, Nat.le_trans hc b, c⟩⟩
theorem own_slice {w : World} {B k n : Nat} {e : TypeId} {v : Value} {xs : List Value} (h : w.ownsRow B e k v n xs) : ∃ a cap, v = .slice a n cap := by
  rcases h.2 with ⟨rfl, h0⟩ | ⟨g, cap, _, rfl, _⟩
  · exact ⟨none, 0, by rw [h0]⟩
  · exact ⟨_, _, rfl⟩
/-- A row of one's own is a row in memory. -/
theorem row_of_own {w : World} {B : Nat} {v : Value} {R : List (K × V)} (h : w.ownsRow B 53 2 v R.length (flat R)) : AtRow w v R := by
  rcases h.2 with ⟨rfl, h0⟩ | ⟨g, cap, cur, rfl, _, hg, hn, hm, _⟩
  · exact ⟨none, 0, by rw [h0], by omega, by simp [maxLen], fun i hi => by omega⟩
  · refine ⟨_, cap, rfl, hn, hm, fun i hi => ⟨g, 0, rfl, (Array.getElem?_eq_some_iff.1 hg).1, ?_, ?_⟩⟩
    · rw [Nat.zero_add, h.cellAt _ (by omega), flat_at0 hi]
    · rw [Nat.zero_add, h.cellAt _ (by omega), flat_at1 hi]
/-- A slice that is nil has no room. -/
def Proper (v : Value) : Prop := ∀ n cap, v = .slice none n cap → n = 0 ∧ cap = 0
theorem proper_own {w : World} {B k n : Nat} {e : TypeId} {v : Value} {xs : List Value} (h : w.ownsRow B e k v n xs) : Proper v := fun n' cap' he => by
  rcases h.2 with ⟨rfl, h0⟩ | ⟨g, cap, _, rfl, _⟩
  · simp only [Value.slice.injEq, true_and] at he
    exact ⟨he.1.symm, he.2.symm⟩
  · simp at he
theorem flat_append (l m : List (ByteArray × ByteArray)) : flat (l ++ m) = flat l ++ flat m := by simp [flat]
theorem wpList_sliced {P : Program} {ops : Array Oper} {Q : Exit → Act → World → Prop} {a : Act} {w : World} {rest : List Oper} {dst : Option Tmp} {t ty : TypeId} {pos : String} {after : Array Edge} {x : Operand} {lo hi mx : Option Operand} (v v' : Value)
    (hx : a.eval x = v) (hrun : (Instr.sliceAt t v (lo.map a.eval) (hi.map a.eval) (mx.map a.eval)).run P w = .ok v' w) (h : wpList P ops Q rest (a.put dst v') w) :
    wpList P ops Q ({ dst := dst, op := .slice t x lo hi mx, type := ty, pos := pos, after := after, guard := none } :: rest) a w :=
  wpList_plain rfl fun K hK => by
    subst hx
    have hk := hK _ _ h
    have e : (execOp a.eval { dst := dst, op := .slice t x lo hi mx, type := ty, pos := pos, after := after, guard := none }).run P w = .ok (.value v') w := by
      show (Sem.run P (do let v ← Instr.sliceAt t (a.eval x) (lo.map a.eval) (hi.map a.eval) (mx.map a.eval); pure (Next.value v)) w) = _
      rw [Sem.run_bind, hrun]
      rfl
    show Oper.upon _ _ _ _ _ _
    rw [e]
    exact hk
theorem flat_one {l : List (ByteArray × ByteArray)} : ∀ u ∈ flat l, u.oneCell' = true := fun u hu => by
  unfold flat at hu
  obtain ⟨x, _, hx⟩ := List.mem_flatMap.1 hu
  simp at hx
  rcases hx with rfl | rfl <;> rfl
theorem flat_news {w : World} {a : Addr} {cap : Nat} {l : List (ByteArray × ByteArray)} (h : AtRow w (.slice (some a) l.length cap) l) : ∀ j u, (flat l)[j]? = some u → w.cell? (a.add j) = some u := by
  intro j u hu
  obtain ⟨a', cap', he, _, _, h3⟩ := h
  simp only [Value.slice.injEq, true_and] at he
  obtain ⟨rfl, _⟩ := he
  have hj : j < l.length * 2 := by
    rw [← flat_len]
    exact (List.getElem?_eq_some_iff.1 hu).1
  obtain ⟨b, off, he, _, h5, h6⟩ := h3 (j / 2) (by omega)
  simp only [Option.some.injEq] at he
  subst he
  rw [Go.WideShapes.add_plain]
  by_cases h2 : j % 2 = 0
  · obtain ⟨i, rfl⟩ : ∃ i, j = i * 2 := ⟨j / 2, by omega⟩
    have hi : i < l.length := by omega
    rw [flat_at0 hi] at hu
    have e : i * 2 / 2 = i := by omega
    simp only [e] at h5
    rw [h5]; exact hu
  · obtain ⟨i, rfl⟩ : ∃ i, j = i * 2 + 1 := ⟨j / 2, by omega⟩
    have hi : i < l.length := by omega
    rw [flat_at1 hi] at hu
    have e : (i * 2 + 1) / 2 = i := by omega
    simp only [e] at h6
    rw [← Nat.add_assoc, h6]; exact hu
/-- 'append(own, row...)'. -/
theorem wpList_append_row {w : World} {ops : Array Oper} {rest : List Oper} {o : Oper} {a : Act} {Q : Exit → Act → World → Prop} (hgd : o.guard = none) (s x : Operand)
    (ho : o.op = .call { callee := .builtin .append, args := #[s, x], argTypes := #[46, 46] })
    (base : Nat) (v v' : Value) (n : Nat) (xs : List Value) (m : List (ByteArray × ByteArray)) (hs : a.eval s = v) (hx : a.eval x = v') (hown : w.ownsRow base 53 2 v n xs) (hrow : AtRow w v' m) (hp : Proper v')
    (N : Nat) (ys : List Value) (hN : n + m.length = N) (hy : xs ++ flat m = ys) (h63 : N ≤ 4096) (hbase : base ≤ w.heap.size)
    (h : ∀ u w', w'.ownsRow base 53 2 u N ys → w.grownBy w' v.ownBlock → wpList Tryz.prog ops Q rest (a.put o.dst u) w') : wpList Tryz.prog ops Q (o :: rest) a w := by
  subst hN
  subst hy
  have h63' : n + m.length ≤ maxLen := by unfold maxLen; omega
  have hbytes : (n + m.length) * 32 ≤ 140737488355328 := by omega
  obtain ⟨i0, hi, hz0, hz1, hz2⟩ := info_parts infoAttr
  have hrow' := hrow
  obtain ⟨ad, cap, rfl, h1, h2, h3⟩ := hrow
  cases ad with
  | none =>
    have hm : m = [] := by
      cases m with
      | nil => rfl
      | cons y r =>
        obtain ⟨b, off, he, _⟩ := h3 0 (by simp)
        cases he
    subst hm
    obtain ⟨_, rfl⟩ := hp _ _ rfl
    refine wpList_append_own_none hgd s x 46 ho base 53 i0 2 Tryz.underlying46 hi v n xs hs hown hx ?_
    refine h v w ?_ ⟨rfl, rfl, rfl, Nat.le_refl _, fun _ _ _ => rfl⟩
    have : xs ++ flat [] = xs := by simp [flat]
    rw [this]; exact hown
  | some ad =>
    refine wpList_append_own w hgd s x 46 ho base 53 i0 (.agg #[.string ⟨#[]⟩, .string ⟨#[]⟩]) 2 32 Tryz.underlying46 hi hz0 hz1 hz2 rfl (by decide) v n xs hs hown ad m.length cap (flat m) hx (flat_len m) (flat_news hrow') flat_one h63' hbytes hbase
      fun u w' h1 h2 _ => h u w' h1 h2
theorem own_ge {w : World} {B k n : Nat} {e : TypeId} {v : Value} {xs : List Value} (h : w.ownsRow B e k v n xs) : ∀ j, v.ownBlock = some j → B ≤ j := fun j hj => (h.lt j hj).1
theorem grown_refl (w : World) (row : Option Nat) : w.grownBy w row := ⟨rfl, rfl, rfl, Nat.le_refl _, fun _ _ _ => rfl⟩
theorem grown_trans {a b c : World} {row : Option Nat} (h : a.grownBy b row) (k : b.grownBy c row) : a.grownBy c row :=
  ⟨k.os.trans h.os, k.tape.trans h.tape, k.output.trans h.output, Nat.le_trans h.size k.size, fun i hi hne => (k.block i (Nat.lt_of_lt_of_le hi h.size) hne).trans (h.block i hi hne)⟩
theorem only_drewN {a w : World} {row : Option Nat} (h : a.grownBy w row) (n : Nat) : a.grownBy (w.drewN n) row := ⟨h.os, h.tape, h.output, h.size, h.block⟩
theorem only_setCell {a w : World} {g : Nat} (h : a.grownBy w (some g)) {p : Addr} (hp : p.block = g) (u : Value) : a.grownBy (w.setCell p u) (some g) :=
  ⟨h.os, h.tape, h.output, by simpa [World.setCell] using h.size, fun i hi hne => (Below.heap_setCell w p u i (by rintro rfl; exact hne (by rw [hp]))).trans (h.block i hi hne)⟩
theorem news_any {W : World} {ao : Option Addr} {cap : Nat} {l : List (ByteArray × ByteArray)} (h : AtRow W (.slice ao l.length cap) l) : ∀ ad, ao = some ad → ∀ j u, (flat l)[j]? = some u → W.cell? (ad.add j) = some u := by
  intro ad had
  subst had
  exact flat_news h
/-- Cutting one's own row from its head. -/
theorem slice_own (g n cap k : Nat) (hk : k ≤ cap) (W : World) : (Instr.sliceAt 46 (.slice (some ⟨g, 0, none⟩) n cap) none (some (.int .i64 (k : Int))) none).run Tryz.prog W = .ok (.slice (some ⟨g, 0, none⟩) k cap) W := by
  rw [run_sliceAt_slice W _ _ _ _ _ undAttrs, run_slice_h W _ _ _ _ undAttrs .i64 _ (by omega) (by omega), elemAttrs, Tryz.sizeOf53, Int.toNat_natCast]
  have e : sliced (some ⟨g, 0, none⟩) 0 k cap 2 = .slice (some ⟨g, 0, none⟩) k cap := by
    unfold sliced
    split <;> simp [Addr.add]
  rw [← e]; rfl
end Go.Proofs.YtadookafnfnaoaaGreatDoor
/- Are two rows of attributes the same: the program's. -/
namespace Go.Proofs.YtadookafnfnaoaaGreatDoor
open Go.RowKit

set_option maxHeartbeats 2000000 in
theorem equal_any (v u : Value) (l m : List (ByteArray × ByteArray)) (w : World) (hv : AtRow w v l) (hu : AtRow w u m) :
    Calls Tryz.prog 98 #[v, u] w fun e w' => e = .returned (.bool (sameB l m)) ∧ ∃ k, w' = w.drewN k := by
  obtain ⟨a, cap, rfl, h1, h2, h3⟩ := hv
  obtain ⟨a', cap', rfl, h1', h2', h3'⟩ := hu
  have hn : l.length ≤ 9223372036854775807 := Nat.le_trans h1 h2
  have hn' : m.length ≤ 9223372036854775807 := Nat.le_trans h1' h2'
  have H3 := Lib.hid h3
  have H3' := Lib.hid h3'
  clear h3 h3'
  by_cases hlen : l.length = m.length
  · have Hlen := Lib.hid hlen
    have hle2 : ((l.length : Int) == (m.length : Int)) = true := by rw [hlen]; simp
    have hle3 : ((l.length : Int) != (m.length : Int)) = false := by rw [hlen]; simp
    clear hlen
    go_enter Tryz.func98, Tryz.ntmps98
    go_wp2_with fail
    go_loopw [13] (fun i wr => ∃ n k : Nat, i = .int .i64 (n : Int) ∧ n ≤ l.length ∧ (∀ j (h1 : j < l.length) (h2 : j < m.length), j < n → l[j] = m[j]) ∧ wr = w.drewN k) (fun i _ => l.length - (intOf i).toNat)
    case atStart => exact ⟨0, 0, rfl, by omega, fun j _ _ h => by omega, rfl⟩
    case round =>
      obtain ⟨n, k, rfl, hk, hall, rfl⟩ := hrel
      have Hall := Lib.hid hall
      clear hall
      by_cases hlt : n < l.length
      · have hlt2 : n < m.length := by have := Hlen.out; omega
        have hlt' : (n : Int) < (l.length : Int) := by omega
        have hlt2' : (n : Int) < (m.length : Int) := by omega
        obtain ⟨b, off, rfl, _, x1, z1⟩ := H3.out n hlt
        obtain ⟨b', off', rfl, _, x2, z2⟩ := H3'.out n hlt2
        by_cases hk1 : l[n].1 = m[n].1
        · by_cases hk2 : l[n].2 = m[n].2
          · have step : ∀ j (h1 : j < l.length) (h2 : j < m.length), j < n + 1 → l[j] = m[j] := fun j hj1 hj2 hjk => by
              by_cases e : j = n
              · subst e; exact Prod.ext hk1 hk2
              · exact Hall.out j hj1 hj2 (by omega)
            have Step := Lib.hid step
            have t1 : (l[n].1.toList == m[n].1.toList) = true := by rw [hk1]; simp
            have t2 : (l[n].2.toList == m[n].2.toList) = true := by rw [hk2]; simp
            clear step Hall hk1 hk2
            go_wp2_with fail
            go_quiet (fail)
            go_wp2_with fail
            go_roundw
            case rel => exact ⟨n + 1, _, by go_num, by omega, Step.out, rfl⟩
            case measure => simp [intOf]; omega
          · have hs := Lib.hid (sameB_at hlt hlt2 fun e => hk2 (congrArg Prod.snd e))
            have t1 : (l[n].1.toList == m[n].1.toList) = true := by rw [hk1]; simp
            have t2 : (l[n].2.toList == m[n].2.toList) = false := by rw [beq_eq_false_iff_ne]; exact fun e => hk2 (toList_ba e)
            clear Hall hk1 hk2
            go_wp2_with fail
            go_quiet (fail)
            go_wp2_with fail
            go_ret
            rw [hs.out]
            exact ⟨rfl, k + nq, by rw [World.drewN_drewN]⟩
        · have hs := Lib.hid (sameB_at hlt hlt2 fun e => hk1 (congrArg Prod.fst e))
          have t1 : (l[n].1.toList == m[n].1.toList) = false := by rw [beq_eq_false_iff_ne]; exact fun e => hk1 (toList_ba e)
          clear Hall hk1
          go_wp2_with fail
          go_quiet (fail)
          go_wp2_with fail
          go_ret
          rw [hs.out]
          exact ⟨rfl, k + nq, by rw [World.drewN_drewN]⟩
      · have hkn : n = l.length := by omega
        have hs := Lib.hid (sameB_all Hlen.out fun j h1 h2 => Hall.out j h1 h2 (by omega))
        subst hkn
        clear Hall
        go_wp2_with fail
        go_ret
        rw [hs.out]
        exact ⟨rfl, k, rfl⟩
  · have hs := Lib.hid (sameB_len hlen)
    have hle2 : ((l.length : Int) == (m.length : Int)) = false := by rw [beq_eq_false_iff_ne]; omega
    have hle3 : ((l.length : Int) != (m.length : Int)) = true := by rw [bne_iff_ne]; omega
    clear hlen
    go_enter Tryz.func98, Tryz.ntmps98
    go_wp2_with fail
    go_ret
    rw [hs.out]
    exact ⟨rfl, 0, rfl⟩

theorem same_any (v u : Value) (l m : List (ByteArray × ByteArray)) (w : World) (hv : AtRow w v l) (hu : AtRow w u m) :
    Calls Tryz.prog 78 #[v, u] w fun e w' => e = .returned (.bool (sameB l m)) ∧ ∃ k, w' = w.drewN k := by
  go_enter Tryz.func78, Tryz.ntmps78
  go_wp2_with fail
  refine (equal_any v u l m w hv hu).mono ?_
  rintro e w1 ⟨rfl, k, rfl⟩
  go_wp2_with fail
  go_ret
  exact ⟨rfl, k, rfl⟩
end Go.Proofs.YtadookafnfnaoaaGreatDoor
/- Operations in memory: a row of them, whosever it is; changesets as values. -/
namespace Go.Proofs.YtadookafnfnaoaaGreatDoor
open Go.RowKit Ch

abbrev opAgg (o : OpD) (av : Value) : Value := .agg #[.int .i64 o.kind, .int .i64 o.n, .string o.text, av]
abbrev chAgg (f : Int) (v : Value) : Value := .agg #[.int .i64 f, v]
/-- The operation o lies at the place p of block b. -/
def OpAt (w : World) (b p : Nat) (o : OpD) : Prop := ∃ av, AtRow w av o.attrs ∧ Proper av ∧ w.cell? ⟨b, p, none⟩ = some (.int .i64 o.kind) ∧ w.cell? ⟨b, p + 1, none⟩ = some (.int .i64 o.n) ∧ w.cell? ⟨b, p + 2, none⟩ = some (.string o.text) ∧ w.cell? ⟨b, p + 3, none⟩ = some av
/-- A row of operations, nil or not. -/
def OpRow (w : World) (v : Value) (ops : List OpD) : Prop :=
  ∃ a cap, v = .slice a ops.length cap ∧ ops.length ≤ cap ∧ cap ≤ maxLen ∧ ∀ i (h : i < ops.length), ∃ b off, a = some ⟨b, off, none⟩ ∧ b < w.heap.size ∧ OpAt w b (off + i * 4) ops[i]
theorem OpAt.below {w w' : World} {b p : Nat} {o : OpD} (h : OpAt w b p o) (hlt : b < w.heap.size) (hb : Below w.heap.size w w') : OpAt w' b p o := by
  obtain ⟨av, h0, hp, h1, h2, h3, h4⟩ := h
  exact ⟨av, h0.below hb, hp, by rw [hb.cell (by exact hlt)]; exact h1, by rw [hb.cell (by exact hlt)]; exact h2, by rw [hb.cell (by exact hlt)]; exact h3, by rw [hb.cell (by exact hlt)]; exact h4⟩
theorem OpRow.below {w w' : World} {v : Value} {ops : List OpD} (h : OpRow w v ops) (hb : Below w.heap.size w w') : OpRow w' v ops := by
  obtain ⟨a, cap, rfl, h1, h2, h3⟩ := h
  refine ⟨a, cap, rfl, h1, h2, fun i hi => ?_⟩
  obtain ⟨b, off, rfl, hlt, ho⟩ := h3 i hi
  exact ⟨b, off, rfl, Nat.lt_of_lt_of_le hlt hb.size, ho.below hlt hb⟩
theorem OpRow.nil (w : World) : OpRow w (.slice none 0 0) [] := ⟨none, 0, rfl, Nat.le_refl _, Nat.zero_le _, fun _i h => absurd h (Nat.not_lt_zero _)⟩
/-- Each text is such as memory holds. -/
def OSized (ops : List OpD) : Prop := ∀ o ∈ ops, o.text.size ≤ maxLen ∧ Sized o.attrs

theorem text_empty {s : ByteArray} (h : s.size = 0) : s.toList.isEmpty = true ∧ s.toList = [] := by
  have e : s = ⟨#[]⟩ := ba_eq (List.length_eq_zero_iff.1 (show s.data.toList.length = 0 from h))
  rw [e]
  exact ⟨by rw [ByteArray.toList_eq]; rfl, by rw [ByteArray.toList_eq]⟩
theorem text_full {s : ByteArray} (h : s.size ≠ 0) : s.toList.isEmpty = false := by
  rw [ByteArray.toList_eq]
  cases hl : s.data.toList with
  | nil => exact absurd (by rw [size_data, hl]; rfl) h
  | cons _ _ => rfl
theorem AtRow.shape {w : World} {v : Value} {l : List (ByteArray × ByteArray)} (h : AtRow w v l) : ∃ a cap, v = .slice a l.length cap := by
  obtain ⟨a, cap, rfl, _⟩ := h
  exact ⟨a, cap, rfl⟩
theorem OpRow.shape {w : World} {v : Value} {l : List OpD} (h : OpRow w v l) : ∃ a cap, v = .slice a l.length cap := by
  obtain ⟨a, cap, rfl, _⟩ := h
  exact ⟨a, cap, rfl⟩
theorem below_box (w : World) (o : Obj) : Below w.heap.size w (w.alloc o) := (Below.refl _ _).alloc (Nat.le_refl _) _
/-- Whatever was there stays, and all rows of attributes: what a call does that writes into operations of its own. -/
theorem below_alloc {B : Nat} {w w' : World} (h : Below B w w') (hB : B ≤ w.heap.size) (o : Obj) : Below B w (w'.alloc o) := h.alloc (Nat.le_trans hB h.size) o
end Go.Proofs.YtadookafnfnaoaaGreatDoor
/- The program's size: how many runes an operation keeps, inserts or deletes, or its error. -/
namespace Go.Proofs.YtadookafnfnaoaaGreatDoor
open Go.RowKit Ch

def SizeOut (w : World) (o : OpD) (e : Ending) (w' : World) : Prop := ∃ n, e = .returned (.tuple #[.int .i64 n, .int .i64 (opE o)]) ∧ (opE o = 0 → n = opSz o) ∧ Below w.heap.size w w'
theorem sizeOut_bad {w w' : World} {o : OpD} {n : Int} (h : opE o = 30) (hb : Below w.heap.size w w') : SizeOut w o (.returned (.tuple #[.int .i64 n, .int .i64 30])) w' :=
  ⟨n, by rw [h], fun h0 => by omega, hb⟩
theorem sizeOut_mk {w w' : World} {o : OpD} {n E : Int} (h : opE o = E) (hn : E = 0 → n = opSz o) (hb : Below w.heap.size w w') : SizeOut w o (.returned (.tuple #[.int .i64 n, .int .i64 E])) w' :=
  ⟨n, by rw [h], fun h0 => hn (h.symm.trans h0), hb⟩

set_option maxRecDepth 100000 in
set_option maxHeartbeats 2000000 in
theorem size_any (o : OpD) (av : Value) (w : World) (hv : AtRow w av o.attrs) (ht : o.text.size ≤ maxLen) (hz : Sized o.attrs) :
    Calls Tryz.prog 102 #[opAgg o av] w (SizeOut w o) := by
  have Hv := Lib.hid hv
  have Hz := Lib.hid hz
  have Ht := Lib.hid ht
  obtain ⟨aa, acap, rfl, _⟩ := hv
  obtain ⟨W, hW⟩ : ∃ W, W = w.alloc (.cells #[.int .i64 o.kind, .int .i64 o.n, .string o.text, .slice aa o.attrs.length acap] 48) := ⟨_, rfl⟩
  have BW := Lib.hid (show Below w.heap.size w W by rw [hW]; exact (Below.refl _ _).alloc (Nat.le_refl _) _)
  have c0 : W.cell? ⟨w.heap.size, 0, none⟩ = some (.int .i64 o.kind) := by rw [hW]; go_simp
  have c1 : W.cell? ⟨w.heap.size, 1, none⟩ = some (.int .i64 o.n) := by rw [hW]; go_simp
  have c2 : W.cell? ⟨w.heap.size, 2, none⟩ = some (.string o.text) := by rw [hW]; go_simp
  have c3 : W.cell? ⟨w.heap.size, 3, none⟩ = some (.slice aa o.attrs.length acap) := by rw [hW]; go_simp
  have hlt : w.heap.size < W.heap.size := by rw [hW]; simp
  have HW := Lib.hid hW
  clear hz hW
  by_cases hk1 : o.kind = 1
  · have k1 : (o.kind == 1) = true := by rw [hk1]; rfl
    by_cases hn : o.n < 1
    · have e30 := Lib.hid (show opE o = 30 by unfold opE; rw [if_pos hk1, if_pos (.inl hn)])
      clear hk1
      go_enter Tryz.func102, Tryz.ntmps102
      go_wp2_with fail
      rw [← HW.out]
      go_wp2_with fail
      go_ret2
      exact sizeOut_bad e30.out BW.out
    · have hn1 : 1 ≤ o.n := by omega
      by_cases ht0 : o.text.size = 0
      · obtain ⟨t1, t2⟩ := text_empty ht0
        have e1 := Lib.hid (show opE o = chgE o.attrs by unfold opE; rw [if_pos hk1, if_neg (by omega)])
        have e2 := Lib.hid (show opSz o = o.n by unfold opSz; rw [if_neg (by omega)])
        have T := Lib.hid t2
        clear hk1 hn ht0 t2
        go_enter Tryz.func102, Tryz.ntmps102
        go_wp2_with fail
        rw [← HW.out]
        go_wp2_with fail
        go_region_held3 (fun w' => w'.cell? ⟨w.heap.size, 1, none⟩ = some (.int .i64 o.n) ∧ w'.cell? ⟨w.heap.size, 3, none⟩ = some (.slice aa o.attrs.length acap))
          (first
            | exact ⟨c1, c3⟩
            | exact ⟨(BA.cell (by exact hlt)).trans c1, (BA.cell (by exact hlt)).trans c3⟩)
          (first
            | (go_at_call_of 114 (Value.slice aa o.attrs.length acap); refine (changeD_any _ o.attrs _ (Hv.out.below ((BW.out.drew).trans ((Below.refl _ _).mono BW.out.size))) Hz.out).mono ?_; rintro e wA ⟨rfl, hbA⟩; have BA : Below W.heap.size W wA := of_drew hbA))
        go_wp2_with fail
        go_ret2
        exact sizeOut_mk e1.out (fun _ => e2.out.symm) (BW.out.trans (BA.mono BW.out.size))
      · have t1 := text_full ht0
        have e30 := Lib.hid (show opE o = 30 by unfold opE; rw [if_pos hk1, if_pos (.inr ht0)])
        clear hk1 hn ht0
        go_enter Tryz.func102, Tryz.ntmps102
        go_wp2_with fail
        rw [← HW.out]
        go_wp2_with fail
        go_ret2
        exact sizeOut_bad e30.out BW.out
  · have k1 : (o.kind == 1) = false := by rw [beq_eq_false_iff_ne]; exact hk1
    by_cases hk2 : o.kind = 2
    · have k2 : (o.kind == 2) = true := by rw [hk2]; rfl
      by_cases hn : o.n = 0
      · have n0 : (o.n != 0) = false := by rw [hn]; rfl
        by_cases ht0 : o.text.size = 0
        · obtain ⟨t1, t2⟩ := text_empty ht0
          have e30 := Lib.hid (show opE o = 30 by unfold opE; rw [if_neg hk1, if_pos hk2, if_pos (.inr ht0)])
          clear hk1 hk2 hn ht0 t2
          go_enter Tryz.func102, Tryz.ntmps102
          go_wp2_with fail
          rw [← HW.out]
          go_wp2_with fail
          go_ret2
          exact sizeOut_bad e30.out BW.out
        · have t1 := text_full ht0
          have e0 : opE o = if er o.text.data.toList ≠ 0 then er o.text.data.toList else rgtE o.attrs := by unfold opE; rw [if_neg hk1, if_pos hk2, if_neg (by omega)]
          have e2 := Lib.hid (show opSz o = cnt o.text.data.toList by unfold opSz; rw [if_pos hk2])
          by_cases he : er o.text.data.toList = 0
          · have e1 := Lib.hid (show opE o = rgtE o.attrs by rw [e0, if_neg (by simpa using he)])
            have Hcnt : ∀ W : World, Calls Tryz.prog 115 #[.string o.text] W fun e w' => e = .returned (.tuple #[.int .i64 (cnt o.text.data.toList), .int .i64 0]) ∧ Below W.heap.size W w' := fun W => by have := count_any o.text W Ht.out; rw [he] at this; exact this
            have HC := Lib.hid Hcnt
            clear hk1 hk2 hn ht0 he e0 Hcnt
            go_enter Tryz.func102, Tryz.ntmps102
            go_wp2_with fail
            rw [← HW.out]
            go_wp2_with fail
            refine (HC.out _).mono ?_
            rintro e w1 ⟨rfl, b1⟩
            have d3 : w1.cell? ⟨w.heap.size, 3, none⟩ = some (.slice aa o.attrs.length acap) := (b1.cell (by exact hlt)).trans c3
            have B1 := Lib.hid (BW.out.trans (b1.mono BW.out.size))
            clear b1
            go_wp2_with fail
            refine (rightD_any _ o.attrs _ (Hv.out.below B1.out) Hz.out).mono ?_
            rintro e w2 ⟨rfl, b2⟩
            have B2 := Lib.hid (B1.out.trans (b2.mono B1.out.size))
            clear b2
            go_wp2_with fail
            go_ret2
            exact sizeOut_mk e1.out (fun _ => e2.out.symm) B2.out
          · have h10 : er o.text.data.toList = 10 := (er_cases _).resolve_left he
            have e1 := Lib.hid (show opE o = 10 by rw [e0, if_pos (by simpa using he), h10])
            have Hcnt : ∀ W : World, Calls Tryz.prog 115 #[.string o.text] W fun e w' => e = .returned (.tuple #[.int .i64 (cnt o.text.data.toList), .int .i64 10]) ∧ Below W.heap.size W w' := fun W => by have := count_any o.text W Ht.out; rw [h10] at this; exact this
            have HC := Lib.hid Hcnt
            clear hk1 hk2 hn ht0 he e0 Hcnt h10
            go_enter Tryz.func102, Tryz.ntmps102
            go_wp2_with fail
            rw [← HW.out]
            go_wp2_with fail
            refine (HC.out _).mono ?_
            rintro e w1 ⟨rfl, b1⟩
            have B1 := Lib.hid (BW.out.trans (b1.mono BW.out.size))
            clear b1
            go_wp2_with fail
            go_ret2
            exact sizeOut_mk e1.out (fun h0 => absurd h0 (by decide)) B1.out
      · have n0 : (o.n != 0) = true := by rw [bne_iff_ne]; exact hn
        have e30 := Lib.hid (show opE o = 30 by unfold opE; rw [if_neg hk1, if_pos hk2, if_pos (.inl hn)])
        clear hk1 hk2 hn
        go_enter Tryz.func102, Tryz.ntmps102
        go_wp2_with fail
        rw [← HW.out]
        go_wp2_with fail
        go_ret2
        exact sizeOut_bad e30.out BW.out
    · have k2 : (o.kind == 2) = false := by rw [beq_eq_false_iff_ne]; exact hk2
      by_cases hk3 : o.kind = 3
      · have k3 : (o.kind == 3) = true := by rw [hk3]; rfl
        by_cases hn : o.n < 1
        · have e30 := Lib.hid (show opE o = 30 by unfold opE; rw [if_neg hk1, if_neg hk2, if_pos hk3, if_pos (.inl hn)])
          clear hk1 hk2 hk3
          go_enter Tryz.func102, Tryz.ntmps102
          go_wp2_with fail
          rw [← HW.out]
          go_wp2_with fail
          go_ret2
          exact sizeOut_bad e30.out BW.out
        · have hn1 : 1 ≤ o.n := by omega
          by_cases ht0 : o.text.size = 0
          · obtain ⟨t1, t2⟩ := text_empty ht0
            by_cases ha : o.attrs.length = 0
            · have l0 : decide ((0 : Int) < (o.attrs.length : Int)) = false := decide_eq_false (by omega)
              have l1 : decide (0 < o.attrs.length) = false := decide_eq_false (by omega)
              have e1 := Lib.hid (show opE o = 0 by unfold opE; rw [if_neg hk1, if_neg hk2, if_pos hk3, if_neg (by omega)])
              have e2 := Lib.hid (show opSz o = o.n by unfold opSz; rw [if_neg hk2])
              clear hk1 hk2 hk3 hn ht0 ha t2
              go_enter Tryz.func102, Tryz.ntmps102
              go_wp2_with fail
              rw [← HW.out]
              go_wp2_with fail
              go_ret2
              exact sizeOut_mk e1.out (fun _ => e2.out.symm) BW.out
            · have l0 : decide ((0 : Int) < (o.attrs.length : Int)) = true := decide_eq_true (by omega)
              have l1 : decide (0 < o.attrs.length) = true := decide_eq_true (by omega)
              have l2 : 0 < o.attrs.length := by omega
              have e30 := Lib.hid (show opE o = 30 by unfold opE; rw [if_neg hk1, if_neg hk2, if_pos hk3, if_pos (.inr (.inr ha))])
              clear hk1 hk2 hk3 hn ht0 ha t2
              go_enter Tryz.func102, Tryz.ntmps102
              go_wp2_with fail
              rw [← HW.out]
              go_wp2_with fail
              go_ret2
              exact sizeOut_bad e30.out BW.out
          · have t1 := text_full ht0
            have e30 := Lib.hid (show opE o = 30 by unfold opE; rw [if_neg hk1, if_neg hk2, if_pos hk3, if_pos (.inr (.inl ht0))])
            clear hk1 hk2 hk3 hn ht0
            go_enter Tryz.func102, Tryz.ntmps102
            go_wp2_with fail
            rw [← HW.out]
            go_wp2_with fail
            go_ret2
            exact sizeOut_bad e30.out BW.out
      · have k3 : (o.kind == 3) = false := by rw [beq_eq_false_iff_ne]; exact hk3
        have e30 := Lib.hid (show opE o = 30 by unfold opE; rw [if_neg hk1, if_neg hk2, if_neg hk3])
        clear hk1 hk2 hk3
        go_enter Tryz.func102, Tryz.ntmps102
        go_wp2_with fail
        rw [← HW.out]
        go_wp2_with fail
        go_ret2
        exact sizeOut_bad e30.out BW.out
end Go.Proofs.YtadookafnfnaoaaGreatDoor
/- The program's To and Right. -/
namespace Go.Proofs.YtadookafnfnaoaaGreatDoor
open Go.RowKit Ch

theorem size_ok (o : OpD) (av : Value) (w : World) (hv : AtRow w av o.attrs) (ht : o.text.size ≤ maxLen) (hz : Sized o.attrs) (he : opE o = 0) :
    Calls Tryz.prog 102 #[opAgg o av] w fun e w' => e = .returned (.tuple #[.int .i64 (opSz o), .int .i64 0]) ∧ Below w.heap.size w w' :=
  (size_any o av w hv ht hz).mono fun e w' ⟨n, h1, h2, h3⟩ => ⟨by rw [h1, he, h2 he], h3⟩
theorem size_bad (o : OpD) (av : Value) (w : World) (hv : AtRow w av o.attrs) (ht : o.text.size ≤ maxLen) (hz : Sized o.attrs) :
    Calls Tryz.prog 102 #[opAgg o av] w fun e w' => ∃ n, e = .returned (.tuple #[.int .i64 n, .int .i64 (opE o)]) ∧ Below w.heap.size w w' :=
  (size_any o av w hv ht hz).mono fun _e _w' ⟨n, h1, _, h3⟩ => ⟨n, h1, h3⟩

theorem opSz_lim {o : OpD} (_he : opE o = 0) (hk : o.kind = 2) : 0 ≤ opSz o ∧ opSz o ≤ 20000 := by
  unfold opSz
  rw [if_pos hk]
  exact cnt_nonneg _
theorem opSz_n {o : OpD} (hk : o.kind ≠ 2) : opSz o = o.n := by
  unfold opSz
  rw [if_neg hk]
theorem drop_at {ops : List OpD} {k : Nat} (h : k < ops.length) : ops.drop k = ops[k] :: ops.drop (k + 1) := List.drop_eq_getElem_cons h
theorem scan_bad {o : OpD} {r : List OpD} {left u : Int} (h : opE o ≠ 0) : scan left u (o :: r) = (0, 0, opE o) := by rw [scan, if_pos h]
theorem scan_put {o : OpD} {r : List OpD} {left u : Int} (h : opE o = 0) (hk : o.kind = 2) : scan left u (o :: r) = scan left (u + opSz o) r := by rw [scan, if_neg (by simpa using h), if_pos hk]
theorem scan_over {o : OpD} {r : List OpD} {left u : Int} (h : opE o = 0) (hk : o.kind ≠ 2) (hl : left < o.n) : scan left u (o :: r) = (0, 0, 31) := by rw [scan, if_neg (by simpa using h), if_neg hk, if_pos hl]
theorem scan_cut {o : OpD} {r : List OpD} {left u : Int} (h : opE o = 0) (hk : o.kind = 3) (hl : ¬ left < o.n) : scan left u (o :: r) = scan (left - o.n) (u - o.n) r := by rw [scan, if_neg (by simpa using h), if_neg (by omega), if_neg hl, if_pos hk]
theorem scan_keep {o : OpD} {r : List OpD} {left u : Int} (h : opE o = 0) (hk : o.kind ≠ 2) (hk3 : o.kind ≠ 3) (hl : ¬ left < o.n) : scan left u (o :: r) = scan (left - o.n) u r := by rw [scan, if_neg (by simpa using h), if_neg hk, if_neg hl, if_neg hk3]

def ToOut (w : World) (f : Int) (ops : List OpD) (e : Ending) (w' : World) : Prop := e = .returned (.tuple #[.int .i64 (toN f ops), .int .i64 (toE f ops)]) ∧ Below w.heap.size w w'
theorem toOut_mk {w w' : World} {f n E : Int} {ops : List OpD} (h : toE f ops = E) (hn : toN f ops = n) (hb : Below w.heap.size w w') : ToOut w f ops (.returned (.tuple #[.int .i64 n, .int .i64 E])) w' := ⟨by rw [h, hn], hb⟩
theorem toOut_bad {w w' : World} {f E : Int} {ops : List OpD} (h : toE f ops = E) (hE : E ≠ 0) (hb : Below w.heap.size w w') : ToOut w f ops (.returned (.tuple #[.int .i64 0, .int .i64 E])) w' :=
  toOut_mk h (toN_bad (by rw [h]; exact hE)) hb
theorem toE_scan {f E : Int} {ops : List OpD} {l u : Int} (h0 : 0 ≤ f) (h1 : f ≤ 20000) (h2 : ops.length ≤ 2000) (h : scan f f ops = (l, u, E)) (hE : E ≠ 0) : toE f ops = E := by
  unfold toE
  rw [if_neg (by omega), if_neg (by omega), h, if_pos hE]
theorem toE_end {f : Int} {ops : List OpD} {l u : Int} (h0 : 0 ≤ f) (h1 : f ≤ 20000) (h2 : ops.length ≤ 2000) (h : scan f f ops = (l, u, 0)) : toE f ops = (if 20000 < u then 3 else 0) ∧ (¬ 20000 < u → toN f ops = u) := by
  have e : toE f ops = (if 20000 < u then 3 else 0) := by
    unfold toE
    rw [if_neg (by omega), if_neg (by omega), h, if_neg (by simp)]
  refine ⟨e, fun hu => ?_⟩
  rw [if_neg hu] at e
  unfold toN
  rw [if_pos e, h]

set_option maxRecDepth 100000 in
set_option maxHeartbeats 4000000 in
theorem to_any (f : Int) (v : Value) (ops : List OpD) (w : World) (hv : OpRow w v ops) (hz : OSized ops) :
    Calls Tryz.prog 84 #[chAgg f v] w (ToOut w f ops) := by
  have Hv := Lib.hid hv
  have Hz := Lib.hid hz
  obtain ⟨aa, acap, rfl, v1, v2, v3⟩ := hv
  have V3 := Lib.hid v3
  have hn : ops.length ≤ 9223372036854775807 := Nat.le_trans v1 v2
  obtain ⟨W, hW⟩ : ∃ W, W = w.alloc (.cells #[.int .i64 f, .slice aa ops.length acap] 24) := ⟨_, rfl⟩
  have BW := Lib.hid (show Below w.heap.size w W by rw [hW]; exact (Below.refl _ _).alloc (Nat.le_refl _) _)
  have c0 : W.cell? ⟨w.heap.size, 0, none⟩ = some (.int .i64 f) := by rw [hW]; go_simp
  have c1 : W.cell? ⟨w.heap.size, 1, none⟩ = some (.slice aa ops.length acap) := by rw [hW]; go_simp
  have HW := Lib.hid hW
  clear hz hW v1 v2 v3
  by_cases hf : f < 0
  · have e31 := Lib.hid (show toE f ops = 31 by unfold toE; rw [if_pos (.inl hf)])
    go_enter Tryz.func84, Tryz.ntmps84
    go_wp2_with fail
    rw [← HW.out]
    go_wp2_with fail
    go_ret2
    exact toOut_bad e31.out (by decide) BW.out
  · by_cases hf2 : 20000 < f
    · have e31 := Lib.hid (show toE f ops = 31 by unfold toE; rw [if_pos (.inr hf2)])
      have hf0 : 0 ≤ f := by omega
      clear hf
      go_enter Tryz.func84, Tryz.ntmps84
      go_wp2_with fail
      rw [← HW.out]
      go_wp2_with fail
      go_ret2
      exact toOut_bad e31.out (by decide) BW.out
    · have hf0 : 0 ≤ f := by omega
      have hf3 : f ≤ 20000 := by omega
      by_cases hl : 2000 < ops.length
      · have e2 := Lib.hid (show toE f ops = 2 by unfold toE; rw [if_neg (by omega), if_pos hl])
        have l0 : decide ((2000 : Int) < (ops.length : Int)) = true := decide_eq_true (by omega)
        have l1 : decide (2000 < ops.length) = true := decide_eq_true (by omega)
        clear hf hf2
        go_enter Tryz.func84, Tryz.ntmps84
        go_wp2_with fail
        rw [← HW.out]
        go_wp2_with fail
        go_ret2
        exact toOut_bad e2.out (by decide) BW.out
      · have hl2 : ops.length ≤ 2000 := by omega
        have l0 : decide ((2000 : Int) < (ops.length : Int)) = false := decide_eq_false (by omega)
        have l1 : decide (2000 < ops.length) = false := decide_eq_false (by omega)
        clear hf hf2 hl
        go_enter Tryz.func84, Tryz.ntmps84
        go_wp2_with fail
        rw [← HW.out]
        go_wp2_with fail
        go_quiet (fail)
        go_wp2_with fail
        go_loopw [4, 5, 29] (fun x y i wr => ∃ (left u : Int) (k : Nat), x = .int .i64 left ∧ y = .int .i64 u ∧ i = .int .i64 (k : Int) ∧ k ≤ ops.length ∧ scan f f ops = scan left u (ops.drop k) ∧ 0 ≤ left ∧ left ≤ 20000 ∧ left ≤ u ∧ u ≤ 20000 + 20000 * k ∧ Below w.heap.size w wr) (fun _ _ i _ => ops.length - (intOf i).toNat)
        case atStart => exact ⟨f, f, 0, rfl, rfl, rfl, Nat.zero_le _, rfl, hf0, hf3, Int.le_refl _, by omega, below_drewN BW.out _⟩
        case round =>
          obtain ⟨left, u, k, rfl, rfl, rfl, hk, hs, g1, g2, g3, g4, hb⟩ := hrel
          have HB := Lib.hid hb
          by_cases hlt : k < ops.length
          · have hlt' : (k : Int) < (ops.length : Int) := by omega
            obtain ⟨b, off, rfl, hbl, av, r0, _, x0, x1, x2, x3⟩ := V3.out k hlt
            have z := Hz.out _ (List.getElem_mem hlt)
            rw [drop_at hlt] at hs
            obtain ⟨o, ho⟩ : ∃ o, o = ops[k] := ⟨_, rfl⟩
            rw [← ho] at r0 x0 x1 x2 z hs
            obtain ⟨ar, cr, rfl⟩ := r0.shape
            have y0 : wr.cell? ⟨b, off + k * 4, none⟩ = some (.int .i64 o.kind) := (hb.cell (by exact hbl)).trans x0
            have y1 : wr.cell? ⟨b, off + k * 4 + 1, none⟩ = some (.int .i64 o.n) := (hb.cell (by exact hbl)).trans x1
            have y2 : wr.cell? ⟨b, off + k * 4 + 2, none⟩ = some (.string o.text) := (hb.cell (by exact hbl)).trans x2
            have y3 : wr.cell? ⟨b, off + k * 4 + 3, none⟩ = some (.slice ar o.attrs.length cr) := (hb.cell (by exact hbl)).trans x3
            have hs0 : w.heap.size ≤ wr.heap.size := hb.size
            obtain ⟨X, hX⟩ : ∃ X, X = wr.alloc (.cells #[.int .i64 o.kind, .int .i64 o.n, .string o.text, .slice ar o.attrs.length cr] 48) := ⟨_, rfl⟩
            have BX := Lib.hid (show Below w.heap.size w X by rw [hX]; exact hb.alloc hs0 _)
            have R0 := Lib.hid (r0.below BX.out)
            have Z := Lib.hid z
            have d0 : X.cell? ⟨wr.heap.size, 0, none⟩ = some (.int .i64 o.kind) := by rw [hX]; go_simp
            have d1 : X.cell? ⟨wr.heap.size, 1, none⟩ = some (.int .i64 o.n) := by rw [hX]; go_simp
            have d2 : X.cell? ⟨wr.heap.size, 2, none⟩ = some (.string o.text) := by rw [hX]; go_simp
            have d3 : X.cell? ⟨wr.heap.size, 3, none⟩ = some (.slice ar o.attrs.length cr) := by rw [hX]; go_simp
            have hXs : wr.heap.size < X.heap.size := by rw [hX]; simp
            have HX := Lib.hid hX
            have HS := Lib.hid hs
            clear ho r0 x0 x1 x2 x3 z hb hX hs
            by_cases he : opE o = 0
            · have He := Lib.hid he
              by_cases hk2 : o.kind = 2
              · have k2 : (o.kind == 2) = true := by rw [hk2]; rfl
                obtain ⟨s0, s1⟩ := opSz_lim he hk2
                have HS2 := Lib.hid (HS.out.trans (scan_put he hk2))
                have HC := Lib.hid (size_ok o _ X R0.out Z.out.1 Z.out.2 he)
                have w1' : IntKind.i64.wrap (u + opSz o) = u + opSz o := IntWalk.i64_in _ (by omega)
                clear he hk2
                go_wp2_with fail
                rw [← HX.out]
                go_wp2_with fail
                refine HC.out.mono ?_
                rintro e w2 ⟨rfl, b2⟩
                have e0 : w2.cell? ⟨wr.heap.size, 0, none⟩ = some (.int .i64 o.kind) := (b2.cell (by exact hXs)).trans d0
                have B2 := Lib.hid (BX.out.trans (b2.mono BX.out.size))
                clear b2
                go_wp2_with fail
                go_roundw
                case rel => exact ⟨left, u + opSz o, k + 1, rfl, rfl, by go_num, by omega, HS2.out, g1, g2, by omega, by omega, B2.out⟩
                case measure => simp [intOf]; omega
              · have k2 : (o.kind == 2) = false := by rw [beq_eq_false_iff_ne]; exact hk2
                have hn1 := opE_n he hk2
                have hsz := opSz_n hk2
                have HC := size_ok o _ X R0.out Z.out.1 Z.out.2 he
                rw [hsz] at HC
                have HC := Lib.hid HC
                by_cases hl3 : left < o.n
                · have HS2 := Lib.hid (toE_scan hf0 hf3 hl2 (HS.out.trans (scan_over he hk2 hl3)) (by decide))
                  clear he hk2 hsz
                  go_wp2_with fail
                  rw [← HX.out]
                  go_wp2_with fail
                  refine HC.out.mono ?_
                  rintro e w2 ⟨rfl, b2⟩
                  have e0 : w2.cell? ⟨wr.heap.size, 0, none⟩ = some (.int .i64 o.kind) := (b2.cell (by exact hXs)).trans d0
                  have B2 := Lib.hid (BX.out.trans (b2.mono BX.out.size))
                  clear b2
                  go_wp2_with fail
                  go_ret2
                  exact toOut_bad HS2.out (by decide) B2.out
                · have hl4 : o.n ≤ left := by omega
                  by_cases hk3 : o.kind = 3
                  · have k3 : (o.kind == 3) = true := by rw [hk3]; rfl
                    have HS2 := Lib.hid (HS.out.trans (scan_cut he hk3 hl3))
                    clear he hk2 hsz hk3 hl3
                    go_wp2_with fail
                    rw [← HX.out]
                    go_wp2_with fail
                    refine HC.out.mono ?_
                    rintro e w2 ⟨rfl, b2⟩
                    have e0 : w2.cell? ⟨wr.heap.size, 0, none⟩ = some (.int .i64 o.kind) := (b2.cell (by exact hXs)).trans d0
                    have B2 := Lib.hid (BX.out.trans (b2.mono BX.out.size))
                    clear b2
                    go_wp2_with fail
                    go_roundw
                    case rel => exact ⟨left - o.n, u - o.n, k + 1, rfl, rfl, by go_num, by omega, HS2.out, by omega, by omega, by omega, by omega, B2.out⟩
                    case measure => simp [intOf]; omega
                  · have k3 : (o.kind == 3) = false := by rw [beq_eq_false_iff_ne]; exact hk3
                    have HS2 := Lib.hid (HS.out.trans (scan_keep he hk2 hk3 hl3))
                    clear he hk2 hsz hk3 hl3
                    go_wp2_with fail
                    rw [← HX.out]
                    go_wp2_with fail
                    refine HC.out.mono ?_
                    rintro e w2 ⟨rfl, b2⟩
                    have e0 : w2.cell? ⟨wr.heap.size, 0, none⟩ = some (.int .i64 o.kind) := (b2.cell (by exact hXs)).trans d0
                    have B2 := Lib.hid (BX.out.trans (b2.mono BX.out.size))
                    clear b2
                    go_wp2_with fail
                    go_roundw
                    case rel => exact ⟨left - o.n, u, k + 1, rfl, rfl, by go_num, by omega, HS2.out, by omega, by omega, by omega, by omega, B2.out⟩
                    case measure => simp [intOf]; omega
            · have t1 : (opE o != 0) = true := by rw [bne_iff_ne]; exact he
              have HS2 := Lib.hid (toE_scan hf0 hf3 hl2 (HS.out.trans (scan_bad he)) he)
              have HC := Lib.hid (size_bad o _ X R0.out Z.out.1 Z.out.2)
              have He := Lib.hid he
              clear he
              go_wp2_with fail
              rw [← HX.out]
              go_wp2_with fail
              refine HC.out.mono ?_
              rintro e w2 ⟨n2, rfl, b2⟩
              have B2 := Lib.hid (BX.out.trans (b2.mono BX.out.size))
              clear b2
              go_wp2_with fail
              go_ret2
              exact toOut_bad HS2.out He.out B2.out
          · have hkn : k = ops.length := by omega
            subst hkn
            rw [List.drop_length] at hs
            obtain ⟨q1, q2⟩ := toE_end hf0 hf3 hl2 (hs.trans rfl)
            by_cases hu : 20000 < u
            · rw [if_pos hu] at q1
              have Q1 := Lib.hid q1
              clear q1 q2 hs hb
              go_wp2_with fail
              go_ret2
              exact toOut_bad Q1.out (by decide) HB.out
            · rw [if_neg hu] at q1
              have Q1 := Lib.hid (And.intro q1 (q2 hu))
              have hu2 : u ≤ 20000 := by omega
              clear q1 q2 hs hb
              go_wp2_with fail
              go_ret2
              exact toOut_mk Q1.out.1 Q1.out.2 HB.out

theorem changeRight_any (f : Int) (v : Value) (ops : List OpD) (w : World) (hv : OpRow w v ops) (hz : OSized ops) :
    Calls Tryz.prog 56 #[chAgg f v] w fun e w' => e = .returned (.int .i64 (toE f ops)) ∧ Below w.heap.size w w' := by
  have HC := Lib.hid (to_any f v ops _ (hv.below (below_box w (.cells #[.int .i64 f, v] 24))) hz)
  obtain ⟨aa, acap, rfl⟩ := hv.shape
  clear hv hz
  go_enter Tryz.func56, Tryz.ntmps56
  go_wp2_with fail
  refine HC.out.mono ?_
  rintro e w1 ⟨rfl, hb⟩
  go_wp2_with fail
  go_ret
  exact ⟨rfl, (below_box w _).trans (hb.mono (by simp))⟩
end Go.Proofs.YtadookafnfnaoaaGreatDoor
