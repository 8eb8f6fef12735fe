/- Rows of parts in memory: read, of one's own, put behind each other. -/
import Derived.Test.YtpinmkoaihjhfaaTa
import Derived.Test.YtpinmkoaihjhfaaTb
namespace Go.Proofs.Ytpinmkoaihjhfaa
open Go.RowKit Su Tp

def valP (p : Pt) : Value := .agg #[.int .i64 p.1, .int .i64 p.2.1, .string (txB p.2.2)]
def cellsT (l : List Pt) : List Value := l.flatMap fun p => [.int .i64 p.1, .int .i64 p.2.1, .string (txB p.2.2)]
theorem cellsT_len (l : List Pt) : (cellsT l).length = l.length * 3 := by
  induction l with
  | nil => rfl
  | cons x r ih => simp [cellsT] at ih ⊢; omega
theorem cellsT_append (l m : List Pt) : cellsT (l ++ m) = cellsT l ++ cellsT m := by simp [cellsT]
theorem cellsT_one (l : List Pt) : ∀ u ∈ cellsT l, u.oneCell' = true := by
  intro u hu
  obtain ⟨x, _, hx⟩ := List.mem_flatMap.1 hu
  simp at hx
  rcases hx with rfl | rfl | rfl <;> rfl
theorem cellsT_at (l : List Pt) (i : Nat) (h : i < l.length) : (cellsT l)[i * 3]? = some (.int .i64 l[i].1) ∧ (cellsT l)[i * 3 + 1]? = some (.int .i64 l[i].2.1) ∧ (cellsT l)[i * 3 + 2]? = some (.string (txB l[i].2.2)) := by
  induction l generalizing i with
  | nil => simp at h
  | cons x r ih =>
    cases i with
    | zero => exact ⟨rfl, rfl, rfl⟩
    | succ i =>
      have e : (i + 1) * 3 = i * 3 + 1 + 1 + 1 := by omega
      rw [e]
      exact ih i (by simpa using h)
/-- The value v is, in world w, a row of these parts. -/
def PRow (w : World) (v : Value) (l : List Pt) : Prop :=
  (∃ a cap, v = .slice a l.length cap ∧ l.length ≤ cap ∧ cap ≤ maxLen ∧ (a = none → cap = 0) ∧
    ∀ i (hi : i < l.length), ∃ b off, a = some ⟨b, off, none⟩ ∧ b < w.heap.size ∧ w.cell? ⟨b, off + i * 3, none⟩ = some (.int .i64 l[i].1) ∧ w.cell? ⟨b, off + i * 3 + 1, none⟩ = some (.int .i64 l[i].2.1) ∧ w.cell? ⟨b, off + i * 3 + 2, none⟩ = some (.string (txB l[i].2.2))) ∧
  ∀ p ∈ l, InP p
theorem PRow.below {w w' : World} {v : Value} {l : List Pt} (h : PRow w v l) (hb : Below w.heap.size w w') : PRow w' v l := by
  obtain ⟨⟨a, cap, h1, h2, h3, h4, h5⟩, h6⟩ := h
  refine ⟨⟨a, cap, h1, h2, h3, h4, fun i hi => ?_⟩, h6⟩
  obtain ⟨b, off, e, hlt, c1, c2, c3⟩ := h5 i hi
  exact ⟨b, off, e, Nat.lt_of_lt_of_le hlt hb.size, (hb.cell (by exact hlt)).trans c1, (hb.cell (by exact hlt)).trans c2, (hb.cell (by exact hlt)).trans c3⟩
theorem PRow.shape {w : World} {v : Value} {l : List Pt} (h : PRow w v l) : ∃ a cap, v = .slice a l.length cap ∧ l.length ≤ cap ∧ cap ≤ maxLen := by
  obtain ⟨⟨a, cap, h1, h2, h3, _⟩, _⟩ := h
  exact ⟨a, cap, h1, h2, h3⟩
theorem PRow.at {w : World} {a : Option Addr} {n cap : Nat} {l : List Pt} (h : PRow w (.slice a n cap) l) (i : Nat) (hi : i < l.length) : ∃ b off, a = some ⟨b, off, none⟩ ∧ n = l.length ∧ b < w.heap.size ∧ w.cell? ⟨b, off + i * 3, none⟩ = some (.int .i64 l[i].1) ∧ w.cell? ⟨b, off + i * 3 + 1, none⟩ = some (.int .i64 l[i].2.1) ∧ w.cell? ⟨b, off + i * 3 + 2, none⟩ = some (.string (txB l[i].2.2)) := by
  obtain ⟨⟨a', cap', h1, h2, h3, h4, h5⟩, h6⟩ := h
  simp only [Value.slice.injEq] at h1
  obtain ⟨rfl, rfl, rfl⟩ := h1
  obtain ⟨b, off, e, r⟩ := h5 i hi
  exact ⟨b, off, e, rfl, r⟩
theorem infoPart : (Try.prog.info? 25).map (fun i => (i.zero, i.size, i.bytes)) = some (some (.agg #[.int .i64 0, .int .i64 0, .string ⟨#[]⟩]), 3, 32) := by kernel_rfl
theorem elemP : Try.prog.elem 22 = 25 := by kernel_rfl
theorem underP : Try.prog.underlying 22 = some (.slice (Try.prog.elem 22)) := by kernel_rfl
/-- A row of parts of a call's own. -/
def OwnT (w : World) (B : Nat) (v : Value) (l : List Pt) : Prop := w.ownsRow B 25 3 v l.length (cellsT l) ∧ ∀ p ∈ l, InP p
theorem OwnT.row {w : World} {B : Nat} {v : Value} {l : List Pt} (h : OwnT w B v l) : PRow w v l := by
  refine ⟨?_, h.2⟩
  rcases h.1.2 with ⟨rfl, h0⟩ | ⟨g, cap, cur, rfl, hB, hg, hn, hm, hs, ht⟩
  · exact ⟨none, 0, by rw [h0], by omega, by simp [maxLen], fun _ => rfl, fun i hi => by omega⟩
  · refine ⟨some ⟨g, 0, none⟩, cap, rfl, hn, hm, fun e => (by cases e), fun i hi => ⟨g, 0, rfl, (Array.getElem?_eq_some_iff.1 hg).1, ?_⟩⟩
    obtain ⟨c1, c2, c3⟩ := cellsT_at l i hi
    exact ⟨by rw [Nat.zero_add, h.1.cellAt _ (by omega)]; exact c1, by rw [Nat.zero_add, h.1.cellAt _ (by omega)]; exact c2, by rw [Nat.zero_add, h.1.cellAt _ (by omega)]; exact c3⟩
theorem OwnT.shape {w : World} {B : Nat} {v : Value} {l : List Pt} (h : OwnT w B v l) : ∃ a cap, v = .slice a l.length cap ∧ l.length ≤ cap ∧ cap ≤ maxLen := h.row.shape
theorem nilT (w : World) (B : Nat) : OwnT w B (.slice none 0 0) [] := ⟨⟨rfl, .inl ⟨rfl, rfl⟩⟩, by simp⟩
theorem OwnT.lt {w : World} {B : Nat} {v : Value} {l : List Pt} (h : OwnT w B v l) : ∀ k, v.ownBlock = some k → B ≤ k ∧ k < w.heap.size := fun k hk => h.1.lt k hk
theorem OwnT.below {w w' : World} {B : Nat} {v : Value} {l : List Pt} (h : OwnT w B v l) (hb : Below w.heap.size w w') : OwnT w' B v l :=
  ⟨⟨h.1.1, h.1.2.imp id fun ⟨g, cap, cur, e, hB, hh, r⟩ => ⟨g, cap, cur, e, hB, by
    rw [hb.block g (Array.getElem?_eq_some_iff.1 hh).1]; exact hh, r⟩⟩, h.2⟩
theorem OwnT.low {w : World} {B C : Nat} {v : Value} {l : List Pt} (h : OwnT w B v l) (hC : C ≤ B) : OwnT w C v l :=
  ⟨⟨h.1.1, h.1.2.imp id fun ⟨g, cap, cur, e, hg, r⟩ => ⟨g, cap, cur, e, Nat.le_trans hC hg, r⟩⟩, h.2⟩
theorem OwnT.alloc {w : World} {B : Nat} {v : Value} {l : List Pt} (h : OwnT w B v l) (o : Obj) : OwnT (w.alloc o) B v l := ⟨World.ownsRow.alloc h.1 o, h.2⟩
theorem prow_news {w : World} {a : Addr} {n cap : Nat} {l : List Pt} (h : PRow w (.slice (some a) n cap) l) : ∀ j u, (cellsT l)[j]? = some u → w.cell? (a.add j) = some u := by
  intro j u hu
  have hj : j < l.length * 3 := by
    rw [← cellsT_len]
    exact (List.getElem?_eq_some_iff.1 hu).1
  obtain ⟨b, off, he, _, _, c1, c2, c3⟩ := h.at (j / 3) (by omega)
  obtain rfl := Option.some.inj he
  obtain ⟨d1, d2, d3⟩ := cellsT_at l (j / 3) (by omega)
  rw [add_at]
  have h3 : j % 3 = 0 ∨ j % 3 = 1 ∨ j % 3 = 2 := by omega
  rcases h3 with h3 | h3 | h3
  · have e : j / 3 * 3 = j := by omega
    rw [e] at c1 d1
    rw [c1, ← hu, d1]
  · have e : j / 3 * 3 + 1 = j := by omega
    rw [e] at d2
    rw [Nat.add_assoc, e] at c2
    rw [c2, ← hu, d2]
  · have e : j / 3 * 3 + 2 = j := by omega
    rw [e] at d3
    rw [Nat.add_assoc, e] at c3
    rw [c3, ← hu, d3]
theorem run_append_parts {w : World} (ty : TypeId) (base : Nat) (v v' : Value) (l m : List Pt) (hown : OwnT w base v l) (hrow : PRow w v' m) (hbytes : (l.length + m.length) * 32 ≤ 140737488355328) (hbase : base ≤ w.heap.size) :
    ∃ u w', (Builtin.append_ #[22, 22] ty #[v, v']).run Try.prog w = .ok u w' ∧ OwnT w' base u (l ++ m) ∧ w.grownBy w' v.ownBlock := by
  have h63' : l.length + m.length ≤ maxLen := by unfold maxLen; omega
  obtain ⟨i0, hi, hz0, hz1, hz2⟩ := info_parts infoPart
  have hin : ∀ p ∈ l ++ m, InP p := by
    intro p hp
    rcases List.mem_append.1 hp with h | h
    · exact hown.2 p h
    · exact hrow.2 p h
  have hrow' := hrow
  obtain ⟨⟨ad, cap, rfl, h1, h2, h3, h4⟩, h6⟩ := hrow
  cases ad with
  | none =>
    obtain rfl := h3 rfl
    have hm : m = [] := List.length_eq_zero_iff.1 (by omega)
    subst hm
    refine ⟨v, w, run_append_owned_none _ base _ ty 25 i0 3 Try.underlying22 hi v l.length _ hown.1, ?_, ⟨rfl, rfl, rfl, Nat.le_refl _, fun _ _ _ => rfl⟩⟩
    rw [List.append_nil]; exact hown
  | some ad =>
    obtain ⟨u, w', a1, a2, a3, _⟩ := run_append_own (P := Try.prog) w base 22 ty 25 i0 (.agg #[.int .i64 0, .int .i64 0, .string ⟨#[]⟩]) 3 32 Try.underlying22 hi hz0 hz1 hz2 rfl (by decide) v l.length _ hown.1 ad m.length cap (cellsT m) (cellsT_len m) (prow_news hrow') (cellsT_one m) h63' (by omega) hbase
    exact ⟨u, w', a1, ⟨by rw [List.length_append, cellsT_append]; exact a2, hin⟩, a3⟩
theorem prow_lit {w : World} {b k : Nat} {cs : Array Value} {T : TypeId} {fr : Nat × Nat} {l : List Pt} (h : w.heap[b]? = some (.cells cs T fr)) (hk : k = l.length) (hm : l.length ≤ maxLen) (hc : cs.toList = cellsT l) (hin : ∀ p ∈ l, InP p) : PRow w (.slice (some ⟨b, 0, none⟩) k k) l := by
  subst hk
  refine ⟨⟨some ⟨b, 0, none⟩, l.length, rfl, Nat.le_refl _, hm, (fun e => by cases e), fun i hi => ⟨b, 0, rfl, (Array.getElem?_eq_some_iff.1 h).1, ?_⟩⟩, hin⟩
  obtain ⟨d1, d2, d3⟩ := cellsT_at l i hi
  refine ⟨?_, ?_, ?_⟩
  · rw [cell_of_row w b (0 + i * 3) _ _ _ h, ← d1, Nat.zero_add, ← hc]; simp
  · rw [cell_of_row w b (0 + i * 3 + 1) _ _ _ h, ← d2, Nat.zero_add, ← hc]; simp
  · rw [cell_of_row w b (0 + i * 3 + 2) _ _ _ h, ← d3, Nat.zero_add, ← hc]; simp
theorem OwnT.grown {w w' : World} {B : Nat} {v : Value} {l : List Pt} {row : Option Nat} (h : OwnT w B v l) (hg : w.grownBy w' row) (hne : ∀ g, v.ownBlock = some g → row ≠ some g) : OwnT w' B v l :=
  ⟨⟨h.1.1, h.1.2.imp id fun ⟨g, cap, cur, e, hB, hh, r⟩ => ⟨g, cap, cur, e, hB, by
    rw [hg.block g (Array.getElem?_eq_some_iff.1 hh).1 (fun e' => hne g (by rw [e]; rfl) e'.symm)]; exact hh, r⟩⟩, h.2⟩
theorem tx_beqS (l m : List UInt8) : ((txB l).toList == (txB m).toList) = decide (l = m) := tx_beq l m
theorem tx_size (l : List UInt8) : (txB l).size = l.length := by show l.toArray.size = _; simp
theorem tx_eta (t : ByteArray) : t = txB t.data.toList := by
  cases t with
  | mk d => unfold txB; simp
theorem txE : (⟨#[]⟩ : ByteArray) = txB [] := rfl
theorem below_trans {w w1 w2 : World} (h : Below w.heap.size w w1) (h2 : Below w1.heap.size w1 w2) : Below w.heap.size w w2 := h.trans (h2.mono h.size)
end Go.Proofs.Ytpinmkoaihjhfaa
