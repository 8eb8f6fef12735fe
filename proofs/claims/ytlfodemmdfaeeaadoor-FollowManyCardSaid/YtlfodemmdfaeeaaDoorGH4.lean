/- Texts of this seat, put together: Hh. -/
import Derived.Test.YtlfodemmdfaeeaaDoorGH1
import Derived.Test.YtlfodemmdfaeeaaDoorGH3
import Derived.Test.YtlfodemmdfaeeaaDoorGF7
/- Many changesets, and one beside all of them: what the law FollowMany stands on. -/
namespace Go.Proofs.YtlfodemmdfaeeaaDoor
open Go.RowKit Rn Ch
open At hiding put

/-- A row of changesets, each with a proper row of operations. -/
def ChsRowP (w : World) (v : Value) (L : List (Int × List OpD)) : Prop :=
  ∃ a cap, v = .slice a L.length cap ∧ L.length ≤ cap ∧ cap ≤ maxLen ∧ ∀ i (h : i < L.length), ∃ b off u, a = some ⟨b, off, none⟩ ∧ b < w.heap.size ∧ w.cell? ⟨b, off + i * 2, none⟩ = some (.int .i64 L[i].1) ∧ w.cell? ⟨b, off + i * 2 + 1, none⟩ = some u ∧ OpRow w u L[i].2 ∧ Proper u
theorem ChsRowP.below {w w' : World} {v : Value} {L : List (Int × List OpD)} (h : ChsRowP w v L) (hb : Below w.heap.size w w') : ChsRowP w' v L := by
  obtain ⟨a, c, h0, h1, h2, h3⟩ := h
  refine ⟨a, c, h0, h1, h2, fun i hi => ?_⟩
  obtain ⟨b, off, u, e, hl, x0, x1, x2, x3⟩ := h3 i hi
  exact ⟨b, off, u, e, Nat.lt_of_lt_of_le hl hb.size, (hb.cell (by exact hl)).trans x0, (hb.cell (by exact hl)).trans x1, x2.below hb, x3⟩
theorem ChsRowP.at {w : World} {a : Option Addr} {n c : Nat} {L : List (Int × List OpD)} (h : ChsRowP w (.slice a n c) L) (k : Nat) (hk : k < L.length) :
    ∃ b off u, a = some ⟨b, off, none⟩ ∧ b < w.heap.size ∧ w.cell? ⟨b, off + k * 2, none⟩ = some (.int .i64 L[k].1) ∧ w.cell? ⟨b, off + k * 2 + 1, none⟩ = some u ∧ OpRow w u L[k].2 ∧ Proper u := by
  obtain ⟨a', c', h0, _, _, h3⟩ := h
  injection h0 with e1 _ _
  subst e1
  exact h3 k hk
theorem ChsRowP.shape {w : World} {v : Value} {L : List (Int × List OpD)} (h : ChsRowP w v L) : ∃ a c, v = .slice a L.length c ∧ L.length ≤ c ∧ c ≤ maxLen := by
  obtain ⟨a, c, h0, h1, h2, _⟩ := h
  exact ⟨a, c, h0, h1, h2⟩
/-- Its first n. -/
theorem ChsRowP.take {w : World} {a : Option Addr} {m c : Nat} {L : List (Int × List OpD)} (h : ChsRowP w (.slice a m c) L) (n : Nat) (hn : n ≤ L.length) : ChsRow w (.slice a n c) (L.take n) := by
  obtain ⟨a', c', h0, h1, h2, h3⟩ := h
  injection h0 with e1 e2 e3
  subst e1 e3
  have hl : (L.take n).length = n := by rw [List.length_take]; omega
  refine ⟨a, c, by rw [hl], by omega, h2, fun i hi => ?_⟩
  obtain ⟨b, off, u, e, hlt, x0, x1, x2, _⟩ := h3 i (by omega)
  have he : (L.take n)[i] = L[i]'(by omega) := by rw [List.getElem_take]
  rw [he]
  exact ⟨b, off, u, e, hlt, x0, x1, x2⟩
theorem csSized_take {L : List (Int × List OpD)} (h : CsSized L) (n : Nat) : CsSized (L.take n) := fun c hc => h c (List.mem_of_mem_take hc)

/-- A row and one beside all of it: where they stand behind k of them. -/
structure ManyI (f : Int) (B : List OpD) (Ls : List (Int × List OpD)) (k : Nat) (U : List RunD) (F : Int) (R : List OpD) (V : List RunD) : Prop where
  app : appE U F R = 0
  val : appL U F R = V
  past : pastF f B (Ls.take k) = (0, F, norm R)
  su : RSized U
  sv : RSized V
  sr : OSized R
theorem ManyI.tz {f : Int} {B : List OpD} {Ls : List (Int × List OpD)} {k : Nat} {U : List RunD} {F : Int} {R : List OpD} {V : List RunD} (h : ManyI f B Ls k U F R V) : toE F R = 0 := (fit_iff.1 (appF_of h.app).fit).2.1
structure ManyS (f : Int) (B : List OpD) (Ls : List (Int × List OpD)) (k : Nat) (V X : List RunD) (m n : Int) (T N : List OpD) : Prop where
  st : OSized T
  sn : OSized N
  sx : RSized X
  e : appE V m T = appE X n N
  v : appL V m T = appL X n N
  past : pastF f B (Ls.take (k + 1)) = (0, n, N)
  next : appE X n N = 0 → ManyI f B Ls (k + 1) X n N (appL V m T)
/-- A document, a row of operations that stay whatever is stored in boxes of changesets: handed in, or of one's own. -/
def DocS (W : World) (w : World) (v : Value) (L : List RunD) : Prop := HasD W v L ∨ ∃ ps : List RP, ps.map (·.1) = L ∧ OwnR w W.heap.size v ps
def OpsS (W : World) (w : World) (v : Value) (R : List OpD) : Prop := OpRow W v R ∨ OwnOps w W.heap.size v R
theorem DocS.row {W w : World} {v : Value} {L : List RunD} (h : DocS W w v L) (hb : Below W.heap.size W w) : HasD w v L := by
  rcases h with h | ⟨ps, h1, h2⟩
  · exact h.below hb
  · exact ⟨ps, h1, h2.row⟩
theorem DocS.keep {W w w' : World} {C : Nat} {ts : List TypeId} {v : Value} {L : List RunD} (h : DocS W w v L) (hk : Keep C ts w w') (h1 : 85 ∉ ts) (h2 : 99 ∉ ts) : DocS W w' v L := by
  rcases h with h | ⟨ps, e, h⟩
  · exact .inl h
  · exact .inr ⟨ps, e, h.keep hk h1 h2⟩
theorem DocS.below {W w w' : World} {v : Value} {L : List RunD} (h : DocS W w v L) (hb : Below w.heap.size w w') : DocS W w' v L := h.keep (keep_below (ts := []) hb (Nat.le_refl _)) (by simp) (by simp)
theorem OpsS.row {W w : World} {v : Value} {R : List OpD} (h : OpsS W w v R) (hb : Below W.heap.size W w) : OpRow w v R := by
  rcases h with h | h
  · exact h.below hb
  · exact h.row
theorem OpsS.keep {W w w' : World} {C : Nat} {ts : List TypeId} {v : Value} {R : List OpD} (h : OpsS W w v R) (hk : Keep C ts w w') (h1 : 45 ∉ ts) (h2 : 99 ∉ ts) : OpsS W w' v R := by
  rcases h with h | h
  · exact .inl h
  · exact .inr (h.keep7 hk h1 h2)
theorem OpsS.below {W w w' : World} {v : Value} {R : List OpD} (h : OpsS W w v R) (hb : Below w.heap.size w w') : OpsS W w' v R := h.keep (keep_below (ts := []) hb (Nat.le_refl _)) (by simp) (by simp)
end Go.Proofs.YtlfodemmdfaeeaaDoor
