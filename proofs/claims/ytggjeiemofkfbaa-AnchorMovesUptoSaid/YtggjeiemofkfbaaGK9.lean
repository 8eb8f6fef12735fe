/- Texts of this seat, put together: ChLawKit. -/
import Derived.Test.YtggjeiemofkfbaaGK1
import Derived.Test.YtggjeiemofkfbaaGK8
import Derived.Test.YtggjeiemofkfbaaGK0
import Derived.Test.YtggjeiemofkfbaaGR2
/- What the laws of changesets keep: boxes, rows with their bounds; Normal's answer, one form for both its ways. -/
namespace Go.Proofs.Ytggjeiemofkfbaa
open Go.RowKit Ch

/-- Operations that the call owns, in blocks from B on, ahead of U. -/
structure OwnU (w : World) (B U : Nat) (v : Value) (ps : List PA) : Prop where
  own : OwnP w B v ps
  top : ∀ j, v.ownBlock = some j → j < U
  att : ∀ q ∈ ps, ∀ j, q.2.ownBlock = some j → j < U
theorem ownU_mk {w : World} {B : Nat} {v : Value} {ps : List PA} (h : OwnP w B v ps) : OwnU w B w.heap.size v ps := ⟨h, fun j hj => (h.1.lt j hj).2, fun q hq j hj => ((h.2 q hq).lt j hj).2⟩
theorem own_under {w w' : World} {B U k n : Nat} {e : TypeId} {v : Value} {xs : List Value} (h : w.ownsRow B e k v n xs) (hu : ∀ j, v.ownBlock = some j → j < U) (hb : Below U w w') : w'.ownsRow B e k v n xs :=
  ⟨h.1, h.2.imp id fun ⟨g, cap, cur, a, b, c, d⟩ => ⟨g, cap, cur, a, b, (hb.block g (hu g (by rw [a]; rfl))).trans c, d⟩⟩
theorem OwnU.under {w w' : World} {B U : Nat} {v : Value} {ps : List PA} (h : OwnU w B U v ps) (hb : Below U w w') : OwnU w' B U v ps :=
  ⟨⟨own_under h.own.1 h.top hb, fun q hq => own_under (h.own.2 q hq) (h.att q hq) hb⟩, h.top, h.att⟩
theorem OwnU.span {w w' : World} {B U lo hi : Nat} {v : Value} {ps : List PA} (h : OwnU w B U v ps) (hs : Span lo hi w w') (hb : hi ≤ B) : OwnU w' B U v ps := ⟨h.own.span hs hb, h.top, h.att⟩
theorem OwnU.below {w w' : World} {B U : Nat} {v : Value} {ps : List PA} (h : OwnU w B U v ps) (hb : Below w.heap.size w w') : OwnU w' B U v ps :=
  ⟨h.own.keep (keep_below (ts := []) hb (Nat.le_refl _)) (by simp) (by simp), h.top, h.att⟩
theorem OwnU.row {w : World} {B U : Nat} {v : Value} {ps : List PA} {l : List OpD} (h : OwnU w B U v ps) (e : ps.map (·.1) = l) : OpRow w v l := by rw [← e]; exact h.own.row

/-- The normal form, or nothing where there is none. -/
def nF (f : Int) (ops : List OpD) : Int := if toE f ops = 0 then f else 0
def nL (f : Int) (ops : List OpD) : List OpD := if toE f ops = 0 then norm ops else []
theorem nL_small (f : Int) (ops : List OpD) : SmallO (nL f ops) := by
  unfold nL
  split
  · rename_i h; exact smallO_ok (norm_ok ((toE_iff f ops).1 h)).1
  · exact ⟨by simp, fun o ho => by cases ho⟩
def NormU (w : World) (f : Int) (ops : List OpD) (e : Ending) (w' : World) : Prop := ∃ v ps, e = .returned (.tuple #[chAgg (nF f ops) v, .int .i64 (toE f ops)]) ∧ ps.map (·.1) = nL f ops ∧ OwnP w' w.heap.size v ps ∧ Below w.heap.size w w'
theorem normU_of {w w' : World} {f : Int} {ops : List OpD} {e : Ending} (h : NormOut w f ops e w') : NormU w f ops e w' := by
  rcases h with ⟨h0, rfl, hb⟩ | ⟨h0, v, rfl, ⟨ps, e, hP⟩, hb⟩
  · exact ⟨_, [], by rw [nF, if_neg h0], by rw [nL, if_neg h0]; rfl, ⟨World.ownsRow_nil _ _ _ _, fun p hp => by cases hp⟩, hb⟩
  · exact ⟨v, ps, by rw [nF, if_pos h0, h0], by rw [nL, if_pos h0]; exact e, hP, hb⟩
theorem normU_any (f : Int) (v : Value) (ops : List OpD) (w : World) (hv : OpRow w v ops) (hz : OSized ops) : Calls Try.prog 26 #[chAgg f v] w (NormU w f ops) := (normal_any f v ops w hv hz).mono fun _ _ h => normU_of h
theorem refNormU_any (f : Int) (v : Value) (ops : List OpD) (w : World) (hv : OpRow w v ops) (hz : OSized ops) (hts : TSmall ops) : Calls Try.prog 28 #[chAgg f v] w (NormU w f ops) := (refNormal_any f v ops w hv hz hts).mono fun _ _ h => normU_of h
theorem refSame_yes (f : Int) (v u : Value) (l : List OpD) (w : World) (hv : OpRow w v l) (hu : OpRow w u l) : Calls Try.prog 25 #[chAgg f v, chAgg f u] w (OutB w true) := by
  have := refSameCh_any f f v u l l w hv hu
  rwa [show sameCh f f l l = true from decide_eq_true ⟨rfl, rfl⟩] at this
end Go.Proofs.Ytggjeiemofkfbaa
