import Derived.Test.YtchceolbbkhnnaaGM6
import Derived.Test.YtchceolbbkhnnaaGM5
import Derived.Test.YtchceolbbkhnnaaGP2
import Derived.Test.YtchceolbbkhnnaaGD1
namespace Go.Proofs.Ytchceolbbkhnnaa
section
open Go.RowKit Go.Shelf Rn Ch
open At hiding put
open Cp (Piece oneO oneE alC zeroO atm atms)
attribute [local go_sem] Oper.semAt_some
open Classical in
noncomputable def cmpE (f g : Int) (A C : List OpD) : Int := if nrmE f g A C ≠ 0 then nrmE f g A C else if ¬ Cp.fit (atms (norm A)) (atms (norm C)) then 3 else if 2000 < (Cp.cmpN (norm A) (norm C)).length then 2 else 0
theorem out_not5 {ts : List TypeId} {o : Obj} (h : o.isCells = false) : Out ts o := by cases o <;> first | trivial | cases h
theorem OwnP.cells5 {w w' : World} {B : Nat} {v : Value} {ps : List (OpD × Value)} (h : OwnP w B v ps) (hk : ∀ (i : Nat) (cs : Array Value) (e : TypeId) (fr : Nat × Nat), w.heap[i]? = some (.cells cs e fr) → w'.heap[i]? = some (.cells cs e fr)) : OwnP w' B v ps :=
 ⟨own_cells5 h.1 fun i cs fr => hk i cs _ fr, fun p hp => own_cells5 (h.2 p hp) fun i cs fr => hk i cs _ fr⟩
theorem rnd_of_keep5 {B N : Nat} {ts : List TypeId} {w w' : World} (h : Keep B ts w w') : Rnd B N ts w w' :=
 ⟨h.below, h.kept, fun i o _ ho hc => h.all i o ho (out_not5 hc)⟩
end
section
open Go.RowKit Rn Ch
open At hiding put
open Cp (atms)
theorem okc_sized7 {f : Int} {ops : List OpD} (h : OkC f ops) : OSized ops := fun o ho => by
 have hv := vop_of h ho; exact ⟨by have := hv.text; unfold maxLen; omega, hv.attrs.sized⟩
structure CmpG (f g : Int) (A C R : List OpD) : Prop where
 a : toE f A = 0
 c : toE g C = 0
 n : toN f A = g
 fit : Cp.fit (atms (norm A)) (atms (norm C))
 eq : R = Cp.cmpN (norm A) (norm C)
 ok : OkC f R
 once : norm R = R
 tn : toN f R = toN g C
theorem CmpG.toE {f g : Int} {A C R : List OpD} (h : CmpG f g A C R) : toE f R = 0 := (toE_iff _ _).2 h.ok
theorem CmpG.sized {f g : Int} {A C R : List OpD} (h : CmpG f g A C R) : OSized R := okc_sized7 h.ok
noncomputable def cmpR (f g : Int) (A C : List OpD) : List OpD := if cmpE f g A C = 0 then Cp.cmpN (norm A) (norm C) else []
def ChOwn (w : World) (F E : Int) (R : List OpD) (e : Ending) (w' : World) : Prop :=
 ∃ a c, e = .returned (.tuple #[chAgg F (.slice a R.length c), .int .i64 E]) ∧ OwnOps w' w.heap.size (.slice a R.length c) R ∧ Below w.heap.size w w'
theorem OwnOps.keep7 {w w' : World} {B C : Nat} {ts : List TypeId} {v : Value} {l : List OpD} (h : OwnOps w B v l) (hk : Keep C ts w w') (h1 : 40 ∉ ts) (h2 : 81 ∉ ts) : OwnOps w' B v l := by
 obtain ⟨ps, e, hP⟩ := h; exact ⟨ps, e, hP.keep hk h1 h2⟩
theorem ownOps_nil (w : World) (B : Nat) : OwnOps w B (.slice none 0 0) [] := ⟨[], rfl, World.ownsRow_nil _ _ _ _, fun p hp => (by cases hp)⟩
theorem box2 (w : World) (o1 o2 : Obj) : ((w.alloc o1).alloc o2).heap[w.heap.size]? = some o1 ∧ ((w.alloc o1).alloc o2).heap[w.heap.size + 1]? = some o2 ∧ Below w.heap.size w ((w.alloc o1).alloc o2) := by
 refine ⟨(Below.heap_alloc _ _ _ (by simp)).trans (heap_new _ _), ?_, ((Below.refl _ _).alloc (Nat.le_refl _) _).alloc (by simp) _⟩; have := heap_new (w.alloc o1) o2
 rwa [World.size_alloc] at this
theorem heap_up {w w' : World} {i : Nat} {o : Obj} (h : w.heap[i]? = some o) (hb : Below w.heap.size w w') : w'.heap[i]? = some o := (hb.block i (lt_of_heap h)).trans h
theorem box_at {W : World} {n : Nat} {t : TypeId} {a b : Value} (h : W.heap[n]? = some (.cells #[a, b] t (0, 0))) : W.cell? ⟨n, 0, none⟩ = some a ∧ W.cell? ⟨n, 1, none⟩ = some b ∧ n < W.heap.size :=
 ⟨(cells2 h).1, (cells2 h).2.1, lt_of_heap h⟩
end
section
open Go.RowKit Rn Ch
open At hiding put
open Cp (atms)
abbrev bareO (k n : Int) : OpD := ⟨k, n, ⟨#[]⟩, []⟩
abbrev xText : ByteArray := ⟨#[120]⟩
abbrev nilV : Value := .slice none 0 0
abbrev yText : ByteArray := ⟨#[121]⟩
theorem nil_sized : OSized [] := fun o ho => by cases ho
theorem row_at {w : World} {a : Option Addr} {n c : Nat} {ops : List OpD} (h : OpRow w (.slice a n c) ops) (i : Nat) (hi : i < ops.length) :
 ∃ b off, a = some ⟨b, off, none⟩ ∧ b < w.heap.size ∧ n = ops.length ∧ w.cell? ⟨b, off + i * 4, none⟩ = some (.int .i64 ops[i].kind) ∧ w.cell? ⟨b, off + i * 4 + 1, none⟩ = some (.int .i64 ops[i].n) ∧ w.cell? ⟨b, off + i * 4 + 2, none⟩ = some (.string ops[i].text) := by
 obtain ⟨a', cap, h0, _, _, h3⟩ := h; obtain ⟨b, off, e, hb, av, _, _, c0, c1, c2, _⟩ := h3 i hi; injection h0 with e1 e2 e3; subst e1; exact ⟨b, off, e, hb, e2, c0, c1, c2⟩
end
end Go.Proofs.Ytchceolbbkhnnaa
