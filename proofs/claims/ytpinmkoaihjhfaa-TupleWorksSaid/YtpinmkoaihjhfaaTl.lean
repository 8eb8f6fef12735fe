/- A part's bytes put behind a key: the program's putPart. -/
import Derived.Test.YtpinmkoaihjhfaaTj
import Derived.Test.YtpinmkoaihjhfaaTk
namespace Go.Proofs.Ytpinmkoaihjhfaa
open Go.RowKit Su Tp
attribute [local go_sem] Oper.semAt_some

/-- A key under way: a row of one's own in a box of one's own. -/
structure KeySt (B : Nat) (w0 : World) (kb : Nat) (l : List UInt8) (W : World) : Prop where
  below : Below B w0 W
  lo : B ≤ kb
  row : ∃ v, W.heap[kb]? = some (.cells #[v] 39) ∧ OwnU W (kb + 1) v l
theorem KeySt.step {B kb : Nat} {w0 W W' : World} {l : List UInt8} (h : KeySt B w0 kb l W) (hb : Below W.heap.size W W') : KeySt B w0 kb l W' := by
  obtain ⟨v, h1, h2⟩ := h.row
  have hlt := (Array.getElem?_eq_some_iff.1 h1).1
  exact ⟨h.below.trans (hb.mono (Nat.le_trans h.lo (Nat.le_of_lt hlt))), h.lo, v, (hb.block _ hlt).trans h1, h2.below hb⟩
theorem KeySt.alloc {B kb : Nat} {w0 W : World} {l : List UInt8} (h : KeySt B w0 kb l W) (o : Obj) : KeySt B w0 kb l (W.alloc o) := h.step ((Below.refl _ _).alloc (Nat.le_refl _) o)
theorem own_other {w : World} {B b o : Nat} {v u : Value} {l : List UInt8} (h : OwnU w B v l) (hb : b < B) : OwnU (w.setCell ⟨b, o, none⟩ u) B v l :=
  ⟨h.1, h.2.imp id fun ⟨g, cap, cur, e, hB, hh, r⟩ => ⟨g, cap, cur, e, hB, by
    rw [Below.heap_setCell w ⟨b, o, none⟩ u g (show g ≠ b by omega)]; exact hh, r⟩⟩
/-- Blocks of parts stay. -/
def KpP (W W' : World) : Prop := ∀ (i : Nat) (cs : Array Value) (fr : Nat × Nat), W.heap[i]? = some (Obj.cells cs 25 fr) → W'.heap[i]? = some (Obj.cells cs 25 fr)
theorem KpP.refl (W : World) : KpP W W := fun _ _ _ h => h
theorem KpP.trans {A B C : World} (h : KpP A B) (k : KpP B C) : KpP A C := fun i cs fr e => k i cs fr (h i cs fr e)
theorem KpP.below {W W' : World} (h : Below W.heap.size W W') : KpP W W' := fun i _ _ e => (h.block i (Array.getElem?_eq_some_iff.1 e).1).trans e
theorem OwnU.block {w : World} {B : Nat} {v : Value} {l : List UInt8} (h : OwnU w B v l) : ∀ g, v.ownBlock = some g → B ≤ g ∧ ∃ cs fr, w.heap[g]? = some (.cells cs 5 fr) := fun g hg => by
  rcases h.2 with ⟨rfl, _⟩ | ⟨g', cap, cur, rfl, hB, hc, _⟩
  · simp [Value.ownBlock] at hg
  · simp only [Value.ownBlock, Option.some.injEq] at hg
    subst hg
    exact ⟨hB, cur, _, hc⟩
theorem KpP.grown {W W' : World} {B : Nat} {v : Value} {l : List UInt8} (h : OwnU W B v l) (hg : W.grownBy W' v.ownBlock) : KpP W W' := fun i cs fr e => by
  rw [hg.block i (Array.getElem?_eq_some_iff.1 e).1 (fun e' => by
    obtain ⟨_, cs', fr', h1⟩ := h.block i e'.symm
    rw [e] at h1
    simp at h1)]
  exact e
theorem KpP.set {W : World} {b o : Nat} {cs : Array Value} {t : TypeId} {fr : Nat × Nat} (h : W.heap[b]? = some (.cells cs t fr)) (ht : t ≠ 25) (u : Value) : KpP W (W.setCell ⟨b, o, none⟩ u) := fun i cs' fr' e => by
  rw [Below.heap_setCell W ⟨b, o, none⟩ u i (fun e' => by
    subst e'
    rw [e] at h
    simp at h
    exact ht h.2.1.symm)]
  exact e
set_option maxRecDepth 100000 in
set_option maxHeartbeats 8000000 in
theorem put_any (B kb : Nat) (w0 W : World) (l m : List UInt8) (p : Value) (h : KeySt B w0 kb l W) (hp : BRow W p m) (hl : l.length ≤ 300) (hm : m.length ≤ 300) :
    Calls Try.prog 20 #[p, .pointer (some ⟨kb, 0, none⟩)] W fun e w' => e = .returned (.bool (decide ((l ++ m).length ≤ 100))) ∧ KeySt B w0 kb (l ++ m) w' ∧ KpP W w' := by
  obtain ⟨v, h1, h2⟩ := h.row
  have hlt := (Array.getElem?_eq_some_iff.1 h1).1
  obtain ⟨u, W', hr, ho, hg⟩ := run_append_bytes 39 (kb + 1) v p l m h2 hp (by omega) (by omega)
  have hc : W.cell? ⟨kb, 0, none⟩ = some v := by rw [cell_of_row _ _ _ _ _ _ h1]; rfl
  have hf : W.frozen? ⟨kb, 0, none⟩ = false := frozen_of_row W kb 0 _ _ h1
  have h1' : W'.heap[kb]? = some (.cells #[v] 39) := by
    rw [hg.block kb hlt (fun e => by have := (h2.lt kb e.symm).1; omega)]
    exact h1
  have hc' : W'.cell? ⟨kb, 0, none⟩ = some v := by rw [cell_of_row _ _ _ _ _ _ h1']; rfl
  have hf' : W'.frozen? ⟨kb, 0, none⟩ = false := frozen_of_row W' kb 0 _ _ h1'
  have hbW : Below B w0 W' := h.below.grown hg (Nat.le_trans h.lo (Nat.le_of_lt hlt)) fun k hk => by
    have := (h2.lt k hk).1
    have := h.lo
    omega
  have HK := Lib.hid (show KeySt B w0 kb (l ++ m) (W'.setCell ⟨kb, 0, none⟩ u) from ⟨hbW.setCell (p := ⟨kb, 0, none⟩) h.lo u, h.lo, u, by
    have := heap_setCell_same W' kb 0 _ _ u h1'
    simpa using this, own_other ho (by omega)⟩)
  have HP := Lib.hid ((KpP.grown h2 hg).trans (KpP.set h1' (by decide) u (o := 0)))
  obtain ⟨va, vc, rfl⟩ := h2.shape
  obtain ⟨ua, uc, rfl⟩ := ho.shape
  obtain ⟨pa, pc, rfl⟩ : ∃ a c, p = .slice a m.length c := by obtain ⟨a, c, h, _⟩ := hp; exact ⟨a, c, h⟩
  have hlen : (l ++ m).length ≤ 600 := by rw [List.length_append]; omega
  have hd : decide (((l ++ m).length : Int) ≤ 100) = decide ((l ++ m).length ≤ 100) := decide_eq_decide.2 (by omega)
  have hc2 : (W'.setCell ⟨kb, 0, none⟩ (.slice ua (l ++ m).length uc)).cell? ⟨kb, 0, none⟩ = some (.slice ua (l ++ m).length uc) := World.cell?_setCell_same _ _ _ hc'
  clear h h1 h2 hp hg ho h1' hbW
  generalize (l ++ m).length = n at *
  have HD := Lib.hid hd
  clear hd
  go_enter Try.func20, Try.ntmps20
  go_wp2_with (refine wpList_appended rfl _ _ 39 39 rfl (.slice va l.length vc) (.slice pa m.length pc) (.slice ua n uc) rfl rfl hr ?_; clear hr)
  go_ret
  exact ⟨by rw [← HD.out]; rfl, HK.out, HP.out⟩
end Go.Proofs.Ytpinmkoaihjhfaa
