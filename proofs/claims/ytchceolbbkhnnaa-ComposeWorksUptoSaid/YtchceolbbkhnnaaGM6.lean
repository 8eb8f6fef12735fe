/- Texts of this seat, put together: Mk. -/
import Derived.Test.YtchceolbbkhnnaaGM4
import Derived.Test.YtchceolbbkhnnaaGM5
import Derived.Test.YtchceolbbkhnnaaGD1
import Derived.Deep.RegionHeld3
/- The program's Meet: all that is met of two changesets, told one by one. -/
namespace Go.Proofs.Ytchceolbbkhnnaa
open Go.RowKit Go.Shelf Rn Ch
open At hiding put
open Cp (Piece)
attribute [local go_sem] Oper.semAt_some

@[local go_sem] theorem run_storeF5 {P : Program} {w : World} (a : Addr) (m : Mode) (f : Fn) (c b : Array Value) : (store a (.func f c b) m).run P w = stored P w a (.func f c b) m := run_store P w a _ m rfl
/-- A row of one's own, as a row of pieces. -/
theorem row5_of {w : World} {B : Nat} {u : Value} {qs : List QV5} (h : w.ownsRow B 86 5 u qs.length (flat5 qs)) : Row5 w u.ownBlock u qs ∧ ∀ b, u.ownBlock = some b → B ≤ b ∧ b < w.heap.size := by
 have hl := h.lt
 refine ⟨?_, fun b e => hl b e⟩
 rcases h.2 with ⟨rfl, h0⟩ | ⟨g, cap, cur, rfl, h1, h2, h3, h4, h5⟩
 ·have hq : qs = [] := List.length_eq_zero_iff.1 h0
  exact ⟨none, 0, by rw [h0], by rw [h0]; exact Nat.le_refl _, Nat.zero_le _, .inl ⟨hq, rfl⟩⟩
 ·refine ⟨some ⟨g, 0, none⟩, cap, rfl, ?_, ?_, .inr ⟨g, 0, cur, rfl, rfl, h2, fun i hi j hj => ?_⟩⟩
  ·exact h3
  ·exact h4
  ·have e := flat5_at qs i hi j hj
   rw [← h5.2, List.getElem?_take_of_lt (by omega), Array.getElem?_toList] at e
   rw [show 0 + i * 5 + j = i * 5 + j by omega]
   exact e
theorem mk_rows {w : World} {B N M rb : Nat} {ua uc : Value} {A C : List QV5} {al : Value} (hr : w.heap[rb]? = some (.cells #[ua, .int .i64 1, .int .i64 9223372036854775807, .string ⟨#[]⟩, .slice none 0 0, .int .i64 9223372036854775807, uc, .int .i64 1, .int .i64 9223372036854775807, .string ⟨#[]⟩, .slice none 0 0, .int .i64 9223372036854775807, al] 92 (0, 0)))
 (hA : w.ownsRow N 86 5 ua A.length (flat5 A)) (hC : w.ownsRow M 86 5 uc C.length (flat5 C)) (hsep : ∀ b, ua.ownBlock = some b → b < M) (hN : B ≤ N) (hM : B ≤ M) (hrb : B ≤ rb) (hVA : VQ A) (hVC : VQ C) : Rows5 w B rb ua.ownBlock uc.ownBlock A C al := by
 obtain ⟨a1, a2⟩ := row5_of hA
 obtain ⟨c1, c2⟩ := row5_of hC
 have hne : ∀ b cs, w.heap[b]? = some (.cells cs 86 (0, 0)) → b ≠ rb := fun b cs h => block_ne h hr (by decide)
 refine ⟨⟨_, ua, uc, hr, rfl, rfl, rfl, a1, c1⟩, ?_, ?_, fun b e e' => ?_, ⟨hrb, fun b e => ?_, fun b e => ?_⟩, fun q hq => (piece_sz (hVA q hq)).2.2, fun q hq => (piece_sz (hVC q hq)).2.2⟩
 ·unfold RestAt
  simp only [Lib.cell_of_heap hr]
  exact ⟨rfl, rfl, rfl, rfl, rfl⟩
 ·unfold RestAt
  simp only [Lib.cell_of_heap hr]
  exact ⟨rfl, rfl, rfl, rfl, rfl⟩
 ·have := hsep b e
  have := (c2 b e').1
  omega
 ·obtain ⟨x, y⟩ := a2 b e
  obtain ⟨cs, hb⟩ := a1.ty e
  exact ⟨by omega, y, hne b cs hb⟩
 ·obtain ⟨x, y⟩ := c2 b e
  obtain ⟨cs, hb⟩ := c1.ty e
  exact ⟨by omega, y, hne b cs hb⟩
theorem RowQ.below {w w' : World} {v : Value} {qs : List QV5} (h : RowQ w v qs) (hb : Below w.heap.size w w') : RowQ w' v qs := by
 obtain ⟨a, c, h0, h1, h2, h3⟩ := h
 refine ⟨a, c, h0, h1, h2, fun i hi => ?_⟩
 obtain ⟨b, off, e, hl, x0, x1, x2, x3⟩ := h3 i hi
 exact ⟨b, off, e, Nat.lt_of_lt_of_le hl hb.size, (hb.cell (by exact hl)).trans x0, (hb.cell (by exact hl)).trans x1, (hb.cell (by exact hl)).trans x2, (hb.cell (by exact hl)).trans x3⟩
theorem below13 {w a : World} {B b : Nat} {x0 x1 x2 x3 x4 x5 x6 x7 x8 x9 x10 x11 x12 : Value} (h : Below B a w) (hb : B ≤ b) : Below B a (((((((((((((w.setCell ⟨b, 0, none⟩ x0).setCell ⟨b, 1, none⟩ x1).setCell ⟨b, 2, none⟩ x2).setCell ⟨b, 3, none⟩ x3).setCell ⟨b, 4, none⟩ x4).setCell ⟨b, 5, none⟩ x5).setCell ⟨b, 6, none⟩ x6).setCell ⟨b, 7, none⟩ x7).setCell ⟨b, 8, none⟩ x8).setCell ⟨b, 9, none⟩ x9).setCell ⟨b, 10, none⟩ x10).setCell ⟨b, 11, none⟩ x11).setCell ⟨b, 12, none⟩ x12) := ((((((((((((h.setCell hb _).setCell hb _).setCell hb _).setCell hb _).setCell hb _).setCell hb _).setCell hb _).setCell hb _).setCell hb _).setCell hb _).setCell hb _).setCell hb _).setCell hb _
theorem z13 {w : World} {b : Nat} (h : w.heap[b]? = some (.cells #[.slice none 0 0, .int .i64 0, .int .i64 0, .string ⟨#[]⟩, .slice none 0 0, .int .i64 0, .slice none 0 0, .int .i64 0, .int .i64 0, .string ⟨#[]⟩, .slice none 0 0, .int .i64 0, .nilFunc] 92 (0, 0))) : w.cell? ⟨b, 0, none⟩ = some (.slice none 0 0) ∧ w.cell? ⟨b, 1, none⟩ = some (.int .i64 0) ∧ w.cell? ⟨b, 2, none⟩ = some (.int .i64 0) ∧ w.cell? ⟨b, 3, none⟩ = some (.string ⟨#[]⟩) ∧ w.cell? ⟨b, 4, none⟩ = some (.slice none 0 0) ∧ w.cell? ⟨b, 5, none⟩ = some (.int .i64 0) ∧ w.cell? ⟨b, 6, none⟩ = some (.slice none 0 0) ∧ w.cell? ⟨b, 7, none⟩ = some (.int .i64 0) ∧ w.cell? ⟨b, 8, none⟩ = some (.int .i64 0) ∧ w.cell? ⟨b, 9, none⟩ = some (.string ⟨#[]⟩) ∧ w.cell? ⟨b, 10, none⟩ = some (.slice none 0 0) ∧ w.cell? ⟨b, 11, none⟩ = some (.int .i64 0) ∧ w.cell? ⟨b, 12, none⟩ = some (.nilFunc) := by
 refine ⟨?_, ?_, ?_, ?_, ?_, ?_, ?_, ?_, ?_, ?_, ?_, ?_, ?_⟩ <;> simp [World.cell?, h]
theorem own_out {rb i N : Nat} {gA gB : Option Nat} (h1 : N ≤ rb) (h2 : ∀ b, gA = some b → N ≤ b) (h3 : ∀ b, gB = some b → N ≤ b) (hi : i < N) : i ∉ ownL rb gA gB := by
 unfold ownL
 intro h
 rcases List.mem_cons.1 h with h | h
 ·omega
 ·rcases List.mem_append.1 h with h | h
  ·have := h2 i (by cases gA with | none => cases h | some a => simp at h; rw [h]); omega
  ·have := h3 i (by cases gB with | none => cases h | some a => simp at h; rw [h]); omega
theorem block_ne5 {w : World} {i b : Nat} {cs ds : Array Value} {fr fs : Nat × Nat} (h : w.heap[i]? = some (.cells cs 86 fr)) (k : w.heap[b]? = some (.cells ds 92 fs)) : i ≠ b := fun e => by
 subst e
 rw [h] at k
 injection k with k
 injection k with _ k _
 exact absurd k (by decide)
set_option maxRecDepth 100000 in
theorem set13 {w : World} {b : Nat} {x0 x1 x2 x3 x4 x5 x6 x7 x8 x9 x10 x11 x12 : Value} (h : w.heap[b]? = some (.cells #[.slice none 0 0, .int .i64 0, .int .i64 0, .string ⟨#[]⟩, .slice none 0 0, .int .i64 0, .slice none 0 0, .int .i64 0, .int .i64 0, .string ⟨#[]⟩, .slice none 0 0, .int .i64 0, .nilFunc] 92 (0, 0))) : (((((((((((((w.setCell ⟨b, 0, none⟩ x0).setCell ⟨b, 1, none⟩ x1).setCell ⟨b, 2, none⟩ x2).setCell ⟨b, 3, none⟩ x3).setCell ⟨b, 4, none⟩ x4).setCell ⟨b, 5, none⟩ x5).setCell ⟨b, 6, none⟩ x6).setCell ⟨b, 7, none⟩ x7).setCell ⟨b, 8, none⟩ x8).setCell ⟨b, 9, none⟩ x9).setCell ⟨b, 10, none⟩ x10).setCell ⟨b, 11, none⟩ x11).setCell ⟨b, 12, none⟩ x12).heap[b]? = some (.cells #[x0, x1, x2, x3, x4, x5, x6, x7, x8, x9, x10, x11, x12] 92 (0, 0)) ∧ ∀ i, i ≠ b → (((((((((((((w.setCell ⟨b, 0, none⟩ x0).setCell ⟨b, 1, none⟩ x1).setCell ⟨b, 2, none⟩ x2).setCell ⟨b, 3, none⟩ x3).setCell ⟨b, 4, none⟩ x4).setCell ⟨b, 5, none⟩ x5).setCell ⟨b, 6, none⟩ x6).setCell ⟨b, 7, none⟩ x7).setCell ⟨b, 8, none⟩ x8).setCell ⟨b, 9, none⟩ x9).setCell ⟨b, 10, none⟩ x10).setCell ⟨b, 11, none⟩ x11).setCell ⟨b, 12, none⟩ x12).heap[i]? = w.heap[i]? := by
 have h0 : (w.setCell ⟨b, 0, none⟩ x0).heap[b]? = some (.cells #[x0, .int .i64 0, .int .i64 0, .string ⟨#[]⟩, .slice none 0 0, .int .i64 0, .slice none 0 0, .int .i64 0, .int .i64 0, .string ⟨#[]⟩, .slice none 0 0, .int .i64 0, .nilFunc] 92 (0, 0)) := nblk_set h
 have h1 : ((w.setCell ⟨b, 0, none⟩ x0).setCell ⟨b, 1, none⟩ x1).heap[b]? = some (.cells #[x0, x1, .int .i64 0, .string ⟨#[]⟩, .slice none 0 0, .int .i64 0, .slice none 0 0, .int .i64 0, .int .i64 0, .string ⟨#[]⟩, .slice none 0 0, .int .i64 0, .nilFunc] 92 (0, 0)) := nblk_set h0
 have h2 : (((w.setCell ⟨b, 0, none⟩ x0).setCell ⟨b, 1, none⟩ x1).setCell ⟨b, 2, none⟩ x2).heap[b]? = some (.cells #[x0, x1, x2, .string ⟨#[]⟩, .slice none 0 0, .int .i64 0, .slice none 0 0, .int .i64 0, .int .i64 0, .string ⟨#[]⟩, .slice none 0 0, .int .i64 0, .nilFunc] 92 (0, 0)) := nblk_set h1
 have h3 : ((((w.setCell ⟨b, 0, none⟩ x0).setCell ⟨b, 1, none⟩ x1).setCell ⟨b, 2, none⟩ x2).setCell ⟨b, 3, none⟩ x3).heap[b]? = some (.cells #[x0, x1, x2, x3, .slice none 0 0, .int .i64 0, .slice none 0 0, .int .i64 0, .int .i64 0, .string ⟨#[]⟩, .slice none 0 0, .int .i64 0, .nilFunc] 92 (0, 0)) := nblk_set h2
 have h4 : (((((w.setCell ⟨b, 0, none⟩ x0).setCell ⟨b, 1, none⟩ x1).setCell ⟨b, 2, none⟩ x2).setCell ⟨b, 3, none⟩ x3).setCell ⟨b, 4, none⟩ x4).heap[b]? = some (.cells #[x0, x1, x2, x3, x4, .int .i64 0, .slice none 0 0, .int .i64 0, .int .i64 0, .string ⟨#[]⟩, .slice none 0 0, .int .i64 0, .nilFunc] 92 (0, 0)) := nblk_set h3
 have h5 : ((((((w.setCell ⟨b, 0, none⟩ x0).setCell ⟨b, 1, none⟩ x1).setCell ⟨b, 2, none⟩ x2).setCell ⟨b, 3, none⟩ x3).setCell ⟨b, 4, none⟩ x4).setCell ⟨b, 5, none⟩ x5).heap[b]? = some (.cells #[x0, x1, x2, x3, x4, x5, .slice none 0 0, .int .i64 0, .int .i64 0, .string ⟨#[]⟩, .slice none 0 0, .int .i64 0, .nilFunc] 92 (0, 0)) := nblk_set h4
 have h6 : (((((((w.setCell ⟨b, 0, none⟩ x0).setCell ⟨b, 1, none⟩ x1).setCell ⟨b, 2, none⟩ x2).setCell ⟨b, 3, none⟩ x3).setCell ⟨b, 4, none⟩ x4).setCell ⟨b, 5, none⟩ x5).setCell ⟨b, 6, none⟩ x6).heap[b]? = some (.cells #[x0, x1, x2, x3, x4, x5, x6, .int .i64 0, .int .i64 0, .string ⟨#[]⟩, .slice none 0 0, .int .i64 0, .nilFunc] 92 (0, 0)) := nblk_set h5
 have h7 : ((((((((w.setCell ⟨b, 0, none⟩ x0).setCell ⟨b, 1, none⟩ x1).setCell ⟨b, 2, none⟩ x2).setCell ⟨b, 3, none⟩ x3).setCell ⟨b, 4, none⟩ x4).setCell ⟨b, 5, none⟩ x5).setCell ⟨b, 6, none⟩ x6).setCell ⟨b, 7, none⟩ x7).heap[b]? = some (.cells #[x0, x1, x2, x3, x4, x5, x6, x7, .int .i64 0, .string ⟨#[]⟩, .slice none 0 0, .int .i64 0, .nilFunc] 92 (0, 0)) := nblk_set h6
 have h8 : (((((((((w.setCell ⟨b, 0, none⟩ x0).setCell ⟨b, 1, none⟩ x1).setCell ⟨b, 2, none⟩ x2).setCell ⟨b, 3, none⟩ x3).setCell ⟨b, 4, none⟩ x4).setCell ⟨b, 5, none⟩ x5).setCell ⟨b, 6, none⟩ x6).setCell ⟨b, 7, none⟩ x7).setCell ⟨b, 8, none⟩ x8).heap[b]? = some (.cells #[x0, x1, x2, x3, x4, x5, x6, x7, x8, .string ⟨#[]⟩, .slice none 0 0, .int .i64 0, .nilFunc] 92 (0, 0)) := nblk_set h7
 have h9 : ((((((((((w.setCell ⟨b, 0, none⟩ x0).setCell ⟨b, 1, none⟩ x1).setCell ⟨b, 2, none⟩ x2).setCell ⟨b, 3, none⟩ x3).setCell ⟨b, 4, none⟩ x4).setCell ⟨b, 5, none⟩ x5).setCell ⟨b, 6, none⟩ x6).setCell ⟨b, 7, none⟩ x7).setCell ⟨b, 8, none⟩ x8).setCell ⟨b, 9, none⟩ x9).heap[b]? = some (.cells #[x0, x1, x2, x3, x4, x5, x6, x7, x8, x9, .slice none 0 0, .int .i64 0, .nilFunc] 92 (0, 0)) := nblk_set h8
 have h10 : (((((((((((w.setCell ⟨b, 0, none⟩ x0).setCell ⟨b, 1, none⟩ x1).setCell ⟨b, 2, none⟩ x2).setCell ⟨b, 3, none⟩ x3).setCell ⟨b, 4, none⟩ x4).setCell ⟨b, 5, none⟩ x5).setCell ⟨b, 6, none⟩ x6).setCell ⟨b, 7, none⟩ x7).setCell ⟨b, 8, none⟩ x8).setCell ⟨b, 9, none⟩ x9).setCell ⟨b, 10, none⟩ x10).heap[b]? = some (.cells #[x0, x1, x2, x3, x4, x5, x6, x7, x8, x9, x10, .int .i64 0, .nilFunc] 92 (0, 0)) := nblk_set h9
 have h11 : ((((((((((((w.setCell ⟨b, 0, none⟩ x0).setCell ⟨b, 1, none⟩ x1).setCell ⟨b, 2, none⟩ x2).setCell ⟨b, 3, none⟩ x3).setCell ⟨b, 4, none⟩ x4).setCell ⟨b, 5, none⟩ x5).setCell ⟨b, 6, none⟩ x6).setCell ⟨b, 7, none⟩ x7).setCell ⟨b, 8, none⟩ x8).setCell ⟨b, 9, none⟩ x9).setCell ⟨b, 10, none⟩ x10).setCell ⟨b, 11, none⟩ x11).heap[b]? = some (.cells #[x0, x1, x2, x3, x4, x5, x6, x7, x8, x9, x10, x11, .nilFunc] 92 (0, 0)) := nblk_set h10
 have h12 : (((((((((((((w.setCell ⟨b, 0, none⟩ x0).setCell ⟨b, 1, none⟩ x1).setCell ⟨b, 2, none⟩ x2).setCell ⟨b, 3, none⟩ x3).setCell ⟨b, 4, none⟩ x4).setCell ⟨b, 5, none⟩ x5).setCell ⟨b, 6, none⟩ x6).setCell ⟨b, 7, none⟩ x7).setCell ⟨b, 8, none⟩ x8).setCell ⟨b, 9, none⟩ x9).setCell ⟨b, 10, none⟩ x10).setCell ⟨b, 11, none⟩ x11).setCell ⟨b, 12, none⟩ x12).heap[b]? = some (.cells #[x0, x1, x2, x3, x4, x5, x6, x7, x8, x9, x10, x11, x12] 92 (0, 0)) := nblk_set h11
 exact ⟨h12, fun i hi => (Below.heap_setCell _ _ _ _ hi).trans ((Below.heap_setCell _ _ _ _ hi).trans ((Below.heap_setCell _ _ _ _ hi).trans ((Below.heap_setCell _ _ _ _ hi).trans ((Below.heap_setCell _ _ _ _ hi).trans ((Below.heap_setCell _ _ _ _ hi).trans ((Below.heap_setCell _ _ _ _ hi).trans ((Below.heap_setCell _ _ _ _ hi).trans ((Below.heap_setCell _ _ _ _ hi).trans ((Below.heap_setCell _ _ _ _ hi).trans ((Below.heap_setCell _ _ _ _ hi).trans ((Below.heap_setCell _ _ _ _ hi).trans (Below.heap_setCell _ _ _ _ hi))))))))))))⟩
set_option maxRecDepth 100000 in
theorem rows_new {w : World} {B N M : Nat} {ua uc : Value} {A C : List QV5} {al : Value} (hA : w.ownsRow N 86 5 ua A.length (flat5 A)) (hC : w.ownsRow M 86 5 uc C.length (flat5 C)) (hsep : ∀ b, ua.ownBlock = some b → b < M) (hN : B ≤ N) (hM : B ≤ M) (hB : B ≤ w.heap.size) (hVA : VQ A) (hVC : VQ C) : Rows5 (w.alloc (.cells #[ua, .int .i64 1, .int .i64 9223372036854775807, .string ⟨#[]⟩, .slice none 0 0, .int .i64 9223372036854775807, uc, .int .i64 1, .int .i64 9223372036854775807, .string ⟨#[]⟩, .slice none 0 0, .int .i64 9223372036854775807, al] 92)) B w.heap.size ua.ownBlock uc.ownBlock A C al :=
 mk_rows (heap_new _ _) (row_below hA (below_box _ _)) (row_below hC (below_box _ _)) hsep hN hM hB hVA hVC
set_option maxRecDepth 100000 in
theorem rows_set {w : World} {B N M b : Nat} {ua uc : Value} {A C : List QV5} {al : Value} (hz : w.heap[b]? = some (.cells #[.slice none 0 0, .int .i64 0, .int .i64 0, .string ⟨#[]⟩, .slice none 0 0, .int .i64 0, .slice none 0 0, .int .i64 0, .int .i64 0, .string ⟨#[]⟩, .slice none 0 0, .int .i64 0, .nilFunc] 92 (0, 0))) (hA : w.ownsRow N 86 5 ua A.length (flat5 A)) (hC : w.ownsRow M 86 5 uc C.length (flat5 C)) (hsep : ∀ b, ua.ownBlock = some b → b < M) (hN : B ≤ N) (hM : B ≤ M) (hB : B ≤ b) (hVA : VQ A) (hVC : VQ C) : Rows5 (((((((((((((w.setCell ⟨b, 0, none⟩ ua).setCell ⟨b, 1, none⟩ (.int .i64 1)).setCell ⟨b, 2, none⟩ (.int .i64 9223372036854775807)).setCell ⟨b, 3, none⟩ (.string ⟨#[]⟩)).setCell ⟨b, 4, none⟩ (.slice none 0 0)).setCell ⟨b, 5, none⟩ (.int .i64 9223372036854775807)).setCell ⟨b, 6, none⟩ uc).setCell ⟨b, 7, none⟩ (.int .i64 1)).setCell ⟨b, 8, none⟩ (.int .i64 9223372036854775807)).setCell ⟨b, 9, none⟩ (.string ⟨#[]⟩)).setCell ⟨b, 10, none⟩ (.slice none 0 0)).setCell ⟨b, 11, none⟩ (.int .i64 9223372036854775807)).setCell ⟨b, 12, none⟩ al) B b ua.ownBlock uc.ownBlock A C al := by
 obtain ⟨h1, h2⟩ := set13 (x0 := ua) (x1 := .int .i64 1) (x2 := .int .i64 9223372036854775807) (x3 := .string ⟨#[]⟩) (x4 := .slice none 0 0) (x5 := .int .i64 9223372036854775807) (x6 := uc) (x7 := .int .i64 1) (x8 := .int .i64 9223372036854775807) (x9 := .string ⟨#[]⟩) (x10 := .slice none 0 0) (x11 := .int .i64 9223372036854775807) (x12 := al) hz
 have hk : ∀ (i : Nat) (cs : Array Value) (fr : Nat × Nat), w.heap[i]? = some (.cells cs 86 fr) → _ := fun i cs fr hi => (h2 i (block_ne5 hi hz)).trans hi
 exact mk_rows h1 (own_cells5 hA hk) (own_cells5 hC hk) hsep hN hM hB hVA hVC
set_option maxRecDepth 100000 in
set_option maxHeartbeats 16000000 in
theorem meet_iter (B ba bb bl : Nat) (f g : Int) (va vb : Value) (A C : List QV5) (ps : List (QV5 × QV5)) (al : OpD → OpD → Int) (av : Value) (tB : List TypeId) (Kp : World → World → Prop) (Fr : World → Nat → Prop) (hM : Met al A C ps) (hVA : VQ A) (hVC : VQ C) (hla : A.length ≤ 2000) (hlc : C.length ≤ 2000) (hKO : KpOk5 Kp)
 (ht : 86 ∉ tB) (htr : 92 ∉ tB) (htp : 112 ∉ tB) (hta : 48 ∉ tB) (hty : 82 ∉ tB)
 (Pr : World → Prop) (hPF : ∀ W, (∀ i, W.heap.size ≤ i → Fr W i) → Pr W) (hPk : ∀ A A' : World, Pr A → (∀ (i : Nat) (cs : Array Value) (e : TypeId) (fr : Nat × Nat), A.heap[i]? = some (.cells cs e fr) → e ≠ 86 → e ≠ 92 → A'.heap[i]? = some (.cells cs e fr)) → Pr A')
 (hal : ∀ W, Boxed W bl 48 av → Pr W → ∀ x y : QV5, Calls Try.prog 48 #[op5 x, op5 y, .pointer (some ⟨bl, 0, none⟩)] W fun e w' => e = .returned (.int .i64 (al x.1 y.1)) ∧ Below W.heap.size W w') :
 Iter Try.prog 45 #[.pointer (some ⟨ba, 0, none⟩), .pointer (some ⟨bb, 0, none⟩), .pointer (some ⟨bl, 0, none⟩)] (fun p : QV5 × QV5 => #[opA4 p.1, opA4 p.2]) ps B WT5 [] tB Kp Fr
  (fun W => W.heap[ba]? = some (.cells #[.int .i64 f, va] 24 (0, 0)) ∧ W.heap[bb]? = some (.cells #[.int .i64 g, vb] 24 (0, 0)) ∧ Boxed W bl 48 av ∧ RowQ W va A ∧ RowQ W vb C) (fun _ => True) := by
 have HIT := Lib.hid (fun B pb rb gA gB => met5_iter B pb rb bl gA gB A C ps al av tB Kp (fun W _ => Pr W) hM ht htr htp hta Pr (fun W h => h W.heap.size (Nat.le_refl _)) hPk hal)
 clear hM hal hPk
 intro l J Jx W hBW ⟨hba, hbb, hbl, hRA, hRC⟩ hJ hJx hF hY h0
 have HPF := Lib.hid (fun k A (h : J k A) => hPF A (fun i hi => hF k A i h hi))
 clear hF hPF
 have HRA := Lib.hid hRA
 have HRC := Lib.hid hRC
 obtain ⟨aa, ac, rfl, _⟩ := hRA
 obtain ⟨ca, cc, rfl, _⟩ := hRC
 refine callsIn_of_wp_marks Try.func45 rfl trivial ?_ rfl
 simp only [Try.ntmps45, List.size_toArray, List.length_cons, List.length_nil, Nat.reduceAdd, Nat.reduceSub, Array.replicate_succ, Array.replicate_zero, List.push_toArray, List.append_toArray, List.nil_append, List.cons_append]
 gi_wp2
 rename_i Qf K hK
 obtain ⟨W1, hW1⟩ : ∃ W1, W1 = W.alloc (.cells #[.func (.yield l) #[] #[]] 82) := ⟨_, rfl⟩
 have BW1 := Lib.hid (show Below W.heap.size W W1 by rw [hW1]; exact below_box W _)
 have hs1 : W.heap.size < W1.heap.size := by rw [hW1]; simp
 have by1 := Lib.hid (show Boxed W1 W.heap.size 82 (.func (.yield l) #[] #[]) by rw [hW1]; exact Boxed.new W _ _)
 have j1 := Lib.hid (hJ _ _ _ h0 (step_below WT5 BW1.out hBW))
 have HSB := Lib.hid (show Boxed W1 bl 48 av from (BW1.out.block _ (lt_of_heap hbl)).trans hbl)
 have key : ∀ (rb : Nat) (gA gB : Option Nat) (u8 u9 u10 u11 u12 u13 u14 u15 u16 u17 : Value) (W5 : World), Below W1.heap.size W1 W5 → W1.heap.size ≤ rb → (∀ b, gA = some b → W1.heap.size ≤ b) → (∀ b, gB = some b → W1.heap.size ≤ b) → Rows5 W5 B rb gA gB A C (aloneV bl) →
  K { tmps := #[.func (.yield l) #[] #[], .pointer (some ⟨ba, 0, none⟩), .pointer (some ⟨bb, 0, none⟩), .pointer (some ⟨bl, 0, none⟩), .pointer (some ⟨W.heap.size, 0, none⟩), .pointer (some ⟨rb, 0, none⟩), undef, undef, u8, u9, u10, u11, u12, u13, u14, u15, u16, u17, undef, undef, undef, undef, undef, undef, undef, undef, undef, undef], defers := [] } W5 := by
  intro rb gA gB u8 u9 u10 u11 u12 u13 u14 u15 u16 u17 W5 b5 hrb hgA hgB hR5
  have hs5 := b5.size
  refine hK _ _ ?_
  have HR5 := Lib.hid hR5
  have HB5 := Lib.hid b5
  have HG := Lib.hid (And.intro hrb (And.intro hgA hgB))
  clear hR5 b5 hgA hgB
  gi_wp2
  refine ⟨trivial, rfl, (callsIn_wide.2 (met5_any rb W5)).mono ?_⟩
  rintro e w6 ⟨rfl, hw6⟩
  have BX6 := Lib.hid (show Below W5.heap.size W5 w6 by rw [hw6]; exact below_box W5 _)
  have BP6 := Lib.hid (show Boxed w6 W5.heap.size 112 (.pointer (some ⟨rb, 0, none⟩)) by rw [hw6]; exact Boxed.new W5 _ _)
  have hs6 : W5.heap.size < w6.heap.size := by rw [hw6]; simp
  have B6 := Lib.hid (HB5.out.trans (BX6.out.mono HB5.out.size))
  have SB6 := Lib.hid (show Boxed w6 bl _ _ from (B6.out.block _ (lt_of_heap HSB.out)).trans HSB.out)
  have BY6 := Lib.hid (show Boxed w6 W.heap.size _ _ from (B6.out.block _ (lt_of_heap by1.out)).trans by1.out)
  have R6 := Lib.hid (fin5 HR5.out HR5.out.blk.choose_spec.choose_spec.choose_spec.1 ((BX6.out.block _ (lt_of_heap HR5.out.blk.choose_spec.choose_spec.choose_spec.1)).trans HR5.out.blk.choose_spec.choose_spec.choose_spec.1) HR5.out.blk.choose_spec.choose_spec.choose_spec.2.1 HR5.out.blk.choose_spec.choose_spec.choose_spec.2.2.1 (fun _ _ _ => rfl) (HR5.out.blk.choose_spec.choose_spec.choose_spec.2.2.2.2.1.below BX6.out) (HR5.out.blk.choose_spec.choose_spec.choose_spec.2.2.2.2.2.below BX6.out) BX6.out.size HR5.out.okA HR5.out.okC)
  have J6 := Lib.hid (hJ 0 W1 w6 j1.out (step_below WT5 B6.out (by have := hs1; omega)))
  clear hw6
  gi_wp2
  refine range_it (HIT.out B W5.heap.size rb gA gB) rfl (enters_of Try.func71 (by kernel_rfl) rfl) (fun _ => rfl) (by omega) ?hS hKO.trans hKO.put
   (fun k W' => J k W' ∧ Boxed W' W.heap.size 82 (.func (.yield l) #[] #[])) (fun c k W' => c = .ret ∧ Jx k W')
   (fun k A A' h hs => ⟨hJ _ _ _ h.1 (hs.more (fun _ h => h) (fun i hi h => absurd h (own_out HG.out.1 HG.out.2.1 HG.out.2.2 (by omega))) (by omega)), hs.cells _ _ _ _ h.2 (.inl (by decide))⟩) (fun c k A A' h hs => ⟨h.1, hJx _ _ _ h.2 (hs.more (fun _ h => h) (fun i hi h => absurd h (own_out HG.out.1 HG.out.2.1 HG.out.2.2 (by omega))) (by omega))⟩) (fun k A _ h _ => HPF.out k A h.1) ⟨J6.out, BY6.out⟩ ?round ?done ?stop ?hS1
  case hS =>
   intro W' hb
   have hbk : ∀ {i : Nat} {o : Obj}, w6.heap[i]? = some o → W'.heap[i]? = some o := fun hi => (hb.block _ (lt_of_heap hi)).trans hi
   exact ⟨hbk BP6.out, hbk SB6.out, R6.out.rnd (rnd_below (N := 0) [] hb (Nat.le_refl _)) (by simp) (by simp)⟩
  case hS1 => exact fun _ _ _ _ => trivial
  case round =>
   rintro l' k hk W2 hle ⟨hj2, hb2⟩
   have hbl2 := hb2.lt
   have HY := Lib.hid (hY k hk)
   generalize ps[k] = q at HY ⊢
   obtain ⟨x, y⟩ := q
   have HJ := Lib.hid (fun A (h : Below W2.heap.size W2 A) => hJ k W2 A hj2 (step_below WT5 h (by omega)))
   have HJJ := Lib.hid (fun A A' (h : J k A) (hs : Step B w6.heap.size [] [] A A') => hJ k A A' h (hs.more (fun _ h => by cases h) (fun _ _ h => h) (by omega)))
   have HB2 := Lib.hid hb2
   clear hj2 hb2
   gi_wp2
   have bA : Below W2.heap.size W2 ((W2.alloc (.cells (cell5 x) 86)).alloc (.cells (cell5 y) 86)) := ((Below.refl _ _).alloc (Nat.le_refl _) _).alloc (by simp) _
   have x0 : ((W2.alloc (.cells (cell5 x) 86)).alloc (.cells (cell5 y) 86)).heap[W2.heap.size]? = some (.cells (cell5 x) 86 (0, 0)) := (Below.heap_alloc _ _ _ (by simp)).trans (heap_new _ _)
   have y0 : ((W2.alloc (.cells (cell5 x) 86)).alloc (.cells (cell5 y) 86)).heap[W2.heap.size + 1]? = some (.cells (cell5 y) 86 (0, 0)) := by
    have := heap_new (W2.alloc (.cells (cell5 x) 86)) (.cells (cell5 y) 86)
    rwa [World.size_alloc] at this
   refine ⟨rnd_below tB bA (by omega), hKO.below bA, ⟨HJ.out _ bA, (bA.block _ hbl2).trans HB2.out⟩, fun W4 hs hsz4 r4 hr4 => ?_⟩
   have c4 : Boxed W4 W.heap.size 82 (.func (.yield l) #[] #[]) := hs.cells _ _ _ _ ((bA.block _ hbl2).trans HB2.out) (.inl (by simp))
   have x4 := hs.cells _ _ _ _ x0 (.inl (by simp))
   have y4 := hs.cells _ _ _ _ y0 (.inl (by simp))
   have d0 := c4.cell
   obtain ⟨a0, a1, a2, a3, a4⟩ := c5 x4
   obtain ⟨b0, b1, b2, b3, b4⟩ := c5 y4
   have hj4 := HJJ.out _ _ (HJ.out _ bA) hs
   obtain ⟨fn, tmps, assign, body, hy, hR⟩ := HY.out W4 hj4
   have HR := Lib.hid hR
   have HC4 := Lib.hid c4
   clear hR hs hj4 bA c4 x4 y4 hsz4 hr4 x0 y0
   gi_wp2
   refine ⟨rfl, RoundIn.mono (F := Fence.wide.inRound l') HR.out ?_⟩
   rintro e W5' (⟨rfl, hj5, hr5, hk5⟩ | ⟨rfl, hx5, hr5⟩)
   ·have FIN : Rnd B w6.heap.size tB W4 W5' ∧ Kp W4 W5' ∧ J (k + 1) W5' ∧ Boxed W5' W.heap.size 82 (.func (.yield l) #[] #[]) := ⟨hr5.more (fun _ h => h) (by omega), hk5, hj5, hr5.cells _ _ _ _ HC4.out hty⟩
    have HF := Lib.hid FIN
    clear hj5 hr5 hk5 FIN
    gi_wp2
    exact ⟨HF.out.1, HF.out.2.1, HF.out.2.2⟩
   ·have FIN : Rnd B w6.heap.size tB W4 W5' ∧ Jx k W5' := ⟨hr5.more (fun _ h => h) (by omega), hx5⟩
    have HF := Lib.hid FIN
    clear hr5 hx5 FIN
    gi_wp2
    exact ⟨HF.out.1, rfl, HF.out.2⟩
  case done =>
   rintro D W2 hle ⟨hj2, hb2⟩ _ hD
   have HJ2 := Lib.hid (hJ _ _ _ hj2 (step_put WT5 (.deferred none) (show W.heap.size ≤ D by omega) (show B ≤ D by omega) hD rfl))
   clear hj2 hb2
   gi_wp2
   refine ⟨by simp, .inl ⟨_, _, rfl, run_takeDeferred hD, ?_⟩⟩
   refine ⟨_, results_none rfl _ _ _, ?_⟩
   exact ⟨⟨_, rfl⟩, .inl ⟨HJ2.out, trivial⟩⟩
  case stop =>
   rintro D c k W2 hle hk ⟨rfl, hj2⟩ hD
   have HJ2 := Lib.hid (hJx _ _ _ hj2 (step_put WT5 (.deferred none) (show W.heap.size ≤ D by omega) (show B ≤ D by omega) hD rfl))
   clear hj2
   gi_wp2
   refine ⟨by simp, .inl ⟨_, _, rfl, run_takeDeferred hD, ?_⟩⟩
   refine ⟨_, results_none rfl _ _ _, ?_⟩
   exact ⟨⟨_, rfl⟩, .inr ⟨k, hk, HJ2.out⟩⟩
 have HOA := Lib.hid (fun X (h : Below W1.heap.size W1 X) => ops5_any f (.slice aa A.length ac) A X (HRA.out.below (BW1.out.trans (h.mono BW1.out.size))) hVA hla)
 have HOC := Lib.hid (fun X (h : Below W1.heap.size W1 X) => ops5_any g (.slice ca C.length cc) C X (HRC.out.below (BW1.out.trans (h.mono BW1.out.size))) hVC hlc)
 have CA := Lib.hid (show W1.heap[ba]? = some (.cells #[.int .i64 f, .slice aa A.length ac] 24 (0, 0)) from (BW1.out.block _ (lt_of_heap hba)).trans hba)
 have CB := Lib.hid (show W1.heap[bb]? = some (.cells #[.int .i64 g, .slice ca C.length cc] 24 (0, 0)) from (BW1.out.block _ (lt_of_heap hbb)).trans hbb)
 obtain ⟨a0, a1, _, _⟩ := cells2 CA.out
 obtain ⟨b0, b1, _, _⟩ := cells2 CB.out
 rw [← hW1]
 refine wpIn_wide.2 ?_
 have HKEY := Lib.hid key
 have la := lt_of_heap CA.out
 have lb := lt_of_heap CB.out
 clear key hW1 hba hbb hbl hJ hJx hY h0 hK
 have SD : W1.drew.cell? ⟨ba, 0, none⟩ = some (.int .i64 f) ∧ W1.drew.cell? ⟨ba, 1, none⟩ = some (.slice aa A.length ac) ∧ W1.drew.cell? ⟨bb, 0, none⟩ = some (.int .i64 g) ∧ W1.drew.cell? ⟨bb, 1, none⟩ = some (.slice ca C.length cc) := ⟨a0, a1, b0, b1⟩
 have lad : ba < W1.drew.heap.size := la
 have lbd : bb < W1.drew.heap.size := lb
 go_region_held3 (fun w' => w'.cell? ⟨ba, 0, none⟩ = some (.int .i64 f) ∧ w'.cell? ⟨ba, 1, none⟩ = some (.slice aa A.length ac) ∧ w'.cell? ⟨bb, 0, none⟩ = some (.int .i64 g) ∧ w'.cell? ⟨bb, 1, none⟩ = some (.slice ca C.length cc))
  (first
   | with_reducible exact SD
   | with_reducible exact ⟨((below_box W1.drew _).cell lad).trans SD.1, ((below_box W1.drew _).cell lad).trans SD.2.1, ((below_box W1.drew _).cell lbd).trans SD.2.2.1, ((below_box W1.drew _).cell lbd).trans SD.2.2.2⟩
   | with_reducible exact S5
   | with_reducible exact S4
   | with_reducible exact S3
   | with_reducible exact S2
   | with_reducible exact ⟨(((B5.out.alloc B5.out.size _)).cell (by exact la)).trans a0, (((B5.out.alloc B5.out.size _)).cell (by exact la)).trans a1, (((B5.out.alloc B5.out.size _)).cell (by exact lb)).trans b0, (((B5.out.alloc B5.out.size _)).cell (by exact lb)).trans b1⟩
   | with_reducible exact ⟨(((B4.out.alloc B4.out.size _)).cell (by exact la)).trans a0, (((B4.out.alloc B4.out.size _)).cell (by exact la)).trans a1, (((B4.out.alloc B4.out.size _)).cell (by exact lb)).trans b0, (((B4.out.alloc B4.out.size _)).cell (by exact lb)).trans b1⟩
   | with_reducible exact ⟨(((B3.out.alloc B3.out.size _)).cell (by exact la)).trans a0, (((B3.out.alloc B3.out.size _)).cell (by exact la)).trans a1, (((B3.out.alloc B3.out.size _)).cell (by exact lb)).trans b0, (((B3.out.alloc B3.out.size _)).cell (by exact lb)).trans b1⟩
   | with_reducible exact ⟨(((B2.out.alloc B2.out.size _)).cell (by exact la)).trans a0, (((B2.out.alloc B2.out.size _)).cell (by exact la)).trans a1, (((B2.out.alloc B2.out.size _)).cell (by exact lb)).trans b0, (((B2.out.alloc B2.out.size _)).cell (by exact lb)).trans b1⟩
   | with_reducible exact ⟨(((below_box W1 _)).cell (by exact la)).trans a0, (((below_box W1 _)).cell (by exact la)).trans a1, (((below_box W1 _)).cell (by exact lb)).trans b0, (((below_box W1 _)).cell (by exact lb)).trans b1⟩
   | with_reducible exact ⟨((below13 (b := w4.heap.size) B5.out B4.out.size).cell (by exact la)).trans a0, ((below13 (b := w4.heap.size) B5.out B4.out.size).cell (by exact la)).trans a1, ((below13 (b := w4.heap.size) B5.out B4.out.size).cell (by exact lb)).trans b0, ((below13 (b := w4.heap.size) B5.out B4.out.size).cell (by exact lb)).trans b1⟩
   | with_reducible exact ⟨((below13 (b := w3.heap.size) B5.out B3.out.size).cell (by exact la)).trans a0, ((below13 (b := w3.heap.size) B5.out B3.out.size).cell (by exact la)).trans a1, ((below13 (b := w3.heap.size) B5.out B3.out.size).cell (by exact lb)).trans b0, ((below13 (b := w3.heap.size) B5.out B3.out.size).cell (by exact lb)).trans b1⟩
   | with_reducible exact ⟨((below13 (b := w2.heap.size) B5.out B2.out.size).cell (by exact la)).trans a0, ((below13 (b := w2.heap.size) B5.out B2.out.size).cell (by exact la)).trans a1, ((below13 (b := w2.heap.size) B5.out B2.out.size).cell (by exact lb)).trans b0, ((below13 (b := w2.heap.size) B5.out B2.out.size).cell (by exact lb)).trans b1⟩
   | with_reducible exact ⟨((below13 (b := W1.heap.size) B5.out (Nat.le_refl _)).cell (by exact la)).trans a0, ((below13 (b := W1.heap.size) B5.out (Nat.le_refl _)).cell (by exact la)).trans a1, ((below13 (b := W1.heap.size) B5.out (Nat.le_refl _)).cell (by exact lb)).trans b0, ((below13 (b := W1.heap.size) B5.out (Nat.le_refl _)).cell (by exact lb)).trans b1⟩
   | exact ⟨((below_box W1 _).cell (by exact la)).trans a0, ((below_box W1 _).cell (by exact la)).trans a1, ((below_box W1 _).cell (by exact lb)).trans b0, ((below_box W1 _).cell (by exact lb)).trans b1⟩
   | fail)
  (first
   | (go_at_call 47; have _h4 := B4; (with_reducible refine (rest5L_any w4).mono ?_); rintro e w5 ⟨rfl, b5⟩; have B5 := Lib.hid (B4.out.trans (b5.mono B4.out.size)); have S5 := And.intro ((B5.out.cell (by exact la)).trans a0) (And.intro ((B5.out.cell (by exact la)).trans a1) (And.intro ((B5.out.cell (by exact lb)).trans b0) ((B5.out.cell (by exact lb)).trans b1))); have oa5 := row_below oa4 b5; have oc5 := row_below oc4 b5; (try (have ZL := Lib.hid ((b5.block _ (lt_of_heap ZL.out)).trans ZL.out))); (try (have lz := lt_of_heap ZL.out; obtain ⟨z0, z1, z2, z3, z4, z5', z6, z7, z8, z9, z10, z11, z12⟩ := z13 ZL.out; have fz := fun j => Lib.frozen_of_heap ZL.out j)); clear b5)
   | (go_at_call 47; have _h4 := B4; (with_reducible refine (rest5L_any (w4.alloc (.cells #[.slice none 0 0, .int .i64 0, .int .i64 0, .string ⟨#[]⟩, .slice none 0 0, .int .i64 0, .slice none 0 0, .int .i64 0, .int .i64 0, .string ⟨#[]⟩, .slice none 0 0, .int .i64 0, .nilFunc] 92))).mono ?_); rintro e w5 ⟨rfl, b5⟩; have B5 := Lib.hid ((B4.out.alloc B4.out.size (.cells #[.slice none 0 0, .int .i64 0, .int .i64 0, .string ⟨#[]⟩, .slice none 0 0, .int .i64 0, .slice none 0 0, .int .i64 0, .int .i64 0, .string ⟨#[]⟩, .slice none 0 0, .int .i64 0, .nilFunc] 92)).trans (b5.mono (by have := B4.out.size; simp; omega))); have S5 := And.intro ((B5.out.cell (by exact la)).trans a0) (And.intro ((B5.out.cell (by exact la)).trans a1) (And.intro ((B5.out.cell (by exact lb)).trans b0) ((B5.out.cell (by exact lb)).trans b1))); have oa5 := row_below (row_below oa4 (below_box w4 (.cells #[.slice none 0 0, .int .i64 0, .int .i64 0, .string ⟨#[]⟩, .slice none 0 0, .int .i64 0, .slice none 0 0, .int .i64 0, .int .i64 0, .string ⟨#[]⟩, .slice none 0 0, .int .i64 0, .nilFunc] 92))) b5; have oc5 := row_below (row_below oc4 (below_box w4 (.cells #[.slice none 0 0, .int .i64 0, .int .i64 0, .string ⟨#[]⟩, .slice none 0 0, .int .i64 0, .slice none 0 0, .int .i64 0, .int .i64 0, .string ⟨#[]⟩, .slice none 0 0, .int .i64 0, .nilFunc] 92))) b5; have ZL := Lib.hid ((b5.block w4.heap.size (by simp)).trans (heap_new w4 (.cells #[.slice none 0 0, .int .i64 0, .int .i64 0, .string ⟨#[]⟩, .slice none 0 0, .int .i64 0, .slice none 0 0, .int .i64 0, .int .i64 0, .string ⟨#[]⟩, .slice none 0 0, .int .i64 0, .nilFunc] 92))); (try (have lz := lt_of_heap ZL.out; obtain ⟨z0, z1, z2, z3, z4, z5', z6, z7, z8, z9, z10, z11, z12⟩ := z13 ZL.out; have fz := fun j => Lib.frozen_of_heap ZL.out j)); clear b5)
   | (go_at_call 46; have _h3 := B3; (with_reducible refine (HOC.out w3 (B3.out)).mono ?_); rintro e w4 ⟨uc, rfl, oc4, b4⟩; have B4 := Lib.hid (B3.out.trans (b4.mono B3.out.size)); have S4 := And.intro ((B4.out.cell (by exact la)).trans a0) (And.intro ((B4.out.cell (by exact la)).trans a1) (And.intro ((B4.out.cell (by exact lb)).trans b0) ((B4.out.cell (by exact lb)).trans b1))); have SEP := Lib.hid (fun b e => (oa3.lt b e).2); have oa4 := row_below oa3 b4; (try (have ZL := Lib.hid ((b4.block _ (lt_of_heap ZL.out)).trans ZL.out))); have OCB := Lib.hid (show ∃ M, w3.heap.size ≤ M ∧ w4.ownsRow M 86 5 uc C.length (flat5 C) from ⟨_, Nat.le_refl _, oc4⟩); obtain ⟨uca, ucc, rfl⟩ := own_slice oc4; clear b4)
   | (go_at_call 46; have _h3 := B3; (with_reducible refine (HOC.out (w3.alloc (.cells #[.slice none 0 0, .int .i64 0, .int .i64 0, .string ⟨#[]⟩, .slice none 0 0, .int .i64 0, .slice none 0 0, .int .i64 0, .int .i64 0, .string ⟨#[]⟩, .slice none 0 0, .int .i64 0, .nilFunc] 92)) (B3.out.alloc B3.out.size _)).mono ?_); rintro e w4 ⟨uc, rfl, oc4, b4⟩; have B4 := Lib.hid ((B3.out.alloc B3.out.size (.cells #[.slice none 0 0, .int .i64 0, .int .i64 0, .string ⟨#[]⟩, .slice none 0 0, .int .i64 0, .slice none 0 0, .int .i64 0, .int .i64 0, .string ⟨#[]⟩, .slice none 0 0, .int .i64 0, .nilFunc] 92)).trans (b4.mono (by have := B3.out.size; simp; omega))); have S4 := And.intro ((B4.out.cell (by exact la)).trans a0) (And.intro ((B4.out.cell (by exact la)).trans a1) (And.intro ((B4.out.cell (by exact lb)).trans b0) ((B4.out.cell (by exact lb)).trans b1))); have SEP := Lib.hid (fun b e => (oa3.lt b e).2); have oa4 := row_below (row_below oa3 (below_box w3 (.cells #[.slice none 0 0, .int .i64 0, .int .i64 0, .string ⟨#[]⟩, .slice none 0 0, .int .i64 0, .slice none 0 0, .int .i64 0, .int .i64 0, .string ⟨#[]⟩, .slice none 0 0, .int .i64 0, .nilFunc] 92))) b4; have ZL := Lib.hid ((b4.block w3.heap.size (by simp)).trans (heap_new w3 (.cells #[.slice none 0 0, .int .i64 0, .int .i64 0, .string ⟨#[]⟩, .slice none 0 0, .int .i64 0, .slice none 0 0, .int .i64 0, .int .i64 0, .string ⟨#[]⟩, .slice none 0 0, .int .i64 0, .nilFunc] 92))); have OCB := Lib.hid (show ∃ M, w3.heap.size ≤ M ∧ w4.ownsRow M 86 5 uc C.length (flat5 C) from ⟨_, by simp, oc4⟩); obtain ⟨uca, ucc, rfl⟩ := own_slice oc4; clear b4)
   | (go_at_call 47; have _h2 := B2; (with_reducible refine (rest5L_any w2).mono ?_); rintro e w3 ⟨rfl, b3⟩; have B3 := Lib.hid (B2.out.trans (b3.mono B2.out.size)); have S3 := And.intro ((B3.out.cell (by exact la)).trans a0) (And.intro ((B3.out.cell (by exact la)).trans a1) (And.intro ((B3.out.cell (by exact lb)).trans b0) ((B3.out.cell (by exact lb)).trans b1))); have oa3 := row_below oa2 b3; (try (have ZL := Lib.hid ((b3.block _ (lt_of_heap ZL.out)).trans ZL.out))); clear b3)
   | (go_at_call 47; have _h2 := B2; (with_reducible refine (rest5L_any (w2.alloc (.cells #[.slice none 0 0, .int .i64 0, .int .i64 0, .string ⟨#[]⟩, .slice none 0 0, .int .i64 0, .slice none 0 0, .int .i64 0, .int .i64 0, .string ⟨#[]⟩, .slice none 0 0, .int .i64 0, .nilFunc] 92))).mono ?_); rintro e w3 ⟨rfl, b3⟩; have B3 := Lib.hid ((B2.out.alloc B2.out.size (.cells #[.slice none 0 0, .int .i64 0, .int .i64 0, .string ⟨#[]⟩, .slice none 0 0, .int .i64 0, .slice none 0 0, .int .i64 0, .int .i64 0, .string ⟨#[]⟩, .slice none 0 0, .int .i64 0, .nilFunc] 92)).trans (b3.mono (by have := B2.out.size; simp; omega))); have S3 := And.intro ((B3.out.cell (by exact la)).trans a0) (And.intro ((B3.out.cell (by exact la)).trans a1) (And.intro ((B3.out.cell (by exact lb)).trans b0) ((B3.out.cell (by exact lb)).trans b1))); have oa3 := row_below (row_below oa2 (below_box w2 (.cells #[.slice none 0 0, .int .i64 0, .int .i64 0, .string ⟨#[]⟩, .slice none 0 0, .int .i64 0, .slice none 0 0, .int .i64 0, .int .i64 0, .string ⟨#[]⟩, .slice none 0 0, .int .i64 0, .nilFunc] 92))) b3; have ZL := Lib.hid ((b3.block w2.heap.size (by simp)).trans (heap_new w2 (.cells #[.slice none 0 0, .int .i64 0, .int .i64 0, .string ⟨#[]⟩, .slice none 0 0, .int .i64 0, .slice none 0 0, .int .i64 0, .int .i64 0, .string ⟨#[]⟩, .slice none 0 0, .int .i64 0, .nilFunc] 92))); clear b3)
   | (go_at_call 46; (with_reducible refine (HOA.out W1.drew ((Below.refl W1.heap.size W1).drew)).mono ?_); rintro e w2 ⟨ua, rfl, oa2', b2⟩; have B2 := Lib.hid ((Below.refl W1.heap.size W1).drew.trans b2); have S2 := And.intro ((B2.out.cell (by exact la)).trans a0) (And.intro ((B2.out.cell (by exact la)).trans a1) (And.intro ((B2.out.cell (by exact lb)).trans b0) ((B2.out.cell (by exact lb)).trans b1))); have oa2 : w2.ownsRow W1.heap.size 86 5 ua A.length (flat5 A) := own_base oa2' (Nat.le_refl _); clear oa2'; (try (have ZL := Lib.hid ((b2.block _ (lt_of_heap ZL.out)).trans ZL.out))); obtain ⟨uaa, uac, rfl⟩ := own_slice oa2; clear b2)
   | (go_at_call 46; refine (HOA.out _ ((by first | exact ((Below.refl W1.heap.size W1).alloc (Nat.le_refl _) _).drew | exact ((Below.refl W1.heap.size W1).drew).alloc (Nat.le_refl _) _))).mono ?_; rintro e w2 ⟨ua, rfl, oa2', b2⟩; have B2 := Lib.hid (show Below W1.heap.size W1 w2 from Below.trans (by first | exact ((Below.refl W1.heap.size W1).alloc (Nat.le_refl _) _).drew | exact ((Below.refl W1.heap.size W1).drew).alloc (Nat.le_refl _) _) (b2.mono (by simp))); have S2 := And.intro ((B2.out.cell (by exact la)).trans a0) (And.intro ((B2.out.cell (by exact la)).trans a1) (And.intro ((B2.out.cell (by exact lb)).trans b0) ((B2.out.cell (by exact lb)).trans b1))); have oa2 : w2.ownsRow W1.heap.size 86 5 ua A.length (flat5 A) := own_base oa2' (by simp); clear oa2'; have ZL := Lib.hid ((b2.block W1.heap.size (by simp)).trans (heap_new W1 (.cells #[.slice none 0 0, .int .i64 0, .int .i64 0, .string ⟨#[]⟩, .slice none 0 0, .int .i64 0, .slice none 0 0, .int .i64 0, .int .i64 0, .string ⟨#[]⟩, .slice none 0 0, .int .i64 0, .nilFunc] 92))); obtain ⟨uaa, uac, rfl⟩ := own_slice oa2; clear b2)
   | fail)
 all_goals
  (show K _ _
   obtain ⟨M5, hM5, oc6⟩ : ∃ M, w3.heap.size ≤ M ∧ w5.ownsRow M 86 5 (.slice uca C.length ucc) C.length (flat5 C) := ⟨_, by first | exact Nat.le_refl _ | simp, oc5⟩
   have hsep : ∀ b, (Value.slice uaa A.length uac).ownBlock = some b → b < M5 := fun b e => Nat.lt_of_lt_of_le (SEP.out b e) hM5
   have z2 := B2.out.size
   have z3 := B3.out.size
   have z4 := B4.out.size
   have z5 := B5.out.size
   have hg1 : ∀ b, (Value.slice uaa A.length uac).ownBlock = some b → W1.heap.size ≤ b := fun b e => (oa5.lt b e).1
   have hg2 : ∀ b, (Value.slice uca C.length ucc).ownBlock = some b → W1.heap.size ≤ b := fun b e => Nat.le_trans (Nat.le_trans z3 hM5) (oc6.lt b e).1
   have hB1 : B ≤ W1.heap.size := by omega
   have hM6 : B ≤ M5 := by omega
   first
    | (with_reducible refine HKEY.out w5.heap.size (Value.slice uaa A.length uac).ownBlock (Value.slice uca C.length ucc).ownBlock _ _ _ _ _ _ _ _ _ _ _ ?_ ?_ hg1 hg2 ?_
       ·exact B5.out.alloc z5 _
       ·exact z5
       ·exact rows_new oa5 oc6 hsep hB1 hM6 (by omega) hVA hVC)
    | (with_reducible refine HKEY.out w4.heap.size (Value.slice uaa A.length uac).ownBlock (Value.slice uca C.length ucc).ownBlock _ _ _ _ _ _ _ _ _ _ _ ?_ ?_ hg1 hg2 ?_
       ·exact below13 B5.out z4
       ·exact z4
       ·exact rows_set ZL.out oa5 oc6 hsep hB1 hM6 (by omega) hVA hVC)
    | (with_reducible refine HKEY.out w3.heap.size (Value.slice uaa A.length uac).ownBlock (Value.slice uca C.length ucc).ownBlock _ _ _ _ _ _ _ _ _ _ _ ?_ ?_ hg1 hg2 ?_
       ·exact below13 B5.out z3
       ·exact z3
       ·exact rows_set ZL.out oa5 oc6 hsep hB1 hM6 (by omega) hVA hVC)
    | (with_reducible refine HKEY.out w2.heap.size (Value.slice uaa A.length uac).ownBlock (Value.slice uca C.length ucc).ownBlock _ _ _ _ _ _ _ _ _ _ _ ?_ ?_ hg1 hg2 ?_
       ·exact below13 B5.out z2
       ·exact z2
       ·exact rows_set ZL.out oa5 oc6 hsep hB1 hM6 (by omega) hVA hVC)
    | (with_reducible refine HKEY.out W1.heap.size (Value.slice uaa A.length uac).ownBlock (Value.slice uca C.length ucc).ownBlock _ _ _ _ _ _ _ _ _ _ _ ?_ ?_ hg1 hg2 ?_
       ·exact below13 B5.out (Nat.le_refl _)
       ·exact (Nat.le_refl _)
       ·exact rows_set ZL.out oa5 oc6 hsep hB1 hM6 (by omega) hVA hVC)
    | fail)
end Go.Proofs.Ytchceolbbkhnnaa
