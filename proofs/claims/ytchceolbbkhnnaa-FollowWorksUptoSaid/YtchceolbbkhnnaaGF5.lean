import Derived.Test.YtchceolbbkhnnaaGF4
import Derived.Test.YtchceolbbkhnnaaGF2
import Derived.Test.YtchceolbbkhnnaaGM5
import Derived.Test.YtchceolbbkhnnaaGM4
import Derived.StillTailTactics
import Derived.IntWalk
namespace Go.Proofs.Ytchceolbbkhnnaa
section
open Go.RowKit Go.Shelf Rn Ch
open At hiding put
open Cp (Piece zeroO alF pckO pckS smO)
attribute [local go_sem] Oper.semAt_some
namespace Fm
theorem NSt.blk {mx : Bool × Int} {w : World} {B b : Nat} {ov : Value} {l : List OpD} {g : Int} (h : NSt mx w B b ov l g) : ∃ ad bv, w.heap[b]? = some (.cells #[ov, ad, bv, .int .i64 g, .bool mx.1, .int .i64 mx.2] 74 (0, 0)) := by
 obtain ⟨_, ad, bv, _, hN, _⟩ := h; exact ⟨ad, bv, hN⟩
theorem NSt.tail {mx : Bool × Int} {w : World} {B b : Nat} {ov : Value} {l : List OpD} {g : Int} (h : NSt mx w B b ov l g) : w.cell? ⟨b, 4, none⟩ = some (.bool mx.1) ∧ w.cell? ⟨b, 5, none⟩ = some (.int .i64 mx.2) ∧ w.frozen? ⟨b, 5, none⟩ = false := by
 obtain ⟨ad, bv, hN⟩ := h.blk; exact ⟨by simp [World.cell?, hN], by simp [World.cell?, hN], by simp [World.frozen?, hN]⟩
theorem NSt.setZ {mx : Bool × Int} {w : World} {B b : Nat} {ov : Value} {l : List OpD} {g : Int} (h : NSt mx w B b ov l g) (hB : B ≤ b) (z : Int) : NSt (mx.1, z) (w.setCell ⟨b, 5, none⟩ (.int .i64 z)) B b ov l g ∧ KeepO B w (w.setCell ⟨b, 5, none⟩ (.int .i64 z)) ov ov := by
 obtain ⟨ps, ad, bv, bt, h1, h2, h3, h4, h5⟩ := h; have hk : Keep B [74] w (w.setCell ⟨b, 5, none⟩ (.int .i64 z)) := keep_set h1 (by simp) hB _ rfl _; exact ⟨⟨ps, ad, bv, bt, nblk_set h1, h2, h3.keep hk (by decide) (by decide), ⟨hk.own h4.1 (by decide), h4.2⟩, h5⟩, keepO_of hk (by simp) (by decide) _⟩
end Fm
set_option maxRecDepth 100000 in
theorem aloneM_any (fi : Bool) (b : Nat) (x y : QV5) (w : World) (hc : w.cell? ⟨b, 4, none⟩ = some (.bool fi)) :
 Calls Try.prog 40 #[.pointer (some ⟨b, 0, none⟩), opA4 x, opA4 y] w fun e w' => e = .returned (.int .i64 (alF fi x.1 y.1)) ∧ Below w.heap.size w w' := by
 have hl := World.block_lt_of_cell? _ _ hc; simp only at hl; have b2 := Lib.hid (show Below w.heap.size w ((w.alloc (.cells #[.int .i64 x.1.kind, .int .i64 x.1.n, .string x.1.text, qv x] 40)).alloc (.cells #[.int .i64 y.1.kind, .int .i64 y.1.n, .string y.1.text, qv y] 40)) from ((Below.refl _ _).alloc (Nat.le_refl _) _).alloc (by simp) _); unfold alF
 by_cases k2 : y.1.kind = 2
 ·have t2 : (y.1.kind == 2) = true := by rw [k2]; rfl
  by_cases k1 : x.1.kind = 2
  ·have t1 : (x.1.kind == 2) = true := by rw [k1]; rfl
   have t3 : (x.1.kind != 2) = false := by rw [k1]; rfl
   cases fi with
   | true =>
     rw [if_pos ⟨k2, .inl rfl⟩]; clear k1 k2; go_enter Try.func40, Try.ntmps40
     go_wp2_with fail
     go_ret
     exact ⟨rfl, b2.out⟩
   | false =>
     rw [if_neg (fun h => h.2.elim (by decide) (fun h => h k1)), if_pos k1]; clear k1 k2; go_enter Try.func40, Try.ntmps40
     go_wp2_with fail
     go_ret
     exact ⟨rfl, b2.out⟩
  ·have t1 : (x.1.kind == 2) = false := by rw [beq_eq_false_iff_ne]; exact k1
   have t3 : (x.1.kind != 2) = true := by rw [bne_iff_ne]; exact k1
   rw [if_pos ⟨k2, .inr k1⟩]; clear k1 k2; cases fi with
   | true =>
     go_enter Try.func40, Try.ntmps40
     go_wp2_with fail
     go_ret
     exact ⟨rfl, b2.out⟩
   | false =>
     go_enter Try.func40, Try.ntmps40
     go_wp2_with fail
     go_ret
     exact ⟨rfl, b2.out⟩
 ·have t2 : (y.1.kind == 2) = false := by rw [beq_eq_false_iff_ne]; exact k2
  rw [if_neg fun h => k2 h.1]
  by_cases k1 : x.1.kind = 2
  ·have t1 : (x.1.kind == 2) = true := by rw [k1]; rfl
   rw [if_pos k1]; clear k1 k2; go_enter Try.func40, Try.ntmps40
   go_wp2_with fail
   go_ret
   exact ⟨rfl, b2.out⟩
  ·have t1 : (x.1.kind == 2) = false := by rw [beq_eq_false_iff_ne]; exact k1
   rw [if_neg k1]; clear k1 k2; go_enter Try.func40, Try.ntmps40
   go_wp2_with fail
   go_ret
   exact ⟨rfl, b2.out⟩
def MadeOut (fi : Bool) (w : World) (B b : Nat) (ov : Value) (s : List OpD × Int) (z : Int) (x y : OpD) (e : Ending) (w' : World) : Prop :=
 e = .returned (.tuple #[]) ∧ ∃ ov', Fm.NSt (fi, z + pckS x y) w' B b ov' (addG s (pckO fi x y)).1 (addG s (pckO fi x y)).2 ∧ Fm.KeepO B w w' ov ov'
structure MadeIn (fi : Bool) (w : World) (B b : Nat) (ov : Value) (s : List OpD × Int) (z : Int) (x y : QV5) : Prop where
 st : Fm.NSt (fi, z) w B b ov s.1 s.2
 base : B ≤ b
 fits : FitsS s (pckO fi x.1 y.1)
 rx : ∀ w', Keep B Fm.TS w w' → AtRow w' (qv x) x.1.attrs
 ry : ∀ w', Keep B Fm.TS w w' → AtRow w' (qv y) y.1.attrs
 sx : Sized x.1.attrs
 sy : Sized y.1.attrs
 px : x.1.kind = 2 → Piece x.1
 py : y.1.kind = 2 → Piece y.1
 z0 : -100000000 ≤ z
 z1 : z ≤ 100000000
 d0 : -20000 ≤ pckS x.1 y.1
 d1 : pckS x.1 y.1 ≤ 20000
theorem box2_row {w : World} {x y : QV5} : ∃ W, W = (w.alloc (.cells #[.int .i64 x.1.kind, .int .i64 x.1.n, .string x.1.text, qv x] 40)).alloc (.cells #[.int .i64 y.1.kind, .int .i64 y.1.n, .string y.1.text, qv y] 40) ∧
 W.heap[w.heap.size]? = some (.cells #[.int .i64 x.1.kind, .int .i64 x.1.n, .string x.1.text, qv x] 40 (0, 0)) ∧ W.heap[w.heap.size + 1]? = some (.cells #[.int .i64 y.1.kind, .int .i64 y.1.n, .string y.1.text, qv y] 40 (0, 0)) ∧ Below w.heap.size w W := by
 refine ⟨_, rfl, (Below.heap_alloc _ _ _ (by simp)).trans (heap_new _ _), ?_, ((Below.refl _ _).alloc (Nat.le_refl _) _).alloc (by simp) _⟩; have := heap_new (w.alloc (.cells #[.int .i64 x.1.kind, .int .i64 x.1.n, .string x.1.text, qv x] 40)) (.cells #[.int .i64 y.1.kind, .int .i64 y.1.n, .string y.1.text, qv y] 40)
 rwa [World.size_alloc] at this
theorem cells4 {W : World} {n : Nat} {t : TypeId} {a b c d : Value} (h : W.heap[n]? = some (.cells #[a, b, c, d] t (0, 0))) : W.cell? ⟨n, 0, none⟩ = some a ∧ W.cell? ⟨n, 1, none⟩ = some b ∧ W.cell? ⟨n, 2, none⟩ = some c ∧ W.cell? ⟨n, 3, none⟩ = some d ∧ W.frozen? ⟨n, 3, none⟩ = false ∧ n < W.heap.size :=
 ⟨by simp [World.cell?, h], by simp [World.cell?, h], by simp [World.cell?, h], by simp [World.cell?, h], by simp [World.frozen?, h], lt_of_heap h⟩
set_option maxRecDepth 100000 in
theorem nothing_m (fi : Bool) (B b : Nat) (ov : Value) (s : List OpD × Int) (z : Int) (x y : QV5) (w : World) (h : MadeIn fi w B b ov s z x y) (kx : x.1.kind = 3) (ky : y.1.kind ≠ 2) :
 Calls Try.prog 63 #[.pointer (some ⟨b, 0, none⟩), opA4 x, opA4 y] w (MadeOut fi w B b ov s z x.1 y.1) := by
 have e1 : pckO fi x.1 y.1 = zeroO := by unfold pckO; rw [if_neg ky, if_neg (by omega), if_pos kx]
 have e2 : pckS x.1 y.1 = 0 := by unfold pckS; rw [if_neg ky, if_neg (by omega), if_pos kx]
 unfold MadeOut; rw [e1, e2, Cp.addG_zero, Int.add_zero]; obtain ⟨W, hW, _, _, bW⟩ := box2_row (w := w) (x := x) (y := y); have hBw : B ≤ w.heap.size := Nat.le_trans h.base (Nat.le_of_lt h.st.lt); have HF := Lib.hid (show Fm.NSt (fi, z) W B b ov s.1 s.2 ∧ Fm.KeepO B w W ov ov from ⟨h.st.below bW, Fm.keepO_below bW hBw _⟩); have HW := Lib.hid hW; clear h e1 e2 hW bW kx ky; go_enter Try.func63, Try.ntmps63
 go_wp2_with fail
 go_end0
 rw [← HW.out]; exact ⟨rfl, ov, HF.out⟩
end
section
open Go.RowKit Go.Shelf Rn Ch
open At hiding put
open Cp (Piece zeroO alF pckO pckS smO)
open Lib (hid)
attribute [local go_sem] Oper.semAt_some
set_option maxRecDepth 100000 in
set_option maxHeartbeats 4000000 in
theorem insert_m (fi : Bool) (B b : Nat) (ov : Value) (s : List OpD × Int) (z : Int) (x y : QV5) (w : World) (h : MadeIn fi w B b ov s z x y) (ky : y.1.kind = 2) :
 Calls Try.prog 61 #[.pointer (some ⟨b, 0, none⟩), opA4 x, opA4 y] w (MadeOut fi w B b ov s z x.1 y.1) := by
 have e1 : pckO fi x.1 y.1 = y.1 := by unfold pckO; rw [if_pos ky]
 have e2 : pckS x.1 y.1 = ((Cp.rns1 y.1.text).length : Int) := by unfold pckS; rw [if_pos ky]
 have hp := h.py ky; have hpc := piece_count hp; have hn0 : y.1.n = 0 := ((opE_put ky).1 hp.1).1; have hrc : (Lib.runeCount y.1.text : Int) = ((Cp.rns1 y.1.text).length : Int) := by have := szO_txt hn0; omega
 have hfit := h.fits; rw [e1] at hfit; unfold MadeOut; rw [e1, e2, ← hrc]; have hts : y.1.text.size < 9223372036854775807 := by omega
 have HRC := hid (fun W => Try.utf8_RuneCountInString y.1.text W hts); obtain ⟨rcn, hrcn⟩ : ∃ rcn, rcn = Lib.runeCount y.1.text := ⟨_, rfl⟩; have hrb : rcn ≤ 20000 := by rw [hrcn]; exact hpc.2.2
 rw [← hrcn] at HRC ⊢; have hz0 := h.z0; have hz1 := h.z1; have hwr : IntKind.i64.wrap (z + (rcn : Int)) = z + (rcn : Int) := IntWalk.i64_in _ (by omega); have hwr2 := IntWalk.wrap64_in (z + (rcn : Int)) (by omega); obtain ⟨W, hW, _, hyb, bW⟩ := box2_row (w := w) (x := x) (y := y); have hBw : B ≤ w.heap.size := Nat.le_trans h.base (Nat.le_of_lt h.st.lt); have hst := h.st.below bW; have HST := hid hst; obtain ⟨t4, t5, f5⟩ := hst.tail; obtain ⟨c0, c1, c2, c3, _, cl⟩ := cells4 hyb; have hbl := h.st.lt; have hbW : b < W.heap.size := hst.lt; have HYB := hid hyb; have HKO := hid (Fm.keepO_below bW hBw ov); have HRY := hid h.ry; have HFT := hid hfit; have HBB := hid h.base; have HW := hid hW; have BW := hid bW; obtain ⟨qa, qc⟩ : True ∧ True := ⟨trivial, trivial⟩; clear h e1 e2 hp hpc hn0 hrc hfit hrcn hyb hW bW hst ky hz0 hz1 qa qc; go_enter Try.func61, Try.ntmps61
 go_wp2_with fail
 rw [← HW.out]
 go_region_with (first
  | (go_at_call 70; (with_reducible refine (HRC.out _).mono ?_); rintro e wA ⟨rfl, pos, hwA⟩; have BA : Below W.heap.size W wA := (by rw [hwA]; exact (Below.refl W.heap.size W).drew.alloc (Nat.le_refl _) _); obtain ⟨t4A, t5A, f5A⟩ := (HST.out.below BA).tail; have hbA := (HST.out.below BA).lt; have BAH := hid BA; clear hwA BA))
 all_goals
  (obtain ⟨N3, K3⟩ := (HST.out.below BAH.out).setZ HBB.out (z + (rcn : Int))
   have y3 := (Below.heap_setCell wA ⟨b, 5, none⟩ (.int .i64 (z + (rcn : Int))) (w.heap.size + 1) (by show w.heap.size + 1 ≠ b; omega)).trans ((BAH.out.block _ (lt_of_heap HYB.out)).trans HYB.out); have KK := (HKO.out.trans (Fm.keepO_below BAH.out (Nat.le_trans hBw BW.out.size) ov)).trans K3; clear t4 t5 f5 t4A t5A f5A c0 c1 c2 c3; generalize wA.setCell ⟨b, 5, none⟩ (.int .i64 (z + (rcn : Int))) = X3 at *; obtain ⟨d0, d1, d2, d3, _, dl⟩ := cells4 y3; have HAD := hid (Fm.addG_any B b ov s y.1 (qv y) X3.drew N3 HBB.out HFT.out (fun w' hk => HRY.out w' (KK.keep.trans (of_drewK hk)))); have HKK := hid KK; clear N3 K3 y3 KK; go_wp2_with fail
   go_still_tail 4, (by kernel_rfl)
   change wpList _ _ _ _ _ X3.drew; go_wp2_with fail
   refine HAD.out.mono ?_; rintro e w9 ⟨rfl, ov', N9, K9⟩; have FIN := hid (And.intro N9 (HKK.out.trans (Fm.KeepO.of_drew K9))); clear N9 K9; go_wp2_with fail
   go_end0
   exact ⟨rfl, ov', FIN.out⟩)
end
section
open Go.RowKit Go.Shelf Rn Ch
open At hiding put
open Cp (Piece zeroO alF pckO pckS smO)
open Lib (hid)
attribute [local go_sem] Oper.semAt_some
theorem row_nil7 (w : World) : AtRow w (.slice none 0 0) [] := ⟨none, 0, rfl, Nat.le_refl _, Nat.zero_le _, fun _i hi => absurd hi (Nat.not_lt_zero _)⟩
set_option maxRecDepth 100000 in
set_option maxHeartbeats 4000000 in
theorem pass_m (fi : Bool) (B b : Nat) (ov : Value) (s : List OpD × Int) (z : Int) (x y : QV5) (w : World) (h : MadeIn fi w B b ov s z x y) (kx : x.1.kind = 2) (ky : y.1.kind ≠ 2) :
 Calls Try.prog 62 #[.pointer (some ⟨b, 0, none⟩), opA4 x, opA4 y] w (MadeOut fi w B b ov s z x.1 y.1) := by
 have e1 : pckO fi x.1 y.1 = ⟨1, ((Cp.rns1 x.1.text).length : Int), ⟨#[]⟩, []⟩ := by unfold pckO; rw [if_neg ky, if_pos kx]
 have e2 : pckS x.1 y.1 = 0 := by unfold pckS; rw [if_neg ky, if_pos kx]
 have hp := h.px kx; have hpc := piece_count hp; have hn0 : x.1.n = 0 := ((opE_put kx).1 hp.1).1; have hrc : (Lib.runeCount x.1.text : Int) = ((Cp.rns1 x.1.text).length : Int) := by have := szO_txt hn0; omega
 have hfit := h.fits; rw [e1, ← hrc] at hfit; unfold MadeOut; rw [e1, e2, ← hrc, Int.add_zero]; have hts : x.1.text.size < 9223372036854775807 := by omega
 have HRC := hid (fun W => Try.utf8_RuneCountInString x.1.text W hts); generalize Lib.runeCount x.1.text = rcn at *; obtain ⟨W, hW, hxb, _, bW⟩ := box2_row (w := w) (x := x) (y := y); have hBw : B ≤ w.heap.size := Nat.le_trans h.base (Nat.le_of_lt h.st.lt); have hst := h.st.below bW; have HST := hid hst; obtain ⟨c0, c1, c2, c3, _, cl⟩ := cells4 hxb; have hbW : b < W.heap.size := hst.lt; have HKO := hid (Fm.keepO_below bW hBw ov); have HFT := hid hfit; have HBB := hid h.base; have HW := hid hW; have BW := hid bW; clear h e1 e2 hp hpc hn0 hrc hfit hxb hW bW hst ky kx hts; go_enter Try.func62, Try.ntmps62
 go_wp2_with fail
 rw [← HW.out]
 go_region_with (first
  | (go_at_call 27; (with_reducible refine HAD.out.mono ?_); rintro e w9 ⟨rfl, ov', N9, K9⟩; have FIN := hid (And.intro N9 ((HKO.out.trans (Fm.keepO_below BAH.out (Nat.le_trans hBw BW.out.size) ov)).trans K9)); clear N9 K9)
  | (go_at_call 70; (with_reducible refine (HRC.out _).mono ?_); rintro e wA ⟨rfl, pos, hwA⟩; have BA : Below W.heap.size W wA := (by rw [hwA]; exact (Below.refl W.heap.size W).drew.alloc (Nat.le_refl _) _); have hbA := (HST.out.below BA).lt; have HAD := hid (Fm.addG_any B b ov s ⟨1, (rcn : Int), ⟨#[]⟩, []⟩ (.slice none 0 0) wA (HST.out.below BA) HBB.out HFT.out (fun w' _ => row_nil7 w')); have BAH := hid BA; clear hwA BA))
 all_goals
  (go_wp2_with fail
   go_end0
   exact ⟨rfl, ov', FIN.out⟩)
set_option maxRecDepth 100000 in
set_option maxHeartbeats 4000000 in
theorem remove_m (fi : Bool) (B b : Nat) (ov : Value) (s : List OpD × Int) (z : Int) (x y : QV5) (w : World) (h : MadeIn fi w B b ov s z x y) (kx : x.1.kind ≠ 2) (kx3 : x.1.kind ≠ 3) (ky : y.1.kind = 3) :
 Calls Try.prog 64 #[.pointer (some ⟨b, 0, none⟩), opA4 x, opA4 y] w (MadeOut fi w B b ov s z x.1 y.1) := by
 have e1 : pckO fi x.1 y.1 = y.1 := by unfold pckO; rw [if_neg (by omega), if_neg kx, if_neg kx3, if_pos ky]
 have e2 : pckS x.1 y.1 = - y.1.n := by unfold pckS; rw [if_neg (by omega), if_neg kx, if_neg kx3, if_pos ky]
 have hfit := h.fits; rw [e1] at hfit; have hd0 := h.d0; have hd1 := h.d1; rw [e2] at hd0 hd1; unfold MadeOut; rw [e1, e2, show z + - y.1.n = z - y.1.n by omega]; have hz0 := h.z0; have hz1 := h.z1; have hwr : IntKind.i64.wrap (z - y.1.n) = z - y.1.n := IntWalk.i64_in _ (by omega); have hwr2 := IntWalk.wrap64_in (z - y.1.n) (by omega); obtain ⟨W, hW, _, hyb, bW⟩ := box2_row (w := w) (x := x) (y := y); have hBw : B ≤ w.heap.size := Nat.le_trans h.base (Nat.le_of_lt h.st.lt); have hst := h.st.below bW; have HST := hid hst; obtain ⟨t4, t5, f5⟩ := hst.tail; obtain ⟨c0, c1, c2, c3, _, cl⟩ := cells4 hyb; have hbl := h.st.lt; have hbW : b < W.heap.size := hst.lt; have HYB := hid hyb; have HKO := hid (Fm.keepO_below bW hBw ov); have HRY := hid h.ry; have HFT := hid hfit; have HBB := hid h.base; have HW := hid hW; clear h e1 e2 hfit hyb hW bW hst ky kx kx3 hz0 hz1 hd0 hd1; go_enter Try.func64, Try.ntmps64
 go_wp2_with fail
 rw [← HW.out]; go_region
 all_goals
  (obtain ⟨N3', K3'⟩ := HST.out.setZ HBB.out (z - y.1.n)
   have N3 : Fm.NSt (fi, z - y.1.n) (W.setCell ⟨b, 5, none⟩ (.int .i64 (z - y.1.n))).drew B b ov s.1 s.2 := N3'; have K3 : Fm.KeepO B W (W.setCell ⟨b, 5, none⟩ (.int .i64 (z - y.1.n))).drew ov ov := ⟨K3'.keep.drew, K3'.ops⟩; have y3 : (W.setCell ⟨b, 5, none⟩ (.int .i64 (z - y.1.n))).drew.heap[w.heap.size + 1]? = _ := (Below.heap_setCell W ⟨b, 5, none⟩ (.int .i64 (z - y.1.n)) (w.heap.size + 1) (by show w.heap.size + 1 ≠ b; omega)).trans HYB.out; have KK := HKO.out.trans K3; clear t4 t5 f5 c0 c1 c2 c3 N3' K3'; generalize (W.setCell ⟨b, 5, none⟩ (.int .i64 (z - y.1.n))).drew = X3 at *; obtain ⟨d0, d1, d2, d3, _, dl⟩ := cells4 y3; have HAD := hid (Fm.addG_any B b ov s y.1 (qv y) X3.drew N3 HBB.out HFT.out (fun w' hk => HRY.out w' (KK.keep.trans (of_drewK hk)))); have HKK := hid KK; clear N3 K3 y3 KK; go_wp2_with fail
   go_still_tail 4, (by kernel_rfl)
   change wpList _ _ _ _ _ X3.drew; go_wp2_with fail
   refine HAD.out.mono ?_; rintro e w9 ⟨rfl, ov', N9, K9⟩; have FIN := hid (And.intro N9 (HKK.out.trans (Fm.KeepO.of_drew K9))); clear N9 K9; go_wp2_with fail
   go_end0
   exact ⟨rfl, ov', FIN.out⟩)
set_option maxRecDepth 100000 in
set_option maxHeartbeats 4000000 in
theorem keep_m (fi : Bool) (B b : Nat) (ov : Value) (s : List OpD × Int) (z : Int) (x y : QV5) (w : World) (h : MadeIn fi w B b ov s z x y) (kx : x.1.kind ≠ 2) (kx3 : x.1.kind ≠ 3) (ky : y.1.kind ≠ 2) (ky3 : y.1.kind ≠ 3) :
 Calls Try.prog 65 #[.pointer (some ⟨b, 0, none⟩), opA4 x, opA4 y] w (MadeOut fi w B b ov s z x.1 y.1) := by
 have e1 : pckO fi x.1 y.1 = { y.1 with attrs := followR fi x.1.attrs y.1.attrs } := by unfold pckO; rw [if_neg ky, if_neg kx, if_neg kx3, if_neg ky3]
 have e2 : pckS x.1 y.1 = 0 := by unfold pckS; rw [if_neg ky, if_neg kx, if_neg kx3, if_neg ky3]
 have hfit := h.fits; rw [e1] at hfit; unfold MadeOut; rw [e1, e2, Int.add_zero]; obtain ⟨W, hW, hxb, hyb, bW⟩ := box2_row (w := w) (x := x) (y := y); have hBw : B ≤ w.heap.size := Nat.le_trans h.base (Nat.le_of_lt h.st.lt); have hst := h.st.below bW; obtain ⟨t4, t5, f5⟩ := hst.tail; obtain ⟨x0, x1, x2, x3, _, xl⟩ := cells4 hxb; obtain ⟨c0, c1, c2, c3, cf, cl⟩ := cells4 hyb; have hbl := h.st.lt; have hbW : b < W.heap.size := hst.lt; have HYB := hid hyb; have HST := hid h.st; have HFT := hid hfit; have HBB := hid h.base; have HW := hid hW; have BW := hid bW; have kW := keep_below (B := B) (ts := Fm.TS) bW hBw; have HFO := hid (followD_any fi (qv x) (qv y) x.1.attrs y.1.attrs W.drew (h.rx W kW : AtRow W _ _) (h.ry W kW : AtRow W _ _) h.sx h.sy); generalize followR fi x.1.attrs y.1.attrs = R at *; generalize followE x.1.attrs y.1.attrs = E at *; clear h e1 e2 hfit hyb hxb hW bW hst ky kx kx3 ky3 kW
 go_enter Try.func65, Try.ntmps65
 go_wp2_with fail
 rw [← HW.out]
 go_region_with (first
  | (go_at_call 88; (with_reducible refine HFO.out.mono ?_); rintro e wA ⟨va, rfl, oA, bA⟩; have BA : Below W.heap.size W wA := (Below.refl W.heap.size W).drew.trans bA; obtain ⟨ra, rc, rfl⟩ := own_slice oA; have c3A : wA.cell? ⟨w.heap.size + 1, 3, none⟩ = some (qv y) := (cells4 ((BA.block _ (lt_of_heap HYB.out)).trans HYB.out)).2.2.2.1; have cfA : wA.frozen? ⟨w.heap.size + 1, 3, none⟩ = false := (cells4 ((BA.block _ (lt_of_heap HYB.out)).trans HYB.out)).2.2.2.2.1; have hlA := lt_of_heap ((BA.block _ (lt_of_heap HYB.out)).trans HYB.out); have BAH := hid BA; have OA := hid oA; clear bA BA oA))
 all_goals
  (have y2 := (BAH.out.block _ (lt_of_heap HYB.out)).trans HYB.out
   have y3 : (wA.setCell ⟨w.heap.size + 1, 3, none⟩ (.slice ra R.length rc)).heap[w.heap.size + 1]? = some (.cells #[.int .i64 y.1.kind, .int .i64 y.1.n, .string y.1.text, .slice ra R.length rc] 40 (0, 0)) := nblk_set y2; have BX : Below w.heap.size w (wA.setCell ⟨w.heap.size + 1, 3, none⟩ (.slice ra R.length rc)) := (BW.out.trans (BAH.out.mono BW.out.size)).setCell (by show w.heap.size ≤ w.heap.size + 1; omega) _; have KX : Keep B Fm.TS wA (wA.setCell ⟨w.heap.size + 1, 3, none⟩ (.slice ra R.length rc)) := (keep_set (B := B) (ts := Fm.TS) y2 (by simp) (by omega) ⟨w.heap.size + 1, 3, none⟩ rfl _); clear t4 t5 f5 x0 x1 x2 x3 xl c0 c1 c2 c3 cf cl cfA c3A hlA y2; generalize wA.setCell ⟨w.heap.size + 1, 3, none⟩ (.slice ra R.length rc) = X3 at *; obtain ⟨d0, d1, d2, d3, _, dl⟩ := cells4 y3; have HAD := hid (Fm.addG_any B b ov s { y.1 with attrs := R } (.slice ra R.length rc) X3.drew (HST.out.below BX.drew) HBB.out HFT.out (fun w' hk => row_of_own ((KX.trans (of_drewK hk)).own OA.out (by decide))))
   have HKK := hid (Fm.keepO_below BX hBw ov); have hbX : b < X3.heap.size := (HST.out.below BX).lt; clear y3 BX KX; go_wp2_with fail
   go_still_tail 4, (by kernel_rfl)
   change wpList _ _ _ _ _ X3.drew; go_wp2_with fail
   refine HAD.out.mono ?_; rintro e w9 ⟨rfl, ov', N9, K9⟩; have FIN := hid (And.intro N9 (HKK.out.trans (Fm.KeepO.of_drew K9))); clear N9 K9; go_wp2_with fail
   go_end0
   exact ⟨rfl, ov', FIN.out⟩)
end
section
open Go.RowKit Go.Shelf Rn Ch
open At hiding put
open Cp (Piece zeroO alF pckO pckS smO)
attribute [local go_sem] Oper.semAt_some
structure MeetC (fi : Bool) (b : Nat) (x y : QV5) (F : Nat) : Prop where
 enters : ∀ args w, (callFunc F args).run Try.prog w = .ok (.enter F args) w
 meets : ∀ (B : Nat) (ov : Value) (s : List OpD × Int) (z : Int) (w : World), MadeIn fi w B b ov s z x y → Calls Try.prog F #[.pointer (some ⟨b, 0, none⟩), opA4 x, opA4 y] w (MadeOut fi w B b ov s z x.1 y.1)
set_option maxRecDepth 100000 in
theorem pick_any (fi : Bool) (b : Nat) (x y : QV5) (w : World) :
 Calls Try.prog 41 #[.pointer (some ⟨b, 0, none⟩), opA4 x, opA4 y] w fun e w' => ∃ F, e = .returned (.func (.func F) #[.pointer (some ⟨b, 0, none⟩)] #[]) ∧ Below w.heap.size w w' ∧ MeetC fi b x y F := by
 have b2 := Lib.hid (show Below w.heap.size w ((w.alloc (.cells #[.int .i64 x.1.kind, .int .i64 x.1.n, .string x.1.text, qv x] 40)).alloc (.cells #[.int .i64 y.1.kind, .int .i64 y.1.n, .string y.1.text, qv y] 40)) from ((Below.refl _ _).alloc (Nat.le_refl _) _).alloc (by simp) _)
 by_cases ky2 : y.1.kind = 2
 ·have t1 : (y.1.kind == 2) = true := by rw [ky2]; rfl
  have HM := Lib.hid (show MeetC fi b x y 61 from ⟨enters_of Try.func61 (by kernel_rfl) rfl, fun B ov s z w h => insert_m fi B b ov s z x y w h ky2⟩); clear ky2; go_enter Try.func41, Try.ntmps41
  go_wp2_with fail
  go_ret
  exact ⟨_, rfl, b2.out, HM.out⟩
 ·have t1 : (y.1.kind == 2) = false := by rw [beq_eq_false_iff_ne]; exact ky2
  by_cases kx2 : x.1.kind = 2
  ·have t2 : (x.1.kind == 2) = true := by rw [kx2]; rfl
   have HM := Lib.hid (show MeetC fi b x y 62 from ⟨enters_of Try.func62 (by kernel_rfl) rfl, fun B ov s z w h => pass_m fi B b ov s z x y w h kx2 ky2⟩); clear kx2 ky2; go_enter Try.func41, Try.ntmps41
   go_wp2_with fail
   go_ret
   exact ⟨_, rfl, b2.out, HM.out⟩
  ·have t2 : (x.1.kind == 2) = false := by rw [beq_eq_false_iff_ne]; exact kx2
   by_cases kx3 : x.1.kind = 3
   ·have t3 : (x.1.kind == 3) = true := by rw [kx3]; rfl
    have HM := Lib.hid (show MeetC fi b x y 63 from ⟨enters_of Try.func63 (by kernel_rfl) rfl, fun B ov s z w h => nothing_m fi B b ov s z x y w h kx3 ky2⟩); clear kx3 ky2; go_enter Try.func41, Try.ntmps41
    go_wp2_with fail
    go_ret
    exact ⟨_, rfl, b2.out, HM.out⟩
   ·have t3 : (x.1.kind == 3) = false := by rw [beq_eq_false_iff_ne]; exact kx3
    by_cases ky3 : y.1.kind = 3
    ·have t4 : (y.1.kind == 3) = true := by rw [ky3]; rfl
     have HM := Lib.hid (show MeetC fi b x y 64 from ⟨enters_of Try.func64 (by kernel_rfl) rfl, fun B ov s z w h => remove_m fi B b ov s z x y w h kx2 kx3 ky3⟩); clear kx2 kx3 ky3; go_enter Try.func41, Try.ntmps41
     go_wp2_with fail
     go_ret
     exact ⟨_, rfl, b2.out, HM.out⟩
    ·have t4 : (y.1.kind == 3) = false := by rw [beq_eq_false_iff_ne]; exact ky3
     have HM := Lib.hid (show MeetC fi b x y 65 from ⟨enters_of Try.func65 (by kernel_rfl) rfl, fun B ov s z w h => keep_m fi B b ov s z x y w h kx2 kx3 ky2 ky3⟩); clear kx2 kx3 ky2 ky3; go_enter Try.func41, Try.ntmps41
     go_wp2_with fail
     go_ret
     exact ⟨_, rfl, b2.out, HM.out⟩
end
end Go.Proofs.Ytchceolbbkhnnaa
