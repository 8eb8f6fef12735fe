import Derived.Test.YtchceolbbkhnnaaGC1
import Derived.Test.YtchceolbbkhnnaaGC2
namespace Go.Proofs.Ytchceolbbkhnnaa
section
open Lib (hid)
namespace Fm
open Go.RowKit Go.Shelf Ch
open Lib (hid)
variable {mx : Bool × Int}
def NBlk (mx : Bool × Int) (w : World) (b : Nat) (ov ad bv : Value) (g : Int) : Prop := w.heap[b]? = some (.cells #[ov, ad, bv, .int .i64 g, .bool mx.1, .int .i64 mx.2] 74 (0, 0))
theorem NBlk.cells {w : World} {b : Nat} {ov ad bv : Value} {g : Int} (h : NBlk mx w b ov ad bv g) : w.cell? ⟨b, 0, none⟩ = some ov ∧ w.cell? ⟨b, 1, none⟩ = some ad ∧ w.cell? ⟨b, 2, none⟩ = some bv ∧ w.cell? ⟨b, 3, none⟩ = some (.int .i64 g) ∧
 ∀ j, w.frozen? ⟨b, j, none⟩ = false := by
 unfold NBlk at h; refine ⟨by simp [World.cell?, h], by simp [World.cell?, h], by simp [World.cell?, h], by simp [World.cell?, h], fun j => by simp [World.frozen?, h]⟩
theorem NBlk.keep {w w' : World} {b C : Nat} {ts : List TypeId} {ov ad bv : Value} {g : Int} (h : NBlk mx w b ov ad bv g) (hk : Keep C ts w w') (h1 : 74 ∉ ts) : NBlk mx w' b ov ad bv g := hk.kept _ _ _ _ h h1
theorem NBlk.set0 {w : World} {b : Nat} {ov ad bv u : Value} {g : Int} (h : NBlk mx w b ov ad bv g) : NBlk mx (w.setCell ⟨b, 0, none⟩ u) b u ad bv g := nblk_set h
theorem NBlk.set1 {w : World} {b : Nat} {ov ad bv u : Value} {g : Int} (h : NBlk mx w b ov ad bv g) : NBlk mx (w.setCell ⟨b, 1, none⟩ u) b ov u bv g := nblk_set h
theorem NBlk.set2 {w : World} {b : Nat} {ov ad bv u : Value} {g : Int} (h : NBlk mx w b ov ad bv g) : NBlk mx (w.setCell ⟨b, 2, none⟩ u) b ov ad u g := nblk_set h
theorem NBlk.set3 {w : World} {b : Nat} {ov ad bv : Value} {g k : Int} (h : NBlk mx w b ov ad bv g) : NBlk mx (w.setCell ⟨b, 3, none⟩ (.int .i64 k)) b ov ad bv k := nblk_set h
theorem liesBld : liesAt Try.prog Try.prog.depth 74 (6 / Try.prog.cellsOf 74) 1 52 1 = true := by kernel_rfl
theorem NBlk.shape {w : World} {b : Nat} {ov ad bv : Value} {g : Int} (h : NBlk mx w b ov ad bv g) : w.shape? b = some (74, 6) := by
 unfold NBlk at h; simp [World.shape?, h]
def CCOut (mx : Bool × Int) (w : World) (b : Nat) (ov bv : Value) (g : Int) (e : Ending) (w' : World) : Prop := e = .returned (.tuple #[]) ∧ NBlk mx w' b ov (selfB b) bv g ∧ w.grownBy w' (some b)
set_option maxHeartbeats 1000000 in
set_option maxRecDepth 100000 in
theorem copyCheck_any (b : Nat) (ov ad bv : Value) (g : Int) (w : World) (h : NBlk mx w b ov ad bv g) (ha : Addrs b ad) :
 Calls Try.prog 103 #[selfB b] w (CCOut mx w b ov bv g) := by
 obtain ⟨j, hj, hjs⟩ := Option.map_eq_some_iff.1 infoBld; have hj0 : j.size ≠ 0 := by simpa using hjs
 obtain ⟨k0, k1, k2, k3, k4⟩ := h.cells; have f1 := k4 1; have HN := hid h; rcases ha with rfl | rfl
 ·clear h k0 k2 k3 k4 hjs
  go_enter Try.func103, Try.ntmps103
  go_wp2_with fail
  rw [Lib.run_to_unsafe w ⟨b, 1, none⟩ Try.underlying49 Try.underlying147 hj hj0 HN.out.shape (show 1 < 6 by decide)]; simp only [Result.andThen]; rw [Oper.upon_value]; go_wp2_with fail
  rw [run_callFunc_extern Try.func113 (by kernel_rfl) (by kernel_rfl) (by kernel_rfl) (e := Extern.AbiNoEscape.same) (by kernel_rfl)]; rw [Lib.run_noEscape]; simp only [Result.andThen]; rw [Oper.upon_value]; go_wp2_with fail
  rw [Lib.run_from_unsafe w ⟨b, 1, none⟩ Try.underlying147 Try.underlying49 hj HN.out.shape liesBld]; simp only [Result.andThen]; rw [Oper.upon_value]; go_wp2_with fail
  go_end0
  exact ⟨rfl, HN.out.set1, only_setCell (grown_refl _ _) rfl _⟩
 ·clear h k0 k2 k3 k4 hjs
  go_enter Try.func103, Try.ntmps103
  go_wp2_with fail
  rw [Lib.run_neq_ptr_same w _ Try.underlying49 hj]; go_wp2_with fail
  go_end0
  exact ⟨rfl, HN.out, grown_refl _ _⟩
def WSOut (mx : Bool × Int) (w : World) (B b : Nat) (ov : Value) (g : Int) (bt : List UInt8) (e : Ending) (w' : World) : Prop :=
 (∃ n : Int, e = .returned (.tuple #[.int .i64 n, .nilIface])) ∧ (∃ bv, NBlk mx w' b ov (selfB b) bv g ∧ Holds8 w' B bv bt) ∧ Keep B [74, 5] w w'
set_option maxHeartbeats 2000000 in
set_option maxRecDepth 100000 in
theorem writeString_any (B b : Nat) (ov ad bv : Value) (g : Int) (bt : List UInt8) (s : ByteArray) (w : World) (h : NBlk mx w b ov ad bv g) (ha : Addrs b ad) (hB : B ≤ b) (hh : Holds8 w B bv bt) (hl : bt.length + s.size ≤ 140737488355328) :
 Calls Try.prog 82 #[selfB b, .string s] w (WSOut mx w B b ov g (bt ++ s.data.toList)) := by
 have HC := hid (copyCheck_any b ov ad bv g w h ha); have HN := hid h; have HH := hid hh; have HL := hid hl; have HBw := hid (show B ≤ w.heap.size from Nat.le_trans hB (Nat.le_of_lt (lt_of_heap h))); obtain ⟨i0, hi, hz0, hz1, hz2⟩ := info_parts infoU8; have Hi := hid (And.intro hi (And.intro hz0 (And.intro hz1 hz2))); clear h hh hl hi hz0 hz1 hz2; go_enter Try.func82, Try.ntmps82
 go_wp2_with fail
 refine HC.out.mono ?_; rintro e w1 ⟨rfl, h1, g1⟩; obtain ⟨k0, k1, k2, k3, k4⟩ := h1.cells; have H1 := hid h1; have K1 : Keep B [74, 5] w w1 := keep_grown g1 HBw.out fun k hk => by
  cases hk
  exact ⟨hB, _, _, _, HN.out, by simp⟩
 have O1 : w1.ownsRow B 5 1 bv bt.length (Lib.byteCells bt) := HH.out.1.kept g1 (.inr (own_ne HH.out.1 HN.out (by decide))); have HK1 := hid K1; have HO1 := hid O1; have hs1 : B ≤ w1.heap.size := Nat.le_trans HBw.out g1.size; clear h1 g1 K1 O1 k0 k1 k3 k4; go_wp2_with (at_builtin; refine Lib.wpList_append_own_string _ rfl (.tmp 12) (.tmp 13) 50 9 rfl B 5 i0 Try.underlying50 Try.underlying9 Hi.out.1 Hi.out.2.1 Hi.out.2.2.1 Hi.out.2.2.2 bv bt.length (Lib.byteCells bt) rfl HO1.out s rfl (by have := HL.out; unfold maxLen; omega) HL.out hs1 ?_; intro v' w2 o2 g2 i2; obtain ⟨va, vc, rfl⟩ := own_slice o2; have I2 := hid i2; clear i2; have H2 : NBlk mx w2 b ov (selfB b) bv g := (g2.block b (lt_of_heap H1.out) (fun e => own_ne HO1.out H1.out (by decide) e.symm)).trans H1.out; have f2 : w2.frozen? ⟨b, 2, none⟩ = false := H2.cells.2.2.2.2 2; obtain ⟨q0, q1, q2, q3, q4⟩ := H2.cells; have HH2 := hid H2; have HO2 := hid o2; have HG2 := hid g2; clear H2 o2 g2 q0 q1 q3 q4 k2)
 go_ret2
 refine ⟨⟨_, rfl⟩, ⟨_, HH2.out.set2, ?_⟩, ?_⟩
 ·have hk2 : Keep B [74] w2 (w2.setCell ⟨b, 2, none⟩ (.slice va (bt.length + s.size) vc)) := keep_set HH2.out (by simp) hB _ rfl _
  have := hk2.own HO2.out (by decide); refine ⟨?_, fun e => ?_⟩
  ·rw [List.length_append, Lib.byteCells_append]
   exact this
  ·obtain ⟨e1, e2⟩ := List.append_eq_nil_iff.1 e
   exact I2.out.2 ⟨HH.out.2 e1, by rw [size_data, e2]; rfl⟩
 ·exact (HK1.out.trans (keep_row HO1.out HG2.out (by simp) hs1)).trans (keep_set HH2.out (by simp) hB _ rfl _)
set_option maxHeartbeats 2000000 in
set_option maxRecDepth 100000 in
theorem builderString_any (B b : Nat) (ov ad bv : Value) (g : Int) (bt : List UInt8) (w : World) (h : NBlk mx w b ov ad bv g) (hh : Holds8 w B bv bt) :
 Calls Try.prog 101 #[selfB b] w (StrOut w B bt) := by
 obtain ⟨k0, k1, k2, k3, k4⟩ := h.cells
 by_cases h0 : bt = []
 ·obtain rfl := hh.2 h0
  have e0 : (⟨bt.toArray⟩ : ByteArray) = ⟨#[]⟩ := by rw [h0]
  have HE := hid (show (⟨#[]⟩ : ByteArray) = ⟨bt.toArray⟩ from e0.symm); have hUS : ∀ q : Option Addr, (Builtin.unsafeString_ #[146, 3] 9 #[.pointer q, .int .i64 0]).run Try.prog w.drew = .ok (.string .empty) w.drew := fun q => Lib.run_unsafeString_none w.drew _ _ _ q; have hSD : (Builtin.unsafeSliceData_ #[50] 146 #[.slice none 0 0]).run Try.prog w.drew = .ok (.pointer none) w.drew := rfl; have c1 : w.drew.cell? ⟨b, 2, none⟩ = some (.slice none 0 0) := k2; clear h hh e0 h0 k0 k1 k3 k4; go_enter Try.func101, Try.ntmps101
  go_wp2_with fail
  go_region
  all_goals (go_wp2_with fail; go_ret; exact ⟨by rw [← HE.out]; rfl, (Keep.refl _ _ _).drew⟩)
 ·have hl0 : bt.length ≠ 0 := by simpa using h0
  obtain ⟨gg, cap, cur, rfl, hbg, hg, hnc, hcm, hcs, htake⟩ : ∃ gg cap cur, bv = .slice (some ⟨gg, 0, none⟩) bt.length cap ∧ B ≤ gg ∧ w.heap[gg]? = some (.cells cur 5 (0, 0)) ∧ bt.length ≤ cap ∧ cap ≤ maxLen ∧ cur.size = cap * 1 ∧ cur.toList.take (bt.length * 1) = Lib.byteCells bt := by
   rcases hh.1.2 with ⟨_, hz⟩ | ⟨gg, cap, cur, hv, r⟩
   ·exact absurd hz hl0
   ·exact ⟨gg, cap, cur, hv, r⟩
  have c1 : w.drew.cell? ⟨b, 2, none⟩ = some (.slice (some ⟨gg, 0, none⟩) bt.length cap) := k2
  have hSD : (Builtin.unsafeSliceData_ #[50] 146 #[.slice (some ⟨gg, 0, none⟩) bt.length cap]).run Try.prog w.drew = .ok (.pointer (some ⟨gg, 0, none⟩)) w.drew :=
   Lib.run_unsafeSliceData_row _ _ _ _ _ _ (by omega)
  have hUS : (Builtin.unsafeString_ #[146, 3] 9 #[.pointer (some ⟨gg, 0, none⟩), .int .i64 bt.length]).run Try.prog w.drew = .ok (.string ⟨bt.toArray⟩) (w.drew.freeze ⟨gg, 0, none⟩ bt.length) := by
   refine Lib.run_unsafeString_row w.drew 146 3 9 5 Try.underlying146 (by kernel_rfl) gg cur.size (by have hg' : w.drew.heap[gg]? = some (.cells cur 5 (0, 0)) := hg; simp [World.shape?, hg']) bt h0 (by omega) (by unfold maxLen at hcm; omega) ?_; intro j x hx; exact hh.1.cells (g := gg) rfl j (.int .u8 x.toNat) (by simp [Lib.byteCells, hx])
  have HG := hid hg; have HBG := hid hbg; clear h hh h0 hl0 k0 k1 k3 k4 hg hnc hcm hcs htake hbg; go_enter Try.func101, Try.ntmps101
  go_wp2_with fail
  go_region
  all_goals (go_wp2_with fail; go_ret; exact ⟨rfl, (Keep.refl _ _ _).drew.trans (keep_freeze (w := w.drew) HG.out (by simp) HBG.out _)⟩)
def ResetOut (mx : Bool × Int) (w : World) (b : Nat) (ov : Value) (g : Int) (e : Ending) (w' : World) : Prop := e = .returned (.tuple #[]) ∧ NBlk mx w' b ov (.pointer none) (.slice none 0 0) g ∧ w.grownBy w' (some b)
set_option maxHeartbeats 1000000 in
set_option maxRecDepth 100000 in
theorem reset_any (b : Nat) (ov ad bv : Value) (g : Int) (w : World) (h : NBlk mx w b ov ad bv g) :
 Calls Try.prog 102 #[selfB b] w (ResetOut mx w b ov g) := by
 obtain ⟨k0, k1, k2, k3, k4⟩ := h.cells; have f1 := k4 1; have f2 := k4 2; have HN := hid h; have hlt := lt_of_heap h; clear h k0 k3 k4; go_enter Try.func102, Try.ntmps102
 go_wp2_with fail
 go_end0
 exact ⟨rfl, HN.out.set1.set2, only_setCell (p := ⟨b, 2, none⟩) (only_setCell (p := ⟨b, 1, none⟩) (grown_refl _ (some b)) rfl _) rfl _⟩
end Fm
end
section
open Lib (hid)
namespace Fm
open Go.RowKit Go.Shelf Ch
open Lib (hid)
variable {mx : Bool × Int}
abbrev TS : List TypeId := [40, 74, 5]
structure KeepO (B : Nat) (w w' : World) (ov ov' : Value) : Prop where
 keep : Keep B TS w w'
 ops : ∀ (i : Nat) (cs : Array Value) (fr : Nat × Nat), w.heap[i]? = some (Obj.cells cs 40 fr) → ov.ownBlock ≠ some i → w'.heap[i]? = some (Obj.cells cs 40 fr) ∧ ov'.ownBlock ≠ some i
theorem KeepO.trans {B : Nat} {a b c : World} {u v x : Value} (h : KeepO B a b u v) (k : KeepO B b c v x) : KeepO B a c u x :=
 ⟨h.keep.trans k.keep, fun i cs fr hi hne => k.ops i cs fr (h.ops i cs fr hi hne).1 (h.ops i cs fr hi hne).2⟩
theorem keepO_of {B : Nat} {ts : List TypeId} {w w' : World} (h : Keep B ts w w') (hs : ∀ t, t ∈ ts → t ∈ TS) (ho : 40 ∉ ts) (v : Value) : KeepO B w w' v v :=
 ⟨h.more hs, fun i cs fr hi hne => ⟨h.kept i cs _ fr hi ho, hne⟩⟩
theorem keepO_below {B : Nat} {w w' : World} (h : Below w.heap.size w w') (hB : B ≤ w.heap.size) (v : Value) : KeepO B w w' v v :=
 keepO_of (ts := []) (keep_below h hB) (fun t ht => by cases ht) (by simp) v
theorem keepO_grown {B n : Nat} {w w' : World} {v v' : Value} {xs : List Value} (h : w.ownsRow B 40 4 v n xs) (hg : w.grownBy w' v.ownBlock) (hB : B ≤ w.heap.size) (hn : ∀ j, j < w.heap.size → v.ownBlock ≠ some j → v'.ownBlock ≠ some j) : KeepO B w w' v v' :=
 ⟨keep_row h hg (by simp) hB, fun i cs fr hi hne => ⟨(hg.block i (lt_of_heap hi) (fun e => hne e.symm)).trans hi, hn i (lt_of_heap hi) hne⟩⟩
theorem KeepO.base {B C : Nat} {w w' : World} {u v : Value} (h : KeepO B w w' u v) (hc : C ≤ B) : KeepO C w w' u v := ⟨h.keep.mono hc, h.ops⟩
def NSt (mx : Bool × Int) (w : World) (B b : Nat) (ov : Value) (l : List OpD) (g : Int) : Prop :=
 ∃ (ps : List (OpD × Value)) (ad bv : Value) (bt : List UInt8), NBlk mx w b ov ad bv g ∧ Addrs b ad ∧ OwnP w B ov ps ∧ Holds8 w B bv bt ∧
  ((l = [] ∧ ps = [] ∧ bt = []) ∨ ∃ x r fr xv, l = x :: r ∧ ps = fr ++ [(noText x, xv)] ∧ fr.map (·.1) = r.reverse ∧ bt = x.text.data.toList)
def FSt (mx : Bool × Int) (w : World) (B b : Nat) (ov : Value) (l : List OpD) (g : Int) : Prop :=
 ∃ (ps : List (OpD × Value)) (ad bv : Value), NBlk mx w b ov ad bv g ∧ Addrs b ad ∧ OwnP w B ov ps ∧ Holds8 w B bv [] ∧ ps.map (·.1) = l.reverse
theorem NSt.lt {w : World} {B b : Nat} {ov : Value} {l : List OpD} {g : Int} (h : NSt mx w B b ov l g) : b < w.heap.size := by
 obtain ⟨_, _, _, _, h, _⟩ := h; exact lt_of_heap h
theorem OwnP.setLast {w : World} {B gg cap : Nat} {fr : List (OpD × Value)} {x y : OpD} {xv : Value} (h : OwnP w B (.slice (some ⟨gg, 0, none⟩) (fr.length + 1) cap) (fr ++ [(x, xv)])) (j : Nat) (u : Value) (hq : (opCells (x, xv)).set j u = opCells (y, xv)) (ha : y.attrs = x.attrs) :
 OwnP (w.setCell ⟨gg, fr.length * 4 + j, none⟩ u) B (.slice (some ⟨gg, 0, none⟩) (fr.length + 1) cap) (fr ++ [(y, xv)]) ∧ KeepO B w (w.setCell ⟨gg, fr.length * 4 + j, none⟩ u) (.slice (some ⟨gg, 0, none⟩) (fr.length + 1) cap) (.slice (some ⟨gg, 0, none⟩) (fr.length + 1) cap) := by
 obtain ⟨hB, cs, hg⟩ := own_heap h.len; have hk : Keep B [40] w (w.setCell ⟨gg, fr.length * 4 + j, none⟩ u) := keep_set hg (by simp) hB _ rfl u; refine ⟨ownP_mk (last_set h.len j u hq) (fun q hq => hk.own (h.2 q (List.mem_append_left _ hq)) (by decide)) ?_, hk.more (by simp), fun i cs' fr' hi hne => ⟨?_, hne⟩⟩
 ·have := hk.own (h.2 (x, xv) (by simp)) (by decide)
  show World.ownsRow _ _ _ _ xv y.attrs.length (flat y.attrs)
  rw [ha]; exact this
 ·rw [Below.heap_setCell _ _ _ _ (fun e => hne (by rw [e]; rfl))]
  exact hi
def FinOut (mx : Bool × Int) (w : World) (B b : Nat) (ov : Value) (l : List OpD) (g : Int) (e : Ending) (w' : World) : Prop := e = .returned (.tuple #[]) ∧ FSt mx w' B b ov l g ∧ KeepO B w w' ov ov
set_option maxHeartbeats 4000000 in
set_option maxRecDepth 100000 in
theorem finish_any (B b : Nat) (ov : Value) (l : List OpD) (g : Int) (w : World) (h : NSt mx w B b ov l g) (hB : B ≤ b) (hl : l.length ≤ 1000100) :
 Calls Try.prog 80 #[.pointer (some ⟨b, 0, none⟩)] w (FinOut mx w B b ov l g) := by
 have hBw : B ≤ w.heap.size := Nat.le_trans hB (Nat.le_of_lt h.lt); obtain ⟨ps, ad, bv, bt, hN, hA, hP, hH, hcase⟩ := h; obtain ⟨k0, k1, k2, k3, k4⟩ := hN.cells; rcases hcase with ⟨rfl, rfl, rfl⟩ | ⟨x, r, fr, xv, rfl, rfl, hfr, rfl⟩
 ·obtain ⟨a, c, rfl⟩ := own_slice hP.1
  have HF := hid (show FSt mx w B b (.slice a ([] : List (OpD × Value)).length c) [] g from ⟨[], ad, bv, hN, hA, hP, hH, rfl⟩); clear hN hP hH hA k1 k2 k3 k4; go_enter Try.func80, Try.ntmps80
  go_wp2_with fail
  go_end0
  exact ⟨rfl, HF.out, keepO_below (Below.refl _ _) hBw _⟩
 ·obtain ⟨gg, cap, hov⟩ := ownsRow_open hP.len (Nat.succ_pos _)
  subst hov; have hm : fr.length ≤ 1000100 := by
   have := congrArg List.length hfr; simp at this hl; omega
  obtain ⟨q0, q1, q2, q3⟩ := last_cells hP.len; have f2 : w.frozen? ⟨gg, fr.length * 4 + 2, none⟩ = false := hP.len.frozenAt _; have HN := hid hN; have HP := hid hP; have HH := hid hH; have HFR := hid hfr; clear hN hP hH hA k1 k2 k3 k4 q0 q1 q3 hfr hl; have hneq : gg ≠ b := by
   obtain ⟨_, cs, hcs⟩ := own_heap HP.out.len; exact block_ne hcs HN.out (by decide)
  have HNE := hid hneq; have i1 : (0 : Int) ≤ (fr.length : Int) := by omega
  have i2 : (fr.length : Int) < (fr.length : Int) + 1 := by omega
  clear hneq; go_enter Try.func80, Try.ntmps80
  go_wp2_with fail
  go_region_held3 (fun w' => w'.cell? ⟨b, 0, none⟩ = some (.slice (some ⟨gg, 0, none⟩) (fr.length + 1) cap))
   (first
    | exact k0
    | exact kA
    | exact set_other HNE.out kA)
   (first
    | (go_at_call 101; refine (builderString_any B b _ ad bv g x.text.data.toList _ (by exact HN.out) (by exact HH.out)).mono ?_; rintro e wA ⟨rfl, KA⟩; have NA := NBlk.keep (w := w.drew) HN.out KA (by decide); have kA := NA.cells.1; have PA := OwnP.keep (w := w.drew) HP.out KA (by decide) (by decide); have qA := (last_cells PA.len).2.2.1; have fA : wA.frozen? ⟨gg, fr.length * 4 + 2, none⟩ = false := PA.len.frozenAt _))
  obtain ⟨P2, K2⟩ := OwnP.setLast (y := x) PA 2 (.string ⟨x.text.data⟩) rfl rfl; have N2 := NBlk.keep (w := wA) NA (keep_set (B := B) (ts := [40]) (own_heap PA.len).2.choose_spec (by simp) (own_heap PA.len).1 ⟨gg, fr.length * 4 + 2, none⟩ rfl (.string ⟨x.text.data⟩)) (by decide); have KK := hid ((keepO_of (B := B) (of_drewK KA) (by simp) (by decide) (.slice (some ⟨gg, 0, none⟩) (fr.length + 1) cap)).trans K2); have HP2 := hid P2; have HN2 := hid N2; clear P2 K2 N2 PA NA KA kA qA fA; go_wp2_with fail
  refine (reset_any b _ ad bv g _ HN2.out).mono ?_; rintro e w3 ⟨rfl, N3, g3⟩; have K3 : Keep B [74] _ w3 := keep_grown g3 (by have := KK.out.keep.below.size; omega) fun k hk => by
   cases hk
   exact ⟨hB, _, _, _, HN2.out, by simp⟩
  have F3 : FSt mx w3 B b (.slice (some ⟨gg, 0, none⟩) (fr.length + 1) cap) (x :: r) g := ⟨_, _, _, N3, .inl rfl, HP2.out.keep K3 (by decide) (by decide), holds8_nil _ _, by rw [List.map_append, HFR.out, List.reverse_cons]; rfl⟩; have KK3 := KK.out.trans (keepO_of K3 (by simp) (by decide) _); have HF3 := hid F3; have HK3 := hid KK3; clear N3 g3 K3 F3 KK3; go_wp2_with fail
  go_end0
  exact ⟨rfl, HF3.out, HK3.out⟩
end Fm
end
section
open Lib (hid)
namespace Fm
open Go.RowKit Go.Shelf Ch
open Lib (hid)
variable {mx : Bool × Int}
theorem NSt.below {w w' : World} {B b : Nat} {ov : Value} {l : List OpD} {g : Int} (h : NSt mx w B b ov l g) (hb : Below w.heap.size w w') : NSt mx w' B b ov l g := by
 obtain ⟨ps, ad, bv, bt, h1, h2, h3, h4, h5⟩ := h; have hk : Keep w.heap.size [] w w' := keep_below hb (Nat.le_refl _); exact ⟨ps, ad, bv, bt, h1.keep hk (by simp), h2, h3.keep hk (by simp) (by simp), ⟨hk.own h4.1 (by simp), h4.2⟩, h5⟩
theorem NSt.ov_lt {w : World} {B b : Nat} {ov : Value} {l : List OpD} {g : Int} (h : NSt mx w B b ov l g) : ∀ j, ov.ownBlock = some j → j < w.heap.size := by
 obtain ⟨ps, _, _, _, _, _, h3, _⟩ := h; exact fun j hj => (h3.1.lt j hj).2
theorem NSt.slice {w : World} {B b : Nat} {ov : Value} {l : List OpD} {g : Int} (h : NSt mx w B b ov l g) : ∃ a c, ov = .slice a l.length c := by
 obtain ⟨ps, _, _, _, _, _, h3, _, h5⟩ := h; obtain ⟨a, c, rfl⟩ := own_slice h3.1; have : ps.length = l.length := by
  rcases h5 with ⟨rfl, rfl, _⟩ | ⟨x, r, fr, xv, rfl, rfl, hf, _⟩
  ·rfl
  ·have := congrArg List.length hf
   simp at this ⊢; exact this
 exact ⟨a, c, by rw [this]⟩
def PutOut (mx : Bool × Int) (w : World) (B b : Nat) (ov : Value) (l : List OpD) (o : OpD) (g : Int) (e : Ending) (w' : World) : Prop := e = .returned (.tuple #[]) ∧ ∃ ov', NSt mx w' B b ov' (put l o) g ∧ KeepO B w w' ov ov'
set_option maxHeartbeats 4000000 in
set_option maxRecDepth 100000 in
theorem put_empty (B b : Nat) (ov : Value) (l : List OpD) (g : Int) (o : OpD) (av : Value) (w : World) (h : NSt mx w B b ov l g) (hB : B ≤ b) (hf : Fits l o) (hv : ∀ w', Keep B TS w w' → AtRow w' av o.attrs) (hnil : l = []) :
 Calls Try.prog 53 #[.pointer (some ⟨b, 0, none⟩), opAgg o av] w (PutOut mx w B b ov l o g) := by
 have hBw : B ≤ w.heap.size := Nat.le_trans hB (Nat.le_of_lt h.lt); obtain ⟨ar, cr, rfl⟩ := (hv w (Keep.refl _ _ _)).shape; obtain ⟨W, hW⟩ : ∃ W, W = w.alloc (.cells #[.int .i64 o.kind, .int .i64 o.n, .string o.text, .slice ar o.attrs.length cr] 40) := ⟨_, rfl⟩; have BW : Below w.heap.size w W := by rw [hW]; exact below_box _ _
 have HBW := hid BW; have hbox : W.heap[w.heap.size]? = some (.cells #[.int .i64 o.kind, .int .i64 o.n, .string o.text, .slice ar o.attrs.length cr] 40 (0, 0)) := by rw [hW]; exact heap_new _ _
 have HBX := hid hbox; have HNE := hid (show ov.ownBlock ≠ some w.heap.size from fun e => by have := h.ov_lt _ e; omega); have HS := hid (h.below BW); have HV := hid hv; have HF := hid hf; have HW := hid hW; have HBw := hid hBw; obtain ⟨oa, oc, rfl⟩ := h.slice; subst hnil; have hblw := h.lt; have p0 : w.cell? ⟨b, 0, none⟩ = some (.slice oa 0 oc) := by
  obtain ⟨_, _, _, _, hN0, _⟩ := h; exact hN0.cells.1
 clear hf hv hW BW hbox hBw; go_enter Try.func53, Try.ntmps53
 go_wp2_with fail
 rw [← HW.out]; go_wp2_with fail
 go_quiet (fail)
 go_wp2_with fail
 refine (finish_any B b _ _ g _ (HS.out.below (below_drewN (Below.refl _ _) nq)) hB (by have := HF.out.len; omega)).mono ?_; rintro e w1 ⟨rfl, F1, KF⟩; have hb1 : w1.heap[w.heap.size]? = some (.cells #[.int .i64 o.kind, .int .i64 o.n, .string o.text, .slice ar o.attrs.length cr] 40 (0, 0)) := (KF.ops _ _ _ (by exact HBX.out) HNE.out).1; have K1 : KeepO B w w1 (.slice oa 0 oc) (.slice oa 0 oc) := (keepO_below (below_drewN HBW.out nq) HBw.out _).trans KF; have HK1 := hid K1; have HB1 := hid hb1; have hs1 : w.heap.size < w1.heap.size := lt_of_heap hb1; obtain ⟨ps, ad, bv, hN, hA, hP, hH, hps⟩ := F1; have hpl : ps.length ≤ 1000000 := by have h1 := congrArg List.length hps; rw [List.length_map, List.length_reverse] at h1; have := HF.out.len; omega
 have hPL : ps.length = 0 := by
  obtain ⟨a', c', e⟩ := own_slice hP.1; simp only [Value.slice.injEq] at e; exact e.2.1.symm
 have HPLN := hid hPL; obtain ⟨k0, k1, k2, k3, k4⟩ := hN.cells; have hbl : b < w1.heap.size := lt_of_heap hN; have c0 : w1.cell? ⟨w.heap.size, 0, none⟩ = some (.int .i64 o.kind) := by rw [Lib.cell_of_heap hb1]; rfl
 have c1 : w1.cell? ⟨w.heap.size, 1, none⟩ = some (.int .i64 o.n) := by rw [Lib.cell_of_heap hb1]; rfl
 have c3 : w1.cell? ⟨w.heap.size, 3, none⟩ = some (.slice ar o.attrs.length cr) := by rw [Lib.cell_of_heap hb1]; rfl
 obtain ⟨i0, hi, hz0, hz1, hz2⟩ := info_parts infoOp; have Hi := hid (And.intro hi (And.intro hz0 (And.intro hz1 hz2))); have HN := hid hN; have HP := hid hP; have HH := hid hH; have HA := hid hA; have HPS := hid hps; have HCL := hid (fun W' (hb : Below w1.heap.size w1 W') => cloneAttrs_any (.slice ar o.attrs.length cr) o.attrs W' (HV.out W' (K1.keep.trans (keep_below hb (Nat.le_trans HBw.out K1.keep.below.size)))) HF.out.attrs); have HPL := hid hpl; have hnb : w.heap.size ≠ b := by
  have := HS.out.lt; have := HBW.out.size; exact block_ne hb1 hN (by decide)
 have HNB := hid hnb; clear hN hP hH hA hps hPL KF K1 hi hz0 hz1 hz2 k1 k2 k3 k4 hb1 hpl hnb; go_wp2_with fail
 have S1 : w1.drew.cell? ⟨b, 0, none⟩ = some (.slice oa 0 oc) ∧ w1.drew.cell? ⟨w.heap.size, 0, none⟩ = some (.int .i64 o.kind) ∧ w1.drew.cell? ⟨w.heap.size, 1, none⟩ = some (.int .i64 o.n) ∧ w1.drew.cell? ⟨w.heap.size, 3, none⟩ = some (.slice ar o.attrs.length cr) := ⟨k0, c0, c1, c3⟩; refine wp_region_B (fun w' => w'.cell? ⟨b, 0, none⟩ = some (.slice oa 0 oc) ∧ w'.cell? ⟨w.heap.size, 0, none⟩ = some (.int .i64 o.kind) ∧ w'.cell? ⟨w.heap.size, 1, none⟩ = some (.int .i64 o.n) ∧ w'.cell? ⟨w.heap.size, 3, none⟩ = some (.slice ar o.attrs.length cr)) [17] (by kernel_rfl) (?_ : wpAnyB _ _ _ _ _ _ 18 (Array.replicate 18 false) _ _); refine wbF 17 0 ?_ rfl (by kernel_rfl) (fun _ _ _ h => h) (.inr S1) ?_ (by rfl) ?_
 rotate_left
 ·intro w'; go_simp; (try with_reducible rfl)
 simp only [Act.put, List.setIfInBounds_toArray]; refine wbF 16 1 ?_ rfl (by kernel_rfl) (fun _ _ _ h => h) (.inr S1) ?_ (by rfl) ?_
 rotate_left
 ·intro w'; go_simp; (try with_reducible rfl)
 simp only [Act.put]; refine wbF 15 2 ?_ rfl (by kernel_rfl) (fun _ _ _ h => h) (.inr S1) ?_ (by rfl) ?_
 rotate_left
 ·intro w'; go_simp; (try with_reducible rfl)
 simp only [Act.put]; refine wbF 14 3 ?_ rfl (by kernel_rfl) (fun _ _ _ h => h) (.inr S1) ?_ (by rfl) ?_
 rotate_left
 ·intro w'; go_simp; (try with_reducible rfl)
 simp only [Act.put]; refine wbL [4,14,17] 13 4 ?_ rfl (by kernel_rfl) (fun _ _ _ h => h) (.inr S1) ?_ (by rfl) ?_
 rotate_left
 ·intro w' hw'; go_simp; (try with_reducible rfl)
 simp only [Act.put]; refine wbF 12 5 ?_ rfl (by kernel_rfl) (fun _ _ _ h => h) (.inr S1) ?_ (by rfl) ?_
 rotate_left
 ·intro w'; go_simp; (try with_reducible rfl)
 simp only [Act.put]; refine wbL [6,12,13,14,17] 11 6 ?_ rfl (by kernel_rfl) (fun _ _ _ h => h) (.inr S1) ?_ (by rfl) ?_
 rotate_left
 ·intro w' hw'; go_simp; (try with_reducible rfl)
 simp only [Act.put]; refine wbF 10 7 ?_ rfl (by kernel_rfl) (fun _ _ _ h => h) (.inr S1) ?_ (by rfl) ?_
 rotate_left
 ·intro w'; go_simp; (try with_reducible rfl)
 simp only [Act.put]; refine wbL [8,12,13,14,17] 9 8 ?_ rfl (by kernel_rfl) (fun _ _ _ h => h) (.inr S1) ?_ (by rfl) ?_
 rotate_left
 ·intro w' hw'; go_simp; (try with_reducible rfl)
 simp only [Act.put]; refine wbF 8 9 ?_ rfl (by kernel_rfl) (fun _ _ _ h => h) (.inr S1) ?_ (by rfl) ?_
 rotate_left
 ·intro w'; go_simp; (try with_reducible rfl)
 simp only [Act.put]; refine wbL [10,11,12,13,14,17] 7 10 ?_ rfl (by kernel_rfl) (fun _ _ _ h => h) (.inr S1) ?_ (by rfl) ?_
 rotate_left
 ·intro w' hw'; go_simp; (try with_reducible rfl)
 simp only [Act.put]; refine wpAnyB_one (fuel := 6) (i := 11) rfl (by kernel_rfl) ?_; intro KB hKB; go_simp
 refine (HCL.out _ (Below.refl _ _).drew).mono ?_; rintro e wA ⟨vA, rfl, oA, bA⟩; obtain ⟨aa, ca, rfl⟩ := own_slice oA; have BA : Below w1.heap.size w1 wA := of_drew bA; have OA := hid (own_base oA (show B ≤ w1.drew.heap.size from by have := hbl; show B ≤ w1.heap.size; omega)); have PA := hid (HP.out.keep (keep_below (ts := []) BA (Nat.le_refl _)) (by simp) (by simp)); have NA := hid (HN.out.keep (keep_below (ts := []) BA (Nat.le_refl _)) (by simp)); have HA1 := hid (show Holds8 wA B bv [] from ⟨(keep_below (B := B) (ts := []) BA (by omega)).own HH.out.1 (by simp), HH.out.2⟩); have PO := hid (show wA.ownsRow B 40 4 (.slice oa 0 oc) 0 (flatO ps) from by have := PA.out.1; rwa [HPLN.out] at this); have bxA := hid ((BA.block _ hs1).trans HB1.out); have hBA := hid (show B ≤ wA.heap.size from by have := BA.size; omega); have KA := hid (HK1.out.trans (keepO_below BA (by omega) _)); have SA : wA.cell? ⟨b, 0, none⟩ = some (.slice oa 0 oc) ∧ wA.cell? ⟨w.heap.size, 0, none⟩ = some (.int .i64 o.kind) ∧ wA.cell? ⟨w.heap.size, 1, none⟩ = some (.int .i64 o.n) ∧ wA.cell? ⟨w.heap.size, 3, none⟩ = some (.slice ar o.attrs.length cr) := ⟨(BA.cell (by exact hbl)).trans k0, (BA.cell (by exact hs1)).trans c0, (BA.cell (by exact hs1)).trans c1, (BA.cell (by exact hs1)).trans c3⟩
 have AC := Below.alloc (Below.refl wA.heap.size wA) (Nat.le_refl _) (Obj.cells #[.int .i64 o.kind, .int .i64 o.n, .string ⟨#[]⟩, .slice aa o.attrs.length ca] 40); have HAC := hid AC; have lA := Nat.lt_of_lt_of_le hbl BA.size; have lA2 := Nat.lt_of_lt_of_le hs1 BA.size; have SB : (wA.alloc (Obj.cells #[.int .i64 o.kind, .int .i64 o.n, .string ⟨#[]⟩, .slice aa o.attrs.length ca] 40)).cell? ⟨b, 0, none⟩ = some (.slice oa 0 oc) ∧ (wA.alloc (Obj.cells #[.int .i64 o.kind, .int .i64 o.n, .string ⟨#[]⟩, .slice aa o.attrs.length ca] 40)).cell? ⟨w.heap.size, 0, none⟩ = some (.int .i64 o.kind) ∧ (wA.alloc (Obj.cells #[.int .i64 o.kind, .int .i64 o.n, .string ⟨#[]⟩, .slice aa o.attrs.length ca] 40)).cell? ⟨w.heap.size, 1, none⟩ = some (.int .i64 o.n) ∧ (wA.alloc (Obj.cells #[.int .i64 o.kind, .int .i64 o.n, .string ⟨#[]⟩, .slice aa o.attrs.length ca] 40)).cell? ⟨w.heap.size, 3, none⟩ = some (.slice ar o.attrs.length cr) := ⟨(AC.cell (by exact lA)).trans SA.1, (AC.cell (by exact lA2)).trans SA.2.1, (AC.cell (by exact lA2)).trans SA.2.2.1, (AC.cell (by exact lA2)).trans SA.2.2.2⟩
 have HSA := hid SA; have HSB := hid SB; clear oA bA BA SA SB AC; refine hKB _ _ (.inr HSA.out) ?_
 try simp only [Act.put, List.setIfInBounds_toArray, List.set_cons_zero, List.set_cons_succ]
 refine wbF 5 12 ?_ rfl (by kernel_rfl) (fun _ _ _ h => h) (.inr HSA.out) ?_ (by rfl) ?_
 rotate_left
 ·intro w'; go_simp; (try with_reducible rfl)
 simp only [Act.put, List.setIfInBounds_toArray]; refine wpAnyB_one (fuel := 4) (i := 13) rfl (by kernel_rfl) ?_; intro KB hKB; go_simp
 refine hKB _ _ (.inr HSB.out) ?_
 try simp only [Act.put, List.setIfInBounds_toArray, List.set_cons_zero, List.set_cons_succ]
 refine wpAnyB_one (fuel := 3) (i := 14) rfl (by kernel_rfl) ?_; intro KB hKB; refine step_append_new rfl (.tmp 43) (.tmp 52) 22 rfl 40 i0 (.agg #[.int .i64 0, .int .i64 0, .string ⟨#[]⟩, .slice none 0 0]) 4 56 Try.underlying22 Hi.out.1 Hi.out.2.1 Hi.out.2.2.1 Hi.out.2.2.2 rfl (by decide) B (.slice oa 0 oc) 0 (flatO ps) rfl (PO.out.alloc _) ⟨wA.heap.size, 0, none⟩ 1 1 [.int .i64 o.kind, .int .i64 o.n, .string ⟨#[]⟩, .slice aa o.attrs.length ca] rfl rfl (new_at4 _ _ _ _ _ _) (fun u hu => by simp at hu; rcases hu with rfl | rfl | rfl | rfl <;> rfl) (by unfold maxLen; have := HPL.out; have := HPLN.out; omega) (by have := HPL.out; have := HPLN.out; omega) (by have := hBA.out; simp; omega) ?_; intro v' wC oC gC nC; obtain ⟨oa', oc', rfl⟩ := own_slice oC; have KC1 := keepO_below (B := B) HAC.out hBA.out (.slice oa 0 oc); have KC2 := keepO_grown (PO.out.alloc _) gC (by have := hBA.out; simp; omega) nC
 have NC : NBlk mx wC b _ _ _ g := (NA.out.keep (keep_below (ts := []) HAC.out (Nat.le_refl _)) (by simp)).keep (ts := [40]) (keep_row (PO.out.alloc _) gC (by simp) (by have := hBA.out; simp; omega)) (by decide); have bC := (KC2.ops w.heap.size _ _ ((HAC.out.block _ (lt_of_heap bxA.out)).trans bxA.out) HNE.out).1; obtain ⟨kC, _, _, _, fC⟩ := NC.cells; have fC0 := fC 0; have SC : wC.cell? ⟨b, 0, none⟩ = some (.slice oa 0 oc) ∧ wC.cell? ⟨w.heap.size, 0, none⟩ = some (.int .i64 o.kind) ∧ wC.cell? ⟨w.heap.size, 1, none⟩ = some (.int .i64 o.n) ∧ wC.cell? ⟨w.heap.size, 3, none⟩ = some (.slice ar o.attrs.length cr) := ⟨kC, by rw [Lib.cell_of_heap bC]; rfl, by rw [Lib.cell_of_heap bC]; rfl, by rw [Lib.cell_of_heap bC]; rfl⟩; have HSC := hid SC; have HNC := hid NC; have HOC := hid oC; have HBC := hid bC; have HKC := hid (KA.out.trans (KC1.trans KC2)); have HKC2 := hid (KC1.trans KC2); clear oC gC nC KC1 KC2 NC fC SC bC
 refine hKB _ _ (.inr HSC.out) ?_
 try simp only [Act.put, List.setIfInBounds_toArray]
 refine wbF 2 15 ?_ rfl (by kernel_rfl) (fun _ _ _ h => h) (.inr HSC.out) ?_ (by rfl) ?_
 rotate_left
 ·intro w'; go_simp; (try with_reducible rfl)
 simp only [Act.put]; refine wbF 1 16 ?_ rfl (by kernel_rfl) (fun _ _ _ h => h) (.inr HSC.out) ?_ (by rfl) ?_
 rotate_left
 ·intro w'; go_simp; (try with_reducible rfl)
 simp only [Act.put]; refine wpAnyB_one (fuel := 0) (i := 17) rfl (by kernel_rfl) ?_; intro KB hKB; go_simp
 refine hKB _ _ (.inl (by kernel_rfl)) ?_
 try simp only [Act.put, List.setIfInBounds_toArray, List.set_cons_zero, List.set_cons_succ]
 refine wpAnyB_done (by kernel_rfl) ?_; have KD1 : Keep B [74] wC (wC.setCell ⟨b, 0, none⟩ (.slice oa' (0 + 1) oc')) := keep_set HNC.out (by simp) hB _ rfl _; have KAD : Keep B TS wA (wC.setCell ⟨b, 0, none⟩ (.slice oa' (0 + 1) oc')) := HKC2.out.keep.trans (KD1.more (by simp)); have OD : OwnP (wC.setCell ⟨b, 0, none⟩ (.slice oa' (0 + 1) oc')) B (.slice oa' (0 + 1) oc') (ps ++ [(noText o, .slice aa o.attrs.length ca)]) := ownP_mk (by have h1 := KD1.own HOC.out (by decide); rw [HPLN.out, flatO_snoc]; exact h1) (fun q hq => KAD.own (PA.out.2 q hq) (by decide)) (KAD.own OA.out (by decide)); have ND : NBlk mx (wC.setCell ⟨b, 0, none⟩ (.slice oa' (0 + 1) oc')) b (.slice oa' (0 + 1) oc') ad bv g := HNC.out.set0; have KD : KeepO B w (wC.setCell ⟨b, 0, none⟩ (.slice oa' (0 + 1) oc')) (.slice oa 0 oc) (.slice oa' (0 + 1) oc') := HKC.out.trans (keepO_of KD1 (by simp) (by decide) _); have bD : (wC.setCell ⟨b, 0, none⟩ (.slice oa' (0 + 1) oc')).heap[w.heap.size]? = _ := KD1.kept _ _ _ _ HBC.out (by decide)
 have HD : Holds8 (wC.setCell ⟨b, 0, none⟩ (.slice oa' (0 + 1) oc')) B bv [] := by rw [HH.out.2 rfl]; exact holds8_nil _ _
 obtain ⟨wD, hwD⟩ : ∃ wD, wD = wC.setCell ⟨b, 0, none⟩ (.slice oa' (0 + 1) oc') := ⟨_, rfl⟩; change (Exit.then _ _) _ _ (wC.setCell ⟨b, 0, none⟩ (.slice oa' (0 + 1) oc')); rw [← hwD] at OD ND KD bD HD ⊢; have HOD := hid OD; have HND := hid ND; have HKD := hid KD; have HHD := hid HD; have HbD := hid bD; have c2 : wD.cell? ⟨w.heap.size, 2, none⟩ = some (.string o.text) := by rw [Lib.cell_of_heap bD]; rfl
 clear OD ND KD bD HD KD1 KAD hwD S1; go_wp2_with fail
 go_region_held3 (fun w' => w'.cell? ⟨w.heap.size, 2, none⟩ = some (.string o.text))
  (first
   | exact c2
   | exact cE)
  (first
   | (go_at_call 82; refine (writeString_any B b _ ad bv g [] o.text _ (by exact HND.out) HA.out hB (by exact HHD.out) (by have := HF.out.text; simp; omega)).mono ?_; rintro e wE ⟨⟨nE, rfl⟩, ⟨bE, NE, HE⟩, KE⟩; have kbE := KE.kept (w := wD.drew) _ _ _ _ HbD.out (by decide); have cE : wE.cell? ⟨w.heap.size, 2, none⟩ = some (.string o.text) := by rw [Lib.cell_of_heap kbE]; rfl))
 have KE2 : Keep B [74, 5] wD wE := of_drewK KE; have OE := HOD.out.keep KE2 (by decide) (by decide); have FIN : ∃ ov', NSt mx wE B b ov' (put [] o) g ∧ KeepO B w wE (.slice oa 0 oc) ov' := by
  rw [show put [] o = o :: [] from rfl]; exact ⟨_, ⟨_, _, _, _, NE, .inr rfl, OE, HE, .inr ⟨o, [], ps, _, rfl, rfl, HPS.out, rfl⟩⟩, HKD.out.trans (keepO_of KE2 (by simp) (by decide) _)⟩
 have HFIN := hid FIN; clear FIN OE KE2 KE kbE cE NE HE; go_wp2_with fail
 go_end0
 exact ⟨rfl, HFIN.out⟩
end Fm
end
end Go.Proofs.Ytchceolbbkhnnaa
