import Derived.Test.YtchceolbbkhnnaaGP1
import Derived.Test.YtchceolbbkhnnaaGC2
import Derived.RegionTactic
import Derived.ChangeAlike
import Derived.BigRegion
import Derived.WalkKit
import Derived.Deep.RegionWith
import Derived.Deep.QuietTactic
import Derived.BigQuiet
import Derived.Deep.RegionHeld3
namespace Go.Proofs.Ytchceolbbkhnnaa
section
open Go.RowKit Rn Ch At
open Lib (hid)
abbrev opAg5 (o : OpD) (v : Value) (n : Int) : Value := .agg #[.int .i64 o.kind, .int .i64 o.n, .string o.text, v, .int .i64 n]
set_option maxRecDepth 100000 in
theorem length_any5 (o : OpD) (a : Option Addr) (k c : Nat) (n : Int) (w : World) :
 Calls Try.prog 134 #[opAg5 o (.slice a k c) n] w fun e w' => e = .returned (.int .i64 n) ∧ Below w.heap.size w w' := by
 have bx := hid (below_box w (.cells #[.int .i64 o.kind, .int .i64 o.n, .string o.text, .slice a k c, .int .i64 n] 86)); go_enter Try.func134, Try.ntmps134
 go_wp2_with fail
 go_ret
 exact ⟨rfl, bx.out⟩
theorem t5_dec (cs : List Nat) (h : allOk cs) (k : Nat) (hk : k < cs.length) : dec ((T cs).data.toList.drop (txt (cs.take k)).length) = (cs.getD k 0, (enc (cs.getD k 0)).length) := by
 have e : txt cs = txt (cs.take k) ++ txt (cs.drop k) := by rw [← txt_append, List.take_append_drop]
 rw [T_data, e, List.drop_left, List.drop_eq_getElem_cons hk, txt_cons, List.getD_eq_getElem?_getD, List.getElem?_eq_getElem hk]; exact dec_enc _ (h _ (List.getElem_mem hk)) _
theorem len5_succ (cs : List Nat) (k : Nat) (hk : k < cs.length) : (txt (cs.take (k + 1))).length = (txt (cs.take k)).length + (enc (cs.getD k 0)).length := by
 rw [List.take_succ_eq_append_getElem hk, txt_append, List.length_append, List.getD_eq_getElem?_getD, List.getElem?_eq_getElem hk]; simp [txt]
set_option maxHeartbeats 400000 in
theorem offset5_any (cs : List Nat) (m : Nat) (w : World) (hok : allOk cs) (hm : m ≤ cs.length) (hs : (T cs).size ≤ 9223372036854775807) :
 Calls Try.prog 135 #[.string (T cs), .int .i64 (m : Int)] w fun e w' => e = .returned (.int .i64 ((txt (cs.take m)).length : Int)) ∧ Below w.heap.size w w' := by
 have hlen := (txt_len cs).1; have hsz := T_size cs; have Hz : Hid ((T cs).size = (txt cs).length) := hsz; rw [hsz] at hs; clear hsz; go_enter Try.func135, Try.ntmps135
 go_wp2
 go_loopw [1] (fun n wr => ∃ (k : Nat), n = .int .i64 ((m : Int) - k) ∧ k ≤ m ∧ wr.heap[w.heap.size]? = some (.stringIter (T cs) (txt (cs.take k)).length) ∧ Below w.heap.size w wr) (fun _ wr => (T cs).size - wr.iterPos w.heap.size)
 case atStart =>
  refine ⟨0, by simp, by omega, World.iter_heap w _ 0, (Below.refl _ w).alloc (Nat.le_refl _) _⟩
 case round =>
  obtain ⟨k, rfl, hk, hit, hbw⟩ := hrel; have hle := len_take_le cs k
  by_cases hlt : k < cs.length
  ·have hd := t5_dec cs hok k hlt
   rw [← decode_eq] at hd; have hls := len5_succ cs k hlt; have hle2 := len_take_le cs (k + 1); have hp1 := enc_pos (cs.getD k 0); have hpl : (txt (cs.take k)).length < (T cs).size := by rw [Hz.out]; omega
   have hnx : ∀ ty, (Instr.next (.pointer (some ⟨w.heap.size, 0, none⟩)) true ty).run Try.prog wr = _ := fun ty => Lib.run_next_any_at wr w.heap.size (T cs) (txt (cs.take k)).length ty hit hpl; have hit2 := Lib.iterAt_heap wr w.heap.size (T cs) (txt (cs.take k)).length (txt (cs.take (k + 1))).length hit; have hbw2 := Lib.below_iterAt hbw (Nat.le_refl _) (T cs) (txt (cs.take (k + 1))).length; rw [hd] at hnx; simp only at hnx; rw [← hls] at hnx; have Hls : Hid ((txt (cs.take (k + 1))).length = (txt (cs.take k)).length + (enc (cs.getD k 0)).length) := hls; have Hhit : Hid _ := hid hit; clear hls hd hit
   by_cases hmk : m = k
   ·subst hmk
    go_wp2_with fail
    go_ret
    exact ⟨rfl, hbw2⟩
   ·have b : (((m : Int) - k) == 0) = false := by simp; omega
    go_wp2_with fail
    go_roundw
    case rel => exact ⟨k + 1, by go_num, by omega, hit2, hbw2⟩
    case measure =>
     simp only [World.iterPos, hit2, Hhit.out]; have := Hls.out; omega
  ·have hmk : m = cs.length := by omega
   have hkk : k = cs.length := by omega
   subst hkk; have hnx : ∀ ty, (Instr.next (.pointer (some ⟨w.heap.size, 0, none⟩)) true ty).run Try.prog wr = _ := fun ty => Lib.run_next_end_at wr w.heap.size (T cs) (txt (cs.take cs.length)).length ty hit (by rw [Hz.out, List.take_length]; omega); go_wp2_with fail
   go_ret
   exact ⟨by rw [hmk, List.take_length, Hz.out]; rfl, hbw⟩
theorem results_op2 {fn : Func} {i j : Nat} {t : TypeId} (h : fn.results = #[.cell i 86, .cell j 86]) {tmps : Array Value} {w : World} {b4 b5 : Nat} {x0 x1 x2 x3 x4 y0 y1 y2 y3 y4 : Value} (h4 : tmps.getD i undef = .pointer (some ⟨b4, 0, none⟩)) (h5 : tmps.getD j undef = .pointer (some ⟨b5, 0, none⟩))
 (a : w.heap[b4]? = some (.cells #[x0, x1, x2, x3, x4] t (0, 0))) (b : w.heap[b5]? = some (.cells #[y0, y1, y2, y3, y4] t (0, 0))) : (results fn tmps).run Try.prog w = .ok (.tuple #[.agg #[x0, x1, x2, x3, x4], .agg #[y0, y1, y2, y3, y4]]) w := by
 rw [Array.getD_eq_getD_getElem?] at h4 h5; have a0 : w.cell? ⟨b4, 0, none⟩ = some x0 := by simp [World.cell?, a]
 have a1 : w.cell? ⟨b4, 1, none⟩ = some x1 := by simp [World.cell?, a]
 have a2 : w.cell? ⟨b4, 2, none⟩ = some x2 := by simp [World.cell?, a]
 have a3 : w.cell? ⟨b4, 3, none⟩ = some x3 := by simp [World.cell?, a]
 have a4 : w.cell? ⟨b4, 4, none⟩ = some x4 := by simp [World.cell?, a]
 have c0 : w.cell? ⟨b5, 0, none⟩ = some y0 := by simp [World.cell?, b]
 have c1 : w.cell? ⟨b5, 1, none⟩ = some y1 := by simp [World.cell?, b]
 have c2 : w.cell? ⟨b5, 2, none⟩ = some y2 := by simp [World.cell?, b]
 have c3 : w.cell? ⟨b5, 3, none⟩ = some y3 := by simp [World.cell?, b]
 have c4 : w.cell? ⟨b5, 4, none⟩ = some y4 := by simp [World.cell?, b]
 clear a b; simp [results, h, h4, h5, go_sem, a0, a1, a2, a3, a4, c0, c1, c2, c3, c4]
abbrev set5 (w : World) (b : Nat) (x0 x1 x2 x3 x4 : Value) : World := ((((w.setCell ⟨b, 0, none⟩ x0).setCell ⟨b, 1, none⟩ x1).setCell ⟨b, 2, none⟩ x2).setCell ⟨b, 3, none⟩ x3).setCell ⟨b, 4, none⟩ x4
theorem set5_same {w : World} {b : Nat} {t : TypeId} {x0 x1 x2 x3 x4 y0 y1 y2 y3 y4 : Value} (h : w.heap[b]? = some (.cells #[y0, y1, y2, y3, y4] t (0, 0))) : (set5 w b x0 x1 x2 x3 x4).heap[b]? = some (.cells #[x0, x1, x2, x3, x4] t (0, 0)) :=
 nblk_set (nblk_set (nblk_set (nblk_set (nblk_set h))))
theorem set5_other {w : World} {b i : Nat} {x0 x1 x2 x3 x4 : Value} (h : i ≠ b) : (set5 w b x0 x1 x2 x3 x4).heap[i]? = w.heap[i]? :=
 (Below.heap_setCell _ _ _ _ h).trans ((Below.heap_setCell _ _ _ _ h).trans ((Below.heap_setCell _ _ _ _ h).trans ((Below.heap_setCell _ _ _ _ h).trans (Below.heap_setCell _ _ _ _ h))))
theorem set5_below {w a : World} {B b : Nat} {x0 x1 x2 x3 x4 : Value} (h : Below B a w) (hb : B ≤ b) : Below B a (set5 w b x0 x1 x2 x3 x4) := ((((h.setCell hb _).setCell hb _).setCell hb _).setCell hb _).setCell hb _
open Cp (rns1) in
def cutA (o : OpD) (m : Nat) : OpD := if o.kind = 2 then { o with text := T ((rns1 o.text).take m) } else { o with n := (m : Int) }
open Cp (rns1) in
def cutB (o : OpD) (m : Nat) : OpD := if o.kind = 2 then { o with text := T ((rns1 o.text).drop m) } else { o with n := o.n - (m : Int) }
set_option maxRecDepth 100000 in
theorem cut_num (o : OpD) (a : Option Addr) (k c : Nat) (sz : Int) (m : Nat) (w : World) (hk : o.kind ≠ 2) (h1 : (m : Int) ≤ o.n) (h2 : o.n ≤ 9223372036854775807) (h3 : (m : Int) ≤ sz) (h4 : sz ≤ 9223372036854775807) :
 Calls Try.prog 133 #[opAg5 o (.slice a k c) sz, .int .i64 (m : Int)] w fun e w' => e = .returned (.tuple #[opAg5 (cutA o m) (.slice a k c) (m : Int), opAg5 (cutB o m) (.slice a k c) (sz - (m : Int))]) ∧ Below w.heap.size w w' := by
 have tk : (o.kind == 2) = false := by rw [beq_eq_false_iff_ne]; exact hk
 unfold cutA cutB; rw [if_neg hk, if_neg hk]; clear hk; obtain ⟨W, hW⟩ : ∃ W, W = (((w.alloc (.cells #[.int .i64 o.kind, .int .i64 o.n, .string o.text, .slice a k c, .int .i64 sz] 86)).alloc (.cells #[.int .i64 o.kind, .int .i64 (m : Int), .string o.text, .slice a k c, .int .i64 (m : Int)] 86)).alloc (.cells #[.int .i64 o.kind, .int .i64 (o.n - (m : Int)), .string o.text, .slice a k c, .int .i64 (sz - (m : Int))] 86)).drew.drew.drew.drew := ⟨_, rfl⟩; have bx := hid (show Below w.heap.size w W by rw [hW]; exact ((((((((Below.refl _ w).alloc (Nat.le_refl _) _).alloc (by simp) _).alloc (by simp; omega) _)).drew).drew).drew).drew); have HW := hid hW; clear hW; go_enter Try.func133, Try.ntmps133
 go_wp2_with fail
 go_region
 go_wp2_with fail
 go_region
 go_wp2_with fail
 go_region
 go_wp2_with fail
 go_region
 go_wp2_with fail
 rw [← HW.out]; have k1 : W.heap[w.heap.size + 1]? = some (.cells #[.int .i64 o.kind, .int .i64 (m : Int), .string o.text, .slice a k c, .int .i64 (m : Int)] 86 (0, 0)) := by
  have := heap_new (w.alloc (.cells #[.int .i64 o.kind, .int .i64 o.n, .string o.text, .slice a k c, .int .i64 sz] 86)) (.cells #[.int .i64 o.kind, .int .i64 (m : Int), .string o.text, .slice a k c, .int .i64 (m : Int)] 86); rw [World.size_alloc] at this; rw [HW.out]; exact (Below.heap_alloc _ _ _ (by simp)).trans this
 have k2 : W.heap[w.heap.size + 1 + 1]? = some (.cells #[.int .i64 o.kind, .int .i64 (o.n - (m : Int)), .string o.text, .slice a k c, .int .i64 (sz - (m : Int))] 86 (0, 0)) := by
  have := heap_new ((w.alloc (.cells #[.int .i64 o.kind, .int .i64 o.n, .string o.text, .slice a k c, .int .i64 sz] 86)).alloc (.cells #[.int .i64 o.kind, .int .i64 (m : Int), .string o.text, .slice a k c, .int .i64 (m : Int)] 86)) (.cells #[.int .i64 o.kind, .int .i64 (o.n - (m : Int)), .string o.text, .slice a k c, .int .i64 (sz - (m : Int))] 86); rw [World.size_alloc, World.size_alloc] at this; rw [HW.out]; exact this
 refine bodyPost_ret (results_op2 rfl rfl rfl k1 k2) rfl ?_; exact ⟨rfl, bx.out⟩
set_option maxRecDepth 100000 in
set_option maxHeartbeats 4000000 in
theorem cut_txt (o : OpD) (a : Option Addr) (k c : Nat) (sz : Int) (m : Nat) (w : World) (hk : o.kind = 2) (ht : o.text = T (Cp.rns1 o.text)) (hok : allOk (Cp.rns1 o.text)) (hl : (Cp.rns1 o.text).length ≤ 20000) (h1 : m ≤ (Cp.rns1 o.text).length) (h3 : (m : Int) ≤ sz) (h4 : sz ≤ 9223372036854775807) :
 Calls Try.prog 133 #[opAg5 o (.slice a k c) sz, .int .i64 (m : Int)] w fun e w' => e = .returned (.tuple #[opAg5 (cutA o m) (.slice a k c) (m : Int), opAg5 (cutB o m) (.slice a k c) (sz - (m : Int))]) ∧ Below w.heap.size w w' := by
 have tk : (o.kind == 2) = true := by rw [hk]; rfl
 unfold cutA cutB; rw [if_pos hk, if_pos hk]; clear hk; obtain ⟨cs, hcs⟩ : ∃ cs, cs = Cp.rns1 o.text := ⟨_, rfl⟩; rw [← hcs] at ht hok hl h1 ⊢; clear hcs; have hsz := (txt_len cs).2; have hTs := T_size cs; have hle := len_take_le cs m; obtain ⟨n', hn'⟩ : ∃ n', n' = (txt (cs.take m)).length := ⟨_, rfl⟩; have HO := fun w => offset5_any cs m w hok h1 (by rw [hTs]; omega); rw [← hn'] at HO hle; have e1 := T_take cs m; have e2 := T_drop cs m; rw [← hn'] at e1 e2; rw [← ht] at HO e1 e2 hTs; generalize T (cs.take m) = tA at e1 ⊢; generalize T (cs.drop m) = tB at e2 ⊢; have hp : n' ≤ o.text.size := by omega
 have hp2 : o.text.size ≤ 80000 := by omega
 have S1 : ∀ W, (Instr.sliceAt 9 (.string o.text) none (some (.int .i64 (n' : Nat))) none).run Try.prog W = .ok (.string tA) W := fun W => by
  rw [run_sliceAt_string W _ _ _ _ _ Try.underlying9, run_slice_string_h W _ _ Try.underlying9 .i64 _ (by omega) (by omega), Int.toNat_natCast, e1]
 have S2 : ∀ W, (Instr.sliceAt 9 (.string o.text) (some (.int .i64 (n' : Nat))) none none).run Try.prog W = .ok (.string tB) W := fun W => by
  rw [run_sliceAt_string W _ _ _ _ _ Try.underlying9, run_slice_string_l W _ _ Try.underlying9 .i64 _ (by omega) (by omega), Int.toNat_natCast, e2]
 have HO := hid HO; clear ht hok hl h1 hsz hTs hle hn' e1 e2 hp hp2; obtain ⟨W, hW⟩ : ∃ W, W = (((w.alloc (.cells #[.int .i64 o.kind, .int .i64 o.n, .string o.text, .slice a k c, .int .i64 sz] 86)).alloc (.cells #[.int .i64 o.kind, .int .i64 o.n, .string o.text, .slice a k c, .int .i64 (m : Int)] 86)).alloc (.cells #[.int .i64 o.kind, .int .i64 o.n, .string o.text, .slice a k c, .int .i64 (sz - (m : Int))] 86)).drew.drew := ⟨_, rfl⟩; have bx := hid (show Below w.heap.size w W by rw [hW]; exact ((((((Below.refl _ w).alloc (Nat.le_refl _) _).alloc (by simp) _).alloc (by simp; omega) _)).drew).drew); have HW := hid hW; have k0 : W.heap[w.heap.size]? = some (.cells #[.int .i64 o.kind, .int .i64 o.n, .string o.text, .slice a k c, .int .i64 sz] 86 (0, 0)) := by
  rw [hW]; exact (Below.heap_alloc _ _ _ (by simp; omega)).trans ((Below.heap_alloc _ _ _ (by simp)).trans (heap_new w _))
 have k1 : W.heap[w.heap.size + 1]? = some (.cells #[.int .i64 o.kind, .int .i64 o.n, .string o.text, .slice a k c, .int .i64 (m : Int)] 86 (0, 0)) := by
  have := heap_new (w.alloc (.cells #[.int .i64 o.kind, .int .i64 o.n, .string o.text, .slice a k c, .int .i64 sz] 86)) (.cells #[.int .i64 o.kind, .int .i64 o.n, .string o.text, .slice a k c, .int .i64 (m : Int)] 86); rw [World.size_alloc] at this; rw [hW]; exact (Below.heap_alloc _ _ _ (by simp)).trans this
 have k2 : W.heap[w.heap.size + 1 + 1]? = some (.cells #[.int .i64 o.kind, .int .i64 o.n, .string o.text, .slice a k c, .int .i64 (sz - (m : Int))] 86 (0, 0)) := by
  have := heap_new ((w.alloc (.cells #[.int .i64 o.kind, .int .i64 o.n, .string o.text, .slice a k c, .int .i64 sz] 86)).alloc (.cells #[.int .i64 o.kind, .int .i64 o.n, .string o.text, .slice a k c, .int .i64 (m : Int)] 86)) (.cells #[.int .i64 o.kind, .int .i64 o.n, .string o.text, .slice a k c, .int .i64 (sz - (m : Int))] 86); rw [World.size_alloc, World.size_alloc] at this; rw [hW]; exact this
 have K0 := hid k0; have K1 := hid k1; have K2 := hid k2; clear hW k0 k1 k2; go_enter Try.func133, Try.ntmps133
 go_wp2_with fail
 go_region
 go_wp2_with fail
 go_region
 go_wp2_with fail
 rw [← HW.out]; refine (HO.out _).mono ?_; rintro e w1 ⟨rfl, b⟩; have z0 := (b.block _ (lt_of_heap K0.out)).trans K0.out; have z1 := (b.block _ (lt_of_heap K1.out)).trans K1.out; have z2 := (b.block _ (lt_of_heap K2.out)).trans K2.out; have B1 := hid (bx.out.trans (b.mono bx.out.size)); have x02 : w1.cell? ⟨w.heap.size, 2, none⟩ = some (.string o.text) := by simp [World.cell?, z0]
 have lt2 := lt_of_heap z2; have Z1 := hid z1; have Z2 := hid z2; have x12 : ∀ j, j < 5 → w1.cell? ⟨w.heap.size + 1, j, none⟩ = (#[.int .i64 o.kind, .int .i64 o.n, .string o.text, .slice a k c, .int .i64 (m : Int)] : Array Value)[j]? := fun j hj => by simp [World.cell?, z1]
 have y12 : ∀ j, w1.frozen? ⟨w.heap.size + 1, j, none⟩ = false := fun j => by simp [World.frozen?, z1]
 have x22 : ∀ j, j < 5 → w1.cell? ⟨w.heap.size + 1 + 1, j, none⟩ = (#[.int .i64 o.kind, .int .i64 o.n, .string o.text, .slice a k c, .int .i64 (sz - (m : Int))] : Array Value)[j]? := fun j hj => by simp [World.cell?, z2]
 have y22 : ∀ j, w1.frozen? ⟨w.heap.size + 1 + 1, j, none⟩ = false := fun j => by simp [World.frozen?, z2]
 have x10 := x12 0 (by omega); have x11 := x12 1 (by omega); have x13 := x12 2 (by omega); have x14 := x12 3 (by omega); have x15 := x12 4 (by omega); have x20 := x22 0 (by omega); have x21 := x22 1 (by omega); have x23 := x22 2 (by omega); have x24 := x22 3 (by omega); have x25 := x22 4 (by omega); simp only [List.getElem?_toArray, List.getElem?_cons_zero, List.getElem?_cons_succ] at x10 x11 x13 x14 x15 x20 x21 x23 x24 x25; clear b z0 z1 z2 x12 x22 K0 K1 K2 HO; go_wp2_with fail
 go_region
 go_wp2_with fail
 go_region
 go_wp2_with fail
 obtain ⟨Y, hY⟩ : ∃ Y, Y = (w1.setCell ⟨w.heap.size + 1, 2, none⟩ (.string tA)).setCell ⟨w.heap.size + 1 + 1, 2, none⟩ (.string tB) := ⟨_, rfl⟩; have q1 : Y.heap[w.heap.size + 1]? = some (.cells #[.int .i64 o.kind, .int .i64 o.n, .string tA, .slice a k c, .int .i64 (m : Int)] 86 (0, 0)) := by
  rw [hY, Below.heap_setCell _ _ _ _ (by simp)]; exact nblk_set Z1.out
 have q2 : Y.heap[w.heap.size + 1 + 1]? = some (.cells #[.int .i64 o.kind, .int .i64 o.n, .string tB, .slice a k c, .int .i64 (sz - (m : Int))] 86 (0, 0)) := by
  rw [hY]; exact nblk_set ((Below.heap_setCell _ _ _ _ (by simp)).trans Z2.out)
 have q3 : Below w.heap.size w Y := by rw [hY]; exact (B1.out.setCell (show w.heap.size ≤ w.heap.size + 1 by omega) _).setCell (show w.heap.size ≤ w.heap.size + 1 + 1 by omega) _
 rw [← hY]; clear hY; have q4 := set5_same (x0 := .int .i64 o.kind) (x1 := .int .i64 o.n) (x2 := .string tA) (x3 := .slice a k c) (x4 := .int .i64 (m : Int)) q1; have q5 := (set5_other (x0 := .int .i64 o.kind) (x1 := .int .i64 o.n) (x2 := .string tA) (x3 := .slice a k c) (x4 := .int .i64 (m : Int)) (show w.heap.size + 1 + 1 ≠ w.heap.size + 1 by omega)).trans q2; have q6 := (set5_other (x0 := .int .i64 o.kind) (x1 := .int .i64 o.n) (x2 := .string tB) (x3 := .slice a k c) (x4 := .int .i64 (sz - (m : Int))) (show w.heap.size + 1 ≠ w.heap.size + 1 + 1 by omega)).trans q4; have q7 := set5_same (x0 := .int .i64 o.kind) (x1 := .int .i64 o.n) (x2 := .string tB) (x3 := .slice a k c) (x4 := .int .i64 (sz - (m : Int))) q5
 obtain ⟨Z, hZ, r1, r2, r3⟩ : ∃ Z, Z = (((((((((Y.setCell ⟨w.heap.size + 1, 0, none⟩ (.int .i64 o.kind)).setCell ⟨w.heap.size + 1, 1, none⟩ (.int .i64 o.n)).setCell ⟨w.heap.size + 1, 2, none⟩ (.string tA)).setCell ⟨w.heap.size + 1, 3, none⟩ (.slice a k c)).setCell ⟨w.heap.size + 1, 4, none⟩ (.int .i64 (m : Int))).setCell ⟨w.heap.size + 1 + 1, 0, none⟩ (.int .i64 o.kind)).setCell ⟨w.heap.size + 1 + 1, 1, none⟩ (.int .i64 o.n)).setCell ⟨w.heap.size + 1 + 1, 2, none⟩ (.string tB)).setCell ⟨w.heap.size + 1 + 1, 3, none⟩ (.slice a k c)).setCell ⟨w.heap.size + 1 + 1, 4, none⟩ (.int .i64 (sz - (m : Int))) ∧
  Z.heap[w.heap.size + 1]? = some (.cells #[.int .i64 o.kind, .int .i64 o.n, .string tA, .slice a k c, .int .i64 (m : Int)] 86 (0, 0)) ∧ Z.heap[w.heap.size + 1 + 1]? = some (.cells #[.int .i64 o.kind, .int .i64 o.n, .string tB, .slice a k c, .int .i64 (sz - (m : Int))] 86 (0, 0)) ∧ Below w.heap.size w Z := ⟨_, rfl, q6, q7, set5_below (set5_below q3 (by omega)) (by omega)⟩
 rw [← hZ]; clear hZ q1 q2 q3 q4 q5 q6 q7; refine bodyPost_ret (results_op2 rfl rfl rfl (show Z.drew.drew.heap[w.heap.size + 1]? = _ from r1) (show Z.drew.drew.heap[w.heap.size + 1 + 1]? = _ from r2)) rfl ?_; exact ⟨rfl, (r3.drew).drew⟩
end
section
open Go.RowKit Rn Ch At
open Lib (hid)
abbrev QV5 := OpD × (Option Addr × Nat)
abbrev qv (q : QV5) : Value := .slice q.2.1 q.1.attrs.length q.2.2
def szO (o : OpD) : Int := o.n + ((Cp.rns1 o.text).length : Int)
abbrev op5 (q : QV5) : Value := .agg #[.int .i64 q.1.kind, .int .i64 q.1.n, .string q.1.text, qv q, .int .i64 (szO q.1)]
def cell5 (q : QV5) : Array Value := #[.int .i64 q.1.kind, .int .i64 q.1.n, .string q.1.text, qv q, .int .i64 (szO q.1)]
def restQ5 : QV5 := (⟨1, 9223372036854775807, ⟨#[]⟩, []⟩, (none, 0))
def nxt5 (l : List QV5) : QV5 := l.head?.getD restQ5
def Row5 (w : World) (g : Option Nat) (v : Value) (l : List QV5) : Prop :=
 ∃ a c, v = .slice a l.length c ∧ l.length ≤ c ∧ c ≤ maxLen ∧ ((l = [] ∧ g = none) ∨ ∃ b off cs, g = some b ∧ a = some ⟨b, off, none⟩ ∧ w.heap[b]? = some (.cells cs 86 (0, 0)) ∧ ∀ i (h : i < l.length) j, j < 5 → cs[off + i * 5 + j]? = (cell5 l[i])[j]?)
def RestAt (w : World) (rb p : Nat) : Prop :=
 w.cell? ⟨rb, p + 1, none⟩ = some (.int .i64 1) ∧ w.cell? ⟨rb, p + 2, none⟩ = some (.int .i64 9223372036854775807) ∧ w.cell? ⟨rb, p + 3, none⟩ = some (.string ⟨#[]⟩) ∧ w.cell? ⟨rb, p + 4, none⟩ = some (.slice none 0 0) ∧ w.cell? ⟨rb, p + 5, none⟩ = some (.int .i64 9223372036854775807)
theorem Row5.keep {w W : World} {g : Option Nat} {v : Value} {l : List QV5} (h : Row5 w g v l) (hk : ∀ b, g = some b → ∀ o, w.heap[b]? = some o → W.heap[b]? = some o) : Row5 W g v l := by
 obtain ⟨a, c, h0, h1, h2, h3⟩ := h; refine ⟨a, c, h0, h1, h2, h3.imp id ?_⟩; rintro ⟨b, off, cs, e1, e2, e3, e4⟩; exact ⟨b, off, cs, e1, e2, hk b e1 _ e3, e4⟩
theorem Row5.below {w W : World} {g : Option Nat} {v : Value} {l : List QV5} (h : Row5 w g v l) (hb : Below w.heap.size w W) : Row5 W g v l :=
 h.keep fun b _ _o ho => (hb.block b (lt_of_heap ho)).trans ho
theorem RestAt.keep {w W : World} {rb p : Nat} (h : RestAt w rb p) (hk : ∀ j, 1 ≤ j → j ≤ 5 → W.cell? ⟨rb, p + j, none⟩ = w.cell? ⟨rb, p + j, none⟩) : RestAt W rb p := by
 obtain ⟨h1, h2, h3, h4, h5⟩ := h; exact ⟨(hk 1 (by omega) (by omega)).trans h1, (hk 2 (by omega) (by omega)).trans h2, (hk 3 (by omega) (by omega)).trans h3, (hk 4 (by omega) (by omega)).trans h4, (hk 5 (by omega) (by omega)).trans h5⟩
theorem RestAt.below {w W : World} {rb p : Nat} (h : RestAt w rb p) (hl : rb < w.heap.size) (hb : Below w.heap.size w W) : RestAt W rb p :=
 h.keep fun j _ _ => hb.cell (by exact hl)
theorem rns1_nil : Cp.rns1 ⟨#[]⟩ = [] := by
 have := Cp.rns1_T (cs := []) (fun c h => by cases h) (Nat.zero_le _); exact this
theorem szO_rest : szO restQ5.1 = 9223372036854775807 := by
 unfold szO; show (9223372036854775807 : Int) + ((Cp.rns1 ⟨#[]⟩).length : Int) = _
 rw [rns1_nil]; rfl
theorem results_op1 {fn : Func} {i : Nat} {t : TypeId} (h : fn.results = #[.cell i 86]) {tmps : Array Value} {w : World} {b4 : Nat} {x0 x1 x2 x3 x4 : Value} (h4 : tmps.getD i undef = .pointer (some ⟨b4, 0, none⟩))
 (a : w.heap[b4]? = some (.cells #[x0, x1, x2, x3, x4] t (0, 0))) : (results fn tmps).run Try.prog w = .ok (.agg #[x0, x1, x2, x3, x4]) w := by
 rw [Array.getD_eq_getD_getElem?] at h4; have a0 : w.cell? ⟨b4, 0, none⟩ = some x0 := by simp [World.cell?, a]
 have a1 : w.cell? ⟨b4, 1, none⟩ = some x1 := by simp [World.cell?, a]
 have a2 : w.cell? ⟨b4, 2, none⟩ = some x2 := by simp [World.cell?, a]
 have a3 : w.cell? ⟨b4, 3, none⟩ = some x3 := by simp [World.cell?, a]
 have a4 : w.cell? ⟨b4, 4, none⟩ = some x4 := by simp [World.cell?, a]
 clear a; simp [results, h, h4, go_sem, a0, a1, a2, a3, a4]
set_option maxRecDepth 100000 in
theorem next5_any (rb p : Nat) (g : Option Nat) (v : Value) (l : List QV5) (w : World) (hv : w.cell? ⟨rb, p, none⟩ = some v) (hl : Row5 w g v l) (hr : RestAt w rb p) :
 Calls Try.prog 91 #[.pointer (some ⟨rb, p, none⟩)] w fun e w' => e = .returned (op5 (nxt5 l)) ∧ Below w.heap.size w w' := by
 obtain ⟨a, c, rfl, h1, h2, h3⟩ := hl; obtain ⟨r1, r2, r3, r4, r5⟩ := hr; have hlt := World.block_lt_of_cell? _ _ hv; cases l with
 | nil =>
   clear h3; go_enter Try.func91, Try.ntmps91
   go_wp2_with fail
   refine bodyPost_ret (results_op1 rfl rfl (heap_new _ _)) rfl ?_; exact ⟨by show _ = Ending.returned (.agg #[_, _, _, _, .int .i64 (szO restQ5.1)]); rw [szO_rest]; rfl, below_box w _⟩
 | cons q s =>
   obtain ⟨b, off, cs, rfl, rfl, hb, hc⟩ : ∃ b off cs, g = some b ∧ a = some ⟨b, off, none⟩ ∧ w.heap[b]? = some (.cells cs 86 (0, 0)) ∧ ∀ i (h : i < (q :: s).length) j, j < 5 → cs[off + i * 5 + j]? = (cell5 (q :: s)[i])[j]? := by
    rcases h3 with h3 | h3
    ·cases h3.1
    ·exact h3
   have hbl := lt_of_heap hb; have e0 : w.cell? ⟨b, off, none⟩ = some (.int .i64 q.1.kind) := by have := hc 0 (Nat.succ_pos _) 0 (by omega); simpa [World.cell?, hb, cell5] using this
   have e1 : w.cell? ⟨b, off + 1, none⟩ = some (.int .i64 q.1.n) := by have := hc 0 (Nat.succ_pos _) 1 (by omega); simpa [World.cell?, hb, cell5] using this
   have e2 : w.cell? ⟨b, off + 2, none⟩ = some (.string q.1.text) := by have := hc 0 (Nat.succ_pos _) 2 (by omega); simpa [World.cell?, hb, cell5] using this
   have e3 : w.cell? ⟨b, off + 3, none⟩ = some (qv q) := by have := hc 0 (Nat.succ_pos _) 3 (by omega); simpa [World.cell?, hb, cell5] using this
   have e4 : w.cell? ⟨b, off + 4, none⟩ = some (.int .i64 (szO q.1)) := by have := hc 0 (Nat.succ_pos _) 4 (by omega); simpa [World.cell?, hb, cell5] using this
   have hpos : (0 : Int) < ((q :: s).length : Int) := by rw [List.length_cons]; omega
   have te : (((q :: s).length : Int) == 0) = false := by rw [beq_eq_false_iff_ne, List.length_cons]; omega
   obtain ⟨n, hn⟩ : ∃ n, n = (q :: s).length := ⟨_, rfl⟩; rw [← hn] at hv hpos te h1; have HN := hid hn; clear hn h3 hc hb; show Calls _ _ _ _ fun e w' => e = .returned (op5 q) ∧ _
   go_enter Try.func91, Try.ntmps91
   go_wp2_with fail
   refine bodyPost_ret (results_op1 rfl rfl (heap_new _ _)) rfl ?_; exact ⟨rfl, below_box w _⟩
def PieceOk (o : OpD) : Prop := (o.kind ≠ 2 ∧ o.text = ⟨#[]⟩ ∧ 0 ≤ o.n ∧ o.n ≤ 9223372036854775807) ∨ (o.kind = 2 ∧ o.n = 0 ∧ o.text = T (Cp.rns1 o.text) ∧ allOk (Cp.rns1 o.text) ∧ (Cp.rns1 o.text).length ≤ 20000)
theorem szO_num {o : OpD} (h : o.text = ⟨#[]⟩) : szO o = o.n := by unfold szO; rw [h, rns1_nil]; simp
theorem szO_txt {o : OpD} (h : o.n = 0) : szO o = ((Cp.rns1 o.text).length : Int) := by unfold szO; rw [h]; simp
theorem PieceOk.sz {o : OpD} (h : PieceOk o) : 0 ≤ szO o ∧ szO o ≤ 9223372036854775807 := by
 rcases h with ⟨_, h, a, b⟩ | ⟨_, h, _, _, b⟩
 ·rw [szO_num h]; exact ⟨a, b⟩
 ·rw [szO_txt h]; omega
theorem allOk_take {cs : List Nat} (h : allOk cs) (m : Nat) : allOk (cs.take m) := fun c hc => h c (List.mem_of_mem_take hc)
theorem allOk_drop {cs : List Nat} (h : allOk cs) (m : Nat) : allOk (cs.drop m) := fun c hc => h c (List.mem_of_mem_drop hc)
theorem cut_attrs (o : OpD) (m : Nat) : (cutA o m).attrs = o.attrs ∧ (cutB o m).attrs = o.attrs ∧ (cutA o m).kind = o.kind ∧ (cutB o m).kind = o.kind := by
 unfold cutA cutB; split <;> exact ⟨rfl, rfl, rfl, rfl⟩
theorem PieceOk.cut {o : OpD} (h : PieceOk o) {m : Nat} (hm : (m : Int) ≤ szO o) : PieceOk (cutA o m) ∧ PieceOk (cutB o m) ∧ szO (cutA o m) = (m : Int) ∧ szO (cutB o m) = szO o - (m : Int) := by
 rcases h with ⟨k, h, a, b⟩ | ⟨k, h, c, d, b⟩
 ·rw [szO_num h] at hm ⊢
  unfold cutA cutB; rw [if_neg k, if_neg k]; refine ⟨.inl ⟨k, h, by show 0 ≤ (m : Int); omega, by show (m : Int) ≤ _; omega⟩, .inl ⟨k, h, by show 0 ≤ o.n - (m : Int); omega, by show o.n - (m : Int) ≤ _; omega⟩, szO_num h, szO_num h⟩
 ·rw [szO_txt h] at hm ⊢
  unfold cutA cutB; rw [if_pos k, if_pos k]; have e1 := Cp.rns1_T (allOk_take d m) (by rw [List.length_take]; omega); have e2 := Cp.rns1_T (allOk_drop d m) (by rw [List.length_drop]; omega); refine ⟨.inr ⟨k, h, ?_, ?_, ?_⟩, .inr ⟨k, h, ?_, ?_, ?_⟩, ?_, ?_⟩
  ·show T _ = T (Cp.rns1 (T _)); rw [e1]
  ·show allOk (Cp.rns1 (T _)); rw [e1]; exact allOk_take d m
  ·show (Cp.rns1 (T _)).length ≤ _; rw [e1, List.length_take]; omega
  ·show T _ = T (Cp.rns1 (T _)); rw [e2]
  ·show allOk (Cp.rns1 (T _)); rw [e2]; exact allOk_drop d m
  ·show (Cp.rns1 (T _)).length ≤ _; rw [e2, List.length_drop]; omega
  ·rw [szO_txt (by exact h)]
   show ((Cp.rns1 (T _)).length : Int) = _
   rw [e1, List.length_take]; omega
  ·rw [szO_txt (by exact h)]
   show ((Cp.rns1 (T _)).length : Int) = _
   rw [e2, List.length_drop]; omega
theorem cut5_any (q : QV5) (m : Nat) (w : World) (h : PieceOk q.1) (hm : (m : Int) ≤ szO q.1) :
 Calls Try.prog 133 #[op5 q, .int .i64 (m : Int)] w fun e w' => e = .returned (.tuple #[op5 (cutA q.1 m, q.2), op5 (cutB q.1 m, q.2)]) ∧ Below w.heap.size w w' := by
 obtain ⟨_, _, s1, s2⟩ := h.cut hm; obtain ⟨a1, a2, _, _⟩ := cut_attrs q.1 m; have hz := h.sz; have e1 : op5 (cutA q.1 m, q.2) = opAg5 (cutA q.1 m) (qv q) (m : Int) := by
  show Value.agg #[_, _, _, .slice q.2.1 (cutA q.1 m).attrs.length q.2.2, .int .i64 (szO (cutA q.1 m))] = _
  rw [a1, s1]
 have e2 : op5 (cutB q.1 m, q.2) = opAg5 (cutB q.1 m) (qv q) (szO q.1 - (m : Int)) := by
  show Value.agg #[_, _, _, .slice q.2.1 (cutB q.1 m).attrs.length q.2.2, .int .i64 (szO (cutB q.1 m))] = _
  rw [a2, s2]
 rw [e1, e2]; rcases h with ⟨k, h, a, b⟩ | ⟨k, h, c, d, b⟩
 ·exact cut_num q.1 _ _ _ _ m w k (by rw [szO_num h] at hm; exact hm) b hm hz.2
 ·exact cut_txt q.1 _ _ _ _ m w k c d b (by rw [szO_txt h] at hm; omega) hm hz.2
def rowTake (l : List QV5) (m : Nat) : List QV5 :=
 match l with
 | [] => []
 | q :: r => if szO (cutB q.1 m) = 0 then r else (cutB q.1 m, q.2) :: r
def firstCut (l : List QV5) (m : Nat) : QV5 := (cutA (nxt5 l).1 m, (nxt5 l).2)
theorem meth_cut (v : Value) (w : World) : (method 263 86 v "blotter/abreast.cut").run Try.prog w = .ok (133, v) w := by kernel_rfl
theorem meth_length (v : Value) (w : World) : (method 263 86 v "blotter/abreast.length").run Try.prog w = .ok (134, v) w := by kernel_rfl
set_option maxRecDepth 100000 in
theorem rowTake_nil (rb p : Nat) (g : Option Nat) (v : Value) (m : Nat) (w : World) (hv : w.cell? ⟨rb, p, none⟩ = some v) (hl : Row5 w g v []) (hr : RestAt w rb p) (hm : (m : Int) ≤ 9223372036854775807) :
 Calls Try.prog 92 #[.pointer (some ⟨rb, p, none⟩), .int .i64 (m : Int)] w fun e w' => e = .returned (op5 (firstCut [] m)) ∧ Below w.heap.size w w' := by
 have hlt := World.block_lt_of_cell? _ _ hv; have bx := below_box w (.cells #[.int .i64 0, .int .i64 0, .string ⟨#[]⟩, .slice none 0 0, .int .i64 0] 86); have HN := hid (next5_any rb p g v [] (w.alloc (.cells #[.int .i64 0, .int .i64 0, .string ⟨#[]⟩, .slice none 0 0, .int .i64 0] 86)) ((bx.cell (by exact hlt)).trans hv) (hl.below bx) (hr.below hlt bx)); have HC := hid (fun W => cut5_any (nxt5 []) m W (.inl ⟨by decide, rfl, by decide, by decide⟩) (by show (m : Int) ≤ szO restQ5.1; rw [szO_rest]; exact hm)); have MC := fun v => meth_cut v; have HX := hid (show (w.alloc (.cells #[.int .i64 0, .int .i64 0, .string ⟨#[]⟩, .slice none 0 0, .int .i64 0] 86)).heap[w.heap.size]? = some (.cells #[.int .i64 0, .int .i64 0, .string ⟨#[]⟩, .slice none 0 0, .int .i64 0] 86 (0, 0)) from heap_new _ _); have HBX := hid bx; obtain ⟨va, vc, rfl, _⟩ := hl; have HV := hid hv; clear bx hr hv; go_enter Try.func92, Try.ntmps92
 go_wp2_with fail
 refine HN.out.mono ?_; rintro e w1 ⟨rfl, b1⟩; have B1 := hid (HBX.out.trans (b1.mono HBX.out.size)); have X1 := hid ((b1.block _ (lt_of_heap HX.out)).trans HX.out); clear b1 HX; go_wp2_with fail
 refine (HC.out _).mono ?_; rintro e w2 ⟨rfl, b2⟩; have B2 := hid (B1.out.trans (b2.mono B1.out.size)); have x2 := (b2.block _ (lt_of_heap X1.out)).trans X1.out; have X2 := hid x2; have hx2 := lt_of_heap x2; have v0 := (B2.out.cell (p := ⟨rb, p, none⟩) (by exact hlt)).trans HV.out; have hlt2 : rb < w2.heap.size := by omega
 have x20 : w2.cell? ⟨w.heap.size, 0, none⟩ = some (.int .i64 0) := by simp [World.cell?, x2]
 have x21 : w2.cell? ⟨w.heap.size, 1, none⟩ = some (.int .i64 0) := by simp [World.cell?, x2]
 have x22 : w2.cell? ⟨w.heap.size, 2, none⟩ = some (.string ⟨#[]⟩) := by simp [World.cell?, x2]
 have x23 : w2.cell? ⟨w.heap.size, 3, none⟩ = some (.slice none 0 0) := by simp [World.cell?, x2]
 have x24 : w2.cell? ⟨w.heap.size, 4, none⟩ = some (.int .i64 0) := by simp [World.cell?, x2]
 have y2 : ∀ j, w2.frozen? ⟨w.heap.size, j, none⟩ = false := fun j => by simp [World.frozen?, x2]
 clear b2 X1 x2 B1 HN HC; go_wp2_with fail
 obtain ⟨Z, hZ, z1, z2⟩ : ∃ Z, Z = ((set5 w2 w.heap.size (.int .i64 (cutA (nxt5 []).1 m).kind) (.int .i64 (cutA (nxt5 []).1 m).n) (.string (cutA (nxt5 []).1 m).text) (qv (cutA (nxt5 []).1 m, (nxt5 []).2)) (.int .i64 (szO (cutA (nxt5 []).1 m)))).alloc (.cells (cell5 (cutA (nxt5 []).1 m, (nxt5 []).2)) 86)).alloc (.cells (cell5 (cutB (nxt5 []).1 m, (nxt5 []).2)) 86) ∧
  Z.heap[w.heap.size]? = some (.cells (cell5 (cutA (nxt5 []).1 m, (nxt5 []).2)) 86 (0, 0)) ∧ Below w.heap.size w Z :=
  ⟨_, rfl, (Below.heap_alloc _ _ _ (by simp; omega)).trans ((Below.heap_alloc _ _ _ (by simp; omega)).trans (set5_same X2.out)), (((set5_below B2.out (Nat.le_refl _)).alloc (by simp; omega) _).alloc (by simp; omega) _)⟩
 refine bodyPost_ret (results_op1 (w := ((set5 w2 w.heap.size _ _ _ _ _).alloc _).alloc _) rfl rfl (by rw [hZ] at z1; exact z1)) rfl ?_; exact ⟨rfl, by rw [hZ] at z2; exact z2⟩
theorem slice_tail5 (b off n cap : Nat) (_hn : n + 1 ≤ cap) (W : World) : (Instr.sliceAt 83 (.slice (some ⟨b, off, none⟩) (n + 1) cap) (some (.int .i64 1)) none none).run Try.prog W = .ok (.slice (some (if cap = 1 then ⟨b, off, none⟩ else ⟨b, off + 5, none⟩)) n (cap - 1)) W := by
 have he : Try.prog.elem 83 = 86 := by kernel_rfl
 have hu : Try.prog.underlying 83 = some (.slice (Try.prog.elem 83)) := by kernel_rfl
 rw [run_sliceAt_slice W _ _ _ _ _ hu, run_slice_l W _ _ _ _ hu .i64 _ (by omega) (by omega), he, Try.sizeOf86]; have e : sliced (some ⟨b, off, none⟩) 1 (n + 1) cap 5 = .slice (some (if cap = 1 then ⟨b, off, none⟩ else ⟨b, off + 5, none⟩)) n (cap - 1) := by
  unfold sliced
  by_cases hc : cap = 1
  ·rw [if_pos hc, if_pos hc]; rfl
  ·rw [if_neg hc, if_neg hc]; rfl
 rw [← e]; rfl
theorem five_in (cs : Array Value) (off : Nat) (x0 x1 x2 x3 x4 : Value) (h : off + 5 ≤ cs.size) :
 (∀ j, j < 5 → (((((cs.setIfInBounds off x0).setIfInBounds (off + 1) x1).setIfInBounds (off + 2) x2).setIfInBounds (off + 3) x3).setIfInBounds (off + 4) x4)[off + j]? = (#[x0, x1, x2, x3, x4] : Array Value)[j]?) ∧
 ∀ k, k < off ∨ off + 5 ≤ k → (((((cs.setIfInBounds off x0).setIfInBounds (off + 1) x1).setIfInBounds (off + 2) x2).setIfInBounds (off + 3) x3).setIfInBounds (off + 4) x4)[k]? = cs[k]? := by
 constructor
 ·intro j hj
  have : j = 0 ∨ j = 1 ∨ j = 2 ∨ j = 3 ∨ j = 4 := by omega
  have n1 : off < cs.size := by omega
  have n2 : off + 1 < cs.size := by omega
  have n3 : off + 2 < cs.size := by omega
  have n4 : off + 3 < cs.size := by omega
  have n5 : off + 4 < cs.size := by omega
  rcases this with rfl | rfl | rfl | rfl | rfl <;> simp [n1, n2, n3, n4, n5]
 ·intro k hk
  rw [Array.getElem?_setIfInBounds_ne (by omega), Array.getElem?_setIfInBounds_ne (by omega), Array.getElem?_setIfInBounds_ne (by omega), Array.getElem?_setIfInBounds_ne (by omega), Array.getElem?_setIfInBounds_ne (by omega)]
def put5 (w : World) (b off : Nat) (x0 x1 x2 x3 x4 : Value) : World := ((((w.setCell ⟨b, off, none⟩ x0).setCell ⟨b, off + 1, none⟩ x1).setCell ⟨b, off + 2, none⟩ x2).setCell ⟨b, off + 3, none⟩ x3).setCell ⟨b, off + 4, none⟩ x4
theorem put5_other {w : World} {b off i : Nat} {x0 x1 x2 x3 x4 : Value} (h : i ≠ b) : (put5 w b off x0 x1 x2 x3 x4).heap[i]? = w.heap[i]? :=
 (Below.heap_setCell _ _ _ _ h).trans ((Below.heap_setCell _ _ _ _ h).trans ((Below.heap_setCell _ _ _ _ h).trans ((Below.heap_setCell _ _ _ _ h).trans (Below.heap_setCell _ _ _ _ h))))
theorem put5_below {w a : World} {B b off : Nat} {x0 x1 x2 x3 x4 : Value} (h : Below B a w) (hb : B ≤ b) : Below B a (put5 w b off x0 x1 x2 x3 x4) := ((((h.setCell hb _).setCell hb _).setCell hb _).setCell hb _).setCell hb _
theorem put5_same {w : World} {b off : Nat} {cs : Array Value} {t : TypeId} {x0 x1 x2 x3 x4 : Value} (h : w.heap[b]? = some (.cells cs t (0, 0))) (hz : off + 5 ≤ cs.size) :
 ∃ cs', (put5 w b off x0 x1 x2 x3 x4).heap[b]? = some (.cells cs' t (0, 0)) ∧ (∀ j, j < 5 → cs'[off + j]? = (#[x0, x1, x2, x3, x4] : Array Value)[j]?) ∧ ∀ k, k < off ∨ off + 5 ≤ k → cs'[k]? = cs[k]? :=
 ⟨_, nblk_set (nblk_set (nblk_set (nblk_set (nblk_set h)))), five_in cs off x0 x1 x2 x3 x4 hz⟩
theorem put5_eq (w : World) (b off : Nat) (x0 x1 x2 x3 x4 : Value) : put5 w b off x0 x1 x2 x3 x4 = ((((w.setCell ⟨b, off, none⟩ x0).setCell ⟨b, off + 1, none⟩ x1).setCell ⟨b, off + 2, none⟩ x2).setCell ⟨b, off + 3, none⟩ x3).setCell ⟨b, off + 4, none⟩ x4 := rfl
def RTOut (w : World) (B rb p b : Nat) (rc : Array Value) (q : QV5) (s : List QV5) (m : Nat) (e : Ending) (w' : World) : Prop :=
 e = .returned (op5 (firstCut (q :: s) m)) ∧ (∃ v' rc', w'.heap[rb]? = some (.cells rc' 92 (0, 0)) ∧ rc'[p]? = some v' ∧ (∀ j, j ≠ p → rc'[j]? = rc[j]?) ∧ Row5 w' (some b) v' (rowTake (q :: s) m)) ∧
 (∀ i, i < w.heap.size → i ≠ rb → i ≠ b → w'.heap[i]? = w.heap[i]?) ∧ Below B w w'
set_option maxRecDepth 100000 in
set_option maxHeartbeats 4000000 in
theorem rowTake_cons (B rb p b : Nat) (v : Value) (rc : Array Value) (q : QV5) (s : List QV5) (m : Nat) (w : World) (hrb : w.heap[rb]? = some (.cells rc 92 (0, 0))) (hv : rc[p]? = some v) (hl : Row5 w (some b) v (q :: s)) (hr : RestAt w rb p)
 (hq : PieceOk q.1) (hm : (m : Int) ≤ szO q.1) (hB : B ≤ rb) (hB2 : B ≤ b) :
 Calls Try.prog 92 #[.pointer (some ⟨rb, p, none⟩), .int .i64 (m : Int)] w (RTOut w B rb p b rc q s m) := by
 have v0 : w.cell? ⟨rb, p, none⟩ = some v := by simp [World.cell?, hrb, hv]
 have hlt := lt_of_heap hrb; have bx := below_box w (.cells #[.int .i64 0, .int .i64 0, .string ⟨#[]⟩, .slice none 0 0, .int .i64 0] 86); have HN := hid (next5_any rb p (some b) v (q :: s) (w.alloc (.cells #[.int .i64 0, .int .i64 0, .string ⟨#[]⟩, .slice none 0 0, .int .i64 0] 86)) ((bx.cell (by exact hlt)).trans v0) (hl.below bx) (hr.below hlt bx)); have HC := hid (fun W => cut5_any q m W hq hm); have HLN := hid (fun W => length_any5 (cutB q.1 m) q.2.1 (cutB q.1 m).attrs.length q.2.2 (szO (cutB q.1 m)) W); have MC := fun v => meth_cut v; have ML := fun v => meth_length v; have HX := hid (show (w.alloc (.cells #[.int .i64 0, .int .i64 0, .string ⟨#[]⟩, .slice none 0 0, .int .i64 0] 86)).heap[w.heap.size]? = some (.cells #[.int .i64 0, .int .i64 0, .string ⟨#[]⟩, .slice none 0 0, .int .i64 0] 86 (0, 0)) from heap_new _ _); have HBX := hid bx; obtain ⟨va, vc, rfl, hc1, hc2, hc3⟩ := hl; obtain ⟨b', off, cs, e1, e2, hb, hcs⟩ : ∃ b' off cs, some b = some b' ∧ va = some ⟨b', off, none⟩ ∧ w.heap[b']? = some (.cells cs 86 (0, 0)) ∧ ∀ i (h : i < (q :: s).length) j, j < 5 → cs[off + i * 5 + j]? = (cell5 (q :: s)[i])[j]? := by
  rcases hc3 with h | h
  ·cases h.1
  ·exact h
 obtain rfl := Option.some.inj e1; subst e2; have HRB := hid hrb; have HV := hid hv; have HBB := hid hb; have HCS := hid hcs; clear bx hr hv v0 hrb hc3 e1 hb hcs hq hm; have hrt : rowTake (q :: s) m = if szO (cutB q.1 m) = 0 then s else (cutB q.1 m, q.2) :: s := rfl; have hfc : firstCut (q :: s) m = (cutA q.1 m, q.2) := rfl; unfold RTOut; rw [hrt, hfc]; clear hrt hfc; generalize cutA q.1 m = oA at HC ⊢; generalize cutB q.1 m = oB at HC HLN ⊢; go_enter Try.func92, Try.ntmps92
 go_wp2_with fail
 refine HN.out.mono ?_; rintro e w1 ⟨rfl, b1⟩; have B1 := hid (HBX.out.trans (b1.mono HBX.out.size)); have X1 := hid ((b1.block _ (lt_of_heap HX.out)).trans HX.out); clear b1 HX; have en : nxt5 (q :: s) = q := rfl; rw [en]; go_wp2_with fail
 refine (HC.out _).mono ?_; rintro e w2 ⟨rfl, b2⟩; have B2 := hid (B1.out.trans (b2.mono B1.out.size)); have x2 := (b2.block _ (lt_of_heap X1.out)).trans X1.out; have X2 := hid x2; have hx2 := lt_of_heap x2; have RB2 := hid ((B2.out.block _ (lt_of_heap HRB.out)).trans HRB.out); have BB2 := hid ((B2.out.block _ (lt_of_heap HBB.out)).trans HBB.out); have v0 : w2.cell? ⟨rb, p, none⟩ = some (.slice (some ⟨b, off, none⟩) (q :: s).length vc) := by simp [World.cell?, RB2.out, HV.out]
 have hlt2 : rb < w2.heap.size := lt_of_heap RB2.out; have te : (((q :: s).length : Int) == 0) = false := by rw [beq_eq_false_iff_ne, List.length_cons]; omega
 have hpos : (0 : Int) < ((q :: s).length : Int) := by rw [List.length_cons]; omega
 generalize hn : (q :: s).length = n at v0 te hpos hc1; have HNL := hid hn; clear hn; clear b2 X1 x2 B1 HN HC; obtain ⟨W3, hW3⟩ : ∃ W3, W3 = (w2.alloc (.cells (cell5 (oA, q.2)) 86)).alloc (.cells (cell5 (oB, q.2)) 86) := ⟨_, rfl⟩; have HW3 := hid hW3; have B3 := hid (show Below w2.heap.size w2 W3 by rw [hW3]; exact ((Below.refl _ _).alloc (Nat.le_refl _) _).alloc (by simp) _); have A3 := hid (show W3.heap[w2.heap.size]? = some (.cells (cell5 (oA, q.2)) 86 (0, 0)) by rw [hW3]; exact (Below.heap_alloc _ _ _ (by simp)).trans (heap_new _ _)); have C3 := hid (show W3.heap[w2.heap.size + 1]? = some (.cells (cell5 (oB, q.2)) 86 (0, 0)) by
  rw [hW3]; have := heap_new (w2.alloc (.cells (cell5 (oA, q.2)) 86)) (.cells (cell5 (oB, q.2)) 86)
  rwa [World.size_alloc] at this)
 clear hW3; go_wp2_with fail
 rw [show (w2.alloc (Obj.cells #[Value.int IntKind.i64 oA.kind, Value.int IntKind.i64 oA.n, Value.string oA.text, Value.slice q.2.1 oA.attrs.length q.2.2, Value.int IntKind.i64 (szO oA)] 86)).alloc (Obj.cells #[Value.int IntKind.i64 oB.kind, Value.int IntKind.i64 oB.n, Value.string oB.text, Value.slice q.2.1 oB.attrs.length q.2.2, Value.int IntKind.i64 (szO oB)] 86) = W3 from HW3.out.symm]; refine (HLN.out _).mono ?_; rintro e w4 ⟨rfl, b4⟩; have B4 := hid (B3.out.trans (b4.mono B3.out.size)); have a4 := (b4.block _ (lt_of_heap A3.out)).trans A3.out; have c4 := (b4.block _ (lt_of_heap C3.out)).trans C3.out; have r4 := (B4.out.block _ (lt_of_heap RB2.out)).trans RB2.out; have d4 := (B4.out.block _ (lt_of_heap BB2.out)).trans BB2.out; have x4 := (B4.out.block _ (lt_of_heap X2.out)).trans X2.out; have R4 := hid r4; have D4 := hid d4; have X4 := hid x4; have v4 : w4.cell? ⟨rb, p, none⟩ = some (.slice (some ⟨b, off, none⟩) n vc) := by simp [World.cell?, r4, HV.out, HNL.out]
 have fv4 : ∀ j, w4.frozen? ⟨rb, j, none⟩ = false := fun j => by simp [World.frozen?, r4]
 have ltr := lt_of_heap r4; have ltd := lt_of_heap d4; have ltx := lt_of_heap x4; have lta := lt_of_heap a4; have ltc := lt_of_heap c4; have p0 : w4.cell? ⟨w2.heap.size, 0, none⟩ = some (.int .i64 oA.kind) := by simp [World.cell?, a4, cell5]
 have p1 : w4.cell? ⟨w2.heap.size, 1, none⟩ = some (.int .i64 oA.n) := by simp [World.cell?, a4, cell5]
 have p2 : w4.cell? ⟨w2.heap.size, 2, none⟩ = some (.string oA.text) := by simp [World.cell?, a4, cell5]
 have p3 : w4.cell? ⟨w2.heap.size, 3, none⟩ = some (.slice q.2.1 oA.attrs.length q.2.2) := by simp [World.cell?, a4, cell5]
 have p4 : w4.cell? ⟨w2.heap.size, 4, none⟩ = some (.int .i64 (szO oA)) := by simp [World.cell?, a4, cell5]
 have q0 : w4.cell? ⟨w2.heap.size + 1, 0, none⟩ = some (.int .i64 oB.kind) := by simp [World.cell?, c4, cell5]
 have q1 : w4.cell? ⟨w2.heap.size + 1, 1, none⟩ = some (.int .i64 oB.n) := by simp [World.cell?, c4, cell5]
 have q2 : w4.cell? ⟨w2.heap.size + 1, 2, none⟩ = some (.string oB.text) := by simp [World.cell?, c4, cell5]
 have q3 : w4.cell? ⟨w2.heap.size + 1, 3, none⟩ = some (.slice q.2.1 oB.attrs.length q.2.2) := by simp [World.cell?, c4, cell5]
 have q4 : w4.cell? ⟨w2.heap.size + 1, 4, none⟩ = some (.int .i64 (szO oB)) := by simp [World.cell?, c4, cell5]
 have x40 : w4.cell? ⟨w.heap.size, 0, none⟩ = some (.int .i64 0) := by simp [World.cell?, x4]
 have x41 : w4.cell? ⟨w.heap.size, 1, none⟩ = some (.int .i64 0) := by simp [World.cell?, x4]
 have x42 : w4.cell? ⟨w.heap.size, 2, none⟩ = some (.string ⟨#[]⟩) := by simp [World.cell?, x4]
 have x43 : w4.cell? ⟨w.heap.size, 3, none⟩ = some (.slice none 0 0) := by simp [World.cell?, x4]
 have x44 : w4.cell? ⟨w.heap.size, 4, none⟩ = some (.int .i64 0) := by simp [World.cell?, x4]
 have fx4 : ∀ j, w4.frozen? ⟨w.heap.size, j, none⟩ = false := fun j => by simp [World.frozen?, x4]
 have B5 := hid (B2.out.trans (B4.out.mono B2.out.size)); have hs2 := B2.out.size; have hbl := lt_of_heap HBB.out; have bn1 : b ≠ w.heap.size := by omega
 have rn1 : rb ≠ w.heap.size := by omega
 clear b4 a4 c4 r4 d4 x4 v0 HW3 B3 A3 C3 RB2 BB2 X2 B4 HLN
 by_cases hz : szO oB = 0
 ·have tz : (szO oB == 0) = true := by rw [hz]; rfl
  have HZ := hid hz; have hn1 : n = s.length + 1 := by rw [← HNL.out]; rfl
  have S1 := slice_tail5 b off s.length vc (by omega); rw [← hn1] at S1; obtain ⟨va', hva⟩ : ∃ va', va' = (if vc = 1 then (⟨b, off, none⟩ : Addr) else ⟨b, off + 5, none⟩) := ⟨_, rfl⟩; rw [← hva] at S1; obtain ⟨n', hn'⟩ : ∃ n', n' = s.length := ⟨_, rfl⟩; obtain ⟨c', hc'⟩ : ∃ c', c' = vc - 1 := ⟨_, rfl⟩; rw [← hn', ← hc'] at S1; have HN' := hid (And.intro hn1 (And.intro hva (And.intro hn' hc'))); clear hz hn1 hva hn' hc'; go_wp2_with fail
  obtain ⟨Z, hZ, z0, z1, z2, z3, z4⟩ : ∃ Z, Z = set5 (w4.setCell ⟨rb, p, none⟩ (.slice (some va') n' c')) w.heap.size (.int .i64 oA.kind) (.int .i64 oA.n) (.string oA.text) (.slice q.2.1 oA.attrs.length q.2.2) (.int .i64 (szO oA)) ∧
   Z.heap[w.heap.size]? = some (.cells (cell5 (oA, q.2)) 86 (0, 0)) ∧ Z.heap[rb]? = some (.cells (rc.setIfInBounds p (.slice (some va') n' c')) 92 (0, 0)) ∧ Z.heap[b]? = some (.cells cs 86 (0, 0)) ∧
   (∀ i, i < w.heap.size → i ≠ rb → i ≠ b → Z.heap[i]? = w.heap[i]?) ∧ Below B w Z :=
   ⟨_, rfl, set5_same ((Below.heap_setCell _ _ _ _ (Ne.symm rn1)).trans X4.out), (set5_other rn1).trans (nblk_set R4.out), (set5_other bn1).trans ((Below.heap_setCell _ _ _ _ (block_ne D4.out R4.out (by decide))).trans D4.out),
    fun i hi h1 _ => (set5_other (by omega)).trans ((Below.heap_setCell _ _ _ _ h1).trans (B5.out.block i hi)), set5_below ((B5.out.mono (by omega)).setCell hB _) (by omega)⟩
  unfold set5 at hZ; rw [← hZ]; clear hZ; refine bodyPost_ret (results_op1 rfl rfl z0) rfl ?_; obtain ⟨hn1, hva, hn', hc'⟩ := HN'.out; have hps : p < rc.size := by
   have := HV.out; exact (Array.getElem?_eq_some_iff.1 this).1
  refine ⟨rfl, ⟨_, _, z1, (show _ = some (Value.slice (some va') n' c') by simp [hps]), fun j hj => Array.getElem?_setIfInBounds_ne (by omega), some va', c', by rw [hn'], by omega, by omega, ?_⟩, z3, z4⟩
  right
  by_cases hvc : vc = 1
  ·rw [if_pos hvc] at hva
   have hs0 : s = [] := List.length_eq_zero_iff.1 (by omega); refine ⟨b, off, cs, rfl, by rw [hva], z2, fun i hi j hj => ?_⟩; rw [hs0] at hi; exact absurd hi (Nat.not_lt_zero _)
  ·rw [if_neg hvc] at hva
   refine ⟨b, off + 5, cs, rfl, by rw [hva], z2, fun i hi j hj => ?_⟩; have := HCS.out (i + 1) (by rw [List.length_cons]; omega) j hj; have e2 : off + 5 + i * 5 + j = off + (i + 1) * 5 + j := by omega
   rw [e2, this]; rfl
 ·have tz : (szO oB == 0) = false := by rw [beq_eq_false_iff_ne]; exact hz
  have HZ := hid hz; have hcs : ∀ j, j < 5 → cs[off + j]? = (cell5 q)[j]? := fun j hj => by have := HCS.out 0 (Nat.succ_pos _) j hj; simpa using this
  have e0 : w4.cell? ⟨b, off, none⟩ = some (.int .i64 q.1.kind) := by simpa [World.cell?, D4.out, cell5] using hcs 0 (by omega)
  have e1 : w4.cell? ⟨b, off + 1, none⟩ = some (.int .i64 q.1.n) := by simpa [World.cell?, D4.out, cell5] using hcs 1 (by omega)
  have e2 : w4.cell? ⟨b, off + 2, none⟩ = some (.string q.1.text) := by simpa [World.cell?, D4.out, cell5] using hcs 2 (by omega)
  have e3 : w4.cell? ⟨b, off + 3, none⟩ = some (qv q) := by simpa [World.cell?, D4.out, cell5] using hcs 3 (by omega)
  have e4 : w4.cell? ⟨b, off + 4, none⟩ = some (.int .i64 (szO q.1)) := by simpa [World.cell?, D4.out, cell5] using hcs 4 (by omega)
  have f4 : ∀ j, w4.frozen? ⟨b, j, none⟩ = false := fun j => by simp [World.frozen?, D4.out]
  clear hz hcs; go_wp2_with fail
  go_region
  go_wp2_with fail
  have hcz : off + 5 ≤ cs.size := by
   have := HCS.out 0 (Nat.succ_pos _) 4 (by omega); have h4 : (cell5 (q :: s)[0])[4]? = some (.int .i64 (szO q.1)) := rfl; rw [h4] at this; have := (Array.getElem?_eq_some_iff.1 this).1; omega
  obtain ⟨Y, hY⟩ : ∃ Y, Y = put5 w4 b off (.int .i64 oB.kind) (.int .i64 oB.n) (.string oB.text) (.slice q.2.1 oB.attrs.length q.2.2) (.int .i64 (szO oB)) := ⟨_, rfl⟩; obtain ⟨cs', y2, z5, z6⟩ := put5_same (x0 := .int .i64 oB.kind) (x1 := .int .i64 oB.n) (x2 := .string oB.text) (x3 := .slice q.2.1 oB.attrs.length q.2.2) (x4 := .int .i64 (szO oB)) D4.out hcz; rw [← hY] at y2; have yo : ∀ i, i ≠ b → Y.heap[i]? = w4.heap[i]? := fun i hi => by rw [hY]; exact put5_other hi
  have yb : Below B w Y := by rw [hY]; exact put5_below (B5.out.mono (by omega)) hB2
  have hrb := block_ne R4.out D4.out (by decide); rw [put5_eq] at hY
  obtain ⟨Z, hZ, z0, z1, z2, z3, z4⟩ : ∃ Z, Z = set5 Y w.heap.size (.int .i64 oA.kind) (.int .i64 oA.n) (.string oA.text) (.slice q.2.1 oA.attrs.length q.2.2) (.int .i64 (szO oA)) ∧
   Z.heap[w.heap.size]? = some (.cells (cell5 (oA, q.2)) 86 (0, 0)) ∧ Z.heap[rb]? = some (.cells rc 92 (0, 0)) ∧ Z.heap[b]? = some (.cells cs' 86 (0, 0)) ∧
   (∀ i, i < w.heap.size → i ≠ rb → i ≠ b → Z.heap[i]? = w.heap[i]?) ∧ Below B w Z := by
   refine ⟨_, rfl, set5_same ((yo _ (Ne.symm bn1)).trans X4.out), (set5_other rn1).trans ((yo _ hrb).trans R4.out), (set5_other bn1).trans y2, fun i hi _ h2 => (set5_other (by omega)).trans ((yo _ h2).trans (B5.out.block i hi)), set5_below yb (by omega)⟩
  rw [← hY]; clear hY y2 yo yb; unfold set5 at hZ; rw [← hZ]; clear hZ; refine bodyPost_ret (results_op1 rfl rfl (show Z.drew.heap[w.heap.size]? = _ from z0)) rfl ?_; have hn1 : n = s.length + 1 := by rw [← HNL.out]; rfl
  refine ⟨rfl, ⟨_, _, z1, HV.out, fun j hj => rfl, some ⟨b, off, none⟩, vc, rfl, by show s.length + 1 ≤ vc; omega, hc2, .inr ⟨b, off, cs', rfl, rfl, z2, fun i hi j hj => ?_⟩⟩, z3, z4.drew⟩; cases i with
  | zero =>
    have := z5 j hj; have e : off + 0 * 5 + j = off + j := by omega
    rw [e]; exact this
  | succ i =>
    rw [z6 _ (.inr (by omega))]; exact HCS.out (i + 1) hi j hj
end
section
open Go.RowKit Rn Ch At
open Lib (hid)
def RTAny (w : World) (B rb p : Nat) (g : Option Nat) (rc : Array Value) (l : List QV5) (m : Nat) (e : Ending) (w' : World) : Prop :=
 e = .returned (op5 (firstCut l m)) ∧ (∃ v' rc', w'.heap[rb]? = some (.cells rc' 92 (0, 0)) ∧ rc'[p]? = some v' ∧ (∀ j, j ≠ p → rc'[j]? = rc[j]?) ∧ Row5 w' g v' (rowTake l m)) ∧
 (∀ i, i < w.heap.size → i ≠ rb → g ≠ some i → w'.heap[i]? = w.heap[i]?) ∧ Below B w w'
theorem rowTake_any (B rb p : Nat) (g : Option Nat) (v : Value) (rc : Array Value) (l : List QV5) (m : Nat) (w : World) (hrb : w.heap[rb]? = some (.cells rc 92 (0, 0))) (hv : rc[p]? = some v) (hl : Row5 w g v l) (hr : RestAt w rb p)
 (hq : ∀ q ∈ l, PieceOk q.1) (hm : (m : Int) ≤ szO (nxt5 l).1) (hB : B ≤ rb) (hB2 : ∀ b, g = some b → B ≤ b) :
 Calls Try.prog 92 #[.pointer (some ⟨rb, p, none⟩), .int .i64 (m : Int)] w (RTAny w B rb p g rc l m) := by
 have hlt := lt_of_heap hrb; cases l with
 | nil =>
   refine (rowTake_nil rb p g v m w (by simp [World.cell?, hrb, hv]) hl hr (by have h : (m : Int) ≤ szO restQ5.1 := hm; rw [szO_rest] at h; exact h)).mono ?_; rintro e w' ⟨rfl, hb⟩; have hr' := (hb.block _ hlt).trans hrb; exact ⟨rfl, ⟨v, rc, hr', hv, fun _ _ => rfl, hl.below hb⟩, fun i hi _ _ => hb.block i hi, hb.mono (by omega)⟩
 | cons q s =>
   obtain ⟨b, rfl⟩ : ∃ b, g = some b := by
    obtain ⟨_, _, _, _, _, h⟩ := hl; rcases h with h | ⟨b, _, _, h, _⟩
    ·cases h.1
    ·exact ⟨b, h⟩
   refine (rowTake_cons B rb p b v rc q s m w hrb hv hl hr (hq q (List.mem_cons_self ..)) hm hB (hB2 b rfl)).mono ?_; rintro e w' ⟨h1, h2, h3, h4⟩; exact ⟨h1, h2, fun i hi ha hb => h3 i hi ha fun e => hb (by rw [e]), h4⟩
structure Rows5 (w : World) (B rb : Nat) (gA gB : Option Nat) (A C : List QV5) (al : Value) : Prop where
 blk : ∃ rc vA vC, w.heap[rb]? = some (.cells rc 92 (0, 0)) ∧ rc[0]? = some vA ∧ rc[6]? = some vC ∧ rc[12]? = some al ∧ Row5 w gA vA A ∧ Row5 w gB vC C
 ra : RestAt w rb 0
 rc : RestAt w rb 6
 sep : ∀ b, gA = some b → gB ≠ some b
 le : B ≤ rb ∧ (∀ b, gA = some b → B ≤ b ∧ b < w.heap.size ∧ b ≠ rb) ∧ ∀ b, gB = some b → B ≤ b ∧ b < w.heap.size ∧ b ≠ rb
 okA : ∀ q ∈ A, PieceOk q.1
 okC : ∀ q ∈ C, PieceOk q.1
def Rest5 (rb : Nat) (gA gB : Option Nat) (w w' : World) : Prop := w.heap.size ≤ w'.heap.size ∧ ∀ i, i < w.heap.size → i ≠ rb → gA ≠ some i → gB ≠ some i → w'.heap[i]? = w.heap[i]?
theorem rowTake_ok {l : List QV5} {m : Nat} (h : ∀ q ∈ l, PieceOk q.1) (hm : (m : Int) ≤ szO (nxt5 l).1) : ∀ q ∈ rowTake l m, PieceOk q.1 := by
 cases l with
 | nil => exact h
 | cons q s =>
   intro r hr; have e : rowTake (q :: s) m = if szO (cutB q.1 m) = 0 then s else (cutB q.1 m, q.2) :: s := rfl; rw [e] at hr; split at hr
   ·exact h r (List.mem_cons_of_mem _ hr)
   ·rcases List.mem_cons.1 hr with rfl | hr
    ·exact ((h q (List.mem_cons_self ..)).cut hm).2.1
    ·exact h r (List.mem_cons_of_mem _ hr)
theorem fin5 {w W : World} {B rb : Nat} {gA gB : Option Nat} {A C A' C' : List QV5} {al vA' vC' : Value} {rc rcN : Array Value} (h : Rows5 w B rb gA gB A C al) (hrc : w.heap[rb]? = some (.cells rc 92 (0, 0)))
 (hrb : W.heap[rb]? = some (.cells rcN 92 (0, 0))) (h0 : rcN[0]? = some vA') (h6 : rcN[6]? = some vC') (ho : ∀ j, j ≠ 0 → j ≠ 6 → rcN[j]? = rc[j]?) (rA : Row5 W gA vA' A') (rC : Row5 W gB vC' C') (fr : w.heap.size ≤ W.heap.size)
 (okA : ∀ q ∈ A', PieceOk q.1) (okC : ∀ q ∈ C', PieceOk q.1) : Rows5 W B rb gA gB A' C' al := by
 obtain ⟨⟨rc0, vA, vC, hrb0, hvA, hvC, hva, hA, hC⟩, hra, hrc0, hsep, ⟨hB, hBA, hBC⟩, hoA, hoC⟩ := h; have e : rc0 = rc := by
  have := hrb0.symm.trans hrc
  simpa using this
 subst e; refine ⟨⟨rcN, vA', vC', hrb, h0, h6, (ho 12 (by omega) (by omega)).trans hva, rA, rC⟩, hra.keep fun j h1 h5 => ?_, hrc0.keep fun j h1 h5 => ?_, hsep, ⟨hB, fun b e => ?_, fun b e => ?_⟩, okA, okC⟩
 ·rw [Lib.cell_of_heap hrb, Lib.cell_of_heap hrb0, ho _ (by omega) (by omega)]
 ·rw [Lib.cell_of_heap hrb, Lib.cell_of_heap hrb0, ho _ (by omega) (by omega)]
 ·obtain ⟨x, y, z⟩ := hBA b e; exact ⟨x, by omega, z⟩
 ·obtain ⟨x, y, z⟩ := hBC b e; exact ⟨x, by omega, z⟩
def zeroQ5 : QV5 := (⟨0, 0, ⟨#[]⟩, []⟩, (none, 0))
def minN (A C : List QV5) : Nat := (min (szO (nxt5 A).1) (szO (nxt5 C).1)).toNat
def stepM (al : OpD → OpD → Int) (A C : List QV5) : (QV5 × QV5) × List QV5 × List QV5 :=
 if al (nxt5 A).1 (nxt5 C).1 = 1 then ((firstCut A (szO (nxt5 A).1).toNat, zeroQ5), rowTake A (szO (nxt5 A).1).toNat, C)
 else if al (nxt5 A).1 (nxt5 C).1 = 2 then ((zeroQ5, firstCut C (szO (nxt5 C).1).toNat), A, rowTake C (szO (nxt5 C).1).toNat)
 else ((firstCut A (minN A C), firstCut C (minN A C)), rowTake A (minN A C), rowTake C (minN A C))
theorem szO_zero : szO zeroQ5.1 = 0 := by
 unfold szO; show (0 : Int) + ((Cp.rns1 ⟨#[]⟩).length : Int) = 0
 rw [rns1_nil]; rfl
theorem op5_zero : op5 zeroQ5 = .agg #[.int .i64 0, .int .i64 0, .string ⟨#[]⟩, .slice none 0 0, .int .i64 0] := by
 show Value.agg #[_, _, _, _, .int .i64 (szO zeroQ5.1)] = _
 rw [szO_zero]; rfl
theorem fin_first {w wl wt Z : World} {B rb m : Nat} {gA gB : Option Nat} {A C : List QV5} {al v8 : Value} {rc rc8 : Array Value} (h : Rows5 w B rb gA gB A C al) (hrc : w.heap[rb]? = some (.cells rc 92 (0, 0))) (bl : Below w.heap.size w wl)
 (hr8 : wt.heap[rb]? = some (.cells rc8 92 (0, 0))) (hv8 : rc8[0]? = some v8) (ho8 : ∀ j, j ≠ 0 → rc8[j]? = rc[j]?) (hrow8 : Row5 wt gA v8 (rowTake A m)) (hf8 : ∀ i, i < wl.heap.size → i ≠ rb → gA ≠ some i → wt.heap[i]? = wl.heap[i]?)
 (hm : (m : Int) ≤ szO (nxt5 A).1) (zo : ∀ i, i < w.heap.size → Z.heap[i]? = wt.heap[i]?) (zs : w.heap.size ≤ Z.heap.size) : Rows5 Z B rb gA gB (rowTake A m) C al ∧ Rest5 rb gA gB w Z := by
 have h' := h; obtain ⟨⟨rc0, vA, vC, hrb0, hvA, hvC, hva, hA, hC⟩, hra, hrc0, hsep, ⟨hB, hBA, hBC⟩, hoA, hoC⟩ := h; have e : rc0 = rc := by
  have := hrb0.symm.trans hrc
  simpa using this
 subst e; have hs := bl.size; refine ⟨fin5 h' hrc ((zo _ (lt_of_heap hrc)).trans hr8) hv8 ((ho8 6 (by omega)).trans hvC) (fun j h0 _ => ho8 j h0) ?_ ?_ zs (rowTake_ok hoA hm) hoC, ⟨zs, fun i hi h1 h2 _ => ?_⟩⟩
 ·refine hrow8.keep fun b e o ho => ?_
  rw [zo b (hBA b e).2.1]; exact ho
 ·refine hC.keep fun b e o ho => ?_
  obtain ⟨x, y, z⟩ := hBC b e; rw [zo b y, hf8 b (by omega) z (fun e' => hsep b e' e), bl.block b y]; exact ho
 ·rw [zo i hi, hf8 i (by omega) h1 h2, bl.block i hi]
theorem fin_second {w wl wt Z : World} {B rb m : Nat} {gA gB : Option Nat} {A C : List QV5} {al v8 : Value} {rc rc8 : Array Value} (h : Rows5 w B rb gA gB A C al) (hrc : w.heap[rb]? = some (.cells rc 92 (0, 0))) (bl : Below w.heap.size w wl)
 (hr8 : wt.heap[rb]? = some (.cells rc8 92 (0, 0))) (hv8 : rc8[6]? = some v8) (ho8 : ∀ j, j ≠ 6 → rc8[j]? = rc[j]?) (hrow8 : Row5 wt gB v8 (rowTake C m)) (hf8 : ∀ i, i < wl.heap.size → i ≠ rb → gB ≠ some i → wt.heap[i]? = wl.heap[i]?)
 (hm : (m : Int) ≤ szO (nxt5 C).1) (zo : ∀ i, i < w.heap.size → Z.heap[i]? = wt.heap[i]?) (zs : w.heap.size ≤ Z.heap.size) : Rows5 Z B rb gA gB A (rowTake C m) al ∧ Rest5 rb gA gB w Z := by
 have h' := h; obtain ⟨⟨rc0, vA, vC, hrb0, hvA, hvC, hva, hA, hC⟩, hra, hrc0, hsep, ⟨hB, hBA, hBC⟩, hoA, hoC⟩ := h; have e : rc0 = rc := by
  have := hrb0.symm.trans hrc
  simpa using this
 subst e; have hs := bl.size; refine ⟨fin5 h' hrc ((zo _ (lt_of_heap hrc)).trans hr8) ((ho8 0 (by omega)).trans hvA) hv8 (fun j _ h6 => ho8 j h6) ?_ ?_ zs hoA (rowTake_ok hoC hm), ⟨zs, fun i hi h1 _ h3 => ?_⟩⟩
 ·refine hA.keep fun b e o ho => ?_
  obtain ⟨x, y, z⟩ := hBA b e; rw [zo b y, hf8 b (by omega) z (hsep b e), bl.block b y]; exact ho
 ·refine hrow8.keep fun b e o ho => ?_
  rw [zo b (hBC b e).2.1]; exact ho
 ·rw [zo i hi, hf8 i (by omega) h1 h3, bl.block i hi]
abbrev aloneV (ab : Nat) : Value := .func (.func 48) #[] #[.pointer (some ⟨ab, 0, none⟩)]
theorem c5 {W : World} {b : Nat} {q : QV5} {t : TypeId} {fr : Nat × Nat} (h : W.heap[b]? = some (.cells (cell5 q) t fr)) : W.cell? ⟨b, 0, none⟩ = some (.int .i64 q.1.kind) ∧ W.cell? ⟨b, 1, none⟩ = some (.int .i64 q.1.n) ∧ W.cell? ⟨b, 2, none⟩ = some (.string q.1.text) ∧ W.cell? ⟨b, 3, none⟩ = some (.slice q.2.1 q.1.attrs.length q.2.2) ∧ W.cell? ⟨b, 4, none⟩ = some (.int .i64 (szO q.1)) := by
 refine ⟨?_, ?_, ?_, ?_, ?_⟩ <;> simp [World.cell?, h, cell5]
theorem z5 {W : World} {b : Nat} {t : TypeId} {fr : Nat × Nat} (h : W.heap[b]? = some (.cells #[.int .i64 0, .int .i64 0, .string ⟨#[]⟩, .slice none 0 0, .int .i64 0] t fr)) : W.cell? ⟨b, 0, none⟩ = some (.int .i64 0) ∧ W.cell? ⟨b, 1, none⟩ = some (.int .i64 0) ∧ W.cell? ⟨b, 2, none⟩ = some (.string ⟨#[]⟩) ∧ W.cell? ⟨b, 3, none⟩ = some (.slice none 0 0) ∧ W.cell? ⟨b, 4, none⟩ = some (.int .i64 0) := by
 refine ⟨?_, ?_, ?_, ?_, ?_⟩ <;> simp [World.cell?, h]
set_option maxRecDepth 100000 in
set_option maxHeartbeats 4000000 in
theorem take5_both (B rb : Nat) (gA gB : Option Nat) (A C : List QV5) (ab : Nat) (al : OpD → OpD → Int) (w : World) (h : Rows5 w B rb gA gB A C (aloneV ab))
 (hal : ∀ W, Rest5 rb gA gB w W → ∀ x y : QV5, Calls Try.prog 48 #[op5 x, op5 y, .pointer (some ⟨ab, 0, none⟩)] W fun e w' => e = .returned (.int .i64 (al x.1 y.1)) ∧ Below W.heap.size W w')
 (c1 : al (nxt5 A).1 (nxt5 C).1 ≠ 1) (c2 : al (nxt5 A).1 (nxt5 C).1 ≠ 2) :
 Calls Try.prog 72 #[.pointer (some ⟨rb, 0, none⟩)] w fun e w' =>
  e = .returned (.tuple #[op5 (stepM al A C).1.1, op5 (stepM al A C).1.2]) ∧ Rows5 w' B rb gA gB (stepM al A C).2.1 (stepM al A C).2.2 (aloneV ab) ∧ Rest5 rb gA gB w w' ∧ Below B w w' := by
 have HROWS := hid h; obtain ⟨⟨rc, vA, vC, hrb, hvA, hvC, hva, hA, hC⟩, hra, hrc, hsep, ⟨hB, hBA, hBC⟩, hoA, hoC⟩ := h; have hlt := lt_of_heap hrb; obtain ⟨W, hW⟩ : ∃ W, W = (w.alloc (.cells #[.int .i64 0, .int .i64 0, .string ⟨#[]⟩, .slice none 0 0, .int .i64 0] 86)).alloc (.cells #[.int .i64 0, .int .i64 0, .string ⟨#[]⟩, .slice none 0 0, .int .i64 0] 86) := ⟨_, rfl⟩; have bW : Below w.heap.size w W := by rw [hW]; exact ((Below.refl _ w).alloc (Nat.le_refl _) _).alloc (by simp) _
 have kc : ∀ (X : World) (p : Nat) (v : Value), Below w.heap.size w X → rc[p]? = some v → X.cell? ⟨rb, p, none⟩ = some v := fun X p v hb hv => by
  have := (hb.block _ hlt).trans hrb; simp [World.cell?, this, hv]
 have HTA := hid (fun X (hb : Below w.heap.size w X) (m : Nat) (hm : (m : Int) ≤ szO (nxt5 A).1) => rowTake_any B rb 0 gA vA rc A m X ((hb.block _ hlt).trans hrb) hvA (hA.below hb) (hra.below hlt hb) hoA hm hB fun b e => (hBA b e).1)
 have HTC := hid (fun X (rc' : Array Value) (h1 : X.heap[rb]? = some (.cells rc' 92 (0, 0))) (h2 : ∀ j, j ≠ 0 → rc'[j]? = rc[j]?) (h3 : ∀ b, gB = some b → X.heap[b]? = w.heap[b]?) (m : Nat) (hm : (m : Int) ≤ szO (nxt5 C).1) =>
  rowTake_any B rb 6 gB vC rc' C m X h1 ((h2 6 (by omega)).trans hvC) (hC.keep fun b e o ho => (h3 b e).trans ho) (hrc.keep fun j h1' h5' => by rw [Lib.cell_of_heap h1, Lib.cell_of_heap hrb, h2 _ (by omega)]) hoC hm hB fun b e => (hBC b e).1)
 have HHAL := hid hal; have HPA := hid (show 0 ≤ szO (nxt5 A).1 by cases hAA : A with | nil => show 0 ≤ szO restQ5.1; rw [szO_rest]; decide | cons q s => exact (hoA q (by rw [hAA]; exact List.mem_cons_self ..)).sz.1); have HPC := hid (show 0 ≤ szO (nxt5 C).1 by cases hCC : C with | nil => show 0 ≤ szO restQ5.1; rw [szO_rest]; decide | cons q s => exact (hoC q (by rw [hCC]; exact List.mem_cons_self ..)).sz.1); have HRC := hid (And.intro hrb (And.intro hvA (And.intro hvC hva))); have HR5 := hid (And.intro hA (And.intro hC (And.intro hra hrc))); have HSEP := hid (And.intro hsep (And.intro hBA (And.intro hBC (And.intro hoA hoC)))); have HN1 := hid (fun X (hb : Below w.heap.size w X) => next5_any rb 0 gA vA A X (kc X 0 vA hb hvA) (hA.below hb) (hra.below hlt hb)); have HN2 := hid (fun X (hb : Below w.heap.size w X) => next5_any rb 6 gB vC C X (kc X 6 vC hb hvC) (hC.below hb) (hrc.below hlt hb))
 have BW := hid bW; have K2 := hid (show W.heap[w.heap.size]? = some (.cells #[.int .i64 0, .int .i64 0, .string ⟨#[]⟩, .slice none 0 0, .int .i64 0] 86 (0, 0)) by rw [hW]; exact (Below.heap_alloc _ _ _ (by simp)).trans (heap_new _ _)); have K3 := hid (show W.heap[w.heap.size + 1]? = some (.cells #[.int .i64 0, .int .i64 0, .string ⟨#[]⟩, .slice none 0 0, .int .i64 0] 86 (0, 0)) by
  rw [hW]; have := heap_new (w.alloc (.cells #[.int .i64 0, .int .i64 0, .string ⟨#[]⟩, .slice none 0 0, .int .i64 0] 86)) (.cells #[.int .i64 0, .int .i64 0, .string ⟨#[]⟩, .slice none 0 0, .int .i64 0] 86)
  rwa [World.size_alloc] at this)
 have HW := hid hW; clear hW bW; go_enter Try.func72, Try.ntmps72
 go_wp2_with fail
 rw [← HW.out]
 go_region_with (first
  | (go_at_call 91; refine (HN2.out _ B1.out.1).mono ?_; rintro e w2 ⟨rfl, b2⟩; have B2 := hid (And.intro (B1.out.1.trans (b2.mono B1.out.1.size)) (B1.out.2.trans (b2.mono B1.out.2.size))); have k2 := (B2.out.2.block _ (lt_of_heap K2.out)).trans K2.out; have k3 := (B2.out.2.block _ (lt_of_heap K3.out)).trans K3.out; have l2 := lt_of_heap k2; have l3 := lt_of_heap k3
     have x20 : ∀ j, j < 5 → w2.cell? ⟨w.heap.size, j, none⟩ = (#[.int .i64 0, .int .i64 0, .string ⟨#[]⟩, .slice none 0 0, .int .i64 0] : Array Value)[j]? := fun j hj => by simp [World.cell?, k2]
     have x30 : ∀ j, j < 5 → w2.cell? ⟨w.heap.size + 1, j, none⟩ = (#[.int .i64 0, .int .i64 0, .string ⟨#[]⟩, .slice none 0 0, .int .i64 0] : Array Value)[j]? := fun j hj => by simp [World.cell?, k3]
     have x21 := x20 0 (by omega); have x22 := x20 1 (by omega); have x23 := x20 2 (by omega); have x24 := x20 3 (by omega); have x25 := x20 4 (by omega); have x31 := x30 0 (by omega); have x32 := x30 1 (by omega); have x33 := x30 2 (by omega); have x34 := x30 3 (by omega); have x35 := x30 4 (by omega); simp only [List.getElem?_toArray, List.getElem?_cons_zero, List.getElem?_cons_succ] at x21 x22 x23 x24 x25 x31 x32 x33 x34 x35; have f2 : ∀ j, w2.frozen? ⟨w.heap.size, j, none⟩ = false := fun j => by simp [World.frozen?, k2]
     have f3 : ∀ j, w2.frozen? ⟨w.heap.size + 1, j, none⟩ = false := fun j => by simp [World.frozen?, k3]
     clear b2 x20 x30)
  | (go_at_call 91; refine (HN1.out _ BW.out.drew).mono ?_; rintro e w1 ⟨rfl, b1⟩; have B1 := hid (And.intro (BW.out.drew.trans (b1.mono BW.out.size)) (show Below W.heap.size W w1 from (Below.refl _ W).drew.trans b1)); clear b1))
 go_wp2_with fail
 obtain ⟨x, hx⟩ : ∃ x, x = nxt5 A := ⟨_, rfl⟩; obtain ⟨y, hy⟩ : ∃ y, y = nxt5 C := ⟨_, rfl⟩
 obtain ⟨W4, hW4, z2, z3, z4⟩ : ∃ W4, W4 = set5 (set5 w2 w.heap.size (.int .i64 x.1.kind) (.int .i64 x.1.n) (.string x.1.text) (.slice x.2.1 x.1.attrs.length x.2.2) (.int .i64 (szO x.1))) (w.heap.size + 1) (.int .i64 y.1.kind) (.int .i64 y.1.n) (.string y.1.text) (.slice y.2.1 y.1.attrs.length y.2.2) (.int .i64 (szO y.1)) ∧
  W4.heap[w.heap.size]? = some (.cells (cell5 x) 86 (0, 0)) ∧ W4.heap[w.heap.size + 1]? = some (.cells (cell5 y) 86 (0, 0)) ∧ Below w.heap.size w W4 :=
  ⟨_, rfl, (set5_other (by omega)).trans (set5_same k2), set5_same ((set5_other (by omega)).trans k3), set5_below (set5_below B2.out.1 (Nat.le_refl _)) (by omega)⟩
 unfold set5 at hW4; rw [← hx, ← hy, ← hW4]; have Z2 := hid z2; have Z3 := hid z3; have Z4 := hid z4; have HXY := hid (And.intro hx hy); have l2 := lt_of_heap z2; have l3 := lt_of_heap z3; clear hW4 hx hy B1 B2 k2 k3 x21 x22 x23 x24 x25 x31 x32 x33 x34 x35 f2 f3 HN1 HN2 K2 K3 BW HW; have HL := hid (fun (q : QV5) W => length_any5 q.1 q.2.1 q.1.attrs.length q.2.2 (szO q.1) W); have ML := fun v => meth_length v; have cx := c5 z2; have cy := c5 z3; clear z2 z3 z4
 go_region_held3 (fun w' => w'.cell? ⟨w.heap.size, 0, none⟩ = some (.int .i64 x.1.kind) ∧ w'.cell? ⟨w.heap.size, 1, none⟩ = some (.int .i64 x.1.n) ∧ w'.cell? ⟨w.heap.size, 2, none⟩ = some (.string x.1.text) ∧ w'.cell? ⟨w.heap.size, 3, none⟩ = some (.slice x.2.1 x.1.attrs.length x.2.2) ∧ w'.cell? ⟨w.heap.size, 4, none⟩ = some (.int .i64 (szO x.1)) ∧
  w'.cell? ⟨w.heap.size + 1, 0, none⟩ = some (.int .i64 y.1.kind) ∧ w'.cell? ⟨w.heap.size + 1, 1, none⟩ = some (.int .i64 y.1.n) ∧ w'.cell? ⟨w.heap.size + 1, 2, none⟩ = some (.string y.1.text) ∧ w'.cell? ⟨w.heap.size + 1, 3, none⟩ = some (.slice y.2.1 y.1.attrs.length y.2.2) ∧ w'.cell? ⟨w.heap.size + 1, 4, none⟩ = some (.int .i64 (szO y.1)))
  (first
   | exact ⟨cx.1, cx.2.1, cx.2.2.1, cx.2.2.2.1, cx.2.2.2.2, cy.1, cy.2.1, cy.2.2.1, cy.2.2.2.1, cy.2.2.2.2⟩
   | exact S5
   | exact S6)
  (first
   | (go_at_call 134; refine (HL.out y _).mono ?_; rintro e w6 ⟨rfl, b6⟩; have B6 := hid (B5.out.trans (b6.mono B5.out.size)); have cx6 := c5 ((B6.out.block _ (lt_of_heap Z2.out)).trans Z2.out); have cy6 := c5 ((B6.out.block _ (lt_of_heap Z3.out)).trans Z3.out); have S6 := And.intro cx6.1 (And.intro cx6.2.1 (And.intro cx6.2.2.1 (And.intro cx6.2.2.2.1 (And.intro cx6.2.2.2.2 cy6)))); clear b6 S5)
   | (go_at_call 134; refine (HL.out x _).mono ?_; rintro e w5 ⟨rfl, b5⟩; have B5 := hid ((Below.refl W4.heap.size W4).drew.trans b5); have cx5 := c5 ((B5.out.block _ (lt_of_heap Z2.out)).trans Z2.out); have cy5 := c5 ((B5.out.block _ (lt_of_heap Z3.out)).trans Z3.out); have S5 := And.intro cx5.1 (And.intro cx5.2.1 (And.intro cx5.2.2.1 (And.intro cx5.2.2.2.1 (And.intro cx5.2.2.2.2 cy5)))); clear b5 cx cy))
 go_wp2_with fail
 have BX6 := hid (Z4.out.trans (B6.out.mono Z4.out.size)); have v12 : w6.cell? ⟨rb, 12, none⟩ = some (aloneV ab) := by
  have := (BX6.out.block _ hlt).trans HRC.out.1; simp [World.cell?, this, HRC.out.2.2.2]
 have HCALL := hid (HHAL.out w6.drew (show Rest5 rb gA gB w w6.drew from ⟨BX6.out.size, fun i hi _ _ _ => BX6.out.block i hi⟩) x y); have l6 := lt_of_heap ((B6.out.block _ (lt_of_heap Z2.out)).trans Z2.out); have l7 := lt_of_heap ((B6.out.block _ (lt_of_heap Z3.out)).trans Z3.out); have rl6 : rb < w6.heap.size := by omega
 clear hrb hvA hvC hva hA hC hra hrc hsep hBA hBC hoA hoC hal
 go_region_held3 (fun w' => w'.cell? ⟨rb, 12, none⟩ = some (aloneV ab) ∧ w'.cell? ⟨w.heap.size, 0, none⟩ = some (.int .i64 x.1.kind) ∧ w'.cell? ⟨w.heap.size, 1, none⟩ = some (.int .i64 x.1.n) ∧ w'.cell? ⟨w.heap.size, 2, none⟩ = some (.string x.1.text) ∧ w'.cell? ⟨w.heap.size, 3, none⟩ = some (.slice x.2.1 x.1.attrs.length x.2.2) ∧ w'.cell? ⟨w.heap.size, 4, none⟩ = some (.int .i64 (szO x.1)) ∧
  w'.cell? ⟨w.heap.size + 1, 0, none⟩ = some (.int .i64 y.1.kind) ∧ w'.cell? ⟨w.heap.size + 1, 1, none⟩ = some (.int .i64 y.1.n) ∧ w'.cell? ⟨w.heap.size + 1, 2, none⟩ = some (.string y.1.text) ∧ w'.cell? ⟨w.heap.size + 1, 3, none⟩ = some (.slice y.2.1 y.1.attrs.length y.2.2) ∧ w'.cell? ⟨w.heap.size + 1, 4, none⟩ = some (.int .i64 (szO y.1)))
  (first
   | exact And.intro v12 S6
   | exact S7)
  (first
   | (go_at_call 48; refine HCALL.out.mono ?_; rintro e w7 ⟨rfl, b7⟩; have B7 := hid (B6.out.trans ((Below.refl w6.heap.size w6).drew.trans b7 |>.mono B6.out.size)); have BX7 := hid (BX6.out.trans ((Below.refl w6.heap.size w6).drew.trans b7 |>.mono BX6.out.size)); have cx7 := c5 ((B7.out.block _ (lt_of_heap Z2.out)).trans Z2.out); have cy7 := c5 ((B7.out.block _ (lt_of_heap Z3.out)).trans Z3.out)
      have v7 : w7.cell? ⟨rb, 12, none⟩ = some (aloneV ab) := by
       have := (BX7.out.block _ hlt).trans HRC.out.1; simp [World.cell?, this, HRC.out.2.2.2]
      have S7 := And.intro v7 (And.intro cx7.1 (And.intro cx7.2.1 (And.intro cx7.2.2.1 (And.intro cx7.2.2.2.1 (And.intro cx7.2.2.2.2 cy7))))); clear b7 S6 v12))
 have hmin : min (szO x.1) (szO y.1) = ((minN A C : Nat) : Int) := by
  unfold minN; rw [HXY.out.1, HXY.out.2]; have := HPA.out; have := HPC.out; omega
 rw [hmin]; have hsz1 : szO x.1 = ((szO (nxt5 A).1).toNat : Int) := by rw [HXY.out.1]; have := HPA.out; omega
 have hsz2 : szO y.1 = ((szO (nxt5 C).1).toNat : Int) := by rw [HXY.out.2]; have := HPC.out; omega
 have h1 : ¬ al x.1 y.1 = 1 := by rw [HXY.out.1, HXY.out.2]; exact c1
 have h2 : ¬ al x.1 y.1 = 2 := by rw [HXY.out.1, HXY.out.2]; exact c2
 clear c1 c2; have t1 : (al x.1 y.1 == 1) = false := by rw [beq_eq_false_iff_ne]; exact h1
 have t2 : (al x.1 y.1 == 2) = false := by rw [beq_eq_false_iff_ne]; exact h2
 have hst : stepM al A C = ((firstCut A (minN A C), firstCut C (minN A C)), rowTake A (minN A C), rowTake C (minN A C)) := by
  unfold stepM; rw [← HXY.out.1, ← HXY.out.2, if_neg h1, if_neg h2]
 have HST := hid hst; have hmA : ((minN A C : Nat) : Int) ≤ szO (nxt5 A).1 := by rw [← hmin, HXY.out.1]; omega
 have hmC : ((minN A C : Nat) : Int) ≤ szO (nxt5 C).1 := by rw [← hmin, HXY.out.2]; omega
 have HM := hid (And.intro hmA hmC); have HT1 := hid (HTA.out w7.drew BX7.out.drew _ hmA); clear h1 h2 hst hmin hsz1 hsz2 hmA hmC S7 cx7 cy7 v7 l6 l7 rl6 ML; generalize minN A C = m at HST HM HT1 ⊢; go_wp2_with fail
 go_region_with (first
  | (go_at_call 92; refine HT2.out.mono ?_; rintro e w9 ⟨rfl, ⟨v9, rc9, hr9, hv9, ho9, hrow9⟩, hf9, hb9⟩
     have T9 := hid (And.intro hr9 (And.intro hv9 (And.intro ho9 (And.intro hrow9 (And.intro hf9 hb9))))); have k2 := (hf9 _ (lt_of_heap D8.out.1) (by omega) (fun e => by have := (HSEP.out.2.2.1 _ e).2.1; omega)).trans D8.out.1; have k3 := (hf9 _ (lt_of_heap D8.out.2) (by omega) (fun e => by have := (HSEP.out.2.2.1 _ e).2.1; omega)).trans D8.out.2; have D9 := hid (And.intro k2 k3); have cx9 := c5 k2; have cy9 := c5 k3; have l2' := lt_of_heap k2; have l3' := lt_of_heap k3; have f2 : ∀ j, w9.frozen? ⟨w.heap.size, j, none⟩ = false := fun j => by simp [World.frozen?, k2]
     have f3 : ∀ j, w9.frozen? ⟨w.heap.size + 1, j, none⟩ = false := fun j => by simp [World.frozen?, k3]
     obtain ⟨p0, p1, p2, p3, p4⟩ := cx9; obtain ⟨q0, q1, q2, q3, q4⟩ := cy9; clear hr9 hv9 ho9 hrow9 hf9 hb9 k2 k3)
  | (go_at_call 92; refine HT1.out.mono ?_; rintro e w8 ⟨rfl, ⟨v8, rc8, hr8, hv8, ho8, hrow8⟩, hf8, hb8⟩
     have T8 := hid (And.intro hr8 (And.intro hv8 (And.intro ho8 (And.intro hrow8 (And.intro hf8 hb8))))); have HT2 := hid (HTC.out w8 rc8 hr8 ho8 (fun b e => (hf8 b (Nat.lt_of_lt_of_le (HSEP.out.2.2.1 b e).2.1 BX7.out.size) (HSEP.out.2.2.1 b e).2.2 (fun e' => HSEP.out.1 b e' e)).trans (BX7.out.block b (HSEP.out.2.2.1 b e).2.1)) m HM.out.2); have d2 := (B7.out.block _ (lt_of_heap Z2.out)).trans Z2.out; have d3 := (B7.out.block _ (lt_of_heap Z3.out)).trans Z3.out; have D8 := hid (And.intro ((hf8 _ (lt_of_heap d2) (by omega) (fun e => by have := (HSEP.out.2.1 _ e).2.1; omega)).trans d2) ((hf8 _ (lt_of_heap d3) (by omega) (fun e => by have := (HSEP.out.2.1 _ e).2.1; omega)).trans d3)); clear hr8 hv8 ho8 hrow8 hf8 hb8 d2 d3))
 go_wp2_with fail
 obtain ⟨hr8, hv8, ho8, hrow8, hf8, hb8⟩ := T8.out; obtain ⟨hr9, hv9, ho9, hrow9, hf9, hb9⟩ := T9.out; have hsz7 : w.heap.size ≤ w7.heap.size := BX7.out.size; have hsz8 : w7.heap.size ≤ w8.heap.size := hb8.size; have hsz9 : w8.heap.size ≤ w9.heap.size := hb9.size
 obtain ⟨Z, hZ, z2, z3, zo, zs, zb⟩ : ∃ Z, Z = set5 (set5 w9 w.heap.size (.int .i64 (firstCut A m).1.kind) (.int .i64 (firstCut A m).1.n) (.string (firstCut A m).1.text) (qv (firstCut A m)) (.int .i64 (szO (firstCut A m).1))) (w.heap.size + 1) (.int .i64 (firstCut C m).1.kind) (.int .i64 (firstCut C m).1.n) (.string (firstCut C m).1.text) (qv (firstCut C m)) (.int .i64 (szO (firstCut C m).1)) ∧
  Z.heap[w.heap.size]? = some (.cells (cell5 (firstCut A m)) 86 (0, 0)) ∧ Z.heap[w.heap.size + 1]? = some (.cells (cell5 (firstCut C m)) 86 (0, 0)) ∧ (∀ i, i < w.heap.size → Z.heap[i]? = w9.heap[i]?) ∧ w9.heap.size ≤ Z.heap.size ∧ Below B w Z :=
  ⟨_, rfl, (set5_other (by omega)).trans (set5_same D9.out.1), set5_same ((set5_other (by omega)).trans D9.out.2), fun i hi => (set5_other (by omega)).trans (set5_other (by omega)), by simp,
   set5_below (set5_below (((BX7.out.mono (by omega)).trans ((Below.refl B w7).drew.trans hb8)).trans hb9) (by omega)) (by omega)⟩
 unfold set5 at hZ; rw [← hZ]; clear hZ; refine bodyPost_ret (results_op2 rfl rfl rfl z2 z3) rfl ?_; rw [HST.out]; refine ⟨rfl, fin5 HROWS.out HRC.out.1 ((zo _ hlt).trans hr9) ((ho9 0 (by omega)).trans hv8) hv9 (fun j h0 h6 => (ho9 j h6).trans (ho8 j h0)) ?_ ?_ (by omega) (rowTake_ok HSEP.out.2.2.2.1 HM.out.1) (rowTake_ok HSEP.out.2.2.2.2 HM.out.2), ⟨by omega, fun i hi h1 h2 h3 => ?_⟩, zb⟩
 ·refine hrow8.keep fun b e o ho => ?_
  have := HSEP.out.2.1 b e; rw [zo b this.2.1, hf9 b (by omega) this.2.2 (HSEP.out.1 b e)]; exact ho
 ·refine hrow9.keep fun b e o ho => ?_
  have := HSEP.out.2.2.1 b e; rw [zo b this.2.1]; exact ho
 ·rw [zo i hi, hf9 i (by omega) h1 h3, hf8 i (show i < w7.heap.size by omega) h1 h2]
  exact BX7.out.block i hi
end
end Go.Proofs.Ytchceolbbkhnnaa
