/- Texts of this seat, put together: AtPut, AtFind, AtRefOps. -/
import Derived.Test.YtchceolbbkhnnaaGB3
import Derived.Test.YtchceolbbkhnnaaGA1
import Derived.Laws.AppendOwnNone
/- The document's own put: an attribute into a rising row. -/
namespace Go.Proofs.Ytchceolbbkhnnaa
open Go.RowKit At

theorem proper_sliced {a : Option Addr} {n cap k l m : Nat} (h : Proper (.slice a n cap)) (hl : l ≤ n) (hm : m ≤ cap) : Proper (sliced a k l m 2) := fun n' cap' he => by
 unfold sliced at he
 cases a with
 | none =>
   obtain ⟨h1, h2⟩ := h n cap rfl
   simp at he
   omega
 | some a =>
   simp only [Value.slice.injEq] at he
   split at he <;> simp at he
theorem slice_to {w : World} {v : Value} {l : List (ByteArray × ByteArray)} (h : AtRow w v l) (hp : Proper v) (k : Nat) (hk : k ≤ l.length) :
 ∃ v', Proper v' ∧ (∀ W, (Instr.sliceAt 38 v none (some (.int .i64 (k : Int))) none).run Try.prog W = .ok v' W) ∧ AtRow w v' (l.take k) := by
 obtain ⟨a, cap, rfl, h1, h2, h3⟩ := h
 have hl : (l.take k).length = k := by rw [List.length_take]; omega
 refine ⟨sliced a 0 k cap 2, proper_sliced hp hk (Nat.le_refl _), fun W => by rw [run_sliceAt_slice W _ _ _ _ _ undAttrs, run_slice_h W _ _ _ _ undAttrs .i64 _ (by omega) (by omega), elemAttrs, Try.sizeOf81, Int.toNat_natCast]; rfl, ?_⟩
 unfold sliced
 refine ⟨_, cap, by rw [hl, Nat.sub_zero, Nat.sub_zero], by omega, h2, fun i hi => ?_⟩
 rw [hl] at hi
 obtain ⟨b, off, rfl, h4, h5, h6⟩ := h3 i (by omega)
 have e : (if cap = 0 then some (⟨b, off, none⟩ : Addr) else Option.map (fun x : Addr => x.add (0 * 2)) (some ⟨b, off, none⟩)) = some ⟨b, off, none⟩ := by
  split
  ·rfl
  ·simp [Addr.add]
 rw [e]
 exact ⟨b, off, rfl, h4, by rw [List.getElem_take]; exact h5, by rw [List.getElem_take]; exact h6⟩
theorem slice_from {w : World} {v : Value} {l : List (ByteArray × ByteArray)} (h : AtRow w v l) (hp : Proper v) (k : Nat) (hk : k ≤ l.length) :
 ∃ v', Proper v' ∧ (∀ W, (Instr.sliceAt 38 v (some (.int .i64 (k : Int))) none none).run Try.prog W = .ok v' W) ∧ AtRow w v' (l.drop k) := by
 obtain ⟨a, cap, rfl, h1, h2, h3⟩ := h
 have hl : (l.drop k).length = l.length - k := by rw [List.length_drop]
 refine ⟨sliced a k l.length cap 2, proper_sliced hp (Nat.le_refl _) (Nat.le_refl _), fun W => by rw [run_sliceAt_slice W _ _ _ _ _ undAttrs, run_slice_l W _ _ _ _ undAttrs .i64 _ (by omega) (by omega), elemAttrs, Try.sizeOf81, Int.toNat_natCast]; rfl, ?_⟩
 unfold sliced
 refine ⟨_, cap - k, by rw [hl], by omega, by omega, fun i hi => ?_⟩
 rw [hl] at hi
 obtain ⟨b, off, rfl, h4, h5, h6⟩ := h3 (k + i) (by omega)
 rw [if_neg (by omega)]
 have e1 : off + k * 2 + i * 2 = off + (k + i) * 2 := by omega
 refine ⟨b, off + k * 2, ?_, h4, by rw [e1, List.getElem_drop]; exact h5, by rw [e1, List.getElem_drop]; exact h6⟩
 by_cases h0 : k * 2 = 0
 ·simp [Addr.add, h0]
 ·simp [Addr.add, h0]
/-- Where it goes. -/
def pos (l : List (K × V)) (p : K × V) : Nat := (l.takeWhile fun x => ltB x.1 p.1).length
theorem pos_cons (q : K × V) (r : List (K × V)) (p : K × V) : pos (q :: r) p = if ltB q.1 p.1 = true then pos r p + 1 else 0 := by
 unfold pos
 rw [List.takeWhile_cons]
 split <;> rfl
theorem pos_le (l : List (K × V)) (p : K × V) : pos l p ≤ l.length := by
 induction l with
 | nil => exact Nat.le_refl _
 | cons q r ih =>
   rw [pos_cons, List.length_cons]
   split <;> omega
theorem put_pos (l : List (K × V)) (p : K × V) : put ltB l p = l.take (pos l p) ++ p :: l.drop (pos l p) := by
 induction l with
 | nil => rfl
 | cons q r ih =>
   rw [put, pos_cons]
   split
   ·rw [ih]; rfl
   ·rfl
theorem pos_before (l : List (K × V)) (p : K × V) : ∀ k (h : k < l.length), k < pos l p → ltB l[k].1 p.1 = true := by
 induction l with
 | nil => intro k h; simp at h
 | cons q r ih =>
   intro k h hk
   rw [pos_cons] at hk
   split at hk
   ·rename_i hq
    cases k with
    | zero => exact hq
    | succ k => exact ih k (by simpa using h) (by omega)
   ·omega
theorem pos_at (l : List (K × V)) (p : K × V) : ∀ k (h : k < l.length), k = pos l p → ltB l[k].1 p.1 = false := by
 induction l with
 | nil => intro k h; simp at h
 | cons q r ih =>
   intro k h hk
   rw [pos_cons] at hk
   split at hk
   ·rename_i hq
    subst hk
    exact ih (pos r p) (by simpa using h) rfl
   ·rename_i hq
    subst hk
    simpa using hq
theorem new_at2' {w : World} {u v : Value} {e : TypeId} : (w.alloc (.cells #[u, v] e)).cell? ⟨w.heap.size, 0, none⟩ = some u ∧ (w.alloc (.cells #[u, v] e)).cell? ⟨w.heap.size, 1, none⟩ = some v := ⟨by go_simp, by go_simp⟩

set_option maxRecDepth 100000 in
set_option maxHeartbeats 4000000 in
theorem putAt_any (v : Value) (l : List (ByteArray × ByteArray)) (p : ByteArray × ByteArray) (w : World) (hv : AtRow w v l) (hp : Proper v) (hl : l.length ≤ 64) :
 Calls Try.prog 86 #[v, .agg #[.string p.1, .string p.2]] w (MergeOut w (put ltB l p)) := by
 have hvW := hv.below ((Below.refl _ _).alloc (Nat.le_refl _) (.cells #[.string p.1, .string p.2] 81))
 obtain ⟨vt, pt, st, rt⟩ := slice_to hvW hp (pos l p) (pos_le l p)
 obtain ⟨vd, pd, sd, rd⟩ := slice_from hvW hp (pos l p) (pos_le l p)
 obtain ⟨a, cap, rfl, h1, h2, h3⟩ := id hvW
 have hn : l.length ≤ 9223372036854775807 := by omega
 have Hput := Lib.hid (put_pos l p)
 have Hbefore := Lib.hid (pos_before l p)
 have Hat := Lib.hid (pos_at l p)
 have Hposle := Lib.hid (pos_le l p)
 have Hl := Lib.hid hl
 have Hrt := Lib.hid rt
 have Hrd := Lib.hid rd
 have H3 := Lib.hid h3
 generalize pos l p = K at *
 have hKn : K ≤ 9223372036854775807 := by have := Hposle.out; omega
 clear hv hvW rt rd h3 hl
 go_enter Try.func86, Try.ntmps86
 go_wp2_with fail
 obtain ⟨W, hW⟩ : ∃ W, W = w.alloc (.cells #[.string p.1, .string p.2] 81) := ⟨_, rfl⟩
 rw [← hW] at H3 Hrt Hrd ⊢
 have hbox : W.cell? ⟨w.heap.size, 0, none⟩ = some (.string p.1) ∧ W.cell? ⟨w.heap.size, 1, none⟩ = some (.string p.2) := by rw [hW]; exact new_at2'
 have hWs : W.heap.size = w.heap.size + 1 := by rw [hW]; simp
 have BW := Lib.hid (show Below w.heap.size w W by rw [hW]; exact (Below.refl _ _).alloc (Nat.le_refl _) _)
 have HWs := Lib.hid hWs
 have x0 := hbox.1
 have x1 := hbox.2
 have hlt0 : w.heap.size < W.heap.size := by omega
 clear hW hbox hWs
 go_loopw [5] (fun i wr => ∃ n m : Nat, i = .int .i64 (n : Int) ∧ n ≤ K ∧ wr = W.drewN m) (fun i _ => l.length - (intOf i).toNat)
 case atStart => exact ⟨0, 0, rfl, Nat.zero_le _, rfl⟩
 case round =>
  obtain ⟨n, m, rfl, hk, rfl⟩ := hrel
  by_cases hlt : n < l.length
  ·have hlt' : (n : Int) < (l.length : Int) := by omega
   obtain ⟨b, off, rfl, _, y1, _⟩ := H3.out n hlt
   by_cases hK : n < K
   ·have t1 : Op.bytesLess l[n].1.toList p.1.toList = true := Hbefore.out n hlt hK
    go_wp2_with fail
    go_quiet (fail)
    go_wp2_with fail
    go_roundw
    case rel => exact ⟨n + 1, _, by go_num, by omega, rfl⟩
    case measure => simp [intOf]; omega
   ·have hnK : n = K := by omega
    have t1 : Op.bytesLess l[n].1.toList p.1.toList = false := Hat.out n hlt hnK
    subst hnK
    clear hk hK
    go_wp2_with fail
    go_quiet (fail)
    have hl := Hl.out
    have hle := Hposle.out
    have e1 : 0 + (l.take n).length = n := by rw [List.length_take]; omega
    have e2 : ([] : List Value) ++ flat (l.take n) = flat (l.take n) := rfl
    have e3 : flat (l.take n) ++ [.string p.1, .string p.2] = flat (l.take n ++ [p]) := (flat_snoc _ _).symm
    have e4 : n + 1 + (l.drop n).length = (put ltB l p).length := by rw [Hput.out, List.length_append, List.length_cons, List.length_take, List.length_drop]; omega
    have e5 : flat (l.take n ++ [p]) ++ flat (l.drop n) = flat (put ltB l p) := by rw [Hput.out, ← flat_append, List.append_assoc]; rfl
    have e6 : (put ltB l p).length ≤ 4096 := by rw [put_len]; omega
    have e7 : n + 1 ≤ 4096 := by omega
    have e8 : n ≤ 4096 := by omega
    have E1 := Lib.hid e1
    have E2 := Lib.hid e2
    have E3 := Lib.hid e3
    have E4 := Lib.hid e4
    have E5 := Lib.hid e5
    have E6 := Lib.hid (And.intro e6 (And.intro e7 e8))
    clear e1 e2 e3 e4 e5 e6 e7 e8 hl hle t1
    go_wp2_with (first
     | (refine wpList_sliced (.slice (some ⟨b, off, none⟩) l.length cap) vt rfl (st _) ?_)
     | (at_builtin; refine wpList_append_row rfl (.tmp 23) (.tmp 26) rfl W.heap.size (.slice (some ⟨W.heap.size, 0, none⟩) 0 0) vt 0 [] (l.take n) rfl rfl (own0 W _) (Hrt.out.below (bel0 W _)) pt n _ E1.out E2.out E6.out.2.2 (bel0 W _).size ?_; intro u1 w1 o1 g1; have B1 := (bel0 W _).grown g1 (bel0 W _).size (own_ge (own0 W 0)); have x2 : w1.cell? ⟨w.heap.size, 0, none⟩ = some (.string p.1) := (B1.cell (by exact hlt0)).trans x0; have x3 : w1.cell? ⟨w.heap.size, 1, none⟩ = some (.string p.2) := (B1.cell (by exact hlt0)).trans x1; have HB1 := Lib.hid B1; have O1 := Lib.hid o1; clear g1 o1 B1)
     | (at_builtin; refine wpList_append_one rfl (.tmp 28) (.tmp 30) rfl W.heap.size u1 n (flat (l.take n)) p rfl rfl O1.out (n + 1) _ rfl E3.out E6.out.2.1 HB1.out.size ?_; intro u2 w2 o2 g2; have B2 := (HB1.out.alloc HB1.out.size _).grown g2 (Nat.le_trans HB1.out.size (by simp)) (own_ge O1.out); have HB2 := Lib.hid B2; have O2 := Lib.hid o2; clear g2 o2 B2)
     | (refine wpList_sliced (.slice (some ⟨b, off, none⟩) l.length cap) vd rfl (sd _) ?_)
     | (at_builtin; refine wpList_append_row rfl (.tmp 32) (.tmp 35) rfl W.heap.size u2 vd (n + 1) (flat (l.take n ++ [p])) (l.drop n) rfl rfl O2.out (Hrd.out.below HB2.out) pd (put ltB l p).length (flat (put ltB l p)) E4.out E5.out E6.out.1 HB2.out.size ?_; intro u3 w3 o3 g3; have B3 := HB2.out.grown g3 HB2.out.size (own_ge O2.out); have HB3 := Lib.hid B3; have O3 := Lib.hid o3; clear g3 o3 B3))
    go_ret
    exact ⟨_, rfl, own_base O3.out (by have := HWs.out; omega), BW.out.trans (HB3.out.mono BW.out.size)⟩
  ·have hnK : n = K := by have := Hposle.out; omega
   have t1 : n = l.length := by have := Hposle.out; omega
   subst hnK
   have T1 := Lib.hid t1
   have t2 : decide ((n : Int) < (l.length : Int)) = false := decide_eq_false (by omega)
   have t3 : decide (n < l.length) = false := decide_eq_false (by omega)
   clear hk hlt
   go_wp2_with fail
   go_quiet (fail)
   have hl := Hl.out
   have hle := Hposle.out
   have e1 : 0 + (l.take n).length = n := by rw [List.length_take]; omega
   have e2 : ([] : List Value) ++ flat (l.take n) = flat (l.take n) := rfl
   have e3 : flat (l.take n) ++ [.string p.1, .string p.2] = flat (l.take n ++ [p]) := (flat_snoc _ _).symm
   have e4 : n + 1 + (l.drop n).length = (put ltB l p).length := by rw [Hput.out, List.length_append, List.length_cons, List.length_take, List.length_drop]; omega
   have e5 : flat (l.take n ++ [p]) ++ flat (l.drop n) = flat (put ltB l p) := by rw [Hput.out, ← flat_append, List.append_assoc]; rfl
   have e6 : (put ltB l p).length ≤ 4096 := by rw [put_len]; omega
   have e7 : n + 1 ≤ 4096 := by omega
   have e8 : n ≤ 4096 := by omega
   have E1 := Lib.hid e1
   have E2 := Lib.hid e2
   have E3 := Lib.hid e3
   have E4 := Lib.hid e4
   have E5 := Lib.hid e5
   have E6 := Lib.hid (And.intro e6 (And.intro e7 e8))
   clear e1 e2 e3 e4 e5 e6 e7 e8 hl hle t1
   go_wp2_with (first
    | (refine wpList_sliced (.slice a l.length cap) vt rfl (st _) ?_)
    | (at_builtin; refine wpList_append_row rfl (.tmp 23) (.tmp 26) rfl W.heap.size (.slice (some ⟨W.heap.size, 0, none⟩) 0 0) vt 0 [] (l.take n) rfl rfl (own0 W _) (Hrt.out.below (bel0 W _)) pt n _ E1.out E2.out E6.out.2.2 (bel0 W _).size ?_; intro u1 w1 o1 g1; have B1 := (bel0 W _).grown g1 (bel0 W _).size (own_ge (own0 W 0)); have x2 : w1.cell? ⟨w.heap.size, 0, none⟩ = some (.string p.1) := (B1.cell (by exact hlt0)).trans x0; have x3 : w1.cell? ⟨w.heap.size, 1, none⟩ = some (.string p.2) := (B1.cell (by exact hlt0)).trans x1; have HB1 := Lib.hid B1; have O1 := Lib.hid o1; clear g1 o1 B1)
    | (at_builtin; refine wpList_append_one rfl (.tmp 28) (.tmp 30) rfl W.heap.size u1 n (flat (l.take n)) p rfl rfl O1.out (n + 1) _ rfl E3.out E6.out.2.1 HB1.out.size ?_; intro u2 w2 o2 g2; have B2 := (HB1.out.alloc HB1.out.size _).grown g2 (Nat.le_trans HB1.out.size (by simp)) (own_ge O1.out); have HB2 := Lib.hid B2; have O2 := Lib.hid o2; clear g2 o2 B2)
    | (refine wpList_sliced (.slice a l.length cap) vd rfl (sd _) ?_)
    | (at_builtin; refine wpList_append_row rfl (.tmp 32) (.tmp 35) rfl W.heap.size u2 vd (n + 1) (flat (l.take n ++ [p])) (l.drop n) rfl rfl O2.out (Hrd.out.below HB2.out) pd (put ltB l p).length (flat (put ltB l p)) E4.out E5.out E6.out.1 HB2.out.size ?_; intro u3 w3 o3 g3; have B3 := HB2.out.grown g3 HB2.out.size (own_ge O2.out); have HB3 := Lib.hid B3; have O3 := Lib.hid o3; clear g3 o3 B3))
   go_ret
   exact ⟨_, rfl, own_base O3.out (by have := HWs.out; omega), BW.out.trans (HB3.out.mono BW.out.size)⟩
end Go.Proofs.Ytchceolbbkhnnaa

/- The document's own find. -/
namespace Go.Proofs.Ytchceolbbkhnnaa
open Go.RowKit

/-- What find answers. -/
def findV (l : List (ByteArray × ByteArray)) (k : ByteArray) : Value := .tuple #[.string ((At.look l k).getD ⟨#[]⟩), .bool (At.look l k).isSome]

set_option maxHeartbeats 1000000 in
theorem find_any (v : Value) (l : List (ByteArray × ByteArray)) (k : ByteArray) (w : World) (h : AtRow w v l) : Calls Try.prog 67 #[v, .string k] w fun e w' => e = .returned (findV l k) ∧ w' = w := by
 obtain ⟨a, cap, rfl, h1, h2, h3⟩ := h
 have hn : l.length ≤ 9223372036854775807 := Nat.le_trans h1 h2
 have H3 := Lib.hid h3
 clear h3
 go_enter Try.func67, Try.ntmps67
 go_wp2_with fail
 go_loopw [6] (fun i wr => ∃ n : Nat, i = .int .i64 (n : Int) ∧ n ≤ l.length ∧ (∀ j (h : j < l.length), j < n → l[j].1 ≠ k) ∧ wr = w) (fun i _ => l.length - (intOf i).toNat)
 case atStart => exact ⟨0, rfl, by omega, fun j _ h => by omega, rfl⟩
 case round =>
  obtain ⟨n, rfl, hk, hall, rfl⟩ := hrel
  have Hall := Lib.hid hall
  clear hall
  by_cases hlt : n < l.length
  ·have hlt' : (n : Int) < (l.length : Int) := by omega
   obtain ⟨b, off, rfl, _, x1, z1⟩ := H3.out n hlt
   by_cases he : l[n].1 = k
   ·have hf := look_step l k n hlt Hall.out he
    have Hf : Hid (findV l k = .tuple #[.string l[n].2, .bool true]) := by show _ = _; unfold findV; rw [hf]; rfl
    rw [he] at x1
    clear hf he Hall
    go_wp2_with fail
    go_ret2
    rw [Hf.out]
    exact ⟨rfl, rfl⟩
   ·have step : ∀ j (h : j < l.length), j < n + 1 → l[j].1 ≠ k := fun j hj hjk => by
     by_cases e : j = n
     ·subst e; exact he
     ·exact Hall.out j hj (by omega)
    have Step := Lib.hid step
    have hne : (l[n].1.toList == k.toList) = false := by rw [beq_eq_false_iff_ne]; exact fun e => he (toList_ba e)
    clear step he Hall
    go_wp2_with fail
    go_roundw
    case rel => exact ⟨n + 1, by go_num, by omega, Step.out, by trivial⟩
    case measure => simp [intOf]; omega
  ·have hkn : n = l.length := by omega
   subst hkn
   have hf := look_all l k fun j hj => Hall.out j hj hj
   have Hf : Hid (findV l k = .tuple #[.string ⟨#[]⟩, .bool false]) := by show _ = _; unfold findV; rw [hf]; rfl
   clear hf Hall
   go_wp2_with fail
   go_ret2
   rw [Hf.out]
   exact ⟨rfl, rfl⟩

end Go.Proofs.Ytchceolbbkhnnaa

/- The document's own Compose and Apply. -/
namespace Go.Proofs.Ytchceolbbkhnnaa
open Go.RowKit At

/-- The first n of a row that are asked for, put in one by one. -/
def PR (q : K × V → Bool) (l0 l : List (K × V)) (n : Nat) : List (K × V) := puts ltB l0 ((l.take n).filter q)
theorem PR_succ (q : K × V → Bool) (l0 l : List (K × V)) (n : Nat) (h : n < l.length) : PR q l0 l (n + 1) = if q l[n] = true then put ltB (PR q l0 l n) l[n] else PR q l0 l n := by
 unfold PR puts
 rw [List.take_succ_eq_append_getElem h, List.filter_append, List.foldl_append]
 by_cases hq : q l[n] = true
 ·rw [if_pos hq, List.filter_cons, if_pos hq]; rfl
 ·rw [if_neg hq, List.filter_cons, if_neg hq]; rfl
theorem PR_yes {q : K × V → Bool} {l0 l : List (K × V)} {n : Nat} (h : n < l.length) (hq : q l[n] = true) : PR q l0 l (n + 1) = put ltB (PR q l0 l n) l[n] := by rw [PR_succ q l0 l n h, if_pos hq]
theorem PR_not {q : K × V → Bool} {l0 l : List (K × V)} {n : Nat} (h : n < l.length) (hq : q l[n] = false) : PR q l0 l (n + 1) = PR q l0 l n := by rw [PR_succ q l0 l n h, if_neg (by rw [hq]; simp)]
theorem puts_len (l ps : List (K × V)) : (puts ltB l ps).length = l.length + ps.length := by
 induction ps generalizing l with
 | nil => rfl
 | cons p r ih =>
   show (puts ltB (put ltB l p) r).length = _
   rw [ih, put_len, List.length_cons]
   omega
theorem PR_len (q : K × V → Bool) (l0 l : List (K × V)) (n : Nat) : (PR q l0 l n).length ≤ l0.length + l.length := by
 unfold PR
 rw [puts_len]
 have h1 := List.length_filter_le q (l.take n)
 have h2 : (l.take n).length ≤ l.length := by rw [List.length_take]; omega
 omega
theorem PR_all (q : K × V → Bool) (l0 l : List (K × V)) : PR q l0 l l.length = puts ltB l0 (l.filter q) := by unfold PR; rw [List.take_length]

/-- What one more test and put come to, in memory. -/
theorem put_on {w wr w' : World} {e : Ending} {R : List (K × V)} (hb : Below w.heap.size w wr) (h : MergeOut wr R e w') : ∃ v, e = .returned v ∧ w'.ownsRow w.heap.size 81 2 v R.length (flat R) ∧ Below w.heap.size w w' := by
 obtain ⟨v, rfl, h1, h2⟩ := h
 exact ⟨v, rfl, own_base h1 hb.size, hb.trans (h2.mono hb.size)⟩
def qNone (b : List (K × V)) (x : K × V) : Bool := (At.look b x.1).isNone

set_option maxRecDepth 100000 in
set_option maxHeartbeats 4000000 in
theorem refCompose_any (v u : Value) (a b : List (ByteArray × ByteArray)) (w : World) (hv : AtRow w v a) (hu : AtRow w u b) (hp : Proper u) (ha : Sized a) (hb : Sized b) :
 Calls Try.prog 58 #[v, u] w (RowOut w (composeR a b) (composeE a b)) := by
 have Hv := Lib.hid hv
 have Hu := Lib.hid hu
 have Ha := Lib.hid ha
 have Hb := Lib.hid hb
 have Hc1 := Lib.hid (change_any v a w hv ha)
 have Hc2 := Lib.hid (fun m => change_any u b (w.drewN m) (hu.below (below_drewN (Below.refl _ _) m)) hb)
 clear hu ha hb
 obtain ⟨av, cv, rfl, av1, av2, av3⟩ := hv
 have Av := Lib.hid av3
 have hn : a.length ≤ 9223372036854775807 := Nat.le_trans av1 av2
 clear av1 av2 av3
 cases hra : chgB a with
 | false =>
   have h1 : chgE a = 20 ∧ composeR a b = [] ∧ composeE a b = 20 := by unfold chgE composeR composeE; rw [hra]; exact ⟨rfl, rfl, rfl⟩
   rw [h1.2.1, h1.2.2]
   rw [h1.1] at Hc1
   clear h1 hra
   go_enter Try.func58, Try.ntmps58
   go_wp2_with fail
   refine Hc1.out.mono ?_
   rintro e w1 ⟨rfl, m, rfl⟩
   go_wp2_with fail
   go_ret2
   exact rowOut_nil (below_drewN (Below.refl _ _) _)
 | true =>
   have hE1 : chgE a = 0 := by unfold chgE; rw [hra]; rfl
   rw [hE1] at Hc1
   cases hrb : chgB b with
   | false =>
     have h1 : chgE b = 20 ∧ composeR a b = [] ∧ composeE a b = 20 := by unfold chgE composeR composeE; rw [hra, hrb]; exact ⟨rfl, rfl, rfl⟩
     rw [h1.2.1, h1.2.2]
     rw [h1.1] at Hc2
     clear h1 hra hrb hE1
     go_enter Try.func58, Try.ntmps58
     go_wp2_with fail
     refine Hc1.out.mono ?_
     rintro e w1 ⟨rfl, m, rfl⟩
     go_wp2_with fail
     refine (Hc2.out m).mono ?_
     rintro e w1 ⟨rfl, m2, rfl⟩
     go_wp2_with fail
     go_ret2
     exact rowOut_nil (below_drewN (Below.refl _ _) _)
   | true =>
     have hE2 : chgE b = 0 := by unfold chgE; rw [hrb]; rfl
     rw [hE2] at Hc2
     have la := (chg_iff.1 hra).1
     have lb := (chg_iff.1 hrb).1
     have Hla := Lib.hid (And.intro la lb)
     have hL : composeL ltB a b = PR (qNone b) b a a.length := by rw [PR_all]; rfl
     have HL := Lib.hid hL
     have hok := fun h8 : (composeL ltB a b).length ≤ 8 => composeE_mk hra hrb h8
     have hbig := fun h8 : ¬ (composeL ltB a b).length ≤ 8 => composeE_big hra hrb h8
     have Hok := Lib.hid hok
     have Hbig := Lib.hid hbig
     have f1 : 0 + b.length = b.length := Nat.zero_add _
     have f2 : ([] : List Value) ++ flat b = flat b := rfl
     have f3 : b.length ≤ 4096 := by omega
     have F := Lib.hid (And.intro f1 (And.intro f2 f3))
     clear hok hbig hra hrb hE1 hE2 hL la lb f1 f2 f3
     go_enter Try.func58, Try.ntmps58
     go_wp2_with fail
     refine Hc1.out.mono ?_
     rintro e w1 ⟨rfl, m, rfl⟩
     go_wp2_with fail
     refine (Hc2.out m).mono ?_
     rintro e w1 ⟨rfl, m2, rfl⟩
     go_wp2_with (at_builtin; refine wpList_append_row rfl (.tmp 18) (.tmp 19) rfl w.heap.size (.slice (some ⟨w.heap.size, 0, none⟩) 0 0) u 0 [] b rfl rfl (own0 w _) (Hu.out.below (bel0 w _)) hp b.length (flat b) F.out.1 F.out.2.1 F.out.2.2 (bel0 w _).size ?_; intro u1 w1 o1 g1; have B1 := (bel0 w _).grown g1 (bel0 w _).size (own_ge (own0 w 0)); have HB1 := Lib.hid B1; have O1 := Lib.hid o1; clear g1 o1 B1)
     go_loopw [6, 7] (fun o i wr => ∃ n : Nat, i = .int .i64 (n : Int) ∧ n ≤ a.length ∧ wr.ownsRow w.heap.size 81 2 o (PR (qNone b) b a n).length (flat (PR (qNone b) b a n)) ∧ Below w.heap.size w wr) (fun _ i _ => a.length - (intOf i).toNat)
     case atStart => exact ⟨0, rfl, Nat.zero_le _, O1.out, HB1.out⟩
     case round =>
      obtain ⟨n, rfl, hk, hown, hbel⟩ := hrel
      have Hown := Lib.hid hown
      have Hbel := Lib.hid hbel
      by_cases hlt : n < a.length
      ·have hlt' : (n : Int) < (a.length : Int) := by omega
       obtain ⟨bb, off, rfl, hbb, x1', z1'⟩ := Av.out n hlt
       have x1 : wr.cell? ⟨bb, off + n * 2, none⟩ = some (.string a[n].1) := by rw [hbel.cell (by exact hbb)]; exact x1'
       have z1 : wr.cell? ⟨bb, off + n * 2 + 1, none⟩ = some (.string a[n].2) := by rw [hbel.cell (by exact hbb)]; exact z1'
       have Hyes := Lib.hid (PR_yes (q := qNone b) (l0 := b) (l := a) hlt)
       have Hnot := Lib.hid (PR_not (q := qNone b) (l0 := b) (l := a) hlt)
       have hlen := PR_len (qNone b) b a n
       have Hlen := Lib.hid hlen
       clear hown hbel x1' z1' hlen
       go_wp2_with fail
       refine (find_any u b _ _ (Hu.out.below Hbel.out)).mono ?_
       rintro e w2 ⟨rfl, rfl⟩
       unfold findV
       cases hf : At.look b a[n].1 with
       | none =>
         have hy := Hyes.out (by unfold qNone; rw [hf]; rfl)
         have Hy := Lib.hid hy
         clear hy hf Hyes Hnot
         go_wp2_with fail
         refine (putAt_any _ _ a[n] _ (row_of_own Hown.out) (proper_own Hown.out) (by have := Hlen.out; have := Hla.out; omega)).mono ?_
         rintro e w3 hm
         obtain ⟨v3, rfl, o3, b3⟩ := put_on Hbel.out hm
         rw [← Hy.out] at o3
         have O3 := Lib.hid o3
         have B3 := Lib.hid b3
         clear hm o3 b3
         go_wp2_with fail
         go_roundw
         case rel => exact ⟨n + 1, by go_num, by omega, O3.out, B3.out⟩
         case measure => simp [intOf]; omega
       | some q =>
         have hy := Hnot.out (by unfold qNone; rw [hf]; rfl)
         have ho := Hown.out
         rw [← hy] at ho
         have Ho := Lib.hid ho
         clear hy hf Hyes Hnot ho
         go_wp2_with fail
         go_roundw
         case rel => exact ⟨n + 1, by go_num, by omega, Ho.out, Hbel.out⟩
         case measure => simp [intOf]; omega
      ·have hkn : n = a.length := by omega
       subst hkn
       rw [← HL.out] at hown
       obtain ⟨ar, cr, rfl⟩ := own_slice hown
       have Ho := Lib.hid hown
       clear hown hbel
       by_cases h8 : (composeL ltB a b).length ≤ 8
       ·have t1 : decide ((8 : Int) < ((composeL ltB a b).length : Int)) = false := decide_eq_false (by omega)
        have t2 : decide (8 < (composeL ltB a b).length) = false := decide_eq_false (by omega)
        have HR := Lib.hid (Hok.out h8)
        clear h8
        go_wp2_with fail
        go_ret2
        rw [HR.out.1, HR.out.2]
        exact ⟨_, rfl, Ho.out, Hbel.out⟩
       ·have t1 : (8 : Int) < ((composeL ltB a b).length : Int) := by omega
        have HR := Lib.hid (Hbig.out h8)
        clear h8
        go_wp2_with fail
        go_ret2
        rw [HR.out.1, HR.out.2]
        exact rowOut_nil Hbel.out

set_option maxRecDepth 100000 in
set_option maxHeartbeats 4000000 in
theorem refApply_any (v u : Value) (a b : List (ByteArray × ByteArray)) (w : World) (hv : AtRow w v a) (hu : AtRow w u b) (ha : Sized a) (hb : Sized b) :
 Calls Try.prog 57 #[v, u] w (RowOut w (applyR a b) (applyE a b)) := by
 have Hv := Lib.hid hv
 have Hu := Lib.hid hu
 have Ha := Lib.hid ha
 have Hb := Lib.hid hb
 have Hc1 := Lib.hid (right_any v a w hv ha)
 have Hc2 := Lib.hid (fun m => change_any u b (w.drewN m) (hu.below (below_drewN (Below.refl _ _) m)) hb)
 clear ha hb
 obtain ⟨av, cv, rfl, av1, av2, av3⟩ := hv
 have Av := Lib.hid av3
 have hn : a.length ≤ 9223372036854775807 := Nat.le_trans av1 av2
 obtain ⟨bv, dv, rfl, bv1, bv2, bv3⟩ := hu
 have Bv := Lib.hid bv3
 have hn2 : b.length ≤ 9223372036854775807 := Nat.le_trans bv1 bv2
 clear av1 av2 av3 bv1 bv2 bv3
 cases hra : rgtB a with
 | false =>
   have h1 : rgtE a = 20 ∧ applyR a b = [] ∧ applyE a b = 20 := by unfold rgtE applyR applyE; rw [hra]; exact ⟨rfl, rfl, rfl⟩
   rw [h1.2.1, h1.2.2]
   rw [h1.1] at Hc1
   clear h1 hra
   go_enter Try.func57, Try.ntmps57
   go_wp2_with fail
   refine Hc1.out.mono ?_
   rintro e w1 ⟨rfl, m, rfl⟩
   go_wp2_with fail
   go_ret2
   exact rowOut_nil (below_drewN (Below.refl _ _) _)
 | true =>
   have hE1 : rgtE a = 0 := by unfold rgtE; rw [hra]; rfl
   rw [hE1] at Hc1
   cases hrb : chgB b with
   | false =>
     have h1 : chgE b = 20 ∧ applyR a b = [] ∧ applyE a b = 20 := by unfold chgE applyR applyE; rw [hra, hrb]; exact ⟨rfl, rfl, rfl⟩
     rw [h1.2.1, h1.2.2]
     rw [h1.1] at Hc2
     clear h1 hra hrb hE1
     go_enter Try.func57, Try.ntmps57
     go_wp2_with fail
     refine Hc1.out.mono ?_
     rintro e w1 ⟨rfl, m, rfl⟩
     go_wp2_with fail
     refine (Hc2.out m).mono ?_
     rintro e w1 ⟨rfl, m2, rfl⟩
     go_wp2_with fail
     go_ret2
     exact rowOut_nil (below_drewN (Below.refl _ _) _)
   | true =>
     have hE2 : chgE b = 0 := by unfold chgE; rw [hrb]; rfl
     rw [hE2] at Hc2
     have la := (rgt_iff.1 hra).1
     have lb := (chg_iff.1 hrb).1
     have Hla := Lib.hid (And.intro la lb)
     have hL : applyL ltB emp a b = PR (fun x => decide (x.2 ≠ emp)) (PR (qNone b) [] a a.length) b b.length := by rw [PR_all, PR_all]; rfl
     have HL := Lib.hid hL
     have hok := fun h8 : (applyL ltB emp a b).length ≤ 8 => applyE_mk hra hrb h8
     have hbig := fun h8 : ¬ (applyL ltB emp a b).length ≤ 8 => applyE_big hra hrb h8
     have Hok := Lib.hid hok
     have Hbig := Lib.hid hbig
     clear hok hbig hra hrb hE1 hE2 hL la lb
     go_enter Try.func57, Try.ntmps57
     go_wp2_with fail
     refine Hc1.out.mono ?_
     rintro e w1 ⟨rfl, m, rfl⟩
     go_wp2_with fail
     refine (Hc2.out m).mono ?_
     rintro e w1 ⟨rfl, m2, rfl⟩
     have hAw : ∀ wr, Below w.heap.size w wr → AtRow wr (.slice bv b.length dv) b := fun wr hb => Hu.out.below hb
     have HAw := Lib.hid hAw
     clear hAw
     go_wp2_with fail
     go_loopw [6, 7] (fun o i wr => ∃ n : Nat, i = .int .i64 (n : Int) ∧ n ≤ a.length ∧ wr.ownsRow w.heap.size 81 2 o (PR (qNone b) [] a n).length (flat (PR (qNone b) [] a n)) ∧ Below w.heap.size w wr) (fun _ i _ => a.length - (intOf i).toNat)
     case atStart => exact ⟨0, rfl, Nat.zero_le _, World.ownsRow_nil _ _ _ _, below_drewN (Below.refl _ _) _⟩
     case round =>
      obtain ⟨n, rfl, hk, hown, hbel⟩ := hrel
      have Hown := Lib.hid hown
      have Hbel := Lib.hid hbel
      by_cases hlt : n < a.length
      ·have hlt' : (n : Int) < (a.length : Int) := by omega
       obtain ⟨bb, off, rfl, hbb, x1', z1'⟩ := Av.out n hlt
       have x1 : wr.cell? ⟨bb, off + n * 2, none⟩ = some (.string a[n].1) := by rw [hbel.cell (by exact hbb)]; exact x1'
       have z1 : wr.cell? ⟨bb, off + n * 2 + 1, none⟩ = some (.string a[n].2) := by rw [hbel.cell (by exact hbb)]; exact z1'
       have Hyes := Lib.hid (PR_yes (q := qNone b) (l0 := []) (l := a) hlt)
       have Hnot := Lib.hid (PR_not (q := qNone b) (l0 := []) (l := a) hlt)
       have Hlen := Lib.hid (PR_len (qNone b) [] a n)
       clear hown hbel x1' z1'
       go_wp2_with fail
       refine (find_any _ b _ _ (HAw.out _ Hbel.out)).mono ?_
       rintro e w2 ⟨rfl, rfl⟩
       unfold findV
       cases hf : At.look b a[n].1 with
       | none =>
         have hy := Hyes.out (by unfold qNone; rw [hf]; rfl)
         have Hy := Lib.hid hy
         clear hy hf Hyes Hnot
         go_wp2_with fail
         refine (putAt_any _ _ a[n] _ (row_of_own Hown.out) (proper_own Hown.out) (by have h1 := Hlen.out; have h2 := Hla.out; simp at h1; omega)).mono ?_
         rintro e w3 hm
         obtain ⟨v3, rfl, o3, b3⟩ := put_on Hbel.out hm
         rw [← Hy.out] at o3
         have O3 := Lib.hid o3
         have B3 := Lib.hid b3
         clear hm o3 b3
         go_wp2_with fail
         go_roundw
         case rel => exact ⟨n + 1, by go_num, by omega, O3.out, B3.out⟩
         case measure => simp [intOf]; omega
       | some q =>
         have hy := Hnot.out (by unfold qNone; rw [hf]; rfl)
         have ho := Hown.out
         rw [← hy] at ho
         have Ho := Lib.hid ho
         clear hy hf Hyes Hnot ho
         go_wp2_with fail
         go_roundw
         case rel => exact ⟨n + 1, by go_num, by omega, Ho.out, Hbel.out⟩
         case measure => simp [intOf]; omega
      ·have hkn : n = a.length := by omega
       subst hkn
       have hl1 := PR_len (qNone b) [] a a.length
       have Hl1 := Lib.hid hl1
       clear hown hbel hl1
       generalize PR (qNone b) [] a a.length = M at *
       go_wp2_with fail
       go_loopw [6, 10] (fun o i wr2 => ∃ k : Nat, i = .int .i64 (k : Int) ∧ k ≤ b.length ∧ wr2.ownsRow w.heap.size 81 2 o (PR (fun x => decide (x.2 ≠ emp)) M b k).length (flat (PR (fun x => decide (x.2 ≠ emp)) M b k)) ∧ Below w.heap.size w wr2) (fun _ i _ => b.length - (intOf i).toNat)
       case atStart => exact ⟨0, rfl, Nat.zero_le _, Hown.out, Hbel.out⟩
       case round =>
        obtain ⟨k, rfl, hk2, hown2, hbel2⟩ := hrel
        have Hown2 := Lib.hid hown2
        have Hbel2 := Lib.hid hbel2
        by_cases hlt2 : k < b.length
        ·have hlt2' : (k : Int) < (b.length : Int) := by omega
         obtain ⟨bb2, off2, rfl, hbb2, x2', z2'⟩ := Bv.out k hlt2
         have x2 : wr.cell? ⟨bb2, off2 + k * 2, none⟩ = some (.string b[k].1) := by rw [hbel2.cell (by exact hbb2)]; exact x2'
         have z2 : wr.cell? ⟨bb2, off2 + k * 2 + 1, none⟩ = some (.string b[k].2) := by rw [hbel2.cell (by exact hbb2)]; exact z2'
         have Hyes2 := Lib.hid (PR_yes (q := fun x => decide (x.2 ≠ emp)) (l0 := M) (l := b) hlt2)
         have Hnot2 := Lib.hid (PR_not (q := fun x => decide (x.2 ≠ emp)) (l0 := M) (l := b) hlt2)
         have Hlen2 := Lib.hid (PR_len (fun x => decide (x.2 ≠ emp)) M b k)
         clear hown2 hbel2 x2' z2'
         by_cases hz : b[k].2 = emp
         ·have hy := Hnot2.out (by simp [hz])
          have ho := Hown2.out
          rw [← hy] at ho
          have Ho := Lib.hid ho
          have t0 : b[k].2.toList = [] := beq_empty.1 hz
          have t1 : b[k].2.toList.isEmpty = true := by rw [t0]; rfl
          clear hy hz Hyes2 Hnot2 ho
          go_wp2_with fail
          go_roundw
          case rel => exact ⟨k + 1, by go_num, by omega, Ho.out, Hbel2.out⟩
          case measure => simp [intOf]; omega
         ·have hy := Hyes2.out (by simp [hz])
          have Hy := Lib.hid hy
          have t0 : (b[k].2.toList == []) = false := by rw [beq_eq_false_iff_ne]; exact fun e => hz (beq_empty.2 e)
          have t1 : b[k].2.toList.isEmpty = false := by cases h : b[k].2.toList with | nil => rw [h] at t0; cases t0 | cons _ _ => rfl
          clear hy hz Hyes2 Hnot2
          go_wp2_with fail
          refine (putAt_any _ _ b[k] _ (row_of_own Hown2.out) (proper_own Hown2.out) (by have h1 := Hlen2.out; have h2 := Hla.out; have h3 := Hl1.out; simp at h3; omega)).mono ?_
          rintro e w3 hm
          obtain ⟨v3, rfl, o3, b3⟩ := put_on Hbel2.out hm
          rw [← Hy.out] at o3
          have O3 := Lib.hid o3
          have B3 := Lib.hid b3
          clear hm o3 b3
          go_wp2_with fail
          go_roundw
          case rel => exact ⟨k + 1, by go_num, by omega, O3.out, B3.out⟩
          case measure => simp [intOf]; omega
        ·have hkn2 : k = b.length := by omega
         subst hkn2
         rw [← HL.out] at hown2
         obtain ⟨ar, cr, rfl⟩ := own_slice hown2
         have Ho := Lib.hid hown2
         clear hown2 hbel2
         by_cases h8 : (applyL ltB emp a b).length ≤ 8
         ·have t1 : decide ((8 : Int) < ((applyL ltB emp a b).length : Int)) = false := decide_eq_false (by omega)
          have t2 : decide (8 < (applyL ltB emp a b).length) = false := decide_eq_false (by omega)
          have HR := Lib.hid (Hok.out h8)
          clear h8
          go_wp2_with fail
          go_ret2
          rw [HR.out.1, HR.out.2]
          exact ⟨_, rfl, Ho.out, Hbel2.out⟩
         ·have t1 : (8 : Int) < ((applyL ltB emp a b).length : Int) := by omega
          have HR := Lib.hid (Hbig.out h8)
          clear h8
          go_wp2_with fail
          go_ret2
          rw [HR.out.1, HR.out.2]
          exact rowOut_nil Hbel2.out
end Go.Proofs.Ytchceolbbkhnnaa
