import Derived.Test.YtchceolbbkhnnaaGA1
import Derived.BigQuiet
import Derived.Lib.Hide
import Derived.Below
import Derived.WalkKit
import Derived.WalkLawsBesides
import Derived.WalkSpells
import Derived.Laws.OwnMore
import Derived.Laws.AppendOwnNone
import Derived.OwnWalk
namespace Go.Proofs.Ytchceolbbkhnnaa
section
open Go.RowKit
open Lib (hid)
set_option maxHeartbeats 1000000 in
theorem plain1_any (c : Nat) (w : World) : Calls Try.prog 109 #[.int .u8 (c : Int)] w fun e w' => e = .returned (.bool (okv c)) ∧ w' = w := by
 go_enter Try.func109, Try.ntmps109
 go_wp2_with fail
 all_goals
  go_ret
  refine ⟨congrArg (fun b => Ending.returned (Value.bool b)) ?_, rfl⟩; unfold okv; rw [Bool.eq_iff_iff]; simp; omega
set_option maxHeartbeats 1000000 in
theorem key1_any (c : Nat) (w : World) : Calls Try.prog 115 #[.int .u8 (c : Int)] w fun e w' => e = .returned (.bool (okc c)) ∧ w' = w := by
 go_enter Try.func115, Try.ntmps115
 go_wp2_with fail
 all_goals
  go_ret
  refine ⟨congrArg (fun b => Ending.returned (Value.bool b)) ?_, rfl⟩; unfold okc; rw [Bool.eq_iff_iff]; simp; omega
def allB (q : Nat → Bool) (s : ByteArray) : Bool := decide (allC q s)
theorem allB_bad {q : Nat → Bool} {s : ByteArray} {k : Nat} (hk : k < s.size) (h : q (s[k].toNat) = false) : allB q s = false :=
 decide_eq_false fun hh => by
  have := hh k hk; rw [h] at this; cases this
theorem allB_all {q : Nat → Bool} {s : ByteArray} (h : ∀ k (h : k < s.size), q (s[k].toNat) = true) : allB q s = true := decide_eq_true h
set_option maxHeartbeats 1000000 in
theorem allPlain_any (s : ByteArray) (w : World) (hs : s.size ≤ maxLen) : Calls Try.prog 108 #[.string s, .func (.func 109) #[] #[]] w fun e w' => e = .returned (.bool (allB okv s)) ∧ w' = w := by
 have hs' : s.size ≤ 9223372036854775807 := hs; go_enter Try.func108, Try.ntmps108
 go_wp2_with fail
 go_loopw [8] (fun i wr => ∃ k : Nat, i = .int .i64 (k : Int) ∧ k ≤ s.size ∧ (∀ j (h : j < s.size), j < k → okv (s[j].toNat) = true) ∧ wr = w) (fun i _ => s.size - (intOf i).toNat)
 case atStart => exact ⟨0, rfl, by omega, fun j _ h => by omega, rfl⟩
 case round =>
  obtain ⟨k, rfl, hk, hall, rfl⟩ := hrel; have Hall := hid hall; clear hall
  by_cases hlt : k < s.size
  ·have hlt' : (k : Int) < (s.size : Int) := by omega
   go_wp2_with fail
   refine (plain1_any _ _).mono ?_; rintro e w1 ⟨rfl, rfl⟩; cases hq : okv (s[k].toNat) with
   | true =>
     have step : ∀ j (h : j < s.size), j < k + 1 → okv (s[j].toNat) = true := fun j hj hjk => by
      by_cases e : j = k
      ·subst e; exact hq
      ·exact Hall.out j hj (by omega)
     have Step := hid step; clear step Hall; go_wp2_with fail
     go_roundw
     case rel => exact ⟨k + 1, by go_num, by omega, Step.out, by trivial⟩
     case measure => simp [intOf]; omega
   | false =>
     have hb := hid (allB_bad hlt hq); clear Hall; go_wp2_with fail
     go_ret
     rw [hb.out]; exact ⟨rfl, rfl⟩
  ·have hkn : k = s.size := by omega
   subst hkn; have hb := hid (allB_all fun j h => Hall.out j h h); clear Hall; go_wp2_with fail
   go_ret
   rw [hb.out]; exact ⟨rfl, rfl⟩
set_option maxHeartbeats 1000000 in
theorem allKey_any (s : ByteArray) (w : World) (hs : s.size ≤ maxLen) : Calls Try.prog 108 #[.string s, .func (.func 115) #[] #[]] w fun e w' => e = .returned (.bool (allB okc s)) ∧ w' = w := by
 have hs' : s.size ≤ 9223372036854775807 := hs; go_enter Try.func108, Try.ntmps108
 go_wp2_with fail
 go_loopw [8] (fun i wr => ∃ k : Nat, i = .int .i64 (k : Int) ∧ k ≤ s.size ∧ (∀ j (h : j < s.size), j < k → okc (s[j].toNat) = true) ∧ wr = w) (fun i _ => s.size - (intOf i).toNat)
 case atStart => exact ⟨0, rfl, by omega, fun j _ h => by omega, rfl⟩
 case round =>
  obtain ⟨k, rfl, hk, hall, rfl⟩ := hrel; have Hall := hid hall; clear hall
  by_cases hlt : k < s.size
  ·have hlt' : (k : Int) < (s.size : Int) := by omega
   go_wp2_with fail
   refine (key1_any _ _).mono ?_; rintro e w1 ⟨rfl, rfl⟩; cases hq : okc (s[k].toNat) with
   | true =>
     have step : ∀ j (h : j < s.size), j < k + 1 → okc (s[j].toNat) = true := fun j hj hjk => by
      by_cases e : j = k
      ·subst e; exact hq
      ·exact Hall.out j hj (by omega)
     have Step := hid step; clear step Hall; go_wp2_with fail
     go_roundw
     case rel => exact ⟨k + 1, by go_num, by omega, Step.out, by trivial⟩
     case measure => simp [intOf]; omega
   | false =>
     have hb := hid (allB_bad hlt hq); clear Hall; go_wp2_with fail
     go_ret
     rw [hb.out]; exact ⟨rfl, rfl⟩
  ·have hkn : k = s.size := by omega
   subst hkn; have hb := hid (allB_all fun j h => Hall.out j h h); clear Hall; go_wp2_with fail
   go_ret
   rw [hb.out]; exact ⟨rfl, rfl⟩
def NE (s : ByteArray) : Bool := !(s.toList == [])
theorem valB_eq (s : ByteArray) : valB s = (decide (s.size ≤ 64) && allB okv s) := by
 unfold valB allB; rw [Bool.eq_iff_iff]; simp; exact And.comm
theorem keyB_eq (s : ByteArray) : keyB s = (decide (1 ≤ s.size) && (decide (s.size ≤ 32) && allB okc s)) := by
 unfold keyB allB; rw [Bool.eq_iff_iff]; simp; constructor
 ·exact fun ⟨h1, h2, h3⟩ => ⟨h2, h3, h1⟩
 ·exact fun ⟨h2, h3, h1⟩ => ⟨h1, h2, h3⟩
theorem size_nil {s : ByteArray} : s.toList = [] ↔ s.size = 0 := by
 rw [ByteArray.toList_eq]; constructor
 ·intro h
  have := congrArg List.length h
  simpa using this
 ·intro h
  exact List.eq_nil_of_length_eq_zero (by simpa using h)
set_option maxHeartbeats 1000000 in
theorem plain_any (s : ByteArray) (w : World) (hs : s.size ≤ maxLen) : Calls Try.prog 94 #[.string s] w fun e w' => e = .returned (.bool (valB s)) ∧ w' = w := by
 have hs' : s.size ≤ 9223372036854775807 := hs; have hv := valB_eq s
 by_cases h64 : s.size ≤ 64
 ·have h64' : (s.size : Int) ≤ 64 := by omega
  have hv2 : valB s = allB okv s := by rw [hv, decide_eq_true h64]; rfl
  have Hv := hid hv2; clear hv hv2; go_enter Try.func94, Try.ntmps94
  go_wp2_with fail
  refine (allPlain_any _ _ hs).mono ?_; rintro e w1 ⟨rfl, rfl⟩; go_wp2_with fail
  go_ret
  rw [Hv.out]; exact ⟨rfl, rfl⟩
 ·have h64' : decide ((s.size : Int) ≤ 64) = false := by rw [decide_eq_false_iff_not]; omega
  have hv2 : valB s = false := by rw [hv, decide_eq_false h64]; rfl
  have Hv := hid hv2; clear hv hv2 h64; go_enter Try.func94, Try.ntmps94
  go_wp2_with fail
  go_ret
  rw [Hv.out]; exact ⟨rfl, rfl⟩
def valNE (s : ByteArray) : Bool := decide (1 ≤ s.size) && valB s
set_option maxHeartbeats 1000000 in
theorem right1_any (s : ByteArray) (w : World) (hs : s.size ≤ maxLen) : Calls Try.prog 99 #[.string s] w fun e w' => e = .returned (.bool (valNE s)) ∧ w' = w := by
 by_cases h0 : 1 ≤ s.size
 ·have hv2 : valNE s = valB s := by unfold valNE; rw [decide_eq_true h0]; rfl
  have Hv := hid hv2; have t1 : (s.toList == []) = false := by rw [beq_eq_false_iff_ne]; exact fun e => by have := size_nil.1 e; omega
  have t2 : (s.toList != []) = true := by rw [bne, t1]; rfl
  have t3 : s.toList.isEmpty = false := by cases h : s.toList with | nil => rw [h] at t1; cases t1 | cons _ _ => rfl
  clear hv2; go_enter Try.func99, Try.ntmps99
  go_wp2_with fail
  refine (plain_any _ _ hs).mono ?_; rintro e w1 ⟨rfl, rfl⟩; go_wp2_with fail
  go_ret
  rw [Hv.out]; exact ⟨rfl, rfl⟩
 ·have hv2 : valNE s = false := by unfold valNE; rw [decide_eq_false h0]; rfl
  have Hv := hid hv2; have t0 : s.toList = [] := size_nil.2 (by omega); have t3 : s.toList.isEmpty = true := by rw [t0]; rfl
  clear hv2 h0; go_enter Try.func99, Try.ntmps99
  go_wp2_with fail
  go_ret
  rw [Hv.out]; exact ⟨rfl, rfl⟩
set_option maxHeartbeats 1000000 in
theorem keyD_any (s : ByteArray) (w : World) (hs : s.size ≤ maxLen) : Calls Try.prog 107 #[.string s] w fun e w' => e = .returned (.bool (keyB s)) ∧ w' = w := by
 have hs' : s.size ≤ 9223372036854775807 := hs; have hv := keyB_eq s
 by_cases h0 : 1 ≤ s.size
 ·have t1 : (s.toList == []) = false := by rw [beq_eq_false_iff_ne]; exact fun e => by have := size_nil.1 e; omega
  have t3 : s.toList.isEmpty = false := by cases h : s.toList with | nil => rw [h] at t1; cases t1 | cons _ _ => rfl
  by_cases h32 : s.size ≤ 32
  ·have h32' : (s.size : Int) ≤ 32 := by omega
   have hv2 : keyB s = allB okc s := by rw [hv, decide_eq_true h0, decide_eq_true h32]; rfl
   have Hv := hid hv2; clear hv hv2; go_enter Try.func107, Try.ntmps107
   go_wp2_with fail
   refine (allKey_any _ _ hs).mono ?_; rintro e w1 ⟨rfl, rfl⟩; go_wp2_with fail
   go_ret
   rw [Hv.out]; exact ⟨rfl, rfl⟩
  ·have h32' : decide ((s.size : Int) ≤ 32) = false := by rw [decide_eq_false_iff_not]; omega
   have hv2 : keyB s = false := by rw [hv, decide_eq_true h0, decide_eq_false h32]; rfl
   have Hv := hid hv2; clear hv hv2 h32; go_enter Try.func107, Try.ntmps107
   go_wp2_with fail
   go_ret
   rw [Hv.out]; exact ⟨rfl, rfl⟩
 ·have hv2 : keyB s = false := by rw [hv, decide_eq_false h0]; rfl
  have Hv := hid hv2; have t0 : s.toList = [] := size_nil.2 (by omega); have t3 : s.toList.isEmpty = true := by rw [t0]; rfl
  clear hv hv2 h0; go_enter Try.func107, Try.ntmps107
  go_wp2_with fail
  go_ret
  rw [Hv.out]; exact ⟨rfl, rfl⟩
end
section
open Go.RowKit
open Lib (hid)
theorem below_drewN {B : Nat} {a w : World} (h : Below B a w) (n : Nat) : Below B a (w.drewN n) := ⟨h.os, h.tape, h.output, h.size, h.block⟩
def rgtOne (l : List (ByteArray × ByteArray)) (i : Nat) (h : i < l.length) : Bool := keyB l[i].1 && valNE l[i].2 && (if h0 : 0 < i then Op.bytesLess (l[i - 1]'(by omega)).1.toList l[i].1.toList else true)
def rgtB (l : List (ByteArray × ByteArray)) : Bool := decide (l.length ≤ 8 ∧ ∀ i (h : i < l.length), rgtOne l i h = true)
def rgtE (l : List (ByteArray × ByteArray)) : Int := if rgtB l = true then 0 else 20
theorem rgtE_bad {l : List (ByteArray × ByteArray)} {i : Nat} (h : i < l.length) (hb : rgtOne l i h = false) : rgtE l = 20 := by
 have : rgtB l = false := decide_eq_false fun hh => by
  have := hh.2 i h; rw [hb] at this; cases this
 unfold rgtE; rw [this]; rfl
theorem rgtE_long {l : List (ByteArray × ByteArray)} (h : 8 < l.length) : rgtE l = 20 := by
 have : rgtB l = false := decide_eq_false fun hh => by have := hh.1; omega
 unfold rgtE; rw [this]; rfl
theorem rgtE_ok {l : List (ByteArray × ByteArray)} (h : l.length ≤ 8) (hh : ∀ i (h : i < l.length), rgtOne l i h = true) : rgtE l = 0 := by
 have : rgtB l = true := decide_eq_true ⟨h, hh⟩; unfold rgtE; rw [this]; rfl
set_option maxHeartbeats 4000000 in
theorem checkC_any (v : Value) (l : List (ByteArray × ByteArray)) (w : World) (h : AtRow w v l) (hsz : ∀ x ∈ l, x.1.size ≤ maxLen ∧ x.2.size ≤ maxLen) :
 Calls Try.prog 93 #[v, .func (.func 94) #[] #[]] w fun e w' => e = .returned (.int .i64 (chgE l)) ∧ Below w.heap.size w w' := by
 obtain ⟨a, cap, rfl, h1, h2, h3⟩ := h; have hn : l.length ≤ 9223372036854775807 := Nat.le_trans h1 h2; have H3 := hid h3; have Hsz := hid hsz; clear h3 hsz; go_enter Try.func93, Try.ntmps93
 by_cases h8 : 8 < l.length
 ·have h8' : (8 : Int) < (l.length : Int) := by omega
  have HE := hid (chgE_long h8); go_wp2_with fail
  go_ret
  rw [HE.out]; exact ⟨rfl, Below.refl _ _⟩
 ·have h8' : decide ((8 : Int) < (l.length : Int)) = false := by simp; omega
  have h8'' : decide (8 < l.length) = false := by simp; omega
  go_wp2_with fail
  go_loopw [12] (fun i wr => ∃ n : Nat, i = .int .i64 (n : Int) ∧ n ≤ l.length ∧ (∀ j (h : j < l.length), j < n → chgOne l j h = true) ∧ Below w.heap.size w wr) (fun i _ => l.length - (intOf i).toNat)
  case atStart => exact ⟨0, rfl, by omega, fun j _ h => by omega, Below.refl _ _⟩
  case round =>
   obtain ⟨n, rfl, hk, hall, hB⟩ := hrel; have Hall := hid hall; clear hall
   by_cases hlt : n < l.length
   ·have hlt' : (n : Int) < (l.length : Int) := by omega
    obtain ⟨b, off, rfl, hbl, x1', z1'⟩ := H3.out n hlt; have x1 : wr.cell? ⟨b, off + n * 2, none⟩ = some (.string l[n].1) := by rw [hB.cell (by exact hbl)]; exact x1'
    have z1 : wr.cell? ⟨b, off + n * 2 + 1, none⟩ = some (.string l[n].2) := by rw [hB.cell (by exact hbl)]; exact z1'
    have hs0 := hB.size; have hbl' : b < wr.heap.size := by omega
    have HB := hid hB; obtain ⟨y1, y2⟩ := Hsz.out _ (List.getElem_mem hlt); have step : chgOne l n hlt = true → ∀ j (h : j < l.length), j < n + 1 → chgOne l j h = true := fun h0 j hj hjk => by
     by_cases e : j = n
     ·subst e; exact h0
     ·exact Hall.out j hj (by omega)
    have Step := hid step; have Bad := hid (fun h => chgE_bad hlt h); clear step Hall; cases hkb : keyB l[n].1 with
    | false =>
      have hb := hid (Bad.out (by unfold chgOne; rw [hkb]; rfl)); have kc : ∀ W : World, Calls Try.prog 107 #[.string l[n].1] W fun e w' => e = .returned (.bool false) ∧ w' = W := fun W => by have := keyD_any l[n].1 W y1; rw [hkb] at this; exact this
      have Kc := hid kc; clear Step Bad hkb kc x1' z1' hB; go_wp2_with fail
      go_quiet ((go_at_call 107; exact Calls.quiet_of_same (Kc.out _)))
      go_wp2_with fail
      go_ret
      rw [hb.out]; exact ⟨rfl, below_drewN (HB.out.alloc hs0 _) _⟩
    | true =>
      have kc : ∀ W : World, Calls Try.prog 107 #[.string l[n].1] W fun e w' => e = .returned (.bool true) ∧ w' = W := fun W => by have := keyD_any l[n].1 W y1; rw [hkb] at this; exact this
      have Kc := hid kc; clear kc; cases hvb : valB l[n].2 with
      | false =>
        have hb := hid (Bad.out (by unfold chgOne; rw [hkb, hvb]; rfl)); have vc : ∀ W : World, Calls Try.prog 94 #[.string l[n].2] W fun e w' => e = .returned (.bool false) ∧ w' = W := fun W => by have := plain_any l[n].2 W y2; rw [hvb] at this; exact this
        have Vc := hid vc; clear Step Bad hkb hvb vc x1' z1' hB; go_wp2_with fail
        go_quiet (first | (go_at_call 107; exact Calls.quiet_of_same (Kc.out _)) | (go_at_call 94; exact Calls.quiet_of_same (Vc.out _)))
        go_wp2_with fail
        go_ret
        rw [hb.out]; exact ⟨rfl, below_drewN (HB.out.alloc hs0 _) _⟩
      | true =>
        have vc : ∀ W : World, Calls Try.prog 94 #[.string l[n].2] W fun e w' => e = .returned (.bool true) ∧ w' = W := fun W => by have := plain_any l[n].2 W y2; rw [hvb] at this; exact this
        have Vc := hid vc; clear vc
        by_cases h0 : 0 < n
        ·have h0' : (0 : Int) < (n : Int) := by omega
         have hn1 : 0 ≤ (n : Int) - 1 := by omega
         have hn2 : (n : Int) - 1 < (l.length : Int) := by omega
         obtain ⟨b', off', hbo, _, x2', _⟩ := H3.out (n - 1) (by omega); simp only [Option.some.injEq, Addr.mk.injEq, and_true] at hbo; obtain ⟨rfl, rfl⟩ := hbo; have x2 : wr.cell? ⟨b, off + (n - 1) * 2, none⟩ = some (.string (l[n - 1]'(by omega)).1) := by rw [hB.cell (by exact hbl)]; exact x2'
         cases ht : Op.bytesLess (l[n - 1]'(by omega)).1.toList l[n].1.toList with
         | true =>
           have hs := hid (Step.out (by unfold chgOne; rw [hkb, hvb, dif_pos h0, ht]; rfl)); clear Step Bad hkb hvb x1' z1' x2' hB; go_wp2_with fail
           go_quiet (first | (go_at_call 107; exact Calls.quiet_of_same (Kc.out _)) | (go_at_call 94; exact Calls.quiet_of_same (Vc.out _)))
           go_wp2_with fail
           go_roundw
           case rel => exact ⟨n + 1, by go_num, by omega, hs.out, below_drewN (HB.out.alloc hs0 _) _⟩
           case measure => simp [intOf]; omega
         | false =>
           have hb := hid (Bad.out (by unfold chgOne; rw [hkb, hvb, dif_pos h0, ht]; rfl)); clear Step Bad hkb hvb x1' z1' x2' hB; go_wp2_with fail
           go_quiet (first | (go_at_call 107; exact Calls.quiet_of_same (Kc.out _)) | (go_at_call 94; exact Calls.quiet_of_same (Vc.out _)))
           go_wp2_with fail
           go_ret
           rw [hb.out]; exact ⟨rfl, below_drewN (HB.out.alloc hs0 _) _⟩
        ·have h0' : decide ((0 : Int) < (n : Int)) = false := by simp; omega
         have h0'' : decide (0 < n) = false := by simp; omega
         have hs := hid (Step.out (by unfold chgOne; rw [hkb, hvb, dif_neg h0]; rfl)); clear Step Bad hkb hvb x1' z1' hB; go_wp2_with fail
         go_quiet (first | (go_at_call 107; exact Calls.quiet_of_same (Kc.out _)) | (go_at_call 94; exact Calls.quiet_of_same (Vc.out _)))
         go_wp2_with fail
         go_roundw
         case rel => exact ⟨n + 1, by go_num, by omega, hs.out, below_drewN (HB.out.alloc hs0 _) _⟩
         case measure => simp [intOf]; omega
   ·have hkn : n = l.length := by omega
    have HE := hid (chgE_ok (by omega) fun j hj => Hall.out j hj (by omega)); subst hkn; clear Hall; go_wp2_with fail
    go_ret
    rw [HE.out]; exact ⟨rfl, hB⟩
theorem changeD_any (v : Value) (l : List (ByteArray × ByteArray)) (w : World) (h : AtRow w v l) (hsz : ∀ x ∈ l, x.1.size ≤ maxLen ∧ x.2.size ≤ maxLen) :
 Calls Try.prog 73 #[v] w fun e w' => e = .returned (.int .i64 (chgE l)) ∧ Below w.heap.size w w' := by
 go_enter Try.func73, Try.ntmps73
 go_wp2_with fail
 refine (checkC_any v l w h hsz).mono ?_; rintro e w1 ⟨rfl, hb⟩; go_wp2_with fail
 go_ret
 exact ⟨rfl, hb⟩
set_option maxHeartbeats 4000000 in
theorem checkR_any (v : Value) (l : List (ByteArray × ByteArray)) (w : World) (h : AtRow w v l) (hsz : ∀ x ∈ l, x.1.size ≤ maxLen ∧ x.2.size ≤ maxLen) :
 Calls Try.prog 93 #[v, .func (.func 99) #[] #[]] w fun e w' => e = .returned (.int .i64 (rgtE l)) ∧ Below w.heap.size w w' := by
 obtain ⟨a, cap, rfl, h1, h2, h3⟩ := h; have hn : l.length ≤ 9223372036854775807 := Nat.le_trans h1 h2; have H3 := hid h3; have Hsz := hid hsz; clear h3 hsz; go_enter Try.func93, Try.ntmps93
 by_cases h8 : 8 < l.length
 ·have h8' : (8 : Int) < (l.length : Int) := by omega
  have HE := hid (rgtE_long h8); go_wp2_with fail
  go_ret
  rw [HE.out]; exact ⟨rfl, Below.refl _ _⟩
 ·have h8' : decide ((8 : Int) < (l.length : Int)) = false := by simp; omega
  have h8'' : decide (8 < l.length) = false := by simp; omega
  go_wp2_with fail
  go_loopw [12] (fun i wr => ∃ n : Nat, i = .int .i64 (n : Int) ∧ n ≤ l.length ∧ (∀ j (h : j < l.length), j < n → rgtOne l j h = true) ∧ Below w.heap.size w wr) (fun i _ => l.length - (intOf i).toNat)
  case atStart => exact ⟨0, rfl, by omega, fun j _ h => by omega, Below.refl _ _⟩
  case round =>
   obtain ⟨n, rfl, hk, hall, hB⟩ := hrel; have Hall := hid hall; clear hall
   by_cases hlt : n < l.length
   ·have hlt' : (n : Int) < (l.length : Int) := by omega
    obtain ⟨b, off, rfl, hbl, x1', z1'⟩ := H3.out n hlt; have x1 : wr.cell? ⟨b, off + n * 2, none⟩ = some (.string l[n].1) := by rw [hB.cell (by exact hbl)]; exact x1'
    have z1 : wr.cell? ⟨b, off + n * 2 + 1, none⟩ = some (.string l[n].2) := by rw [hB.cell (by exact hbl)]; exact z1'
    have hs0 := hB.size; have hbl' : b < wr.heap.size := by omega
    have HB := hid hB; obtain ⟨y1, y2⟩ := Hsz.out _ (List.getElem_mem hlt); have step : rgtOne l n hlt = true → ∀ j (h : j < l.length), j < n + 1 → rgtOne l j h = true := fun h0 j hj hjk => by
     by_cases e : j = n
     ·subst e; exact h0
     ·exact Hall.out j hj (by omega)
    have Step := hid step; have Bad := hid (fun h => rgtE_bad hlt h); clear step Hall; cases hkb : keyB l[n].1 with
    | false =>
      have hb := hid (Bad.out (by unfold rgtOne; rw [hkb]; rfl)); have kc : ∀ W : World, Calls Try.prog 107 #[.string l[n].1] W fun e w' => e = .returned (.bool false) ∧ w' = W := fun W => by have := keyD_any l[n].1 W y1; rw [hkb] at this; exact this
      have Kc := hid kc; clear Step Bad hkb kc x1' z1' hB; go_wp2_with fail
      go_quiet ((go_at_call 107; exact Calls.quiet_of_same (Kc.out _)))
      go_wp2_with fail
      go_ret
      rw [hb.out]; exact ⟨rfl, below_drewN (HB.out.alloc hs0 _) _⟩
    | true =>
      have kc : ∀ W : World, Calls Try.prog 107 #[.string l[n].1] W fun e w' => e = .returned (.bool true) ∧ w' = W := fun W => by have := keyD_any l[n].1 W y1; rw [hkb] at this; exact this
      have Kc := hid kc; clear kc; cases hvb : valNE l[n].2 with
      | false =>
        have hb := hid (Bad.out (by unfold rgtOne; rw [hkb, hvb]; rfl)); have vc : ∀ W : World, Calls Try.prog 99 #[.string l[n].2] W fun e w' => e = .returned (.bool false) ∧ w' = W := fun W => by have := right1_any l[n].2 W y2; rw [hvb] at this; exact this
        have Vc := hid vc; clear Step Bad hkb hvb vc x1' z1' hB; go_wp2_with fail
        go_quiet (first | (go_at_call 107; exact Calls.quiet_of_same (Kc.out _)) | (go_at_call 99; exact Calls.quiet_of_same (Vc.out _)))
        go_wp2_with fail
        go_ret
        rw [hb.out]; exact ⟨rfl, below_drewN (HB.out.alloc hs0 _) _⟩
      | true =>
        have vc : ∀ W : World, Calls Try.prog 99 #[.string l[n].2] W fun e w' => e = .returned (.bool true) ∧ w' = W := fun W => by have := right1_any l[n].2 W y2; rw [hvb] at this; exact this
        have Vc := hid vc; clear vc
        by_cases h0 : 0 < n
        ·have h0' : (0 : Int) < (n : Int) := by omega
         have hn1 : 0 ≤ (n : Int) - 1 := by omega
         have hn2 : (n : Int) - 1 < (l.length : Int) := by omega
         obtain ⟨b', off', hbo, _, x2', _⟩ := H3.out (n - 1) (by omega); simp only [Option.some.injEq, Addr.mk.injEq, and_true] at hbo; obtain ⟨rfl, rfl⟩ := hbo; have x2 : wr.cell? ⟨b, off + (n - 1) * 2, none⟩ = some (.string (l[n - 1]'(by omega)).1) := by rw [hB.cell (by exact hbl)]; exact x2'
         cases ht : Op.bytesLess (l[n - 1]'(by omega)).1.toList l[n].1.toList with
         | true =>
           have hs := hid (Step.out (by unfold rgtOne; rw [hkb, hvb, dif_pos h0, ht]; rfl)); clear Step Bad hkb hvb x1' z1' x2' hB; go_wp2_with fail
           go_quiet (first | (go_at_call 107; exact Calls.quiet_of_same (Kc.out _)) | (go_at_call 99; exact Calls.quiet_of_same (Vc.out _)))
           go_wp2_with fail
           go_roundw
           case rel => exact ⟨n + 1, by go_num, by omega, hs.out, below_drewN (HB.out.alloc hs0 _) _⟩
           case measure => simp [intOf]; omega
         | false =>
           have hb := hid (Bad.out (by unfold rgtOne; rw [hkb, hvb, dif_pos h0, ht]; rfl)); clear Step Bad hkb hvb x1' z1' x2' hB; go_wp2_with fail
           go_quiet (first | (go_at_call 107; exact Calls.quiet_of_same (Kc.out _)) | (go_at_call 99; exact Calls.quiet_of_same (Vc.out _)))
           go_wp2_with fail
           go_ret
           rw [hb.out]; exact ⟨rfl, below_drewN (HB.out.alloc hs0 _) _⟩
        ·have h0' : decide ((0 : Int) < (n : Int)) = false := by simp; omega
         have h0'' : decide (0 < n) = false := by simp; omega
         have hs := hid (Step.out (by unfold rgtOne; rw [hkb, hvb, dif_neg h0]; rfl)); clear Step Bad hkb hvb x1' z1' hB; go_wp2_with fail
         go_quiet (first | (go_at_call 107; exact Calls.quiet_of_same (Kc.out _)) | (go_at_call 99; exact Calls.quiet_of_same (Vc.out _)))
         go_wp2_with fail
         go_roundw
         case rel => exact ⟨n + 1, by go_num, by omega, hs.out, below_drewN (HB.out.alloc hs0 _) _⟩
         case measure => simp [intOf]; omega
   ·have hkn : n = l.length := by omega
    have HE := hid (rgtE_ok (by omega) fun j hj => Hall.out j hj (by omega)); subst hkn; clear Hall; go_wp2_with fail
    go_ret
    rw [HE.out]; exact ⟨rfl, hB⟩
theorem rightD_any (v : Value) (l : List (ByteArray × ByteArray)) (w : World) (h : AtRow w v l) (hsz : ∀ x ∈ l, x.1.size ≤ maxLen ∧ x.2.size ≤ maxLen) :
 Calls Try.prog 77 #[v] w fun e w' => e = .returned (.int .i64 (rgtE l)) ∧ Below w.heap.size w w' := by
 go_enter Try.func77, Try.ntmps77
 go_wp2_with fail
 refine (checkR_any v l w h hsz).mono ?_; rintro e w1 ⟨rfl, hb⟩; go_wp2_with fail
 go_ret
 exact ⟨rfl, hb⟩
end
section
open Go.RowKit
open Lib (hid)
theorem rgt_of {l : List (ByteArray × ByteArray)} {i : Nat} (h : i < l.length) (hc : chgOne l i h = true) (hv : 1 ≤ l[i].2.size) : rgtOne l i h = true := by
 unfold chgOne at hc; unfold rgtOne valNE; rw [decide_eq_true hv]; exact hc
theorem rgt_empty {l : List (ByteArray × ByteArray)} {i : Nat} (h : i < l.length) (hv : l[i].2.size = 0) : rgtE l = 20 := rgtE_bad h (by
 unfold rgtOne valNE; rw [decide_eq_false (by omega)]; simp)
theorem chg_of_rgt {l : List (ByteArray × ByteArray)} (h : rgtB l = true) : chgB l = true := by
 obtain ⟨h1, h2⟩ := of_decide_eq_true h; refine decide_eq_true ⟨h1, fun i hi => ?_⟩; have := h2 i hi; unfold rgtOne valNE at this; unfold chgOne; simp only [Bool.and_eq_true] at this ⊢; exact ⟨⟨this.1.1, this.1.2.2⟩, this.2⟩
theorem rgt_of_bad {l : List (ByteArray × ByteArray)} (h : chgB l = false) : rgtE l = 20 := by
 have : rgtB l = false := by
  cases hr : rgtB l with
  | false => rfl
  | true => rw [chg_of_rgt hr] at h; cases h
 unfold rgtE; rw [this]; rfl
set_option maxHeartbeats 2000000 in
theorem right_any (v : Value) (l : List (ByteArray × ByteArray)) (w : World) (h : AtRow w v l) (hsz : ∀ x ∈ l, x.1.size ≤ maxLen ∧ x.2.size ≤ maxLen) :
 Calls Try.prog 85 #[v] w fun e w' => e = .returned (.int .i64 (rgtE l)) ∧ ∃ m, w' = w.drewN m := by
 have hcc := fun W hW => change_any v l W hW hsz; obtain ⟨a, cap, rfl, h1, h2, h3⟩ := id h; have hn : l.length ≤ 9223372036854775807 := Nat.le_trans h1 h2; have H3 := hid h3; have Hc := hid hcc; clear h3 hcc; cases hcb : chgB l with
 | false =>
   have hE : chgE l = 20 := by unfold chgE; rw [hcb]; rfl
   have hb := hid (rgt_of_bad hcb); have Hcall := hid (Hc.out w h); rw [hE] at Hcall; clear hE hcb Hc h; go_enter Try.func85, Try.ntmps85
   go_wp2_with fail
   refine Hcall.out.mono ?_; rintro e w1 ⟨rfl, m, rfl⟩
   by_cases hz : 0 < l.length
   ·have hz' : (0 : Int) < (l.length : Int) := by omega
    go_wp2_with fail
    go_loopw [4] (fun i wr => i = .int .i64 0 ∧ wr = w.drewN m) (fun i _ => 0)
    case atStart => exact ⟨rfl, rfl⟩
    case round =>
     obtain ⟨rfl, rfl⟩ := hrel; go_wp2_with fail
     go_ret
     rw [hb.out]; exact ⟨rfl, m, rfl⟩
   ·have hz' : l.length = 0 := by omega
    have hz1 : decide ((0 : Int) < (l.length : Int)) = false := decide_eq_false (by omega); have hz2 : decide (0 < l.length) = false := decide_eq_false (by omega); clear hz'; go_wp2_with fail
    go_loopw [4] (fun i wr => i = .int .i64 0 ∧ wr = w.drewN m) (fun i _ => 0)
    case atStart => exact ⟨rfl, rfl⟩
    case round =>
     obtain ⟨rfl, rfl⟩ := hrel; go_wp2_with fail
     go_ret
     rw [hb.out]; exact ⟨rfl, m, rfl⟩
 | true =>
   have hE : chgE l = 0 := by unfold chgE; rw [hcb]; rfl
   have hall := (of_decide_eq_true hcb).2; have hl8 := (of_decide_eq_true hcb).1; have Hall := hid hall; have Hcall := hid (Hc.out w h); rw [hE] at Hcall; clear hE hcb Hc h hall; go_enter Try.func85, Try.ntmps85
   go_wp2_with fail
   refine Hcall.out.mono ?_; rintro e w1 ⟨rfl, m, rfl⟩; go_wp2_with fail
   go_loopw [4] (fun i wr => ∃ n : Nat, i = .int .i64 (n : Int) ∧ n ≤ l.length ∧ (∀ j (h : j < l.length), j < n → rgtOne l j h = true) ∧ wr = w.drewN m) (fun i _ => l.length - (intOf i).toNat)
   case atStart => exact ⟨0, rfl, by omega, fun j _ h => by omega, rfl⟩
   case round =>
    obtain ⟨n, rfl, hk, hok, rfl⟩ := hrel; have Hok := hid hok; clear hok
    by_cases hlt : n < l.length
    ·have hlt' : (n : Int) < (l.length : Int) := by omega
     obtain ⟨b, off, rfl, hbl, x1, z1⟩ := H3.out n hlt
     by_cases hz : 1 ≤ l[n].2.size
     ·have t1 : (l[n].2.toList == []) = false := by rw [beq_eq_false_iff_ne]; exact fun e => by have := size_nil.1 e; omega
      have t3 : l[n].2.toList.isEmpty = false := by cases h : l[n].2.toList with | nil => rw [h] at t1; cases t1 | cons _ _ => rfl
      have step : ∀ j (h : j < l.length), j < n + 1 → rgtOne l j h = true := fun j hj hjk => by
       by_cases e : j = n
       ·subst e; exact rgt_of hlt (Hall.out j hlt) hz
       ·exact Hok.out j hj (by omega)
      have Step := hid step; clear step Hok; go_wp2_with fail
      go_roundw
      case rel => exact ⟨n + 1, by go_num, by omega, Step.out, by trivial⟩
      case measure => simp [intOf]; omega
     ·have hb := hid (rgt_empty hlt (by omega))
      have t0 : l[n].2.toList = [] := size_nil.2 (by omega); have t3 : l[n].2.toList.isEmpty = true := by rw [t0]; rfl
      clear hz Hok; go_wp2_with fail
      go_ret
      rw [hb.out]; exact ⟨rfl, m, rfl⟩
    ·have hkn : n = l.length := by omega
     have hb := hid (rgtE_ok hl8 fun j hj => Hok.out j hj (by omega)); subst hkn; clear Hok; go_wp2_with fail
     go_ret
     rw [hb.out]; exact ⟨rfl, m, rfl⟩
end
section
open Go.RowKit
open Lib (hid)
set_option maxHeartbeats 2000000 in
theorem equal_any (v u : Value) (l m : List (ByteArray × ByteArray)) (w : World) (hv : AtRow w v l) (hu : AtRow w u m) :
 Calls Try.prog 112 #[v, u] w fun e w' => e = .returned (.bool (sameB l m)) ∧ ∃ k, w' = w.drewN k := by
 obtain ⟨a, cap, rfl, h1, h2, h3⟩ := hv; obtain ⟨a', cap', rfl, h1', h2', h3'⟩ := hu; have hn : l.length ≤ 9223372036854775807 := Nat.le_trans h1 h2; have hn' : m.length ≤ 9223372036854775807 := Nat.le_trans h1' h2'; have H3 := hid h3; have H3' := hid h3'; clear h3 h3'
 by_cases hlen : l.length = m.length
 ·have Hlen := hid hlen
  have hle2 : ((l.length : Int) == (m.length : Int)) = true := by rw [hlen]; simp
  have hle3 : ((l.length : Int) != (m.length : Int)) = false := by rw [hlen]; simp
  clear hlen; go_enter Try.func112, Try.ntmps112
  go_wp2_with fail
  go_loopw [13] (fun i wr => ∃ n k : Nat, i = .int .i64 (n : Int) ∧ n ≤ l.length ∧ (∀ j (h1 : j < l.length) (h2 : j < m.length), j < n → l[j] = m[j]) ∧ wr = w.drewN k) (fun i _ => l.length - (intOf i).toNat)
  case atStart => exact ⟨0, 0, rfl, by omega, fun j _ _ h => by omega, rfl⟩
  case round =>
   obtain ⟨n, k, rfl, hk, hall, rfl⟩ := hrel; have Hall := hid hall; clear hall
   by_cases hlt : n < l.length
   ·have hlt2 : n < m.length := by have := Hlen.out; omega
    have hlt' : (n : Int) < (l.length : Int) := by omega
    have hlt2' : (n : Int) < (m.length : Int) := by omega
    obtain ⟨b, off, rfl, _, x1, z1⟩ := H3.out n hlt; obtain ⟨b', off', rfl, _, x2, z2⟩ := H3'.out n hlt2
    by_cases hk1 : l[n].1 = m[n].1
    ·by_cases hk2 : l[n].2 = m[n].2
     ·have step : ∀ j (h1 : j < l.length) (h2 : j < m.length), j < n + 1 → l[j] = m[j] := fun j hj1 hj2 hjk => by
       by_cases e : j = n
       ·subst e; exact Prod.ext hk1 hk2
       ·exact Hall.out j hj1 hj2 (by omega)
      have Step := hid step; have t1 : (l[n].1.toList == m[n].1.toList) = true := by rw [hk1]; simp
      have t2 : (l[n].2.toList == m[n].2.toList) = true := by rw [hk2]; simp
      clear step Hall hk1 hk2; go_wp2_with fail
      go_quiet (fail)
      go_wp2_with fail
      go_roundw
      case rel => exact ⟨n + 1, _, by go_num, by omega, Step.out, rfl⟩
      case measure => simp [intOf]; omega
     ·have hs := hid (sameB_at hlt hlt2 fun e => hk2 (congrArg Prod.snd e))
      have t1 : (l[n].1.toList == m[n].1.toList) = true := by rw [hk1]; simp
      have t2 : (l[n].2.toList == m[n].2.toList) = false := by rw [beq_eq_false_iff_ne]; exact fun e => hk2 (toList_ba e)
      clear Hall hk1 hk2; go_wp2_with fail
      go_quiet (fail)
      go_wp2_with fail
      go_ret
      rw [hs.out]; exact ⟨rfl, k + nq, by rw [World.drewN_drewN]⟩
    ·have hs := hid (sameB_at hlt hlt2 fun e => hk1 (congrArg Prod.fst e))
     have t1 : (l[n].1.toList == m[n].1.toList) = false := by rw [beq_eq_false_iff_ne]; exact fun e => hk1 (toList_ba e)
     clear Hall hk1; go_wp2_with fail
     go_quiet (fail)
     go_wp2_with fail
     go_ret
     rw [hs.out]; exact ⟨rfl, k + nq, by rw [World.drewN_drewN]⟩
   ·have hkn : n = l.length := by omega
    have hs := hid (sameB_all Hlen.out fun j h1 h2 => Hall.out j h1 h2 (by omega)); subst hkn; clear Hall; go_wp2_with fail
    go_ret
    rw [hs.out]; exact ⟨rfl, k, rfl⟩
 ·have hs := hid (sameB_len hlen)
  have hle2 : ((l.length : Int) == (m.length : Int)) = false := by rw [beq_eq_false_iff_ne]; omega
  have hle3 : ((l.length : Int) != (m.length : Int)) = true := by rw [bne_iff_ne]; omega
  clear hlen; go_enter Try.func112, Try.ntmps112
  go_wp2_with fail
  go_ret
  rw [hs.out]; exact ⟨rfl, 0, rfl⟩
theorem same_any (v u : Value) (l m : List (ByteArray × ByteArray)) (w : World) (hv : AtRow w v l) (hu : AtRow w u m) :
 Calls Try.prog 100 #[v, u] w fun e w' => e = .returned (.bool (sameB l m)) ∧ ∃ k, w' = w.drewN k := by
 go_enter Try.func100, Try.ntmps100
 go_wp2_with fail
 refine (equal_any v u l m w hv hu).mono ?_; rintro e w1 ⟨rfl, k, rfl⟩; go_wp2_with fail
 go_ret
 exact ⟨rfl, k, rfl⟩
end
section
open Go.RowKit
theorem clone_any (s : ByteArray) (w : World) (hs : s.size ≤ 281474976710656) :
 Calls Try.prog 98 #[.string s] w fun e w' => e = .returned (.string s) ∧ Below w.heap.size w w' := by
 go_enter Try.func98, Try.ntmps98
 go_wp2_with fail
 refine (Try.stringslite_Clone s _ hs).mono ?_; rintro e w1 ⟨rfl, hb1⟩; go_wp2_with fail
 go_ret
 exact ⟨rfl, hb1⟩
end
section
open Go.RowKit At
def flat (l : List (ByteArray × ByteArray)) : List Value := l.flatMap fun x => [Value.string x.1, Value.string x.2]
theorem flat_len (l : List (ByteArray × ByteArray)) : (flat l).length = l.length * 2 := by
 induction l with
 | nil => rfl
 | cons x r ih => simp [flat] at ih ⊢; omega
theorem flat_snoc (l : List (ByteArray × ByteArray)) (z : ByteArray × ByteArray) : flat (l ++ [z]) = flat l ++ [.string z.1, .string z.2] := by simp [flat]
theorem undAttrs : Try.prog.underlying 38 = some (.slice (Try.prog.elem 38)) := by kernel_rfl
theorem elemAttrs : Try.prog.elem 38 = 81 := by kernel_rfl
theorem infoAttr : (Try.prog.info? 81).map (fun i => (i.zero, i.size, i.bytes)) = some (some (.agg #[.string ⟨#[]⟩, .string ⟨#[]⟩]), 2, 32) := by kernel_rfl
theorem row_below {w w' : World} {B n k : Nat} {e : TypeId} {v : Value} {xs : List Value} (h : w.ownsRow B e k v n xs) (hb : Below w.heap.size w w') : w'.ownsRow B e k v n xs :=
 ⟨h.1, h.2.imp id fun ⟨g, cap, cur, a, b, c, d⟩ => ⟨g, cap, cur, a, b, (hb.block g (Array.getElem?_eq_some_iff.1 c).1).trans c, d⟩⟩
theorem of_drew {a w : World} (h : Below a.drew.heap.size a.drew w) : Below a.heap.size a w := ⟨h.os, h.tape, h.output, h.size, h.block⟩
theorem new_at2 (w : World) (u v : Value) (e : TypeId) : ∀ j x, [u, v][j]? = some x → (w.alloc (.cells #[u, v] e)).cell? ((⟨w.heap.size, 0, none⟩ : Addr).add j) = some x := by
 intro j x hj
 match j, hj with
 | 0, hj => simp at hj; subst hj; go_simp
 | 1, hj => simp at hj; subst hj; go_simp
 | j + 2, hj => simp at hj
def MergeOut (W : World) (R : List (ByteArray × ByteArray)) (e : Ending) (w' : World) : Prop := ∃ v, e = .returned v ∧ w'.ownsRow W.heap.size 81 2 v R.length (flat R) ∧ Below W.heap.size W w'
theorem ownsRow_open {w : World} {base k : Nat} {e : TypeId} {v : Value} {n : Nat} {xs : List Value} (h : w.ownsRow base e k v n xs) (hn : 0 < n) : ∃ g cap, v = .slice (some ⟨g, 0, none⟩) n cap := by
 rcases h.2 with ⟨_, h⟩ | ⟨g, cap, _, hv, _⟩
 ·omega
 ·exact ⟨g, cap, hv⟩
theorem flat_at0 {l : List (ByteArray × ByteArray)} {i : Nat} (h : i < l.length) : (flat l)[i * 2]? = some (.string l[i].1) := by
 induction l generalizing i with
 | nil => simp at h
 | cons x r ih =>
   cases i with
   | zero => rfl
   | succ i =>
     have e : (i + 1) * 2 = i * 2 + 1 + 1 := by omega
     rw [e]; exact ih (by simpa using h)
theorem flat_at1 {l : List (ByteArray × ByteArray)} {i : Nat} (h : i < l.length) : (flat l)[i * 2 + 1]? = some (.string l[i].2) := by
 induction l generalizing i with
 | nil => simp at h
 | cons x r ih =>
   cases i with
   | zero => rfl
   | succ i =>
     have e : (i + 1) * 2 + 1 = i * 2 + 1 + 1 + 1 := by omega
     rw [e]; exact ih (by simpa using h)
theorem set_same {α : Type} (l : List α) (i : Nat) (x : α) (h : l[i]? = some x) : l.set i x = l := by
 induction l generalizing i with
 | nil => rfl
 | cons a r ih =>
   cases i with
   | zero => simp at h; subst h; rfl
   | succ i => rw [List.set_cons_succ, ih i (by simpa using h)]
def RowOut (W : World) (R : List (K × V)) (E : Int) (e : Ending) (w' : World) : Prop := ∃ v, e = .returned (.tuple #[v, .int .i64 E]) ∧ w'.ownsRow W.heap.size 81 2 v R.length (flat R) ∧ Below W.heap.size W w'
def Sized (l : List (K × V)) : Prop := ∀ x ∈ l, x.1.size ≤ maxLen ∧ x.2.size ≤ maxLen
theorem rowOut_nil {W w' : World} {E : Int} (hb : Below W.heap.size W w') : RowOut W [] E (.returned (.tuple #[.slice none 0 0, .int .i64 E])) w' := ⟨_, rfl, World.ownsRow_nil _ _ _ _, hb⟩
theorem own_base {w : World} {B C k n : Nat} {e : TypeId} {v : Value} {xs : List Value} (h : w.ownsRow B e k v n xs) (hc : C ≤ B) : w.ownsRow C e k v n xs :=
 ⟨h.1, h.2.imp id fun ⟨g, cap, cur, a, b, c⟩ => ⟨g, cap, cur, a, Nat.le_trans hc b, c⟩⟩
theorem own_slice {w : World} {B k n : Nat} {e : TypeId} {v : Value} {xs : List Value} (h : w.ownsRow B e k v n xs) : ∃ a cap, v = .slice a n cap := by
 rcases h.2 with ⟨rfl, h0⟩ | ⟨g, cap, _, rfl, _⟩
 ·exact ⟨none, 0, by rw [h0]⟩
 ·exact ⟨_, _, rfl⟩
theorem row_of_own {w : World} {B : Nat} {v : Value} {R : List (K × V)} (h : w.ownsRow B 81 2 v R.length (flat R)) : AtRow w v R := by
 rcases h.2 with ⟨rfl, h0⟩ | ⟨g, cap, cur, rfl, _, hg, hn, hm, _⟩
 ·exact ⟨none, 0, by rw [h0], by omega, by simp [maxLen], fun i hi => by omega⟩
 ·refine ⟨_, cap, rfl, hn, hm, fun i hi => ⟨g, 0, rfl, (Array.getElem?_eq_some_iff.1 hg).1, ?_, ?_⟩⟩
  ·rw [Nat.zero_add, h.cellAt _ (by omega), flat_at0 hi]
  ·rw [Nat.zero_add, h.cellAt _ (by omega), flat_at1 hi]
def Proper (v : Value) : Prop := ∀ n cap, v = .slice none n cap → n = 0 ∧ cap = 0
theorem proper_own {w : World} {B k n : Nat} {e : TypeId} {v : Value} {xs : List Value} (h : w.ownsRow B e k v n xs) : Proper v := fun n' cap' he => by
 rcases h.2 with ⟨rfl, h0⟩ | ⟨g, cap, _, rfl, _⟩
 ·simp only [Value.slice.injEq, true_and] at he
  exact ⟨he.1.symm, he.2.symm⟩
 ·simp at he
theorem flat_append (l m : List (ByteArray × ByteArray)) : flat (l ++ m) = flat l ++ flat m := by simp [flat]
theorem wpList_sliced {P : Program} {ops : Array Oper} {Q : Exit → Act → World → Prop} {a : Act} {w : World} {rest : List Oper} {dst : Option Tmp} {t ty : TypeId} {pos : String} {after : Array Edge} {x : Operand} {lo hi mx : Option Operand} (v v' : Value)
 (hx : a.eval x = v) (hrun : (Instr.sliceAt t v (lo.map a.eval) (hi.map a.eval) (mx.map a.eval)).run P w = .ok v' w) (h : wpList P ops Q rest (a.put dst v') w) :
 wpList P ops Q ({ dst := dst, op := .slice t x lo hi mx, type := ty, pos := pos, after := after, guard := none } :: rest) a w :=
 wpList_plain rfl fun K hK => by
  subst hx; have hk := hK _ _ h; have e : (execOp a.eval { dst := dst, op := .slice t x lo hi mx, type := ty, pos := pos, after := after, guard := none }).run P w = .ok (.value v') w := by
   show (Sem.run P (do let v ← Instr.sliceAt t (a.eval x) (lo.map a.eval) (hi.map a.eval) (mx.map a.eval); pure (Next.value v)) w) = _
   rw [Sem.run_bind, hrun]; rfl
  show Oper.upon _ _ _ _ _ _
  rw [e]; exact hk
theorem flat_one {l : List (ByteArray × ByteArray)} : ∀ u ∈ flat l, u.oneCell' = true := fun u hu => by
 unfold flat at hu; obtain ⟨x, _, hx⟩ := List.mem_flatMap.1 hu; simp at hx; rcases hx with rfl | rfl <;> rfl
theorem flat_news {w : World} {a : Addr} {cap : Nat} {l : List (ByteArray × ByteArray)} (h : AtRow w (.slice (some a) l.length cap) l) : ∀ j u, (flat l)[j]? = some u → w.cell? (a.add j) = some u := by
 intro j u hu; obtain ⟨a', cap', he, _, _, h3⟩ := h; simp only [Value.slice.injEq, true_and] at he; obtain ⟨rfl, _⟩ := he; have hj : j < l.length * 2 := by
  rw [← flat_len]; exact (List.getElem?_eq_some_iff.1 hu).1
 obtain ⟨b, off, he, _, h5, h6⟩ := h3 (j / 2) (by omega); simp only [Option.some.injEq] at he; subst he; rw [Go.WideShapes.add_plain]
 by_cases h2 : j % 2 = 0
 ·obtain ⟨i, rfl⟩ : ∃ i, j = i * 2 := ⟨j / 2, by omega⟩
  have hi : i < l.length := by omega
  rw [flat_at0 hi] at hu; have e : i * 2 / 2 = i := by omega
  simp only [e] at h5; rw [h5]; exact hu
 ·obtain ⟨i, rfl⟩ : ∃ i, j = i * 2 + 1 := ⟨j / 2, by omega⟩
  have hi : i < l.length := by omega
  rw [flat_at1 hi] at hu; have e : (i * 2 + 1) / 2 = i := by omega
  simp only [e] at h6; rw [← Nat.add_assoc, h6]; exact hu
theorem wpList_append_row {w : World} {ops : Array Oper} {rest : List Oper} {o : Oper} {a : Act} {Q : Exit → Act → World → Prop} (hgd : o.guard = none) (s x : Operand)
 (ho : o.op = .call { callee := .builtin .append, args := #[s, x], argTypes := #[38, 38] })
 (base : Nat) (v v' : Value) (n : Nat) (xs : List Value) (m : List (ByteArray × ByteArray)) (hs : a.eval s = v) (hx : a.eval x = v') (hown : w.ownsRow base 81 2 v n xs) (hrow : AtRow w v' m) (hp : Proper v')
 (N : Nat) (ys : List Value) (hN : n + m.length = N) (hy : xs ++ flat m = ys) (h63 : N ≤ 4096) (hbase : base ≤ w.heap.size)
 (h : ∀ u w', w'.ownsRow base 81 2 u N ys → w.grownBy w' v.ownBlock → wpList Try.prog ops Q rest (a.put o.dst u) w') : wpList Try.prog ops Q (o :: rest) a w := by
 subst hN; subst hy; have h63' : n + m.length ≤ maxLen := by unfold maxLen; omega
 have hbytes : (n + m.length) * 32 ≤ 140737488355328 := by omega
 obtain ⟨i0, hi, hz0, hz1, hz2⟩ := info_parts infoAttr; have hrow' := hrow; obtain ⟨ad, cap, rfl, h1, h2, h3⟩ := hrow; cases ad with
 | none =>
   have hm : m = [] := by
    cases m with
    | nil => rfl
    | cons y r =>
      obtain ⟨b, off, he, _⟩ := h3 0 (by simp); cases he
   subst hm; obtain ⟨_, rfl⟩ := hp _ _ rfl; refine wpList_append_own_none hgd s x 38 ho base 81 i0 2 Try.underlying38 hi v n xs hs hown hx ?_; refine h v w ?_ ⟨rfl, rfl, rfl, Nat.le_refl _, fun _ _ _ => rfl⟩; have : xs ++ flat [] = xs := by simp [flat]
   rw [this]; exact hown
 | some ad =>
   refine wpList_append_own w hgd s x 38 ho base 81 i0 (.agg #[.string ⟨#[]⟩, .string ⟨#[]⟩]) 2 32 Try.underlying38 hi hz0 hz1 hz2 rfl (by decide) v n xs hs hown ad m.length cap (flat m) hx (flat_len m) (flat_news hrow') flat_one h63' hbytes hbase
    fun u w' h1 h2 _ => h u w' h1 h2
theorem wpList_append_one {w : World} {ops : Array Oper} {rest : List Oper} {o : Oper} {a : Act} {Q : Exit → Act → World → Prop} (hgd : o.guard = none) (s x : Operand)
 (ho : o.op = .call { callee := .builtin .append, args := #[s, x], argTypes := #[38, 38] })
 (base : Nat) (v : Value) (n : Nat) (xs : List Value) (p : ByteArray × ByteArray) (hs : a.eval s = v) (hx : a.eval x = .slice (some ⟨w.heap.size, 0, none⟩) 1 1) (hown : w.ownsRow base 81 2 v n xs)
 (N : Nat) (ys : List Value) (hN : n + 1 = N) (hy : xs ++ [.string p.1, .string p.2] = ys) (h63 : N ≤ 4096) (hbase : base ≤ w.heap.size)
 (h : ∀ u w', w'.ownsRow base 81 2 u N ys → (w.alloc (.cells #[.string p.1, .string p.2] 81)).grownBy w' v.ownBlock → wpList Try.prog ops Q rest (a.put o.dst u) w') :
 wpList Try.prog ops Q (o :: rest) a (w.alloc (.cells #[.string p.1, .string p.2] 81)) := by
 subst hN; subst hy; have h63' : n + 1 ≤ maxLen := by unfold maxLen; omega
 obtain ⟨i0, hi, hz0, hz1, hz2⟩ := info_parts infoAttr
 refine wpList_append_own _ hgd s x 38 ho base 81 i0 (.agg #[.string ⟨#[]⟩, .string ⟨#[]⟩]) 2 32 Try.underlying38 hi hz0 hz1 hz2 rfl (by decide) v n xs hs (hown.alloc _) ⟨w.heap.size, 0, none⟩ 1 1 [.string p.1, .string p.2] hx rfl (new_at2 _ _ _ _) (fun u hu => by simp at hu; rcases hu with rfl | rfl <;> rfl) h63' (by omega) (by simp; omega)
  fun u w' h1 h2 _ => h u w' h1 h2
theorem own_ge {w : World} {B k n : Nat} {e : TypeId} {v : Value} {xs : List Value} (h : w.ownsRow B e k v n xs) : ∀ j, v.ownBlock = some j → B ≤ j := fun j hj => (h.lt j hj).1
theorem grown_refl (w : World) (row : Option Nat) : w.grownBy w row := ⟨rfl, rfl, rfl, Nat.le_refl _, fun _ _ _ => rfl⟩
theorem grown_trans {a b c : World} {row : Option Nat} (h : a.grownBy b row) (k : b.grownBy c row) : a.grownBy c row :=
 ⟨k.os.trans h.os, k.tape.trans h.tape, k.output.trans h.output, Nat.le_trans h.size k.size, fun i hi hne => (k.block i (Nat.lt_of_lt_of_le hi h.size) hne).trans (h.block i hi hne)⟩
theorem only_drewN {a w : World} {row : Option Nat} (h : a.grownBy w row) (n : Nat) : a.grownBy (w.drewN n) row := ⟨h.os, h.tape, h.output, h.size, h.block⟩
theorem only_setCell {a w : World} {g : Nat} (h : a.grownBy w (some g)) {p : Addr} (hp : p.block = g) (u : Value) : a.grownBy (w.setCell p u) (some g) :=
 ⟨h.os, h.tape, h.output, by simpa [World.setCell] using h.size, fun i hi hne => (Below.heap_setCell w p u i (by rintro rfl; exact hne (by rw [hp]))).trans (h.block i hi hne)⟩
theorem news_any {W : World} {ao : Option Addr} {cap : Nat} {l : List (ByteArray × ByteArray)} (h : AtRow W (.slice ao l.length cap) l) : ∀ ad, ao = some ad → ∀ j u, (flat l)[j]? = some u → W.cell? (ad.add j) = some u := by
 intro ad had; subst had; exact flat_news h
theorem slice_own (g n cap k : Nat) (hk : k ≤ cap) (W : World) : (Instr.sliceAt 38 (.slice (some ⟨g, 0, none⟩) n cap) none (some (.int .i64 (k : Int))) none).run Try.prog W = .ok (.slice (some ⟨g, 0, none⟩) k cap) W := by
 rw [run_sliceAt_slice W _ _ _ _ _ undAttrs, run_slice_h W _ _ _ _ undAttrs .i64 _ (by omega) (by omega), elemAttrs, Try.sizeOf81, Int.toNat_natCast]; have e : sliced (some ⟨g, 0, none⟩) 0 k cap 2 = .slice (some ⟨g, 0, none⟩) k cap := by
  unfold sliced; split <;> simp [Addr.add]
 rw [← e]; rfl
end
end Go.Proofs.Ytchceolbbkhnnaa
