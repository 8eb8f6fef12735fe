import Derived.Test.YtchceolbbkhnnaaGB3
import Derived.Test.YtchceolbbkhnnaaGA1
import Derived.Laws.AppendOwnNone
namespace Go.Proofs.Ytchceolbbkhnnaa
section
open Go.RowKit At
def pos (l : List (K × V)) (p : K × V) : Nat := (l.takeWhile fun x => ltB x.1 p.1).length
end
section
open Go.RowKit
def findV (l : List (ByteArray × ByteArray)) (k : ByteArray) : Value := .tuple #[.string ((At.look l k).getD ⟨#[]⟩), .bool (At.look l k).isSome]
set_option maxHeartbeats 1000000 in
theorem find_any (v : Value) (l : List (ByteArray × ByteArray)) (k : ByteArray) (w : World) (h : AtRow w v l) : Calls Try.prog 67 #[v, .string k] w fun e w' => e = .returned (findV l k) ∧ w' = w := by
 obtain ⟨a, cap, rfl, h1, h2, h3⟩ := h; have hn : l.length ≤ 9223372036854775807 := Nat.le_trans h1 h2; have H3 := Lib.hid h3; clear h3; go_enter Try.func67, Try.ntmps67
 go_wp2_with fail
 go_loopw [6] (fun i wr => ∃ n : Nat, i = .int .i64 (n : Int) ∧ n ≤ l.length ∧ (∀ j (h : j < l.length), j < n → l[j].1 ≠ k) ∧ wr = w) (fun i _ => l.length - (intOf i).toNat)
 case atStart => exact ⟨0, rfl, by omega, fun j _ h => by omega, rfl⟩
 case round =>
  obtain ⟨n, rfl, hk, hall, rfl⟩ := hrel; have Hall := Lib.hid hall; clear hall
  by_cases hlt : n < l.length
  ·have hlt' : (n : Int) < (l.length : Int) := by omega
   obtain ⟨b, off, rfl, _, x1, z1⟩ := H3.out n hlt
   by_cases he : l[n].1 = k
   ·have hf := look_step l k n hlt Hall.out he
    have Hf : Hid (findV l k = .tuple #[.string l[n].2, .bool true]) := by show _ = _; unfold findV; rw [hf]; rfl
    rw [he] at x1; clear hf he Hall; go_wp2_with fail
    go_ret2
    rw [Hf.out]; exact ⟨rfl, rfl⟩
   ·have step : ∀ j (h : j < l.length), j < n + 1 → l[j].1 ≠ k := fun j hj hjk => by
     by_cases e : j = n
     ·subst e; exact he
     ·exact Hall.out j hj (by omega)
    have Step := Lib.hid step; have hne : (l[n].1.toList == k.toList) = false := by rw [beq_eq_false_iff_ne]; exact fun e => he (toList_ba e)
    clear step he Hall; go_wp2_with fail
    go_roundw
    case rel => exact ⟨n + 1, by go_num, by omega, Step.out, by trivial⟩
    case measure => simp [intOf]; omega
  ·have hkn : n = l.length := by omega
   subst hkn; have hf := look_all l k fun j hj => Hall.out j hj hj; have Hf : Hid (findV l k = .tuple #[.string ⟨#[]⟩, .bool false]) := by show _ = _; unfold findV; rw [hf]; rfl
   clear hf Hall; go_wp2_with fail
   go_ret2
   rw [Hf.out]; exact ⟨rfl, rfl⟩
end
section
open Go.RowKit At
end
section
open Go.RowKit At
open Lib (hid)
def FR (q : K × V → Bool) (l : List (K × V)) (n : Nat) : List (K × V) := (l.take n).filter q
theorem FR_succ (q : K × V → Bool) (l : List (K × V)) (n : Nat) (h : n < l.length) : FR q l (n + 1) = FR q l n ++ (if q l[n] = true then [l[n]] else []) := by
 unfold FR; rw [List.take_succ_eq_append_getElem h, List.filter_append]
 by_cases hq : q l[n] = true
 ·rw [if_pos hq, List.filter_cons, if_pos hq]; rfl
 ·rw [if_neg hq, List.filter_cons, if_neg hq]; rfl
theorem FR_yes {q : K × V → Bool} {l : List (K × V)} {n : Nat} (h : n < l.length) (hq : q l[n] = true) : (FR q l n).length + 1 = (FR q l (n + 1)).length ∧ flat (FR q l n) ++ [.string l[n].1, .string l[n].2] = flat (FR q l (n + 1)) := by
 rw [FR_succ q l n h, if_pos hq]; exact ⟨by simp, (flat_snoc _ _).symm⟩
theorem FR_not {q : K × V → Bool} {l : List (K × V)} {n : Nat} (h : n < l.length) (hq : q l[n] = false) : FR q l (n + 1) = FR q l n := by
 rw [FR_succ q l n h, if_neg (by rw [hq]; simp), List.append_nil]
theorem FR_len (q : K × V → Bool) (l : List (K × V)) (n : Nat) : (FR q l n).length ≤ l.length := by
 unfold FR; have h1 := List.length_filter_le q (l.take n); have h2 : (l.take n).length ≤ l.length := by rw [List.length_take]; omega
 omega
theorem FR_all (q : K × V → Bool) (l : List (K × V)) : FR q l l.length = l.filter q := by unfold FR; rw [List.take_length]
def qFol (a : List (K × V)) (first : Bool) (x : K × V) : Bool := first || (At.look a x.1).isNone
set_option maxRecDepth 100000 in
set_option maxHeartbeats 4000000 in
theorem refFollow_any (first : Bool) (v u : Value) (a b : List (ByteArray × ByteArray)) (w : World) (hv : AtRow w v a) (hu : AtRow w u b) (ha : Sized a) (hb : Sized b) :
 Calls Try.prog 42 #[v, u, .bool first] w (RowOut w (followR first a b) (followE a b)) := by
 have Hv := hid hv; have Hu := hid hu; have Ha := hid ha; have Hb := hid hb; have Hc1 := hid (change_any v a w hv ha); have Hc2 := hid (fun m => change_any u b (w.drewN m) (hu.below (below_drewN (Below.refl _ _) m)) hb); clear hv ha hb; obtain ⟨bv, dv, rfl, bv1, bv2, bv3⟩ := hu; have Bv := hid bv3; have hn : b.length ≤ 9223372036854775807 := Nat.le_trans bv1 bv2; clear bv1 bv2 bv3; cases hra : chgB a with
 | false =>
   have h1 : chgE a = 20 ∧ followR first a b = [] ∧ followE a b = 20 := by unfold chgE followR followE; rw [hra]; exact ⟨rfl, rfl, rfl⟩
   rw [h1.2.1, h1.2.2]; rw [h1.1] at Hc1; clear h1 hra; go_enter Try.func42, Try.ntmps42
   go_wp2_with fail
   refine Hc1.out.mono ?_; rintro e w1 ⟨rfl, m, rfl⟩; go_wp2_with fail
   go_ret2
   exact rowOut_nil (below_drewN (Below.refl _ _) _)
 | true =>
   have hE1 : chgE a = 0 := by unfold chgE; rw [hra]; rfl
   rw [hE1] at Hc1; cases hrb : chgB b with
   | false =>
     have h1 : chgE b = 20 ∧ followR first a b = [] ∧ followE a b = 20 := by unfold chgE followR followE; rw [hra, hrb]; exact ⟨rfl, rfl, rfl⟩
     rw [h1.2.1, h1.2.2]; rw [h1.1] at Hc2; clear h1 hra hrb hE1; go_enter Try.func42, Try.ntmps42
     go_wp2_with fail
     refine Hc1.out.mono ?_; rintro e w1 ⟨rfl, m, rfl⟩; go_wp2_with fail
     refine (Hc2.out m).mono ?_; rintro e w1 ⟨rfl, m2, rfl⟩; go_wp2_with fail
     go_ret2
     exact rowOut_nil (below_drewN (Below.refl _ _) _)
   | true =>
     have hE2 : chgE b = 0 := by unfold chgE; rw [hrb]; rfl
     rw [hE2] at Hc2; have lb := (chg_iff.1 hrb).1; have HR := hid (followE_mk first hra hrb); have hL : followL a b first = FR (qFol a first) b b.length := by rw [FR_all]; rfl
     have HL := hid hL; have Hlb := hid lb; clear hra hrb hE1 hE2 hL lb; go_enter Try.func42, Try.ntmps42
     go_wp2_with fail
     refine Hc1.out.mono ?_; rintro e w1 ⟨rfl, m, rfl⟩; go_wp2_with fail
     refine (Hc2.out m).mono ?_; rintro e w1 ⟨rfl, m2, rfl⟩; go_wp2_with fail
     go_loopw [8, 9] (fun o i wr => ∃ n : Nat, i = .int .i64 (n : Int) ∧ n ≤ b.length ∧ wr.ownsRow w.heap.size 81 2 o (FR (qFol a first) b n).length (flat (FR (qFol a first) b n)) ∧ Below w.heap.size w wr) (fun _ i _ => b.length - (intOf i).toNat)
     case atStart => exact ⟨0, rfl, Nat.zero_le _, World.ownsRow_nil _ _ _ _, below_drewN (Below.refl _ _) _⟩
     case round =>
      obtain ⟨n, rfl, hk, hown, hbel⟩ := hrel; have Hown := hid hown; have Hbel := hid hbel
      by_cases hlt : n < b.length
      ·have hlt' : (n : Int) < (b.length : Int) := by omega
       obtain ⟨bb, off, rfl, hbb, x1', z1'⟩ := Bv.out n hlt; have x1 : wr.cell? ⟨bb, off + n * 2, none⟩ = some (.string b[n].1) := by rw [hbel.cell (by exact hbb)]; exact x1'
       have z1 : wr.cell? ⟨bb, off + n * 2 + 1, none⟩ = some (.string b[n].2) := by rw [hbel.cell (by exact hbb)]; exact z1'
       clear hown hbel x1' z1'; have Hyes := hid (FR_yes (q := qFol a first) (l := b) hlt); have Hnot := hid (FR_not (q := qFol a first) (l := b) hlt); have hn8 : (FR (qFol a first) b (n + 1)).length ≤ 4096 := by have := FR_len (qFol a first) b (n + 1); have := Hlb.out; omega
       have Hn8 := hid hn8; clear hn8; go_wp2_with fail
       refine (find_any v a _ _ (Hv.out.below Hbel.out)).mono ?_; rintro e w2 ⟨rfl, rfl⟩; unfold findV; cases first with
       | true =>
         have hy := Hyes.out rfl; have Hy := hid hy; clear hy Hyes Hnot; go_wp2_with (at_builtin; refine wpList_append_one rfl (.tmp 41) (.tmp 46) rfl w.heap.size _ _ _ b[n] rfl rfl Hown.out _ _ Hy.out.1 Hy.out.2 Hn8.out Hbel.out.size ?_; intro u2 w2 o2 g2; have B2 := (Hbel.out.alloc Hbel.out.size _).grown g2 (Nat.le_trans Hbel.out.size (by simp)) (own_ge Hown.out); have HB2 := hid B2; have O2 := hid o2; clear g2 o2 B2)
         go_roundw
         case rel => exact ⟨n + 1, by go_num, by omega, O2.out, HB2.out⟩
         case measure => simp [intOf]; omega
       | false =>
         cases hf : At.look a b[n].1 with
         | none =>
           have hy := Hyes.out (by unfold qFol; rw [hf]; rfl); have Hy := hid hy; clear hy hf Hyes Hnot; go_wp2_with (at_builtin; refine wpList_append_one rfl (.tmp 41) (.tmp 46) rfl w.heap.size _ _ _ b[n] rfl rfl Hown.out _ _ Hy.out.1 Hy.out.2 Hn8.out Hbel.out.size ?_; intro u2 w2 o2 g2; have B2 := (Hbel.out.alloc Hbel.out.size _).grown g2 (Nat.le_trans Hbel.out.size (by simp)) (own_ge Hown.out); have HB2 := hid B2; have O2 := hid o2; clear g2 o2 B2)
           go_roundw
           case rel => exact ⟨n + 1, by go_num, by omega, O2.out, HB2.out⟩
           case measure => simp [intOf]; omega
         | some q =>
           have hy := Hnot.out (by unfold qFol; rw [hf]; rfl); have ho := Hown.out; rw [← hy] at ho; have Ho := hid ho; clear hy hf Hyes Hnot ho; go_wp2_with fail
           go_roundw
           case rel => exact ⟨n + 1, by go_num, by omega, Ho.out, Hbel.out⟩
           case measure => simp [intOf]; omega
      ·have hkn : n = b.length := by omega
       subst hkn; rw [← HL.out] at hown; have Ho := hid hown; clear hown hbel; go_wp2_with fail
       go_ret2
       rw [HR.out.1, HR.out.2]; exact ⟨_, rfl, Ho.out, Hbel.out⟩
end
end Go.Proofs.Ytchceolbbkhnnaa
