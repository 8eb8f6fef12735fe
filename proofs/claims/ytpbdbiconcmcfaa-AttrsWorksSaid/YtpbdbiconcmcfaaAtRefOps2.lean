/- The document's own Follow and Invert. -/
import Derived.Test.YtpbdbiconcmcfaaAtRefOps
namespace Go.Proofs.Ytpbdbiconcmcfaa
open Go.RowKit At

def FR (q : K × V → Bool) (l : List (K × V)) (n : Nat) : List (K × V) := (l.take n).filter q
theorem FR_succ (q : K × V → Bool) (l : List (K × V)) (n : Nat) (h : n < l.length) : FR q l (n + 1) = FR q l n ++ (if q l[n] = true then [l[n]] else []) := by
  unfold FR
  rw [List.take_succ_eq_append_getElem h, List.filter_append]
  by_cases hq : q l[n] = true
  · rw [if_pos hq, List.filter_cons, if_pos hq]; rfl
  · rw [if_neg hq, List.filter_cons, if_neg hq]; rfl
theorem FR_yes {q : K × V → Bool} {l : List (K × V)} {n : Nat} (h : n < l.length) (hq : q l[n] = true) : (FR q l n).length + 1 = (FR q l (n + 1)).length ∧ flat (FR q l n) ++ [.string l[n].1, .string l[n].2] = flat (FR q l (n + 1)) := by
  rw [FR_succ q l n h, if_pos hq]
  exact ⟨by simp, (flat_snoc _ _).symm⟩
theorem FR_not {q : K × V → Bool} {l : List (K × V)} {n : Nat} (h : n < l.length) (hq : q l[n] = false) : FR q l (n + 1) = FR q l n := by
  rw [FR_succ q l n h, if_neg (by rw [hq]; simp), List.append_nil]
theorem FR_len (q : K × V → Bool) (l : List (K × V)) (n : Nat) : (FR q l n).length ≤ l.length := by
  unfold FR
  have h1 := List.length_filter_le q (l.take n)
  have h2 : (l.take n).length ≤ l.length := by rw [List.length_take]; omega
  omega
theorem FR_all (q : K × V → Bool) (l : List (K × V)) : FR q l l.length = l.filter q := by unfold FR; rw [List.take_length]
def qFol (a : List (K × V)) (first : Bool) (x : K × V) : Bool := first || (At.look a x.1).isNone

def iOne (l : List (K × V)) (x : K × V) : Option (K × V) := if (At.look l x.1).getD emp = x.2 then none else some (x.1, (At.look l x.1).getD emp)
def IR (l c : List (K × V)) (n : Nat) : List (K × V) := (c.take n).filterMap (iOne l)
theorem IR_succ (l c : List (K × V)) (n : Nat) (h : n < c.length) : IR l c (n + 1) = IR l c n ++ (iOne l c[n]).toList := by
  unfold IR
  rw [List.take_succ_eq_append_getElem h, List.filterMap_append]
  cases hq : iOne l c[n] with
  | none => rw [List.filterMap_cons, hq]; rfl
  | some z => rw [List.filterMap_cons, hq]; rfl
theorem IR_len (l c : List (K × V)) (n : Nat) : (IR l c n).length ≤ c.length := by
  unfold IR
  have h1 := List.length_filterMap_le (iOne l) (c.take n)
  have h2 : (c.take n).length ≤ c.length := by rw [List.length_take]; omega
  omega
theorem IR_all (l c : List (K × V)) : IR l c c.length = invertL emp l c := by unfold IR; rw [List.take_length]; rfl
theorem IR_yes {l c : List (K × V)} {n : Nat} (h : n < c.length) (hq : (At.look l c[n].1).getD emp ≠ c[n].2) : (IR l c n).length + 1 = (IR l c (n + 1)).length ∧ flat (IR l c n) ++ [.string c[n].1, .string ((At.look l c[n].1).getD emp)] = flat (IR l c (n + 1)) := by
  rw [IR_succ l c n h]
  unfold iOne
  rw [if_neg hq]
  exact ⟨by simp, (flat_snoc _ (c[n].1, (At.look l c[n].1).getD emp)).symm⟩
theorem IR_not {l c : List (K × V)} {n : Nat} (h : n < c.length) (hq : (At.look l c[n].1).getD emp = c[n].2) : IR l c (n + 1) = IR l c n := by
  rw [IR_succ l c n h]
  unfold iOne
  rw [if_pos hq]
  simp

set_option maxRecDepth 100000 in
set_option maxHeartbeats 4000000 in
theorem refFollow_any (first : Bool) (v u : Value) (a b : List (ByteArray × ByteArray)) (w : World) (hv : AtRow w v a) (hu : AtRow w u b) (ha : Sized a) (hb : Sized b) :
    Calls Try.prog 13 #[v, u, .bool first] w (RowOut w (followR first a b) (followE a b)) := by
  have Hv := Lib.hid hv
  have Hu := Lib.hid hu
  have Ha := Lib.hid ha
  have Hb := Lib.hid hb
  have Hc1 := Lib.hid (change_any v a w hv ha)
  have Hc2 := Lib.hid (fun m => change_any u b (w.drewN m) (hu.below (below_drewN (Below.refl _ _) m)) hb)
  clear hv ha hb
  obtain ⟨bv, dv, rfl, bv1, bv2, bv3⟩ := hu
  have Bv := Lib.hid bv3
  have hn : b.length ≤ 9223372036854775807 := Nat.le_trans bv1 bv2
  clear bv1 bv2 bv3
  cases hra : chgB a with
  | false =>
    have h1 : chgE a = 20 ∧ followR first a b = [] ∧ followE a b = 20 := by unfold chgE followR followE; rw [hra]; exact ⟨rfl, rfl, rfl⟩
    rw [h1.2.1, h1.2.2]
    rw [h1.1] at Hc1
    clear h1 hra
    go_enter Try.func13, Try.ntmps13
    go_wp2_with fail
    refine Hc1.out.mono ?_
    rintro e w1 ⟨rfl, m, rfl⟩
    go_wp2_with fail
    go_ret2
    exact rowOut_nil (below_drewN (Below.refl _ _) _)
  | true =>
    have hE1 : chgE a = 0 := by unfold chgE; rw [hra]; rfl
    rw [hE1] at Hc1
    cases hrb : chgB b with
    | false =>
      have h1 : chgE b = 20 ∧ followR first a b = [] ∧ followE a b = 20 := by unfold chgE followR followE; rw [hra, hrb]; exact ⟨rfl, rfl, rfl⟩
      rw [h1.2.1, h1.2.2]
      rw [h1.1] at Hc2
      clear h1 hra hrb hE1
      go_enter Try.func13, Try.ntmps13
      go_wp2_with fail
      refine Hc1.out.mono ?_
      rintro e w1 ⟨rfl, m, rfl⟩
      go_wp2_with fail
      refine (Hc2.out m).mono ?_
      rintro e w1 ⟨rfl, m2, rfl⟩
      go_wp2_with fail
      go_ret2
      exact rowOut_nil (below_drewN (Below.refl _ _) _)
    | true =>
      have hE2 : chgE b = 0 := by unfold chgE; rw [hrb]; rfl
      rw [hE2] at Hc2
      have lb := (chg_iff.1 hrb).1
      have HR := Lib.hid (followE_mk first hra hrb)
      have hL : followL a b first = FR (qFol a first) b b.length := by rw [FR_all]; rfl
      have HL := Lib.hid hL
      have Hlb := Lib.hid lb
      clear hra hrb hE1 hE2 hL lb
      go_enter Try.func13, Try.ntmps13
      go_wp2_with fail
      refine Hc1.out.mono ?_
      rintro e w1 ⟨rfl, m, rfl⟩
      go_wp2_with fail
      refine (Hc2.out m).mono ?_
      rintro e w1 ⟨rfl, m2, rfl⟩
      go_wp2_with fail
      go_loopw [8, 9] (fun o i wr => ∃ n : Nat, i = .int .i64 (n : Int) ∧ n ≤ b.length ∧ wr.ownsRow w.heap.size 33 2 o (FR (qFol a first) b n).length (flat (FR (qFol a first) b n)) ∧ Below w.heap.size w wr) (fun _ i _ => b.length - (intOf i).toNat)
      case atStart => exact ⟨0, rfl, Nat.zero_le _, World.ownsRow_nil _ _ _ _, below_drewN (Below.refl _ _) _⟩
      case round =>
        obtain ⟨n, rfl, hk, hown, hbel⟩ := hrel
        have Hown := Lib.hid hown
        have Hbel := Lib.hid hbel
        by_cases hlt : n < b.length
        · have hlt' : (n : Int) < (b.length : Int) := by omega
          obtain ⟨bb, off, rfl, hbb, x1', z1'⟩ := Bv.out n hlt
          have x1 : wr.cell? ⟨bb, off + n * 2, none⟩ = some (.string b[n].1) := by rw [hbel.cell (by exact hbb)]; exact x1'
          have z1 : wr.cell? ⟨bb, off + n * 2 + 1, none⟩ = some (.string b[n].2) := by rw [hbel.cell (by exact hbb)]; exact z1'
          clear hown hbel x1' z1'
          have Hyes := Lib.hid (FR_yes (q := qFol a first) (l := b) hlt)
          have Hnot := Lib.hid (FR_not (q := qFol a first) (l := b) hlt)
          have hn8 : (FR (qFol a first) b (n + 1)).length ≤ 4096 := by have := FR_len (qFol a first) b (n + 1); have := Hlb.out; omega
          have Hn8 := Lib.hid hn8
          clear hn8
          go_wp2_with fail
          refine (find_any v a _ _ (Hv.out.below Hbel.out)).mono ?_
          rintro e w2 ⟨rfl, rfl⟩
          unfold findV
          cases first with
          | true =>
            have hy := Hyes.out rfl
            have Hy := Lib.hid hy
            clear hy Hyes Hnot
            go_wp2_with (at_builtin; refine wpList_append_one rfl (.tmp 41) (.tmp 46) rfl w.heap.size _ _ _ b[n] rfl rfl Hown.out _ _ Hy.out.1 Hy.out.2 Hn8.out Hbel.out.size ?_; intro u2 w2 o2 g2; have B2 := (Hbel.out.alloc Hbel.out.size _).grown g2 (Nat.le_trans Hbel.out.size (by simp)) (own_ge Hown.out); have HB2 := Lib.hid B2; have O2 := Lib.hid o2; clear g2 o2 B2)
            go_roundw
            case rel => exact ⟨n + 1, by go_num, by omega, O2.out, HB2.out⟩
            case measure => simp [intOf]; omega
          | false =>
            cases hf : At.look a b[n].1 with
            | none =>
              have hy := Hyes.out (by unfold qFol; rw [hf]; rfl)
              have Hy := Lib.hid hy
              clear hy hf Hyes Hnot
              go_wp2_with (at_builtin; refine wpList_append_one rfl (.tmp 41) (.tmp 46) rfl w.heap.size _ _ _ b[n] rfl rfl Hown.out _ _ Hy.out.1 Hy.out.2 Hn8.out Hbel.out.size ?_; intro u2 w2 o2 g2; have B2 := (Hbel.out.alloc Hbel.out.size _).grown g2 (Nat.le_trans Hbel.out.size (by simp)) (own_ge Hown.out); have HB2 := Lib.hid B2; have O2 := Lib.hid o2; clear g2 o2 B2)
              go_roundw
              case rel => exact ⟨n + 1, by go_num, by omega, O2.out, HB2.out⟩
              case measure => simp [intOf]; omega
            | some q =>
              have hy := Hnot.out (by unfold qFol; rw [hf]; rfl)
              have ho := Hown.out
              rw [← hy] at ho
              have Ho := Lib.hid ho
              clear hy hf Hyes Hnot ho
              go_wp2_with fail
              go_roundw
              case rel => exact ⟨n + 1, by go_num, by omega, Ho.out, Hbel.out⟩
              case measure => simp [intOf]; omega
        · have hkn : n = b.length := by omega
          subst hkn
          rw [← HL.out] at hown
          have Ho := Lib.hid hown
          clear hown hbel
          go_wp2_with fail
          go_ret2
          rw [HR.out.1, HR.out.2]
          exact ⟨_, rfl, Ho.out, Hbel.out⟩

set_option maxRecDepth 100000 in
set_option maxHeartbeats 4000000 in
theorem refInvert_any (v u : Value) (a b : List (ByteArray × ByteArray)) (w : World) (hv : AtRow w v a) (hu : AtRow w u b) (ha : Sized a) (hb : Sized b) :
    Calls Try.prog 14 #[v, u] w (RowOut w (invertR a b) (invertE a b)) := by
  have Hv := Lib.hid hv
  have Hu := Lib.hid hu
  have Ha := Lib.hid ha
  have Hb := Lib.hid hb
  have Hc1 := Lib.hid (right_any v a w hv ha)
  have Hc2 := Lib.hid (fun m => change_any u b (w.drewN m) (hu.below (below_drewN (Below.refl _ _) m)) hb)
  clear hv ha hb
  obtain ⟨bv, dv, rfl, bv1, bv2, bv3⟩ := hu
  have Bv := Lib.hid bv3
  have hn : b.length ≤ 9223372036854775807 := Nat.le_trans bv1 bv2
  clear bv1 bv2 bv3
  cases hra : rgtB a with
  | false =>
    have h1 : rgtE a = 20 ∧ invertR a b = [] ∧ invertE a b = 20 := by unfold rgtE invertR invertE; rw [hra]; exact ⟨rfl, rfl, rfl⟩
    rw [h1.2.1, h1.2.2]
    rw [h1.1] at Hc1
    clear h1 hra
    go_enter Try.func14, Try.ntmps14
    go_wp2_with fail
    refine Hc1.out.mono ?_
    rintro e w1 ⟨rfl, m, rfl⟩
    go_wp2_with fail
    go_ret2
    exact rowOut_nil (below_drewN (Below.refl _ _) _)
  | true =>
    have hE1 : rgtE a = 0 := by unfold rgtE; rw [hra]; rfl
    rw [hE1] at Hc1
    cases hrb : chgB b with
    | false =>
      have h1 : chgE b = 20 ∧ invertR a b = [] ∧ invertE a b = 20 := by unfold chgE invertR invertE; rw [hra, hrb]; exact ⟨rfl, rfl, rfl⟩
      rw [h1.2.1, h1.2.2]
      rw [h1.1] at Hc2
      clear h1 hra hrb hE1
      go_enter Try.func14, Try.ntmps14
      go_wp2_with fail
      refine Hc1.out.mono ?_
      rintro e w1 ⟨rfl, m, rfl⟩
      go_wp2_with fail
      refine (Hc2.out m).mono ?_
      rintro e w1 ⟨rfl, m2, rfl⟩
      go_wp2_with fail
      go_ret2
      exact rowOut_nil (below_drewN (Below.refl _ _) _)
    | true =>
      have hE2 : chgE b = 0 := by unfold chgE; rw [hrb]; rfl
      rw [hE2] at Hc2
      have lb := (chg_iff.1 hrb).1
      have HR := Lib.hid (invertE_mk hra hrb)
      have hL : invertL emp a b = IR a b b.length := (IR_all a b).symm
      have HL := Lib.hid hL
      have Hlb := Lib.hid lb
      clear hra hrb hE1 hE2 hL lb
      go_enter Try.func14, Try.ntmps14
      go_wp2_with fail
      refine Hc1.out.mono ?_
      rintro e w1 ⟨rfl, m, rfl⟩
      go_wp2_with fail
      refine (Hc2.out m).mono ?_
      rintro e w1 ⟨rfl, m2, rfl⟩
      go_wp2_with fail
      go_loopw [6, 7] (fun o i wr => ∃ n : Nat, i = .int .i64 (n : Int) ∧ n ≤ b.length ∧ wr.ownsRow w.heap.size 33 2 o (IR a b n).length (flat (IR a b n)) ∧ Below w.heap.size w wr) (fun _ i _ => b.length - (intOf i).toNat)
      case atStart => exact ⟨0, rfl, Nat.zero_le _, World.ownsRow_nil _ _ _ _, below_drewN (Below.refl _ _) _⟩
      case round =>
        obtain ⟨n, rfl, hk, hown, hbel⟩ := hrel
        have Hown := Lib.hid hown
        have Hbel := Lib.hid hbel
        by_cases hlt : n < b.length
        · have hlt' : (n : Int) < (b.length : Int) := by omega
          obtain ⟨bb, off, rfl, hbb, x1', z1'⟩ := Bv.out n hlt
          have x1 : wr.cell? ⟨bb, off + n * 2, none⟩ = some (.string b[n].1) := by rw [hbel.cell (by exact hbb)]; exact x1'
          have z1 : wr.cell? ⟨bb, off + n * 2 + 1, none⟩ = some (.string b[n].2) := by rw [hbel.cell (by exact hbb)]; exact z1'
          clear hown hbel x1' z1'
          have Hyes := Lib.hid (IR_yes (l := a) (c := b) hlt)
          have Hnot := Lib.hid (IR_not (l := a) (c := b) hlt)
          have hn8 : (IR a b (n + 1)).length ≤ 4096 := by have := IR_len a b (n + 1); have := Hlb.out; omega
          have Hn8 := Lib.hid hn8
          clear hn8
          go_wp2_with fail
          refine (find_any v a _ _ (Hv.out.below Hbel.out)).mono ?_
          rintro e w2 ⟨rfl, rfl⟩
          unfold findV
          have hem : (⟨#[]⟩ : ByteArray) = emp := rfl
          rw [hem]
          clear hem
          generalize (At.look a b[n].1).isSome = is
          by_cases hq : (At.look a b[n].1).getD emp = b[n].2
          · have hy := Hnot.out hq
            have ho := Hown.out
            rw [← hy] at ho
            have Ho := Lib.hid ho
            rw [hq]
            clear hy hq Hyes Hnot ho
            go_wp2_with fail
            go_roundw
            case rel => exact ⟨n + 1, by go_num, by omega, Ho.out, Hbel.out⟩
            case measure => simp [intOf]; omega
          · have hy := Hyes.out hq
            have t1 : (((At.look a b[n].1).getD emp).toList == b[n].2.toList) = false := by rw [beq_eq_false_iff_ne]; exact fun e => hq (toList_ba e)
            have t2 : (((At.look a b[n].1).getD emp).toList != b[n].2.toList) = true := by rw [bne, t1]; rfl
            generalize (At.look a b[n].1).getD emp = g at *
            have Hy := Lib.hid hy
            clear hy hq Hyes Hnot
            go_wp2_with (at_builtin; refine wpList_append_one rfl (.tmp 41) (.tmp 49) rfl w.heap.size _ _ _ (b[n].1, g) rfl rfl Hown.out _ _ Hy.out.1 Hy.out.2 Hn8.out Hbel.out.size ?_; intro u2 w2 o2 g2; have B2 := (Hbel.out.alloc Hbel.out.size _).grown g2 (Nat.le_trans Hbel.out.size (by simp)) (own_ge Hown.out); have HB2 := Lib.hid B2; have O2 := Lib.hid o2; clear g2 o2 B2)
            go_roundw
            case rel => exact ⟨n + 1, by go_num, by omega, O2.out, HB2.out⟩
            case measure => simp [intOf]; omega
        · have hkn : n = b.length := by omega
          subst hkn
          rw [← HL.out] at hown
          have Ho := Lib.hid hown
          clear hown hbel
          go_wp2_with fail
          go_ret2
          rw [HR.out.1, HR.out.2]
          exact ⟨_, rfl, Ho.out, Hbel.out⟩
end Go.Proofs.Ytpbdbiconcmcfaa
