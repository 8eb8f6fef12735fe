/- A tuple's key: the program's Key. -/
import Derived.Test.YtpinmkoaihjhfaaTh
import Derived.Test.YtpinmkoaihjhfaaTn
namespace Go.Proofs.Ytpinmkoaihjhfaa
open Go.RowKit Su Tp
attribute [local go_sem] Oper.semAt_some

theorem putPart_any (B kb : Nat) (w0 W : World) (l : List UInt8) (p : Pt) (h : KeySt B w0 kb l W) (hl : l.length ≤ 100) (hp : okP p) (hi : InP p) (hT : p.2.2.length ≤ 9223372036854775807) :
    Calls Try.prog 21 #[valP p, putV kb] W (PartOut B kb w0 l p) := by
  obtain ⟨k, n, T⟩ := p
  rcases hp with ⟨h1, h2⟩ | ⟨h1, h2⟩
  · obtain rfl : k = 1 := h1
    obtain rfl : T = [] := h2
    refine (putInt_any B kb w0 W l n (txB []) h hl hi.2).mono ?_
    rintro e w' ⟨m, rfl, h3, h4⟩
    have e1 : partK (1, n, []) = 1 :: be 8 (lift n) := rfl
    have e2 : (l ++ partK (1, n, [])).length = l.length + 9 := by rw [e1]; simp [be_len]
    refine ⟨m, ?_, h3, ?_⟩
    · rw [e2]
    · rw [e2, e1]; exact h4
  · obtain rfl : k = 2 := h1
    obtain rfl : n = 0 := h2
    refine (putTxt_any B kb w0 W l T h hl hT).mono ?_
    rintro e w' ⟨m, rfl, h3, h4⟩
    have e1 : partK (2, 0, T) = 2 :: (esc T ++ [0, 0]) := rfl
    have e2 : (l ++ partK (2, 0, T)).length = l.length + 1 + (esc T).length + 2 := by rw [e1]; simp; omega
    refine ⟨m, ?_, h3, ?_⟩
    · rw [e2]
    · rw [e2, e1]; exact h4
theorem keyB_take (a : List Pt) (n : Nat) (h : n < a.length) : keyB (a.take (n + 1)) = keyB (a.take n) ++ partK a[n] := by
  rw [List.take_succ_eq_append_getElem h, keyB_snoc]
theorem keyB_le (a : List Pt) (n : Nat) : (keyB (a.take n)).length ≤ (keyB a).length := by
  conv => rhs; rw [← List.take_append_drop n a]
  rw [keyB_append, List.length_append]
  omega
theorem keyE_bad {a : List Pt} (h : ¬ right a) : keyE a = 110 := by unfold keyE; rw [if_neg h]
theorem keyE_long {a : List Pt} (h : right a) (hl : 100 < (keyB a).length) : keyE a = 2 := by unfold keyE; rw [if_pos h, if_neg (by omega)]
theorem keyE_ok {a : List Pt} (h : right a) (hl : (keyB a).length ≤ 100) : keyE a = 0 := by unfold keyE; rw [if_pos h, if_pos hl]
theorem keyT_ok {a : List Pt} (h : right a) (hl : (keyB a).length ≤ 100) : keyT a = keyB a := by unfold keyT; rw [if_pos (keyE_ok h hl)]
theorem keyT_no {a : List Pt} (h : keyE a ≠ 0) : keyT a = [] := by unfold keyT; rw [if_neg h]
/-- Each text is one that there can be. -/
def SzP (a : List Pt) : Prop := ∀ p ∈ a, p.2.2.length ≤ 9223372036854775807
set_option maxRecDepth 100000 in
set_option maxHeartbeats 8000000 in
theorem key_any (v : Value) (a : List Pt) (w : World) (hv : PRow w v a) (hz : SzP a) :
    Calls Try.prog 8 #[v] w fun e w' => e = .returned (.tuple #[.string (txB (keyT a)), .int .i64 (keyE a)]) ∧ Below w.heap.size w w' := by
  have HR := Lib.hid (right_any v a w hv)
  obtain ⟨aa, ac, rfl, hac, hac2⟩ := hv.shape
  have HA := Lib.hid hv
  have HZ := Lib.hid hz
  have hn : a.length ≤ 9223372036854775807 := Nat.le_trans hac hac2
  clear hv hac hac2 hz
  by_cases hr : right a
  · rw [decide_eq_true hr] at HR
    have HRT := Lib.hid hr
    clear hr
    go_enter Try.func8, Try.ntmps8
    go_wp2_with fail
    refine HR.out.mono ?_
    rintro e w1 ⟨rfl, hb1⟩
    have HB1 := Lib.hid hb1
    have hs1 := hb1.size
    have HK0 := Lib.hid (show KeySt w.heap.size w w1.heap.size [] (w1.alloc (.cells #[.slice none 0 0] 39)) from ⟨hb1.alloc hs1 _, hs1, _, heap_alloc_last w1 _, ⟨rfl, .inl ⟨rfl, rfl⟩⟩⟩)
    clear hb1 HR
    go_wp2_with fail
    go_loopw [14] (fun i wr => ∃ n : Nat, i = .int .i64 (n : Int) ∧ n ≤ a.length ∧ KeySt w.heap.size w w1.heap.size (keyB (a.take n)) wr ∧ (keyB (a.take n)).length ≤ 100) (fun i _ => a.length - (intOf i).toNat)
    case atStart => exact ⟨0, rfl, by omega, HK0.out, by simp [keyB]⟩
    case round =>
      obtain ⟨n, rfl, hk, hks, hlen⟩ := hrel
      have hb := hks.below
      have HK := Lib.hid hks
      by_cases hlt : n < a.length
      · obtain ⟨b1, o1, rfl, _, hb1, x0, x1, x2⟩ := (HA.out.below hb).at n hlt
        have hlt' : (n : Int) < (a.length : Int) := by omega
        have HT := Lib.hid (keyB_take a n hlt)
        have HLE := Lib.hid (keyB_le a (n + 1))
        have hp := HRT.out.2.2 a[n] (List.getElem_mem hlt)
        have hi := HA.out.2 a[n] (List.getElem_mem hlt)
        have hz := HZ.out a[n] (List.getElem_mem hlt)
        clear hks hb
        generalize a[n] = p at *
        have HC := Lib.hid (fun o => putPart_any w.heap.size w1.heap.size w (wr.alloc o) (keyB (a.take n)) p (HK.out.alloc o) hlen hp hi hz)
        obtain ⟨p0, p1, ps⟩ := p
        unfold valP at HC
        simp only at x0 x1 x2 HC
        generalize txB ps = PS at *
        go_wp2_with fail
        refine (HC.out _).mono ?_
        rintro e w2 ⟨m, rfl, hk2, hm⟩
        have HK2 := Lib.hid hk2
        by_cases hf : (keyB (a.take n) ++ partK (p0, p1, ps)).length ≤ 100
        · obtain rfl := hm hf
          rw [decide_eq_true hf]
          rw [← HT.out] at hf HK2
          clear hk2 hm hp hi hz
          go_wp2_with fail
          refine ⟨⟨n + 1, by rw [Int.natCast_add]; rfl, by omega, HK2.out, hf⟩, ?_⟩
          simp only [intOf]; omega
        · rw [decide_eq_false hf]
          have hl100 : 100 < (keyB a).length := by
            rw [← HT.out] at hf
            have := HLE.out
            omega
          have HE := Lib.hid (keyE_long HRT.out hl100)
          have HT2 := Lib.hid (keyT_no (a := a) (by rw [HE.out]; decide))
          clear hk2 hm hp hi hz hf
          go_wp2_with fail
          go_ret2
          exact ⟨by rw [HE.out, HT2.out]; rfl, HK2.out.below⟩
      · have hnl : n = a.length := by omega
        subst hnl
        rw [List.take_length] at hks hlen
        have HE := Lib.hid (keyE_ok HRT.out hlen)
        have HT := Lib.hid (keyT_ok HRT.out hlen)
        have HK := Lib.hid hks
        obtain ⟨v, h1, h2⟩ := hks.row
        have c1 : wr.cell? ⟨w1.heap.size, 0, none⟩ = some v := by rw [cell_of_row _ _ _ _ _ _ h1]; rfl
        have hcv := conv_row h2.row
        obtain ⟨va, vc, rfl⟩ := h2.shape
        clear h1 h2 hks hb hlt
        go_wp2_with fail
        go_ret2
        exact ⟨by rw [HE.out, HT.out]; rfl, HK.out.below⟩
  · rw [decide_eq_false hr] at HR
    have HE := Lib.hid (keyE_bad hr)
    have HT := Lib.hid (keyT_no (a := a) (by rw [keyE_bad hr]; decide))
    clear hr
    go_enter Try.func8, Try.ntmps8
    go_wp2_with fail
    refine HR.out.mono ?_
    rintro e w1 ⟨rfl, hb1⟩
    clear HR
    go_wp2_with fail
    go_ret2
    exact ⟨by rw [HE.out, HT.out]; rfl, hb1⟩
end Go.Proofs.Ytpinmkoaihjhfaa
