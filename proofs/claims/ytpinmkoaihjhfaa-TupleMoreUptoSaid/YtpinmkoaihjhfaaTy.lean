/- The law TupleMore, walked (rows within the bound on the bulk). -/
import Derived.Test.YtpinmkoaihjhfaaTw
namespace Go.Proofs.Ytpinmkoaihjhfaa
open Go.RowKit Su Tp
attribute [local go_sem] Oper.semAt_some

set_option maxRecDepth 100000 in
set_option maxHeartbeats 8000000 in
theorem tmore_any (v u : Value) (a b : List Pt) (w : World) (hv : PRow w v a) (hu : PRow w u b) (za : SzP a) (zb : SzP b) (ha : a.length ≤ 1048576) (hb : b.length ≤ 1048576) :
    Calls Try.prog 6 #[v, u] w fun e w' => e = .returned (.bool true) ∧ Below w.heap.size w w' := by
  obtain ⟨aa, ac, rfl, hac, hac2⟩ := hv.shape
  obtain ⟨ba, bc, rfl, hbc, hbc2⟩ := hu.shape
  have HA := Lib.hid hv
  have HB := Lib.hid hu
  have HZA := Lib.hid za
  have HZB := Lib.hid zb
  have hn : a.length ≤ 9223372036854775807 := Nat.le_trans hac hac2
  have hn' : b.length ≤ 9223372036854775807 := Nat.le_trans hbc hbc2
  have HAW := Lib.hid (awake_any w)
  clear hv hu hac hac2 hbc hbc2 za zb
  go_enter Try.func6, Try.ntmps6
  go_wp2_with fail
  refine HAW.out.mono ?_
  rintro e w1 ⟨rfl, hb1⟩
  have HB1 := Lib.hid hb1
  have HKA := Lib.hid (key_any _ a w1 (HA.out.below hb1) HZA.out)
  clear hb1 HAW
  go_wp2_with fail
  refine HKA.out.mono ?_
  rintro e w2 ⟨rfl, hb2⟩
  have HB2 := Lib.hid (below_trans HB1.out hb2)
  have HKB := Lib.hid (key_any _ b w2 (HB.out.below HB2.out) HZB.out)
  clear hb2 HKA HB1
  go_wp2_with fail
  refine HKB.out.mono ?_
  rintro e w3 ⟨rfl, hb3⟩
  have HB3 := Lib.hid (below_trans HB2.out hb3)
  have hs3 := HB3.out.size
  clear hb3 HKB HB2
  obtain ⟨u1, w4, hr1, ho1, hg1⟩ := run_append_parts (w := w3) 22 w.heap.size (.slice none 0 0) (.slice aa a.length ac) [] a (nilT _ _) (HA.out.below HB3.out) (by simp; omega) hs3
  rw [List.nil_append] at ho1
  have hb4 : Below w.heap.size w w4 := HB3.out.grown hg1 hs3 (fun g hg => by simp [Value.ownBlock] at hg)
  obtain ⟨u2, w5, hr2, ho2, hg2⟩ := run_append_parts (w := w4) 22 w.heap.size u1 (.slice ba b.length bc) a b ho1 (HB.out.below hb4) (by omega) hb4.size
  have HB5 := Lib.hid (hb4.grown hg2 hb4.size (fun g hg => (ho1.lt g hg).1))
  generalize hL : a ++ b = L at ho2
  obtain ⟨oa, oc, rfl, _, _⟩ := ho2.shape
  have HKC := Lib.hid (key_any _ L w5 ho2.row (fun p hp => by
    rw [← hL] at hp
    rcases List.mem_append.1 hp with h | h
    · exact HZA.out p h
    · exact HZB.out p h))
  have HL := Lib.hid hL
  clear ho1 ho2 hg1 hg2 hb4 hL
  go_wp2_with (first
    | (refine wpList_appended rfl _ _ 22 22 rfl (.slice none 0 0) (.slice aa a.length ac) u1 rfl rfl hr1 ?_; clear hr1)
    | (refine wpList_appended rfl _ _ 22 22 rfl u1 (.slice ba b.length bc) (.slice oa L.length oc) rfl rfl hr2 ?_; clear hr2))
  refine HKC.out.mono ?_
  rintro e w6 ⟨rfl, hb6⟩
  have HB6 := Lib.hid (below_trans HB5.out hb6)
  clear hb6 HKC HB5
  by_cases hka : keyE a = 0
  · by_cases hkb : keyE b = 0
    · obtain ⟨pa, ka, la, ra⟩ := key_all hka HA.out.2
      obtain ⟨pb, kb, lb, rb⟩ := key_all hkb HB.out.2
      have hall : ∀ p ∈ a ++ b, okP p := fun p hp => by
        rcases List.mem_append.1 hp with h | h
        · exact ra.2.2 p h
        · exact rb.2.2 p h
      have hkl : keyB L = keyB a ++ keyB b := by rw [← HL.out]; exact keyB_append a b
      have hll : L.length = a.length + b.length := by rw [← HL.out]; exact List.length_append
      have h0 : 0 < L.length := by have := ra.1; omega
      rw [HL.out] at hall
      have HRR := Lib.hid (show right L ↔ a.length + b.length ≤ 8 from ⟨fun h => by have := h.2.1; omega, fun h => ⟨h0, by omega, hall⟩⟩)
      rw [ka, kb, hka, hkb]
      have hzx := tx_size (keyB a)
      have hzy := tx_size (keyB b)
      have hap := tx_append (keyB a) (keyB b)
      have HLL := Lib.hid (show (keyB L).length = (keyB a).length + (keyB b).length by rw [hkl, List.length_append])
      have HKL := Lib.hid hkl
      clear ka kb pa pb ra rb hka hkb hall h0 hkl
      generalize keyB a = X at *
      generalize keyB b = Y at *
      by_cases h8 : a.length + b.length ≤ 8
      · have hr := HRR.out.2 h8
        by_cases h100 : X.length + Y.length ≤ 100
        · rw [keyE_ok hr (by rw [HLL.out]; exact h100), keyT_ok hr (by rw [HLL.out]; exact h100), HKL.out]
          have tq : ((txB (X ++ Y)).toList == (txB (X ++ Y)).toList) = true := by simp
          clear hr
          go_wp2_with fail
          go_ret
          exact ⟨rfl, HB6.out⟩
        · rw [keyE_long hr (by rw [HLL.out]; omega)]
          have t1 : decide (100 < (X.length : Int) + (Y.length : Int)) = true := decide_eq_true (by omega)
          clear hr
          generalize txB (keyT L) = Z at *
          go_wp2_with fail
          go_ret
          exact ⟨rfl, HB6.out⟩
      · rw [keyE_bad (fun h => h8 (HRR.out.1 h))]
        have t1 : decide (8 < (L.length : Int)) = true := decide_eq_true (by omega)
        have t2 : decide (8 < (a.length : Int) + (b.length : Int)) = true := decide_eq_true (by omega)
        have t3 : 8 < a.length + b.length := by omega
        generalize txB (keyT L) = Z at *
        go_wp2_with fail
        go_ret
        exact ⟨rfl, HB6.out⟩
    · have te : (keyE b != 0) = true := by simp [hkb]
      generalize keyE b = eb at *
      generalize keyE L = ec at *
      generalize txB (keyT L) = Z at *
      rw [hka]
      go_wp2_with fail
      go_ret
      exact ⟨rfl, HB6.out⟩
  · have te : (keyE a != 0) = true := by simp [hka]
    generalize keyE a = ea at *
    generalize keyE L = ec at *
    generalize txB (keyT L) = Z at *
    go_wp2_with fail
    go_ret
    exact ⟨rfl, HB6.out⟩
end Go.Proofs.Ytpinmkoaihjhfaa
