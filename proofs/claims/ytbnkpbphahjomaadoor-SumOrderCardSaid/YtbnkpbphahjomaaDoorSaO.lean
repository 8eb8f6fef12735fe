/- Bytes stand as their numbers do: the law's walk. -/
import Derived.Test.YtbnkpbphahjomaaDoorSa
namespace Go.Proofs.YtbnkpbphahjomaaDoor
open Go.RowKit Su

theorem be_mod (k n : Nat) : be k n = be k (n % 256 ^ k) := by
  induction k generalizing n with
  | zero => rfl
  | succ k ih =>
    rw [be_cons, be_cons, ih n, ih (n % 256 ^ (k + 1))]
    have e1 : n % 256 ^ (k + 1) % 256 ^ k = n % 256 ^ k := Nat.mod_mod_of_dvd _ ⟨256, by rw [Nat.pow_succ]⟩
    have e2 : n % 256 ^ (k + 1) / 256 ^ k = n / 256 ^ k % 256 := by rw [Nat.pow_succ, Nat.mod_mul_right_div_self]
    rw [e1, e2]
    congr 1
    apply UInt8.toNat_inj.1
    simp only [UInt8.toNat_ofNat']
    omega
theorem less_be (k n m : Nat) (hn : n < 256 ^ k) (hm : m < 256 ^ k) : Op.bytesLess (be k n) (be k m) = decide (n < m) := by
  induction k generalizing n m with
  | zero =>
    have e : ¬ n < m := by simp at hn hm; omega
    simp [be, Op.bytesLess, e]
  | succ k ih =>
    have hp : 0 < 256 ^ k := Nat.pow_pos (by decide)
    rw [be_cons, be_cons, Op.bytesLess, be_mod k n, be_mod k m, ih _ _ (Nat.mod_lt _ hp) (Nat.mod_lt _ hp)]
    have h1 : n / 256 ^ k < 256 := by rw [Nat.pow_succ] at hn; exact (Nat.div_lt_iff_lt_mul hp).2 (by rw [Nat.mul_comm]; exact hn)
    have h2 : m / 256 ^ k < 256 := by rw [Nat.pow_succ] at hm; exact (Nat.div_lt_iff_lt_mul hp).2 (by rw [Nat.mul_comm]; exact hm)
    have e1 := Nat.div_add_mod n (256 ^ k)
    have e2 := Nat.div_add_mod m (256 ^ k)
    have r1 := Nat.mod_lt n hp
    have r2 := Nat.mod_lt m hp
    generalize n / 256 ^ k = a at *
    generalize m / 256 ^ k = b at *
    generalize n % 256 ^ k = c at *
    generalize m % 256 ^ k = d at *
    have q1 : (UInt8.ofNat a < UInt8.ofNat b) ↔ a < b := by
      rw [UInt8.lt_iff_toNat_lt, UInt8.toNat_ofNat', UInt8.toNat_ofNat']
      omega
    have q2 : (UInt8.ofNat a == UInt8.ofNat b) = decide (a = b) := by
      rw [Bool.eq_iff_iff, beq_iff_eq, decide_eq_true_iff, ← UInt8.toNat_inj, UInt8.toNat_ofNat', UInt8.toNat_ofNat']
      omega
    rw [q2, Bool.eq_iff_iff]
    simp only [Bool.or_eq_true, decide_eq_true_eq, q1, Bool.and_eq_true]
    rw [← e1, ← e2]
    generalize 256 ^ k = p at *
    constructor
    · rintro (h | ⟨rfl, h⟩)
      · have h3 : a + 1 ≤ b := h
        have h4 : p * (a + 1) ≤ p * b := Nat.mul_le_mul_left _ h3
        rw [Nat.mul_add] at h4
        omega
      · omega
    · intro h
      by_cases hab : a < b
      · exact .inl hab
      · right
        have hba : b ≤ a := by omega
        have h4 : p * b ≤ p * a := Nat.mul_le_mul_left _ hba
        by_cases hne : a = b
        · subst hne; exact ⟨rfl, by omega⟩
        · have h5 : p * (b + 1) ≤ p * a := Nat.mul_le_mul_left _ (by omega)
          rw [Nat.mul_add] at h5
          omega
theorem be_inj {k n m : Nat} (hn : n < 256 ^ k) (hm : m < 256 ^ k) : (be k n = be k m) ↔ n = m := by
  constructor
  · intro h
    rw [← val_be k n hn, ← val_be k m hm, h]
  · rintro rfl; rfl

set_option maxRecDepth 100000 in
set_option maxHeartbeats 4000000 in
theorem order_walk (n m s : Int) (w : World) (hf : Fo w) (hn : -9223372036854775808 ≤ n) (hn' : n ≤ 9223372036854775807) (hm : -9223372036854775808 ≤ m) (hm' : m ≤ 9223372036854775807) (hs : -9223372036854775808 ≤ s) (hs' : s ≤ 9223372036854775807) :
    Calls Tryd.prog 6 #[.int .i64 n, .int .i64 m, .int .i64 s] w fun e w' => e = .returned (.bool true) ∧ Below w.heap.size w w' := by
  have HA := Lib.hid (awake_any w hf)
  have HN := Lib.hid (fun W : World => number_any n s W hn hn' hs hs')
  have HM := Lib.hid (fun W : World => number_any m s W hm hm' hs hs')
  go_enter Tryd.func6, Tryd.ntmps6
  go_wp2_with fail
  refine HA.out.mono ?_
  rintro e w1 ⟨rfl, hb1⟩
  have HB1 := Lib.hid hb1
  clear hb1
  go_wp2_with fail
  refine (HN.out w1).mono ?_
  rintro e w2 ⟨v2, h2, hb2⟩
  have HB2 := Lib.hid (HB1.out.trans (hb2.mono HB1.out.size))
  have HB22 := Lib.hid hb2
  clear hb2
  rcases h2 with ⟨f2, rfl, ho2⟩ | ⟨f2, rfl, rfl⟩
  · have HO2 := Lib.hid ho2
    have F2 := Lib.hid f2
    obtain ⟨a2, c2, rfl⟩ := ho2.shape
    clear ho2 f2
    go_wp2_with fail
    refine (HM.out w2).mono ?_
    rintro e w3 ⟨v3, h3, hb3⟩
    have HB3 := Lib.hid (HB2.out.trans (hb3.mono HB2.out.size))
    have HO23 := Lib.hid (HO2.out.below hb3)
    clear hb3
    rcases h3 with ⟨f3, rfl, ho3⟩ | ⟨f3, rfl, rfl⟩
    · have q1 := conv_row HO23.out.row
      have q2 := conv_row ho3.row
      obtain ⟨a3, c3, rfl⟩ := ho3.shape
      obtain ⟨kn, t, rfl, rfl, h1, h8, hlt⟩ := fits_in F2.out
      obtain ⟨km, t', rfl, e', _, _, hlt'⟩ := fits_in f3
      obtain rfl : t = t' := by omega
      have e2 : ((txB (be t kn)).toList == (txB (be t km)).toList) = decide (kn = km) := by rw [tx_beq]; exact decide_eq_decide.2 (be_inj hlt hlt')
      have e3 : Op.bytesLess (txB (be t kn)).toList (txB (be t km)).toList = decide (kn < km) := by rw [tx_list, tx_list]; exact less_be t kn km hlt hlt'
      have HE2 := Lib.hid e2
      have HE3 := Lib.hid e3
      have HB4 := HB3
      clear HO2 HO23 ho3 F2 f3 e2 e3 hlt hlt' e' HB22 HN HM HA
      simp only [Int.toNat_natCast] at q1 q2
      simp only [Int.toNat_natCast]
      generalize be t kn = X at *
      generalize be t km = Y at *
      generalize txB X = tX at *
      generalize txB Y = tY at *
      rcases Nat.lt_trichotomy kn km with h | h | h
      · have d1 : decide (kn < km) = true := decide_eq_true (by omega)
        have d3 : (kn == km) = false := by rw [beq_eq_false_iff_ne]; omega
        have d2 : ((kn : Int) == (km : Int)) = false := by rw [beq_eq_false_iff_ne]; omega
        have e2 : (tX.toList == tY.toList) = false := by rw [HE2.out]; exact decide_eq_false (by omega)
        have e3 : Op.bytesLess tX.toList tY.toList = true := by rw [HE3.out]; exact decide_eq_true h
        clear h
        go_wp2_with fail
        go_ret
        exact ⟨rfl, HB4.out⟩
      · have d1 : decide (kn < km) = false := decide_eq_false (by omega)
        have d3 : (kn == km) = true := by rw [beq_iff_eq]; omega
        have d2 : ((kn : Int) == (km : Int)) = true := by rw [beq_iff_eq]; omega
        have e2 : (tX.toList == tY.toList) = true := by rw [HE2.out]; exact decide_eq_true h
        have e3 : Op.bytesLess tX.toList tY.toList = false := by rw [HE3.out]; exact decide_eq_false (by omega)
        clear h
        go_wp2_with fail
        go_ret
        exact ⟨rfl, HB4.out⟩
      · have d1 : decide (kn < km) = false := decide_eq_false (by omega)
        have d3 : (kn == km) = false := by rw [beq_eq_false_iff_ne]; omega
        have d2 : ((kn : Int) == (km : Int)) = false := by rw [beq_eq_false_iff_ne]; omega
        have e2 : (tX.toList == tY.toList) = false := by rw [HE2.out]; exact decide_eq_false (by omega)
        have e3 : Op.bytesLess tX.toList tY.toList = false := by rw [HE3.out]; exact decide_eq_false (by omega)
        clear h
        go_wp2_with fail
        go_ret
        exact ⟨rfl, HB4.out⟩
    · clear f3 HO23
      go_wp2_with fail
      go_ret
      exact ⟨rfl, HB3.out⟩
  · clear f2
    go_wp2_with fail
    refine (HM.out w2).mono ?_
    rintro e w3 ⟨v3, h3, hb3⟩
    have HB3 := Lib.hid (HB2.out.trans (hb3.mono HB2.out.size))
    clear hb3
    rcases h3 with ⟨f3, rfl, ho3⟩ | ⟨f3, rfl, rfl⟩
    · clear f3 ho3
      go_wp2_with fail
      go_ret
      exact ⟨rfl, HB3.out⟩
    · clear f3
      go_wp2_with fail
      go_ret
      exact ⟨rfl, HB3.out⟩
end Go.Proofs.YtbnkpbphahjomaaDoor
