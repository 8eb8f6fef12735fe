/- The law TupleBack, walked. -/
import Derived.Test.YtpinmkoaihjhfaaTw
namespace Go.Proofs.Ytpinmkoaihjhfaa
open Go.RowKit Su Tp
attribute [local go_sem] Oper.semAt_some

theorem key_each {l : List Pt} {p : Pt} (h : p ∈ l) : (partK p).length ≤ (keyB l).length := by
  induction l with
  | nil => cases h
  | cons q l ih =>
    rw [keyB_cons, List.length_append]
    rcases List.mem_cons.1 h with rfl | h
    · omega
    · have := ih h; omega
theorem szp_any {l : List Pt} (h : ∀ p ∈ l, okP p) (hl : (keyB l).length ≤ 1000) : SzP l := by
  intro p hp
  have h1 := key_each hp
  rcases h p hp with ⟨_, h2⟩ | ⟨h2, _⟩
  · rw [h2]; simp
  · have e : partK p = 2 :: (esc p.2.2 ++ [0, 0]) := by unfold partK; rw [if_neg (by omega)]
    rw [e] at h1
    have := esc_len p.2.2
    simp at h1
    omega
set_option maxRecDepth 100000 in
set_option maxHeartbeats 8000000 in
theorem tback_any (v : Value) (a : List Pt) (K : List UInt8) (w : World) (hv : PRow w v a) (za : SzP a) (hK : K.length ≤ 140737488355328) :
    Calls Try.prog 5 #[v, .string (txB K)] w fun e w' => e = .returned (.bool true) ∧ Below w.heap.size w w' := by
  obtain ⟨aa, ac, rfl, hac, hac2⟩ := hv.shape
  have HA := Lib.hid hv
  have HZA := Lib.hid za
  have hn : a.length ≤ 9223372036854775807 := Nat.le_trans hac hac2
  have HAW := Lib.hid (awake_any w)
  clear hv hac hac2 za
  go_enter Try.func5, Try.ntmps5
  go_wp2_with fail
  refine HAW.out.mono ?_
  rintro e w1 ⟨rfl, hb1⟩
  have HB1 := Lib.hid hb1
  have HKA := Lib.hid (key_any _ a w1 (HA.out.below hb1) HZA.out)
  clear hb1 HAW
  go_wp2_with fail
  refine HKA.out.mono ?_
  rintro e w2 ⟨rfl, hb2⟩
  have HB2 := Lib.hid (below_trans HB1.out hb2)
  clear hb2 HKA HB1
  by_cases hka : keyE a = 0
  · obtain ⟨pa, ka, la, ra⟩ := key_all hka HA.out.2
    rw [ka, hka]
    obtain ⟨X, hX⟩ : ∃ X, X = keyB a := ⟨_, rfl⟩
    rw [← hX] at la ⊢
    have HRD := Lib.hid (read_any X w2 (by omega))
    have hz := tx_size X
    have t1 : decide (100 < (X.length : Int)) = false := decide_eq_false (by omega)
    have HPA := Lib.hid (And.intro pa (And.intro ra (And.intro la hX)))
    clear hX
    clear pa ka la ra hka
    go_wp2_with fail

    refine HRD.out.mono ?_
    intro e w3 ho
    obtain ⟨hb3, vl, rfl, hov⟩ := read_yes ho HPA.out.2.1 HPA.out.1 HPA.out.2.2.2.symm HPA.out.2.2.1
    have HB3 := Lib.hid (below_trans HB2.out hb3)
    have HS := Lib.hid (same_any _ _ a a w3 hov.row (HA.out.below HB3.out))
    rw [decide_eq_true rfl] at HS
    obtain ⟨la, lc, rfl, _, _⟩ := hov.shape
    clear ho hb3 hov HRD HB2
    go_wp2_with fail
    refine HS.out.mono ?_
    rintro e w4 ⟨rfl, hb4⟩
    have HB4 := Lib.hid (below_trans HB3.out hb4)
    clear hb4 HS HB3
    have HRK := Lib.hid (read_any K w4 hK)
    go_wp2_with fail
    refine HRK.out.mono ?_
    intro e w8 ho
    obtain ⟨hb8, ho | ho | ho⟩ := ho
    · obtain ⟨_, rfl⟩ := ho
      have HB8 := Lib.hid (below_trans HB4.out hb8)
      clear hb8 HRK
      go_wp2_with fail
      go_ret
      exact ⟨rfl, HB8.out⟩
    · obtain ⟨hlen, l, vm, hr, hall, hkl, rfl, hov⟩ := ho
      have HB8 := Lib.hid (below_trans HB4.out hb8)
      have hk100 : (keyB l).length ≤ 100 := by rw [hkl]; exact hlen
      have HKM := Lib.hid (key_any _ l w8 hov.row (szp_any hr.2.2 (by omega)))
      rw [keyE_ok hr hk100, keyT_ok hr hk100, hkl] at HKM
      have tK : ((txB K).toList == (txB K).toList) = true := by simp
      obtain ⟨ma, mc, rfl, _, _⟩ := hov.shape
      clear hb8 HRK hov hk100 hkl hr hall hlen
      go_wp2_with fail
      refine HKM.out.mono ?_
      rintro e w9 ⟨rfl, hb9⟩
      have HB9 := Lib.hid (below_trans HB8.out hb9)
      clear hb9 HKM
      go_wp2_with fail
      go_ret
      exact ⟨rfl, HB9.out⟩
    · obtain ⟨_, _, rfl⟩ := ho
      have HB8 := Lib.hid (below_trans HB4.out hb8)
      clear hb8 HRK
      go_wp2_with fail
      go_ret
      exact ⟨rfl, HB8.out⟩
  · have te : (keyE a == 0) = false := by simp [hka]
    generalize keyE a = ea at *
    clear hka
    have HRK := Lib.hid (read_any K w2 hK)
    go_wp2_with fail
    refine HRK.out.mono ?_
    intro e w8 ho
    obtain ⟨hb8, ho | ho | ho⟩ := ho
    · obtain ⟨_, rfl⟩ := ho
      have HB8 := Lib.hid (below_trans HB2.out hb8)
      clear hb8 HRK
      go_wp2_with fail
      go_ret
      exact ⟨rfl, HB8.out⟩
    · obtain ⟨hlen, l, vm, hr, hall, hkl, rfl, hov⟩ := ho
      have HB8 := Lib.hid (below_trans HB2.out hb8)
      have hk100 : (keyB l).length ≤ 100 := by rw [hkl]; exact hlen
      have HKM := Lib.hid (key_any _ l w8 hov.row (szp_any hr.2.2 (by omega)))
      rw [keyE_ok hr hk100, keyT_ok hr hk100, hkl] at HKM
      have tK : ((txB K).toList == (txB K).toList) = true := by simp
      obtain ⟨ma, mc, rfl, _, _⟩ := hov.shape
      clear hb8 HRK hov hk100 hkl hr hall hlen
      go_wp2_with fail
      refine HKM.out.mono ?_
      rintro e w9 ⟨rfl, hb9⟩
      have HB9 := Lib.hid (below_trans HB8.out hb9)
      clear hb9 HKM
      go_wp2_with fail
      go_ret
      exact ⟨rfl, HB9.out⟩
    · obtain ⟨_, _, rfl⟩ := ho
      have HB8 := Lib.hid (below_trans HB2.out hb8)
      clear hb8 HRK
      go_wp2_with fail
      go_ret
      exact ⟨rfl, HB8.out⟩
theorem tback_walk (v : Value) (a : List Pt) (t : ByteArray) (w : World) (hv : PRow w v a) (za : SzP a) (ht : t.data.toList.length ≤ 140737488351232) :
    Calls Try.prog 5 #[v, .string t] w fun e w' => e = .returned (.bool true) ∧ Below w.heap.size w w' := by
  have := tback_any v a t.data.toList w hv za (by omega)
  rw [← tx_eta t] at this
  exact this
end Go.Proofs.Ytpinmkoaihjhfaa
