/- A text's bytes put behind a key: the program's putPart. -/
import Derived.Test.YtpinmkoaihjhfaaTm
namespace Go.Proofs.Ytpinmkoaihjhfaa
open Go.RowKit Su Tp
attribute [local go_sem] Oper.semAt_some

theorem esc_one (x : UInt8) : esc [x] = if x = 0 then [0, 255] else [x] := by rw [esc]; rfl
theorem esc_take (T : List UInt8) (k : Nat) (hk : k < T.length) : esc (T.take (k + 1)) = esc (T.take k) ++ (if T[k] = 0 then [0, 255] else [T[k]]) := by
  rw [List.take_succ_eq_append_getElem hk, esc_append, esc_one]
theorem esc_le (T : List UInt8) (k : Nat) : (esc (T.take k)).length ≤ (esc T).length := by
  conv => rhs; rw [← List.take_append_drop k T]
  rw [esc_append, List.length_append]
  omega
set_option maxRecDepth 100000 in
set_option maxHeartbeats 8000000 in
theorem putTxt_any (B kb : Nat) (w0 W : World) (l T : List UInt8) (h : KeySt B w0 kb l W) (hl : l.length ≤ 100) (hT : T.length ≤ 9223372036854775807) :
    Calls Try.prog 21 #[.agg #[.int .i64 2, .int .i64 0, .string (txB T)], putV kb] W fun e w' => ∃ m, e = .returned (.bool (decide (l.length + 1 + (esc T).length + 2 ≤ 100))) ∧ KeySt B w0 kb m w' ∧ (l.length + 1 + (esc T).length + 2 ≤ 100 → m = l ++ 2 :: (esc T ++ [0, 0])) := by
  have hz := tx_size T
  obtain ⟨N, hN⟩ : ∃ N, N = l.length + 1 + (esc T).length := ⟨_, rfl⟩
  rw [← hN]
  have HN := Lib.hid hN
  clear hN
  obtain ⟨D, hD⟩ : ∃ D, D = decide (N + 2 ≤ 100) := ⟨_, rfl⟩
  rw [← hD]
  have HD := Lib.hid hD
  clear hD
  go_enter Try.func21, Try.ntmps21
  go_wp2_with fail
  have k1 := (h.alloc (.cells #[.int .i64 2, .int .i64 0, .string (txB T)] 25)).alloc (.cells #[.int .u8 2] 5)
  have p1 : ((W.alloc (.cells #[.int .i64 2, .int .i64 0, .string (txB T)] 25)).alloc (.cells #[.int .u8 2] 5)).heap[W.heap.size]? = some (.cells #[.int .i64 2, .int .i64 0, .string (txB T)] 25) := two_at _ _ _
  have HP1 := Lib.hid p1
  refine (put_any B kb w0 _ l [2] _ k1 (one_row W _ 2) (by omega) (by simp)).mono ?_
  rintro e w1 ⟨rfl, k2, kp⟩
  have HK2 := Lib.hid k2
  have HP2 := Lib.hid (kp _ _ _ HP1.out)
  have HD0 := Lib.hid (show decide ((l ++ [2]).length ≤ 100) = decide (l.length + 1 ≤ 100) by rw [List.length_append]; rfl)
  rw [HD0.out]
  obtain ⟨D0, hD0⟩ : ∃ D0, D0 = decide (l.length + 1 ≤ 100) := ⟨_, rfl⟩
  rw [← hD0]
  have HD0 := Lib.hid hD0
  clear k1 k2 kp p1 h hD0
  go_wp2_with fail
  go_loopw [5, 6] (fun f i wr => ∃ (g : Bool) (k : Nat) (lx : List UInt8), f = .bool g ∧ i = .int .i64 (k : Int) ∧ k ≤ T.length ∧ KeySt B w0 kb lx wr ∧ wr.heap[W.heap.size]? = some (.cells #[.int .i64 2, .int .i64 0, .string (txB T)] 25) ∧ (g = true → lx = l ++ 2 :: esc (T.take k) ∧ lx.length ≤ 100) ∧ (g = false → 100 < N)) (fun _ i _ => T.length - (intOf i).toNat)
  case atStart =>
    refine ⟨D0, 0, _, rfl, rfl, by omega, HK2.out, HP2.out, fun hg => ?_, fun hg => ?_⟩
    · rw [HD0.out, decide_eq_true_eq] at hg
      exact ⟨by simp [esc], by simp; omega⟩
    · rw [HD0.out, decide_eq_false_iff_not] at hg
      have := HN.out
      omega
  case round =>
    obtain ⟨g, k, lx, rfl, rfl, hk, hks, hp, hgt, hgf⟩ := hrel
    have c2 : wr.cell? ⟨W.heap.size, 2, none⟩ = some (.string (txB T)) := by rw [cell_of_row _ _ _ _ _ _ hp]; rfl
    have HK := Lib.hid hks
    have HP := Lib.hid hp
    clear hks hp
    cases g with
    | false =>
      have hlt := hgf rfl
      obtain rfl : D = false := by rw [HD.out]; exact decide_eq_false (by omega)
      have HNB := Lib.hid (show ¬ N + 2 ≤ 100 by omega)
      clear hgt hgf hlt
      go_wp2_with fail
      go_ret
      exact ⟨_, rfl, HK.out, fun h => absurd h HNB.out⟩
    | true =>
      obtain ⟨rfl, hlen⟩ := hgt rfl
      clear hgf hgt
      by_cases hlt : k < T.length
      · have tl : decide ((k : Int) < (T.length : Int)) = true := decide_eq_true (by omega)
        have tl2 : (k : Int) < (T.length : Int) := by omega
        have hg := tx_get T k hlt (by rw [hz]; exact hlt)
        have hE := Lib.hid (esc_take T k hlt)
        have hL := Lib.hid (esc_le T (k + 1))
        have hbyte := u8_lt T[k]
        generalize T[k] = x at *
        have HO := Lib.hid (put_any B kb w0 _ (l ++ 2 :: esc (T.take k)) [x] _ (HK.out.alloc (.cells #[.int .u8 (x.toNat : Int)] 5)) (own_one wr x _ rfl).row (by omega) (by simp))
        have HP2 := Lib.hid ((KpP.below ((Below.refl wr.heap.size wr).alloc (Nat.le_refl _) (.cells #[.int .u8 (x.toNat : Int)] 5))) _ _ _ HP.out)
        clear hlen
        go_wp2_with fail
        refine HO.out.mono ?_
        rintro e w2 ⟨rfl, hk2, kp⟩
        have HK2 := Lib.hid hk2
        have HP3 := Lib.hid (kp _ _ _ HP2.out)
        have c3 : w2.cell? ⟨W.heap.size, 2, none⟩ = some (.string (txB T)) := by rw [cell_of_row _ _ _ _ _ _ HP3.out]; rfl
        clear hk2 kp c2
        by_cases hf : (l ++ 2 :: esc (T.take k) ++ [x]).length ≤ 100
        · have HF := Lib.hid hf
          rw [decide_eq_true hf]
          clear hf
          by_cases hx : x = 0
          · have tx : ((x.toNat : Int) != 0) = false := by rw [hx]; rfl
            have HE2 := Lib.hid (show esc (T.take (k + 1)) = esc (T.take k) ++ [0, 255] by rw [hE.out, if_pos hx])
            have HX := Lib.hid hx
            clear hx
            have HO2 := Lib.hid (put_any B kb w0 _ (l ++ 2 :: esc (T.take k) ++ [x]) [255] _ (HK2.out.alloc (.cells #[.int .u8 255] 5)) (own_one w2 255 255 rfl).row (by have := HF.out; omega) (by simp))
            have hex : ∃ D3 : Bool, D3 = decide ((l ++ 2 :: esc (T.take k) ++ [x] ++ [255]).length ≤ 100) := ⟨_, rfl⟩
            obtain ⟨D3, hD3⟩ := hex
            rw [← hD3] at HO2
            have HD3 := Lib.hid hD3
            clear hD3
            have HP4 := Lib.hid ((KpP.below ((Below.refl w2.heap.size w2).alloc (Nat.le_refl _) (.cells #[.int .u8 255] 5))) _ _ _ HP3.out)
            go_wp2_with fail
            refine HO2.out.mono ?_
            rintro e w3 ⟨rfl, hk3, kp3⟩
            have HK3 := Lib.hid hk3
            have HP5 := Lib.hid (kp3 _ _ _ HP4.out)
            have HL3 := Lib.hid (show (l ++ 2 :: esc (T.take k) ++ [x] ++ [255]).length = l.length + 1 + (esc (T.take (k + 1))).length by rw [HE2.out]; simp; omega)
            have HA3 := Lib.hid (show l ++ 2 :: esc (T.take k) ++ [x] ++ [255] = l ++ 2 :: esc (T.take (k + 1)) by rw [HE2.out, HX.out]; simp)
            clear hk3 kp3
            go_wp2_with fail
            refine ⟨⟨D3, k + 1, _, rfl, by rw [Int.natCast_add]; rfl, by omega, HK3.out, HP5.out, fun hg => ?_, fun hg => ?_⟩, ?_⟩
            · rw [HD3.out, decide_eq_true_eq] at hg
              exact ⟨HA3.out, hg⟩
            · rw [HD3.out, decide_eq_false_iff_not, HL3.out] at hg
              have := HN.out
              have := hL.out
              omega
            · simp only [intOf]; omega
          · have hx0 : x.toNat ≠ 0 := fun e => hx (UInt8.toNat_inj.1 e)
            have tx : ((x.toNat : Int) != 0) = true := by rw [bne_iff_ne]; omega
            have HE2 := Lib.hid (show esc (T.take (k + 1)) = esc (T.take k) ++ [x] by rw [hE.out, if_neg hx])
            have HA3 := Lib.hid (show l ++ 2 :: esc (T.take k) ++ [x] = l ++ 2 :: esc (T.take (k + 1)) by rw [HE2.out]; simp)
            clear hx hx0
            go_wp2_with fail
            refine ⟨⟨true, k + 1, _, rfl, by rw [Int.natCast_add]; rfl, by omega, HK2.out, HP3.out, fun _ => ⟨HA3.out, HF.out⟩, (fun hg => by cases hg)⟩, ?_⟩
            simp only [intOf]; omega
        · rw [decide_eq_false hf]
          have HF := Lib.hid (show 100 < N by
            have h1 := hL.out
            have h2 := HN.out
            rw [hE.out, List.length_append] at h1
            simp at hf
            have h3 : 1 ≤ (if x = 0 then [0, 255] else [x]).length := by split <;> simp
            omega)
          clear hf
          go_wp2_with fail
          refine ⟨⟨false, k + 1, _, rfl, by rw [Int.natCast_add]; rfl, by omega, HK2.out, HP3.out, (fun hg => by cases hg), fun _ => HF.out⟩, ?_⟩
          simp only [intOf]; omega
      · have hkT : k = T.length := by omega
        subst hkT
        rw [List.take_length] at HK hlen
        have tl : decide ((T.length : Int) < (T.length : Int)) = false := decide_eq_false (by omega)
        have HO := Lib.hid (put_any B kb w0 _ (l ++ 2 :: esc T) [0, 0] (.slice (some ⟨wr.heap.size, 0, none⟩) 2 2) (HK.out.alloc (.cells #[.int .u8 0, .int .u8 0] 5)) (brow_lit (heap_alloc_last wr _) rfl (by unfold maxLen; simp) rfl) (by omega) (by simp))
        have HL3 := Lib.hid (show (l ++ 2 :: esc T ++ [0, 0]).length = N + 2 by rw [HN.out]; simp; omega)
        have HA3 := Lib.hid (show l ++ 2 :: esc T ++ [0, 0] = l ++ 2 :: (esc T ++ [0, 0]) by simp)
        clear hlen hlt
        go_wp2_with fail
        refine HO.out.mono ?_
        rintro e w2 ⟨rfl, hk2, kp⟩
        have HK2 := Lib.hid hk2
        rw [HL3.out, ← HD.out]
        clear hk2 kp
        go_wp2_with fail
        go_ret
        exact ⟨_, rfl, HK2.out, fun _ => HA3.out⟩
end Go.Proofs.Ytpinmkoaihjhfaa
