/- The law DigestForms, walked. -/
import Derived.Test.YtigdmgpejmfceaaYs
namespace Go.Proofs.Ytigdmgpejmfceaa
open Go.RowKit Su Yg Yh

theorem run_at (X : ByteArray) (l : List UInt8) (hX : X = txB l) (W : World) (k : Nat) (x : UInt8) (h : l[k]? = some x) : (Instr.index 9 (.string X) (.int .i64 (k : Int))).run Try.prog W = .ok (.int .u8 (x.toNat : Int)) W := by
  subst hX
  have hs : (txB l).size = l.length := by show l.toArray.size = _; simp
  obtain ⟨hk, hx⟩ := List.getElem?_eq_some_iff.1 h
  rw [run_index_string W 9 _ _ _ Try.underlying9, dif_pos ⟨by omega, by rw [hs]; omega⟩]
  have e : (txB l)[k]'(by rw [hs]; exact hk) = x := by rw [← hx]; rfl
  simp only [Int.toNat_natCast]
  rw [e]
/-- A character of base 64, or one that fills. -/
theorem sgn_cases {n : Nat} {c : UInt8} (hn : c.toNat = n) (h : isSgn c = true) : (65 ≤ n ∧ n ≤ 90) ∨ (97 ≤ n ∧ n ≤ 122) ∨ (48 ≤ n ∧ n ≤ 57) ∨ n = 43 ∨ n = 47 := by
  unfold isSgn at h
  rw [hn] at h
  simp only [Bool.or_eq_true, Bool.and_eq_true, decide_eq_true_eq, beq_iff_eq] at h
  omega
theorem hex_cases {n : Nat} {c : UInt8} (hn : c.toNat = n) (h : isHex c = true) : (48 ≤ n ∧ n ≤ 57) ∨ (97 ≤ n ∧ n ≤ 102) := by
  unfold isHex at h
  rw [hn] at h
  simp only [Bool.or_eq_true, Bool.and_eq_true, decide_eq_true_eq] at h
  omega
/-- What stands at each place of an encoded row. -/
theorem enc_at (l : List UInt8) : ∃ b, (enc l).length = b + (3 - l.length % 3) % 3 ∧ (∀ k c, (enc l)[k]? = some c → (k < b ∧ isSgn c = true) ∨ (b ≤ k ∧ c = 61)) := by
  obtain ⟨body, he, hb⟩ := enc_form l
  refine ⟨body.length, by rw [he, List.length_append, List.length_replicate], fun k c hk => ?_⟩
  rw [he] at hk
  by_cases h : k < body.length
  · rw [List.getElem?_append_left h] at hk
    exact .inl ⟨h, hb c (List.mem_of_getElem? hk)⟩
  · rw [List.getElem?_append_right (by omega), List.getElem?_replicate] at hk
    split at hk
    · exact .inr ⟨by omega, (Option.some.inj hk).symm⟩
    · cases hk

set_option maxRecDepth 100000 in
set_option maxHeartbeats 8000000 in
theorem forms_any (vk v : Value) (key l : List UInt8) (w : World) (hk : BRow w vk key) (h : BRow w v l) (hkn : key.length ≤ 1048576) (hn : l.length ≤ 1048576) :
    Calls Try.prog 6 #[vk, v] w fun e w' => e = .returned (.bool true) ∧ Below w.heap.size w w' := by
  have HK := Lib.hid hk
  have HV := Lib.hid h
  have HAW := Lib.hid (awake_any w)
  have HEN := Lib.hid (fun (W : World) (hb : Below w.heap.size w W) => encode_any v l W (HV.out.below hb) (by omega))
  have HHX := Lib.hid (fun (W : World) (hb : Below w.heap.size w W) => hex_any v l W (HV.out.below hb) (by omega))
  have HSH := Lib.hid (fun (W : World) (hb : Below w.heap.size w W) => sha_any v l W (HV.out.below hb) (by omega))
  have HTG := Lib.hid (fun (W : World) (hb : Below w.heap.size w W) => tag_any vk v key l W (HK.out.below hb) (HV.out.below hb) (by omega) (by omega))
  have HLE := Lib.hid (enc_len l)
  have HLH := Lib.hid (hex_len l)
  obtain ⟨b, hb64, hat⟩ := enc_at l
  have HB64 := Lib.hid hb64
  have HAT := Lib.hid hat
  have HIS := Lib.hid (fun k c (hc : (hexL l)[k]? = some c) => hex_is l c (List.mem_of_getElem? hc))
  obtain ⟨ka, kc, rfl⟩ : ∃ a c, vk = .slice a key.length c := by obtain ⟨a, c, h, _⟩ := hk; exact ⟨a, c, h⟩
  obtain ⟨a, cap, rfl⟩ : ∃ a c, v = .slice a l.length c := by obtain ⟨a, c, h, _⟩ := h; exact ⟨a, c, h⟩
  clear h hk hb64 hat
  go_enter Try.func6, Try.ntmps6
  go_wp2_with fail
  refine HAW.out.mono ?_
  rintro e w1 ⟨rfl, hb1⟩
  have HB1 := Lib.hid hb1
  clear HAW hb1
  go_wp2_with fail
  refine (HEN.out w1 HB1.out).mono ?_
  rintro e w2 ⟨rfl, hb2⟩
  have HB2 := Lib.hid (below_trans HB1.out hb2)
  clear HEN hb2 HB1
  go_wp2_with fail
  refine (HHX.out w2 HB2.out).mono ?_
  rintro e w3 ⟨rfl, hb3⟩
  have HB3 := Lib.hid (below_trans HB2.out hb3)
  clear HHX hb3 HB2
  have hXs : (txB (enc l)).size = (enc l).length := by show (enc l).toArray.size = _; simp
  have hYs : (txB (hexL l)).size = (hexL l).length := by show (hexL l).toArray.size = _; simp
  obtain ⟨X, hX⟩ : ∃ X, X = txB (enc l) := ⟨_, rfl⟩
  obtain ⟨Y, hY⟩ : ∃ Y, Y = txB (hexL l) := ⟨_, rfl⟩
  have HXA := Lib.hid (fun k x hx W => run_at X (enc l) hX W k x hx)
  have HYA := Lib.hid (fun k x hx W => run_at Y (hexL l) hY W k x hx)
  rw [← hX] at hXs ⊢
  rw [← hY] at hYs ⊢
  obtain ⟨E, hE⟩ : ∃ E, E = enc l := ⟨_, rfl⟩
  obtain ⟨H, hH⟩ : ∃ H, H = hexL l := ⟨_, rfl⟩
  rw [← hE] at hXs HXA HAT HB64 HLE
  rw [← hH] at hYs HYA HIS HLH
  have HEL := Lib.hid (show E.length ≤ 1400000 by rw [HLE.out]; omega)
  have HHL := Lib.hid (show H.length ≤ 2200000 by rw [HLH.out]; omega)
  clear hX hY hE hH
  go_wp2_with fail
  go_loopw [8, 9] (fun fl i wr => ∃ k : Nat, i = .int .i64 (k : Int) ∧ fl = .int .i64 ((k - b : Nat) : Int) ∧ k ≤ E.length ∧ wr = w3) (fun _ i _ => E.length - (intOf i).toNat)
  case atStart => exact ⟨0, rfl, by rw [Nat.zero_sub]; rfl, by omega, rfl⟩
  case round =>
    obtain ⟨k, rfl, rfl, hk, rfl⟩ := hrel
    by_cases hlt : k < E.length
    · have hlt' : (k : Int) < (E.length : Int) := by omega
      obtain ⟨x, hx⟩ : ∃ x, E[k]? = some x := ⟨_, List.getElem?_eq_getElem hlt⟩
      have hxa := HXA.out k x hx
      have hel := HEL.out
      rcases HAT.out k x hx with ⟨hkb, hs⟩ | ⟨hkb, rfl⟩
      · have e0 : k - b = 0 := by omega
        have e1 : k + 1 - b = 0 := by omega
        rw [e0] at *
        have hcs := sgn_cases (n := x.toNat) rfl hs
        clear hs hx
        generalize x.toNat = n at *
        rw [show ((0 : Nat) : Int) = 0 from rfl]
        rcases hcs with ⟨c1, c2⟩ | ⟨c1, c2⟩ | ⟨c1, c2⟩ | rfl | rfl
        · have q1 : (65 : Int) ≤ (n : Int) := by omega
          have q2 : (n : Int) ≤ 90 := by omega
          have q3 : ((n : Int) == 61) = false := by simp; omega
          go_wp2_with fail
          refine ⟨⟨k + 1, by rw [Int.natCast_add]; rfl, by rw [e1]; rfl, by omega, trivial⟩, ?_⟩
          simp only [intOf]
          omega
        · have q1 : (65 : Int) ≤ (n : Int) := by omega
          have q2 : ¬ (n : Int) ≤ 90 := by omega
          have q4 : (97 : Int) ≤ (n : Int) := by omega
          have q5 : (n : Int) ≤ 122 := by omega
          have q3 : ((n : Int) == 61) = false := by simp; omega
          go_wp2_with fail
          refine ⟨⟨k + 1, by rw [Int.natCast_add]; rfl, by rw [e1]; rfl, by omega, trivial⟩, ?_⟩
          simp only [intOf]
          omega
        · have q1 : ¬ (65 : Int) ≤ (n : Int) := by omega
          have q4 : ¬ (97 : Int) ≤ (n : Int) := by omega
          have q6 : (48 : Int) ≤ (n : Int) := by omega
          have q7 : (n : Int) ≤ 57 := by omega
          have q3 : ((n : Int) == 61) = false := by simp; omega
          go_wp2_with fail
          refine ⟨⟨k + 1, by rw [Int.natCast_add]; rfl, by rw [e1]; rfl, by omega, trivial⟩, ?_⟩
          simp only [intOf]
          omega
        · rw [show ((43 : Nat) : Int) = 43 from rfl] at hxa
          go_wp2_with fail
          refine ⟨⟨k + 1, by rw [Int.natCast_add]; rfl, by rw [e1]; rfl, by omega, trivial⟩, ?_⟩
          simp only [intOf]
          omega
        · rw [show ((47 : Nat) : Int) = 47 from rfl] at hxa
          go_wp2_with fail
          refine ⟨⟨k + 1, by rw [Int.natCast_add]; rfl, by rw [e1]; rfl, by omega, trivial⟩, ?_⟩
          simp only [intOf]
          omega
      · have e1 : k + 1 - b = k - b + 1 := by omega
        rw [show (((61 : UInt8).toNat : Nat) : Int) = 61 from rfl] at hxa
        have hfb : k - b ≤ 1400000 := by omega
        clear hx
        generalize hf : k - b = f at *
        go_wp2_with fail
        refine ⟨⟨k + 1, by rw [Int.natCast_add]; rfl, by rw [e1, Int.natCast_add]; rfl, by omega, trivial⟩, ?_⟩
        simp only [intOf]
        omega
    · have hkE : k = E.length := by omega
      subst hkE
      have hfl : E.length - b = (3 - l.length % 3) % 3 := by have := HB64.out; omega
      rw [hfl]
      obtain ⟨f, hf⟩ : ∃ f, f = (3 - l.length % 3) % 3 := ⟨_, rfl⟩
      rw [← hf]
      have HF := Lib.hid hf
      clear hlt hfl hf hk
      have HBW := Lib.hid HB3.out
      go_wp2_with fail
      go_loopw [12] (fun i wr2 => ∃ k : Nat, i = .int .i64 (k : Int) ∧ k ≤ H.length ∧ Below w.heap.size w wr2) (fun i _ => H.length - (intOf i).toNat)
      case atStart => exact ⟨0, rfl, by omega, HBW.out⟩
      case round =>
        obtain ⟨k, rfl, hk, hbw⟩ := hrel
        have HB9 := Lib.hid hbw
        clear hbw
        by_cases hlt : k < H.length
        · have hlt' : (k : Int) < (H.length : Int) := by omega
          obtain ⟨x, hx⟩ : ∃ x, H[k]? = some x := ⟨_, List.getElem?_eq_getElem hlt⟩
          have hxa := HYA.out k x hx
          have hhl := HHL.out
          have hcs := hex_cases (n := x.toNat) rfl (HIS.out k x hx)
          clear hx
          generalize x.toNat = n at *
          rcases hcs with ⟨c1, c2⟩ | ⟨c1, c2⟩
          · have q1 : (48 : Int) ≤ (n : Int) := by omega
            have q2 : (n : Int) ≤ 57 := by omega
            go_wp2_with fail
            refine ⟨⟨k + 1, by rw [Int.natCast_add]; rfl, by omega, HB9.out⟩, ?_⟩
            simp only [intOf]
            omega
          · have q1 : (48 : Int) ≤ (n : Int) := by omega
            have q2 : ¬ (n : Int) ≤ 57 := by omega
            have q3 : (97 : Int) ≤ (n : Int) := by omega
            have q4 : (n : Int) ≤ 102 := by omega
            go_wp2_with fail
            refine ⟨⟨k + 1, by rw [Int.natCast_add]; rfl, by omega, HB9.out⟩, ?_⟩
            simp only [intOf]
            omega
        · have hkH : k = H.length := by omega
          subst hkH
          clear hlt hk
          go_wp2_with fail
          refine (HSH.out _ HB9.out).mono ?_
          rintro e w5 ⟨u5, rfl, ⟨g5, rfl, _⟩, hb5⟩
          have HB5 := Lib.hid (below_trans HB9.out hb5)
          clear hb5
          go_wp2_with fail
          refine (HTG.out _ HB5.out).mono ?_
          rintro e w6 ⟨u6, rfl, ⟨g6, rfl, _⟩, hb6⟩
          have HB6 := Lib.hid (below_trans HB5.out hb6)
          clear hb6
          have hlh := HLH.out
          have hle := HLE.out
          rw [hlh] at hYs
          rw [hle] at hXs
          have hq : (l.length + 2) / 3 ≤ 400000 := by omega
          generalize hqq : (l.length + 2) / 3 = q at *
          clear hqq HAT HB64
          go_wp2_with fail
          rw [show ((f : Int) == -((l.length : Int) % 3) % 3) = true from by
            have := HF.out
            rw [beq_iff_eq]
            omega]
          go_ret
          exact ⟨rfl, HB6.out⟩
theorem forms_walk (vk : Value) (key : List UInt8) (v : Value) (l : List UInt8) (w : World) (hk : BRow w vk key) (hkn : key.length ≤ 1048576) (h : BRow w v l) (hn : l.length ≤ 1048576) :
    Calls Try.prog 6 #[vk, v] w fun e w' => e = .returned (.bool true) ∧ Below w.heap.size w w' := forms_any vk v key l w hk h hkn hn
end Go.Proofs.Ytigdmgpejmfceaa
