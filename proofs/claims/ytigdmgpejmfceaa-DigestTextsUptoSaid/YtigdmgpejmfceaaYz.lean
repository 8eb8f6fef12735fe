/- The document's own Encode, bit by bit. -/
import Derived.Test.YtigdmgpejmfceaaYw
import Derived.Test.YtigdmgpejmfceaaYn
namespace Go.Proofs.Ytigdmgpejmfceaa
open Go.RowKit Su Yg

/-- What holds of a state. -/
def OkS (st : BS) : Prop := st.2.2 < 6 ∧ st.2.1 < 2 ^ st.2.2
theorem bitS_ok {st : BS} {b : Nat} (h : OkS st) (hb : b < 2) : OkS (bitS st b) ∧ 6 * (bitS st b).1.length + (bitS st b).2.2 = 6 * st.1.length + st.2.2 + 1 := by
  obtain ⟨o, n, c⟩ := st
  obtain ⟨h1, h2⟩ := h
  unfold bitS
  split
  · rename_i hc
    refine ⟨⟨by simp, by simp⟩, ?_⟩
    simp only [List.length_append, List.length_cons, List.length_nil] at hc ⊢
    omega
  · rename_i hc
    refine ⟨⟨by simp only at hc h1 ⊢; omega, ?_⟩, by simp only; omega⟩
    simp only [Nat.pow_succ] at h2 ⊢
    omega
theorem bitsN_ok (x : Nat) {st : BS} (h : OkS st) (d : Nat) : OkS (bitsN x d st) ∧ 6 * (bitsN x d st).1.length + (bitsN x d st).2.2 = 6 * st.1.length + st.2.2 + d := by
  induction d with
  | zero => exact ⟨h, rfl⟩
  | succ d ih =>
    have := bitS_ok (b := x / 2 ^ (7 - d) % 2) ih.1 (Nat.mod_lt _ (by omega))
    exact ⟨this.1, by rw [bitsN, this.2, ih.2]; omega⟩
theorem encS_ok (l : List UInt8) (k : Nat) (hk : k ≤ l.length) : OkS (encS ([], 0, 0) (l.take k)) ∧ 6 * (encS ([], 0, 0) (l.take k)).1.length + (encS ([], 0, 0) (l.take k)).2.2 = 8 * k := by
  induction k with
  | zero => exact ⟨⟨by simp [encS], by simp [encS]⟩, by simp [encS]⟩
  | succ k ih =>
    have h := ih (by omega)
    rw [List.take_succ_eq_append_getElem hk, encS_snoc]
    have h2 := bitsN_ok l[k].toNat h.1 8
    exact ⟨h2.1, by rw [h2.2, h.2]; omega⟩
theorem pow_lt6 {n c : Nat} (h : n < 2 ^ c) (hc : c < 6) : n < 32 := Nat.lt_of_lt_of_le h (Nat.pow_le_pow_right (by omega) (show c ≤ 5 by omega))

set_option maxRecDepth 100000 in
set_option maxHeartbeats 8000000 in
theorem refEncode_any (v : Value) (l : List UInt8) (w : World) (h : BRow w v l) (hn : l.length * 2 + 64 ≤ 140737488355328) :
    Calls Try.prog 21 #[v] w fun e w' => e = .returned (.string (txB (enc l))) ∧ Below w.heap.size w w' := by
  obtain ⟨a, cap, rfl, g2, g3, g4, g5⟩ := h
  unfold maxLen at g3
  have H5 := Lib.hid g5
  clear g4 g5
  go_enter Try.func21, Try.ntmps21
  go_wp2_with fail
  go_loopw [3, 4, 5, 6] (fun o n c i wr => ∃ k : Nat, i = .int .i64 (k : Int) ∧ k ≤ l.length ∧ n = .int .i64 ((encS ([], 0, 0) (l.take k)).2.1 : Int) ∧ c = .int .i64 ((encS ([], 0, 0) (l.take k)).2.2 : Int) ∧ OwnU wr w.heap.size o (encS ([], 0, 0) (l.take k)).1 ∧ Below w.heap.size w wr) (fun _ _ _ i _ => l.length - (intOf i).toNat)
  case atStart => exact ⟨0, rfl, Nat.zero_le _, rfl, rfl, nil_own _ _, Below.refl _ _⟩
  case round =>
    obtain ⟨k, rfl, hk, rfl, rfl, hown, hb⟩ := hrel
    have hok := encS_ok l k hk
    by_cases hlt : k < l.length
    · have hlt' : (k : Int) < (l.length : Int) := by omega
      obtain ⟨b, off, rfl, hbl, hc⟩ := H5.out k hlt
      have HS := Lib.hid (show encS ([], 0, 0) (l.take (k + 1)) = bitsN l[k].toNat 8 (encS ([], 0, 0) (l.take k)) by rw [List.take_succ_eq_append_getElem hlt, encS_snoc])
      have HX := Lib.hid (u8_lt l[k])
      obtain ⟨st, hst⟩ : ∃ st, st = encS ([], 0, 0) (l.take k) := ⟨_, rfl⟩
      rw [← hst] at HS hok hown ⊢
      generalize l[k].toNat = x at *
      have HC := Lib.hid (fun (W : World) (hW : Below w.heap.size w W) => (hW.cell (p := ⟨b, off + k, none⟩) (by exact hbl)).trans hc)
      have HOK := Lib.hid hok
      have HOW := Lib.hid hown
      have HB := Lib.hid hb
      obtain ⟨ra, rn, rc, rfl⟩ := hown.shapeW
      clear hst hok hown hb hc
      go_wp2_with fail
      go_loopw [3, 4, 5, 7] (fun o n c j wr => ∃ m : Nat, j = .int .i64 ((m : Int) - 1) ∧ m ≤ 8 ∧ n = .int .i64 ((bitsN x (8 - m) st).2.1 : Int) ∧ c = .int .i64 ((bitsN x (8 - m) st).2.2 : Int) ∧ OwnU wr w.heap.size o (bitsN x (8 - m) st).1 ∧ Below w.heap.size w wr) (fun _ _ _ j _ => (intOf j + 1).toNat)
      case atStart => exact ⟨8, rfl, by omega, rfl, rfl, HOW.out, HB.out⟩
      case round =>
        obtain ⟨m, rfl, hm, rfl, rfl, hown, hb⟩ := hrel
        cases m with
        | zero =>
          rw [show ((0 : Nat) : Int) - 1 = -1 from rfl]
          rw [show bitsN x (8 - 0) st = encS ([], 0, 0) (l.take (k + 1)) from HS.out.symm] at hown ⊢
          have HO2 := Lib.hid hown
          have HB2 := Lib.hid hb
          obtain ⟨ua, un, uc, rfl⟩ := hown.shapeW
          have hko := (encS_ok l (k + 1) hlt).2
          clear hown hb
          go_wp2_with fail
          refine ⟨⟨k + 1, by rw [Int.natCast_add]; rfl, by omega, rfl, rfl, HO2.out, HB2.out⟩, ?_⟩
          simp only [intOf]
          omega
        | succ m =>
          rw [show ((m + 1 : Nat) : Int) - 1 = (m : Int) by omega]
          have HSS := Lib.hid (show bitsN x (8 - m) st = bitS (bitsN x (8 - (m + 1)) st) (x / 2 ^ m % 2) by
            rw [show 8 - m = (8 - (m + 1)) + 1 by omega, bitsN, show 7 - (8 - (m + 1)) = m by omega])
          have hok2 := bitsN_ok x HOK.out.1 (8 - (m + 1))
          obtain ⟨s1, hs1⟩ : ∃ s, s = bitsN x (8 - (m + 1)) st := ⟨_, rfl⟩
          rw [← hs1] at HSS hok2 hown ⊢
          obtain ⟨o1, n1, c1⟩ := s1
          have hn32 := pow_lt6 hok2.1.2 hok2.1.1
          have hc6 := hok2.1.1
          have hbit : x / 2 ^ m % 2 < 2 := Nat.mod_lt _ (by omega)
          have hc2 := HC.out wr hb
          have HO2 := Lib.hid hown
          have HB2 := Lib.hid hb
          obtain ⟨ua, un, uc, rfl⟩ := hown.shapeW
          obtain ⟨y, hy⟩ : ∃ y, y = x / 2 ^ m := ⟨_, rfl⟩
          have hyx : y < 256 := by rw [hy]; exact Nat.lt_of_le_of_lt (Nat.div_le_self _ _) HX.out
          have ht : ((x : Int) / 2 ^ m) = (y : Int) := by rw [hy]; simp [Int.natCast_ediv]
          rw [← hy] at HSS hbit
          have r1 : ∀ W, n1 * 2 + y % 2 < 64 → (Instr.index 9 (.string signsT) (.int .i64 ((n1 : Int) * 2 + (y : Int) % 2))).run Try.prog W = .ok (.int .u8 ((sgn (n1 * 2 + y % 2)).toNat : Int)) W := fun W h => by
            have := run_sign W (n1 * 2 + y % 2) h
            rw [show ((n1 * 2 + y % 2 : Nat) : Int) = (n1 : Int) * 2 + (y : Int) % 2 by simp] at this
            exact this
          simp only at hn32 hc6 ⊢
          have HLN := Lib.hid (show o1.length + 1 ≤ 140737488355328 by have h1 := hok2.2; have h2 := HOK.out.2; simp only at h1; omega)
          have hBr := hb.size
          clear hown hb hs1 hok2 hy
          by_cases h6 : c1 + 1 = 6
          · have hcc : (c1 : Int) = 5 := by omega
            have r2 := fun W => r1 W (by omega)
            rw [hcc]
            clear r1
            have HS6 := Lib.hid (show bitsN x (8 - m) st = (o1 ++ [sgn (n1 * 2 + y % 2)], 0, 0) by rw [HSS.out]; unfold bitS; rw [if_pos h6])
            generalize sgn (n1 * 2 + y % 2) = sg at *
            go_wp2_with (refine wpList_append_bytes rfl _ _ rfl w.heap.size (.slice ua un uc) (.slice (some ⟨wr.heap.size, 0, none⟩) 1 1) o1 [sg] rfl rfl (HO2.out.below ((Below.refl _ _).alloc (Nat.le_refl _) _)) (brow_new (cs := #[.int .u8 (sg.toNat : Int)]) rfl (by simp [maxLen]) rfl) HLN.out (by simp; omega) ?_; intro u w3 own3 gr3; have HB3 := Lib.hid ((HB2.out.alloc hBr _).grown gr3 (by simp; omega) (fun g hg => (HO2.out.lt g hg).1)); have HO3 := Lib.hid own3; obtain ⟨va, vn, vc, rfl⟩ := own3.shapeW; clear own3 gr3)
            refine ⟨⟨m, rfl, by omega, by rw [HS6.out]; rfl, by rw [HS6.out]; rfl, by rw [HS6.out]; exact HO3.out, HB3.out⟩, ?_⟩
            simp only [intOf]
            omega
          · clear r1
            have hcc : ((c1 : Int) + 1 == 6) = false := by simp; omega
            have HS6 := Lib.hid (show bitsN x (8 - m) st = (o1, n1 * 2 + y % 2, c1 + 1) by rw [HSS.out]; unfold bitS; rw [if_neg h6])
            go_wp2_with fail
            refine ⟨⟨m, rfl, by omega, by rw [HS6.out]; simp, by rw [HS6.out]; simp, by rw [HS6.out]; exact HO2.out, HB2.out⟩, ?_⟩
            simp only [intOf]
            omega
    · have hkl : k = l.length := by omega
      subst hkl
      rw [List.take_length] at hown hok ⊢
      have HSE := Lib.hid (refEnc_eq l)
      unfold refEnc at HSE
      generalize encS ([], 0, 0) l = st at *
      obtain ⟨o1, n1, c1⟩ := st
      have hn32 := pow_lt6 hok.1.2 hok.1.1
      have hc6 := hok.1.1
      have HN := Lib.hid hok.1.2
      have HLN := Lib.hid (show o1.length + 6 ≤ 140737488355328 by have h1 := hok.2; simp only at h1; omega)
      have HO2 := Lib.hid hown
      have HB2 := Lib.hid hb
      obtain ⟨ua, un, uc, rfl⟩ := hown.shapeW
      simp only at hn32 hc6 ⊢
      clear hown hb hok
      by_cases h0 : c1 = 0
      · subst h0
        have HF := Lib.hid (show pad o1 = enc l from HSE.out)
        rw [show ((0 : Nat) : Int) = 0 from rfl]
        have HL := Lib.hid (show o1.length + 6 ≤ 140737488355328 from HLN.out)
        clear HSE
        go_wp2_with fail
        go_loopw [3] (fun o wr => ∃ j : Nat, j ≤ (4 - o1.length % 4) % 4 ∧ OwnU wr w.heap.size o (o1 ++ List.replicate j 61) ∧ Below w.heap.size w wr) (fun o _ => (4 - lenV o % 4) % 4)
        case atStart => exact ⟨0, by omega, by simpa using HO2.out, HB2.out⟩
        case round =>
          obtain ⟨j, hj, hown, hb⟩ := hrel
          have hll : (o1 ++ List.replicate j 61).length = o1.length + j := by simp
          have hl9 := HL.out
          obtain ⟨fa, fc, rfl⟩ := hown.shape
          have hBr := hb.size
          have HO4 := Lib.hid hown
          have HB4 := Lib.hid hb
          by_cases h4 : (o1.length + j) % 4 = 0
          · have hjj : j = (4 - o1.length % 4) % 4 := by omega
            have hcv := conv_row hown.row
            rw [show o1 ++ List.replicate j 61 = enc l by rw [← HF.out, pad, hjj]] at hcv hll ⊢
            rw [hll] at hcv ⊢
            have h4' : (((o1.length + j : Nat) : Int) % 4 != 0) = false := by simp; omega
            generalize o1.length + j = L at *
            obtain ⟨E, hE⟩ : ∃ E, E = txB (enc l) := ⟨_, rfl⟩
            rw [← hE] at hcv
            have HE := Lib.hid hE
            clear hown hb hll HF hE
            go_wp2_with fail
            go_ret
            exact ⟨by rw [← HE.out]; rfl, HB4.out⟩
          · rw [hll] at HO4 ⊢
            have h4' : (((o1.length + j : Nat) : Int) % 4 != 0) = true := by simp; omega
            have HLL := Lib.hid hll
            generalize hLL : o1.length + j = L at *
            clear hown hb hll
            go_wp2_with (refine wpList_append_bytes rfl _ _ rfl w.heap.size (.slice fa L fc) (.slice (some ⟨wr.heap.size, 0, none⟩) 1 1) (o1 ++ List.replicate j 61) [61] rfl rfl (HO4.out.below ((Below.refl _ _).alloc (Nat.le_refl _) _)) (brow_new (cs := #[.int .u8 61]) rfl (by simp [maxLen]) rfl) (by rw [HLL.out]; simp; omega) (by simp; omega) ?_; intro u w3 own3 gr3; have HB3 := Lib.hid ((HB4.out.alloc hBr _).grown gr3 (by simp; omega) (fun g hg => (HO4.out.lt g hg).1)); have HO3 := Lib.hid own3; obtain ⟨va, vn, vc, rfl, hvn⟩ := own3.shapeQ; rw [List.length_append, HLL.out] at hvn; have HVN := Lib.hid hvn; clear own3 gr3 hvn)
            refine ⟨⟨j + 1, by omega, by rw [List.replicate_succ', ← List.append_assoc]; exact HO3.out, HB3.out⟩, ?_⟩
            have hvn := HVN.out
            simp only [List.length_cons, List.length_nil] at hvn
            simp only [lenV]
            omega
      · have hpos : (0 : Int) < (c1 : Int) := by omega
        have HF := Lib.hid (show pad (o1 ++ [sgn (n1 * 2 ^ (6 - c1))]) = enc l by rw [← HSE.out]; unfold fin; rw [if_neg h0])
        clear HSE
        go_wp2_with fail
        go_loopw [4, 5] (fun n c wr => ∃ e : Nat, e ≤ 6 - c1 ∧ n = .int .i64 ((n1 * 2 ^ e : Nat) : Int) ∧ c = .int .i64 ((c1 + e : Nat) : Int) ∧ OwnU wr w.heap.size (.slice ua un uc) o1 ∧ Below w.heap.size w wr) (fun _ c _ => 6 - (intOf c).toNat)
        case atStart => exact ⟨0, by omega, by simp, by simp, HO2.out, HB2.out⟩
        case round =>
          obtain ⟨e, he, rfl, rfl, hown, hb⟩ := hrel
          have hne : n1 * 2 ^ e < 2 ^ 6 := by
            have h1 : n1 * 2 ^ e < 2 ^ c1 * 2 ^ e := Nat.mul_lt_mul_of_pos_right HN.out (Nat.pow_pos (by omega))
            rw [← Nat.pow_add] at h1
            exact Nat.lt_of_lt_of_le h1 (Nat.pow_le_pow_right (by omega) (by omega))
          have HO3 := Lib.hid hown
          have HB3 := Lib.hid hb
          have hBr := hb.size
          clear hown hb
          by_cases hlt : c1 + e < 6
          · have HQ := Lib.hid (show n1 * 2 ^ (e + 1) = n1 * 2 ^ e * 2 by rw [Nat.pow_succ, Nat.mul_assoc])
            generalize hq : n1 * 2 ^ e = q at *
            generalize hcc : c1 + e = cc at *
            have hlt' : (cc : Int) < 6 := by omega
            go_wp2_with fail
            refine ⟨⟨e + 1, by omega, by rw [HQ.out]; simp, by rw [← Nat.add_assoc, hcc]; simp, HO3.out, HB3.out⟩, ?_⟩
            simp only [intOf]
            omega
          · obtain rfl : e = 6 - c1 := by omega
            have hlt' : c1 + (6 - c1) = 6 := by omega
            rw [hlt', show ((6 : Nat) : Int) = 6 from rfl]
            generalize n1 * 2 ^ (6 - c1) = q at *
            have r2 := fun W => run_sign W q hne
            generalize sgn q = sg at *
            clear hlt
            go_wp2_with (refine wpList_append_bytes rfl _ _ rfl w.heap.size (.slice ua un uc) (.slice (some ⟨wr.heap.size, 0, none⟩) 1 1) o1 [sg] rfl rfl (HO3.out.below ((Below.refl _ _).alloc (Nat.le_refl _) _)) (brow_new (cs := #[.int .u8 (sg.toNat : Int)]) rfl (by simp [maxLen]) rfl) (by have := HLN.out; simp; omega) (by simp; omega) ?_; intro u w3 own3 gr3; have HB5 := Lib.hid ((HB3.out.alloc hBr _).grown gr3 (by simp; omega) (fun g hg => (HO3.out.lt g hg).1)); have HO5 := Lib.hid own3; obtain ⟨va, vn, vc, rfl⟩ := own3.shapeW; clear own3 gr3)
            have HL5 := Lib.hid (show (o1 ++ [sg]).length + 5 ≤ 140737488355328 by have := HLN.out; simp; omega)
            generalize o1 ++ [sg] = o2 at *
            go_loopw [3] (fun o wr => ∃ j : Nat, j ≤ (4 - o2.length % 4) % 4 ∧ OwnU wr w.heap.size o (o2 ++ List.replicate j 61) ∧ Below w.heap.size w wr) (fun o _ => (4 - lenV o % 4) % 4)
            case atStart => exact ⟨0, by omega, by simpa using HO5.out, HB5.out⟩
            case round =>
              obtain ⟨j, hj, hown, hb⟩ := hrel
              have hll : (o2 ++ List.replicate j 61).length = o2.length + j := by simp
              have hl9 := HL5.out
              obtain ⟨fa, fc, rfl⟩ := hown.shape
              have hBr := hb.size
              have HO4 := Lib.hid hown
              have HB4 := Lib.hid hb
              by_cases h4 : (o2.length + j) % 4 = 0
              · have hjj : j = (4 - o2.length % 4) % 4 := by omega
                have hcv := conv_row hown.row
                rw [show o2 ++ List.replicate j 61 = enc l by rw [← HF.out, pad, hjj]] at hcv hll ⊢
                rw [hll] at hcv ⊢
                have h4' : (((o2.length + j : Nat) : Int) % 4 != 0) = false := by simp; omega
                generalize o2.length + j = L at *
                obtain ⟨E, hE⟩ : ∃ E, E = txB (enc l) := ⟨_, rfl⟩
                rw [← hE] at hcv
                have HE := Lib.hid hE
                clear hown hb hll HF hE
                go_wp2_with fail
                go_ret
                exact ⟨by rw [← HE.out]; rfl, HB4.out⟩
              · rw [hll] at HO4 ⊢
                have h4' : (((o2.length + j : Nat) : Int) % 4 != 0) = true := by simp; omega
                have HLL := Lib.hid hll
                generalize hLL : o2.length + j = L at *
                clear hown hb hll
                go_wp2_with (refine wpList_append_bytes rfl _ _ rfl w.heap.size (.slice fa L fc) (.slice (some ⟨wr.heap.size, 0, none⟩) 1 1) (o2 ++ List.replicate j 61) [61] rfl rfl (HO4.out.below ((Below.refl _ _).alloc (Nat.le_refl _) _)) (brow_new (cs := #[.int .u8 61]) rfl (by simp [maxLen]) rfl) (by rw [HLL.out]; simp; omega) (by simp; omega) ?_; intro u w3 own3 gr3; have HB3 := Lib.hid ((HB4.out.alloc hBr _).grown gr3 (by simp; omega) (fun g hg => (HO4.out.lt g hg).1)); have HO3 := Lib.hid own3; obtain ⟨va, vn, vc, rfl, hvn⟩ := own3.shapeQ; rw [List.length_append, HLL.out] at hvn; have HVN := Lib.hid hvn; clear own3 gr3 hvn)
                refine ⟨⟨j + 1, by omega, by rw [List.replicate_succ', ← List.append_assoc]; exact HO3.out, HB3.out⟩, ?_⟩
                have hvn := HVN.out
                simp only [List.length_cons, List.length_nil] at hvn
                simp only [lenV]
                omega
end Go.Proofs.Ytigdmgpejmfceaa
