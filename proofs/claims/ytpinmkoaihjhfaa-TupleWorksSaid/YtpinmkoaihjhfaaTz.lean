/- A tuple's key: the document's Key. -/
import Derived.Test.YtpinmkoaihjhfaaTo
import Derived.Test.YtpinmkoaihjhfaaTr
namespace Go.Proofs.Ytpinmkoaihjhfaa
open Go.RowKit Su Tp
attribute [local go_sem] Oper.semAt_some

/-- A key under way, exact or too long already. -/
def StK (a : List Pt) (n : Nat) (m : List UInt8) : Prop := (m = keyB (a.take n) ∨ (100 < m.length ∧ 100 < (keyB a).length)) ∧ m.length ≤ 120 * n
theorem stK_int {a : List Pt} {n : Nat} {m p : List UInt8} (hn : n < a.length) (h : StK a n m) (hp : partK a[n] = p) (hl : p.length ≤ 100) : StK a (n + 1) (m ++ p) := by
  subst hp
  refine ⟨?_, by rw [List.length_append]; have := h.2; omega⟩
  rcases h.1 with rfl | ⟨h1, h2⟩
  · exact .inl (keyB_take a n hn).symm
  · exact .inr ⟨by rw [List.length_append]; omega, h2⟩
theorem stK_txt {a : List Pt} {n k : Nat} {m T : List UInt8} (hn : n < a.length) (h : StK a n m) (hp : a[n] = (2, 0, T)) (hk : k = T.length ∨ 100 < (m ++ 2 :: esc (T.take k)).length) (hb : (m ++ 2 :: esc (T.take k)).length ≤ max (m.length + 1) 102) :
    StK a (n + 1) (m ++ 2 :: esc (T.take k) ++ [0, 0]) := by
  have hpk : partK a[n] = 2 :: (esc T ++ [0, 0]) := by rw [hp]; rfl
  refine ⟨?_, by rw [List.length_append]; have := h.2; simp at *; omega⟩
  rcases h.1 with rfl | ⟨h1, h2⟩
  · rcases hk with rfl | hk
    · left
      rw [keyB_take a n hn, hpk, List.take_length]
      simp
    · right
      have h1 := keyB_le a (n + 1)
      rw [keyB_take a n hn, hpk] at h1
      have h2 := esc_le T k
      simp at hk h1 ⊢
      omega
  · exact .inr ⟨by rw [List.length_append, List.length_append]; omega, h2⟩
theorem add_top (n : Int) (h : inI n) : IntKind.u64.wrap (IntKind.u64.wrap n + 9223372036854775808) = (lift n : Int) := by
  have hw : ∀ x : Int, IntKind.u64.wrap x = x % 18446744073709551616 := fun x => by simp [IntKind.wrap, IntKind.signed, IntKind.bits]
  rw [hw, hw]
  unfold lift inI at *
  omega
theorem be_take8 (m j : Nat) (h : j < 8) : (be 8 m).take (j + 1) = (be 8 m).take j ++ [UInt8.ofNat (m / 256 ^ (7 - j))] := by
  have hl : j < (be 8 m).length := by rw [be_len]; exact h
  rw [List.take_succ_eq_append_getElem hl, be8_at m j h hl]
set_option maxRecDepth 100000 in
set_option maxHeartbeats 8000000 in
theorem refKey_any (v : Value) (a : List Pt) (w : World) (hv : PRow w v a) (hz : SzP a) :
    Calls Try.prog 13 #[v] w fun e w' => e = .returned (.tuple #[.string (txB (keyT a)), .int .i64 (keyE a)]) ∧ Below w.heap.size w w' := by
  have HR := Lib.hid (refRight_any v a w hv)
  obtain ⟨aa, ac, rfl, hac, hac2⟩ := hv.shape
  have HA := Lib.hid hv
  have HZ := Lib.hid hz
  have hn : a.length ≤ 9223372036854775807 := Nat.le_trans hac hac2
  clear hv hac hac2 hz
  by_cases hr : right a
  · rw [decide_eq_true hr] at HR
    have HRT := Lib.hid hr
    have h8 : a.length ≤ 8 := hr.2.1
    clear hr
    go_enter Try.func13, Try.ntmps13
    go_wp2_with fail
    refine HR.out.mono ?_
    rintro e w1 ⟨rfl, hb1⟩
    have HB1 := Lib.hid hb1
    clear hb1 HR
    go_wp2_with fail
    go_loopw [5, 6] (fun o i wr => ∃ (n : Nat) (m : List UInt8), i = .int .i64 (n : Int) ∧ n ≤ a.length ∧ OwnU wr w.heap.size o m ∧ StK a n m ∧ Below w.heap.size w wr) (fun _ i _ => a.length - (intOf i).toNat)
    case atStart => exact ⟨0, [], rfl, by omega, ⟨rfl, .inl ⟨rfl, rfl⟩⟩, ⟨.inl rfl, by simp⟩, HB1.out⟩
    case round =>
      obtain ⟨n, m, rfl, hk, ho, hst, hb⟩ := hrel
      have hbs := hb.size
      by_cases hlt : n < a.length
      · obtain ⟨b1, o1, rfl, _, hb1, x0, x1, x2⟩ := (HA.out.below hb).at n hlt
        have hlt' : (n : Int) < (a.length : Int) := by omega
        have hp := HRT.out.2.2 a[n] (List.getElem_mem hlt)
        have hi := HA.out.2 a[n] (List.getElem_mem hlt)
        have hzn := HZ.out a[n] (List.getElem_mem hlt)
        have HST := Lib.hid (fun p => stK_int (p := p) hlt hst)
        have HSX := Lib.hid (fun (k : Nat) T => stK_txt (k := k) (T := T) hlt hst)
        have hml : m.length ≤ 1000 := by have := hst.2; omega
        have HAT := Lib.hid (fun W hW => (HA.out.below (w' := W) hW).at n hlt)
        have HO := Lib.hid ho
        have HB := Lib.hid hb
        clear ho hb hst
        generalize a[n] = p at *
        obtain ⟨p0, p1, ps⟩ := p
        simp only at x0 x1 x2
        rcases hp with ⟨h1, h2⟩ | ⟨h1, h2⟩
        · obtain rfl : p0 = 1 := h1
          obtain rfl : ps = [] := h2
          obtain ⟨ma, mn, mc, rfl, hmn⟩ := HO.out.shapeQ
          have HMN := Lib.hid hmn
          clear hmn
          obtain ⟨u, w2, hr1, ho2, hg2⟩ := run_append_bytes (w := wr.alloc (.cells #[.int .u8 1] 5)) 39 w.heap.size (.slice ma mn mc) (.slice (some ⟨wr.heap.size, 0, none⟩) 1 1) m [1] (OwnU.alloc HO.out _) (own_one wr 1 1 rfl).row (by simp; omega) (by rw [alloc_size]; omega)
          have HO2 := Lib.hid ho2
          have HB2 := Lib.hid ((HB.out.alloc hbs _).grown hg2 (by rw [alloc_size]; omega) fun g hg => (HO.out.lt g hg).1)
          clear ho2 hg2
          have hw := add_top p1 hi.2
          have hbl := be_len 8 (lift p1)
          have HBT := Lib.hid (be_take8 (lift p1))
          have hST := Lib.hid (HST.out (1 :: be 8 (lift p1)) rfl (by simp [be_len]))
          have HB8 := Lib.hid (byte8 (lift p1))
          generalize be 8 (lift p1) = T at *
          generalize lift p1 = L at *
          go_wp2_with (refine wpList_appended rfl _ _ 39 39 rfl (.slice ma mn mc) (.slice (some ⟨wr.heap.size, 0, none⟩) 1 1) u rfl rfl hr1 ?_; clear hr1; obtain ⟨b2, o2, he2, _, hb2, y0, y1, y2⟩ := HAT.out w2 HB2.out; simp only [Option.some.injEq, Addr.mk.injEq, and_true] at he2; obtain ⟨rfl, rfl⟩ := he2; simp only at y0 y1 y2)
          go_loopw [5, 8] (fun o i wq => ∃ j : Nat, i = .int .i64 (7 - (j : Int)) ∧ j ≤ 8 ∧ OwnU wq w.heap.size o (m ++ 1 :: T.take j) ∧ Below w.heap.size w wq) (fun _ i _ => (intOf i + 1).toNat)
          case atStart => exact ⟨0, rfl, by omega, HO2.out, HB2.out⟩
          case round =>
            obtain ⟨j, rfl, hj, ho3, hb3⟩ := hrel
            have hs3 := hb3.size
            obtain ⟨ka, kn, kc, rfl, hkn⟩ := ho3.shapeQ
            have HKN := Lib.hid hkn
            have HO3 := Lib.hid ho3
            have HB3 := Lib.hid hb3
            clear ho3 hb3 hkn
            by_cases hj8 : j < 8
            · have t1 : decide ((j : Int) ≤ 7) = true := decide_eq_true (by omega)
              have hg1 : (0 : Int) ≤ 7 - (j : Int) := by omega
              have HX := Lib.hid (HB8.out j hj8)
              have HT1 := Lib.hid (HBT.out j hj8)
              generalize hx : UInt8.ofNat (L / 256 ^ (7 - j)) = x at *
              obtain ⟨u3, w3, hr3, ho4, hg4⟩ := run_append_bytes (w := wr.alloc (.cells #[.int .u8 ((L : Int) / 2 ^ (8 * (7 - j)) % 256)] 5)) 39 w.heap.size (.slice ka kn kc) (.slice (some ⟨wr.heap.size, 0, none⟩) 1 1) (m ++ 1 :: T.take j) [x] (OwnU.alloc HO3.out _) (own_one wr x _ HX.out).row (by simp; omega) (by rw [alloc_size]; omega)
              have HO4 := Lib.hid (show OwnU w3 w.heap.size u3 (m ++ 1 :: T.take (j + 1)) by rw [HT1.out]; simpa using ho4)
              have HB4 := Lib.hid ((HB3.out.alloc hs3 _).grown hg4 (by rw [alloc_size]; omega) fun g hg => (HO3.out.lt g hg).1)
              clear ho4 hg4 hx
              go_wp2_with (refine wpList_appended rfl _ _ 39 39 rfl (.slice ka kn kc) (.slice (some ⟨wr.heap.size, 0, none⟩) 1 1) u3 rfl rfl hr3 ?_; clear hr3)
              refine ⟨⟨j + 1, by congr 1; omega, by omega, HO4.out, HB4.out⟩, ?_⟩
              simp only [intOf]; omega
            · have hj8' : j = 8 := by omega
              subst hj8'
              have t1 : decide (((8 : Nat) : Int) ≤ 7) = false := rfl
              rw [List.take_of_length_le (by omega)] at HO3
              clear hj8
              go_wp2_with fail
              refine ⟨⟨n + 1, _, by rw [Int.natCast_add]; rfl, by omega, HO3.out, hST.out, HB3.out⟩, ?_⟩
              simp only [intOf]; omega
        · obtain rfl : p0 = 2 := h1
          obtain rfl : p1 = 0 := h2
          simp only at hzn
          obtain ⟨ma, mn, mc, rfl, hmn⟩ := HO.out.shapeQ
          have HMN := Lib.hid hmn
          clear hmn
          obtain ⟨u, w2, hr1, ho2, hg2⟩ := run_append_bytes (w := wr.alloc (.cells #[.int .u8 2] 5)) 39 w.heap.size (.slice ma mn mc) (.slice (some ⟨wr.heap.size, 0, none⟩) 1 1) m [2] (OwnU.alloc HO.out _) (own_one wr 2 2 rfl).row (by simp; omega) (by rw [alloc_size]; omega)
          have HO2 := Lib.hid ho2
          have HB2 := Lib.hid ((HB.out.alloc hbs _).grown hg2 (by rw [alloc_size]; omega) fun g hg => (HO.out.lt g hg).1)
          have hzT := tx_size ps
          clear ho2 hg2
          go_wp2_with (refine wpList_appended rfl _ _ 39 39 rfl (.slice ma mn mc) (.slice (some ⟨wr.heap.size, 0, none⟩) 1 1) u rfl rfl hr1 ?_; clear hr1; obtain ⟨b2, o2, he2, _, hb2, y0, y1, y2⟩ := HAT.out w2 HB2.out; simp only [Option.some.injEq, Addr.mk.injEq, and_true] at he2; obtain ⟨rfl, rfl⟩ := he2; try simp only at y0 y1 y2)
          clear y0 y1 y2
          go_loopw [5, 9] (fun o i wq => ∃ k : Nat, i = .int .i64 (k : Int) ∧ k ≤ ps.length ∧ OwnU wq w.heap.size o (m ++ 2 :: esc (ps.take k)) ∧ Below w.heap.size w wq ∧ (m ++ 2 :: esc (ps.take k)).length ≤ max (m.length + 1) 102) (fun _ i _ => ps.length - (intOf i).toNat)
          case atStart => exact ⟨0, rfl, by omega, HO2.out, HB2.out, by simp [esc]; omega⟩
          case round =>
            obtain ⟨k, rfl, hk2, ho3, hb3, hm3⟩ := hrel
            have hs3 := hb3.size
            obtain ⟨b2, o2, he2, _, hb2, y0, y1, y2⟩ := HAT.out wr hb3
            simp only [Option.some.injEq, Addr.mk.injEq, and_true] at he2
            obtain ⟨rfl, rfl⟩ := he2
            try simp only at y0 y1 y2
            obtain ⟨ka, kn, kc, rfl, hkn⟩ := ho3.shapeQ
            have HKN := Lib.hid hkn
            have HO3 := Lib.hid ho3
            have HB3 := Lib.hid hb3
            have HM3 := Lib.hid hm3
            clear ho3 hb3
            have hfin : (k = ps.length ∨ 100 < (m ++ 2 :: esc (ps.take k)).length) → StK a (n + 1) (m ++ 2 :: esc (ps.take k) ++ [0, 0]) := fun h => HSX.out k ps rfl h HM3.out
            have HFIN := Lib.hid hfin
            obtain ⟨q, hq⟩ : ∃ q, q = m ++ 2 :: esc (ps.take k) := ⟨_, rfl⟩
            rw [← hq] at hkn HO3 HM3 HFIN hm3
            have hq1 : q.length ≤ 1200 := by omega
            clear hfin
            by_cases hkl : k < ps.length
            · have t1 : decide ((k : Int) < (ps.length : Int)) = true := decide_eq_true (by omega)
              by_cases h100 : q.length ≤ 100
              · have t2 : decide ((kn : Int) ≤ 100) = true := decide_eq_true (by omega)
                have hml : (k : Int) < (ps.length : Int) := by omega
                have hg := tx_get ps k hkl (by rw [hzT]; exact hkl)
                have hE := Lib.hid (esc_take ps k hkl)
                have hbyte := u8_lt ps[k]
                have HQ := Lib.hid hq
                clear hkn hq
                generalize ps[k] = x at *
                obtain ⟨u3, w3, hr3, ho4, hg4⟩ := run_append_bytes (w := wr.alloc (.cells #[.int .u8 (x.toNat : Int)] 5)) 39 w.heap.size (.slice ka kn kc) (.slice (some ⟨wr.heap.size, 0, none⟩) 1 1) q [x] (OwnU.alloc HO3.out _) (own_one wr x _ rfl).row (by simp; omega) (by rw [alloc_size]; omega)
                have HB4 := Lib.hid ((HB3.out.alloc hs3 _).grown hg4 (by rw [alloc_size]; omega) fun g hg => (HO3.out.lt g hg).1)
                have hs4 := HB4.out.size
                obtain ⟨b3, o3, he3, _, hb3, z0, z1, z2⟩ := HAT.out w3 HB4.out
                simp only [Option.some.injEq, Addr.mk.injEq, and_true] at he3
                obtain ⟨rfl, rfl⟩ := he3
                try simp only at z0 z1 z2
                by_cases hx : x = 0
                · have tx : ((x.toNat : Int) == 0) = true := by rw [hx]; rfl
                  have HE2 := Lib.hid (show m ++ 2 :: esc (ps.take (k + 1)) = q ++ [x] ++ [255] by rw [hE.out, if_pos hx, HQ.out, hx]; simp)
                  have HO4 := Lib.hid ho4
                  obtain ⟨ua, un, uc, rfl, hun⟩ := ho4.shapeQ
                  obtain ⟨u5, w5, hr5, ho5, hg5⟩ := run_append_bytes (w := w3.alloc (.cells #[.int .u8 255] 5)) 39 w.heap.size (.slice ua un uc) (.slice (some ⟨w3.heap.size, 0, none⟩) 1 1) (q ++ [x]) [255] (OwnU.alloc HO4.out _) (own_one w3 255 255 rfl).row (by simp; omega) (by rw [alloc_size]; omega)
                  have HO5 := Lib.hid ho5
                  have HB5 := Lib.hid ((HB4.out.alloc hs4 _).grown hg5 (by rw [alloc_size]; omega) fun g hg => (HO4.out.lt g hg).1)
                  have HL5 := Lib.hid (show (q ++ [x] ++ [255]).length ≤ max (m.length + 1) 102 by simp; omega)
                  clear ho4 hg4 ho5 hg5 hx hun
                  go_wp2_with (first
                    | (refine wpList_appended rfl _ _ 39 39 rfl (.slice ka kn kc) (.slice (some ⟨wr.heap.size, 0, none⟩) 1 1) (.slice ua un uc) rfl rfl hr3 ?_; clear hr3)
                    | (refine wpList_appended rfl _ _ 39 39 rfl (.slice ua un uc) (.slice (some ⟨w3.heap.size, 0, none⟩) 1 1) u5 rfl rfl hr5 ?_; clear hr5))
                  refine ⟨⟨k + 1, by rw [Int.natCast_add]; rfl, by omega, by rw [HE2.out]; exact HO5.out, HB5.out, by rw [HE2.out]; exact HL5.out⟩, ?_⟩
                  simp only [intOf]; omega
                · have hx0 : x.toNat ≠ 0 := fun e => hx (UInt8.toNat_inj.1 e)
                  have tx : ((x.toNat : Int) == 0) = false := by rw [beq_eq_false_iff_ne]; omega
                  have HE2 := Lib.hid (show m ++ 2 :: esc (ps.take (k + 1)) = q ++ [x] by rw [hE.out, if_neg hx, HQ.out]; simp)
                  have HO4 := Lib.hid ho4
                  have HL5 := Lib.hid (show (q ++ [x]).length ≤ max (m.length + 1) 102 by simp; omega)
                  clear ho4 hg4 hx hx0
                  go_wp2_with (refine wpList_appended rfl _ _ 39 39 rfl (.slice ka kn kc) (.slice (some ⟨wr.heap.size, 0, none⟩) 1 1) u3 rfl rfl hr3 ?_; clear hr3)
                  refine ⟨⟨k + 1, by rw [Int.natCast_add]; rfl, by omega, by rw [HE2.out]; exact HO4.out, HB4.out, by rw [HE2.out]; exact HL5.out⟩, ?_⟩
                  simp only [intOf]; omega
              · have t2 : decide ((kn : Int) ≤ 100) = false := decide_eq_false (by omega)
                have HS := Lib.hid (HFIN.out (.inr (by omega)))
                obtain ⟨u3, w3, hr3, ho4, hg4⟩ := run_append_bytes (w := wr.alloc (.cells #[.int .u8 0, .int .u8 0] 5)) 39 w.heap.size (.slice ka kn kc) (.slice (some ⟨wr.heap.size, 0, none⟩) 2 2) q [0, 0] (OwnU.alloc HO3.out _) (brow_lit (heap_alloc_last wr _) rfl (by unfold maxLen; simp) rfl) (by simp; omega) (by rw [alloc_size]; omega)
                have HO4 := Lib.hid ho4
                have HB4 := Lib.hid ((HB3.out.alloc hs3 _).grown hg4 (by rw [alloc_size]; omega) fun g hg => (HO3.out.lt g hg).1)
                clear ho4 hg4 hq hkn
                go_wp2_with (refine wpList_appended rfl _ _ 39 39 rfl (.slice ka kn kc) (.slice (some ⟨wr.heap.size, 0, none⟩) 2 2) u3 rfl rfl hr3 ?_; clear hr3)
                refine ⟨⟨n + 1, _, by rw [Int.natCast_add]; rfl, by omega, HO4.out, HS.out, HB4.out⟩, ?_⟩
                simp only [intOf]; omega
            · have t1 : decide ((k : Int) < (ps.length : Int)) = false := decide_eq_false (by omega)
              have HS := Lib.hid (HFIN.out (.inl (by omega)))
              obtain ⟨u3, w3, hr3, ho4, hg4⟩ := run_append_bytes (w := wr.alloc (.cells #[.int .u8 0, .int .u8 0] 5)) 39 w.heap.size (.slice ka kn kc) (.slice (some ⟨wr.heap.size, 0, none⟩) 2 2) q [0, 0] (OwnU.alloc HO3.out _) (brow_lit (heap_alloc_last wr _) rfl (by unfold maxLen; simp) rfl) (by simp; omega) (by rw [alloc_size]; omega)
              have HO4 := Lib.hid ho4
              have HB4 := Lib.hid ((HB3.out.alloc hs3 _).grown hg4 (by rw [alloc_size]; omega) fun g hg => (HO3.out.lt g hg).1)
              clear ho4 hg4 hq hkn
              go_wp2_with (refine wpList_appended rfl _ _ 39 39 rfl (.slice ka kn kc) (.slice (some ⟨wr.heap.size, 0, none⟩) 2 2) u3 rfl rfl hr3 ?_; clear hr3)
              refine ⟨⟨n + 1, _, by rw [Int.natCast_add]; rfl, by omega, HO4.out, HS.out, HB4.out⟩, ?_⟩
              simp only [intOf]; omega
      · have hnl : n = a.length := by omega
        subst hnl
        obtain ⟨hst1, hst2⟩ := hst
        rw [List.take_length] at hst1
        have hlt' : decide ((a.length : Int) < (a.length : Int)) = false := decide_eq_false (by omega)
        have hcv := conv_row ho.row
        obtain ⟨ma, mn, mc, rfl, hmn⟩ := ho.shapeQ
        by_cases h100 : m.length ≤ 100
        · obtain rfl : m = keyB a := by
            rcases hst1 with h | ⟨h, _⟩
            · exact h
            · omega
          have t1 : decide (100 < (mn : Int)) = false := decide_eq_false (by omega)
          have HE := Lib.hid (keyE_ok HRT.out h100)
          have HT := Lib.hid (keyT_ok HRT.out h100)
          have HB0 := Lib.hid hb
          clear ho hst1 hst2 hmn hb hlt
          go_wp2_with fail
          go_ret2
          exact ⟨by rw [HE.out, HT.out]; rfl, HB0.out⟩
        · have hl100 : 100 < (keyB a).length := by
            rcases hst1 with rfl | ⟨_, h⟩
            · omega
            · exact h
          have t1 : decide (100 < (mn : Int)) = true := decide_eq_true (by omega)
          have HE := Lib.hid (keyE_long HRT.out hl100)
          have HT := Lib.hid (keyT_no (a := a) (by rw [HE.out]; decide))
          have HB0 := Lib.hid hb
          clear ho hst1 hst2 hmn hb hlt hcv
          go_wp2_with fail
          go_ret2
          exact ⟨by rw [HE.out, HT.out]; rfl, HB0.out⟩
  · rw [decide_eq_false hr] at HR
    have HE := Lib.hid (keyE_bad hr)
    have HT := Lib.hid (keyT_no (a := a) (by rw [keyE_bad hr]; decide))
    clear hr
    go_enter Try.func13, Try.ntmps13
    go_wp2_with fail
    refine HR.out.mono ?_
    rintro e w1 ⟨rfl, hb1⟩
    clear HR
    go_wp2_with fail
    go_ret2
    exact ⟨by rw [HE.out, HT.out]; rfl, hb1⟩
end Go.Proofs.Ytpinmkoaihjhfaa
