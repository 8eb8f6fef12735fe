/- The tuple of a key: the document's Read. -/
import Derived.Test.YtpinmkoaihjhfaaTaa
import Derived.Test.YtpinmkoaihjhfaaTz
namespace Go.Proofs.Ytpinmkoaihjhfaa
open Go.RowKit Su Tp
attribute [local go_sem] Oper.semAt_some

theorem szp_snoc {o : List Pt} {p : Pt} (h : SzP o) (hp : p.2.2.length ≤ 9223372036854775807) : SzP (o ++ [p]) := by
  intro q hq
  rcases List.mem_append.1 hq with h1 | h1
  · exact h q h1
  · rw [List.mem_singleton] at h1; rw [h1]; exact hp
theorem sub_top (v : Nat) (h : v < 18446744073709551616) : wrap64 (IntKind.u64.wrap ((v : Int) - 9223372036854775808)) = (v : Int) - 9223372036854775808 := by
  have hw : ∀ x : Int, IntKind.u64.wrap x = x % 18446744073709551616 := fun x => by simp [IntKind.wrap, IntKind.signed, IntKind.bits]
  rw [hw]
  unfold wrap64
  omega
set_option maxRecDepth 100000 in
set_option maxHeartbeats 8000000 in
theorem refRead_any (s : List UInt8) (w : World) (hs : s.length ≤ 140737488355328) :
    Calls Try.prog 14 #[.string (txB s)] w (ReadOut s w) := by
  have hz := tx_size s
  by_cases h100 : 100 < s.length
  · have t0 : decide (100 < (s.length : Int)) = true := decide_eq_true (by omega)
    have H100 := Lib.hid h100
    go_enter Try.func14, Try.ntmps14
    go_wp2_with fail
    go_ret2
    exact ⟨Below.refl _ _, .inl ⟨H100.out, rfl⟩⟩
  · have t0 : decide (100 < (s.length : Int)) = false := decide_eq_false (by omega)
    have hs1 : s.length ≤ 100 := by omega
    have HS1 := Lib.hid hs1
    clear h100
    go_enter Try.func14, Try.ntmps14
    go_wp2_with fail
    clear t0
    go_loopw [4, 5] (fun v iv wr => ∃ (o : List Pt) (i : Nat), iv = .int .i64 (i : Int) ∧ i ≤ s.length + 2 ∧ OwnT wr w.heap.size v o ∧ InvR s o i ∧ Below w.heap.size w wr ∧ o.length ≤ i ∧ SzP o) (fun _ iv _ => s.length + 2 - (intOf iv).toNat)
    case atStart => exact ⟨[], 0, rfl, by omega, nilT _ _, inv_start s, Below.refl _ _, by simp, by intro p hp; simp at hp⟩
    case round =>
      obtain ⟨o, i, rfl, hi, ho, hinv, hb, hol, hszp⟩ := hrel
      have HZP := Lib.hid hszp
      clear hszp
      have hbs := hb.size
      by_cases hlt : i < s.length
      · have hml : (i : Int) < (s.length : Int) := by omega
        have t1 : decide ((i : Int) < (s.length : Int)) = true := decide_eq_true (by omega)
        have hg := tx_get s i hlt (by rw [hz]; exact hlt)
        have HFO := Lib.hid (fun h1 h2 => inv_none hinv hlt (fst_oth hlt h1 h2))
        have HFN := Lib.hid (fun h1 (h2 : (s.drop (i + 1)).length < 8) => inv_none hinv hlt (by rw [fst_num hlt h1, if_pos h2]))
        have HIN := Lib.hid (fun h9 => inv_num hinv (show i + 9 ≤ s.length from h9))
        have HIT := Lib.hid (fun h2 t k => inv_txt (t := t) (k := k) hinv hlt h2)
        obtain ⟨va, vn, vc, rfl, hvn⟩ := ho.shapeQ
        have HO := Lib.hid ho
        have HB := Lib.hid hb
        have HOL := Lib.hid hvn
        clear ho hinv hb hvn
        by_cases hc1 : s[i] = 1
        · have HI1 := Lib.hid (fun h9 => HIN.out h9 hc1)
          have HF1 := Lib.hid (HFN.out hc1)
          have hcv : (s[i].toNat : Int) = 1 := by rw [hc1]; rfl
          clear HFO HFN HIN HIT
          by_cases h9 : i + 9 ≤ s.length
          · have t2 : decide ((s.length : Int) - ((i : Int) + 1) < 8) = false := decide_eq_false (by omega)
            have HI2 := Lib.hid (HI1.out h9)
            have HIP := Lib.hid (inP_num h9)
            have HV := Lib.hid (show numV (s.drop (i + 1)) = (val ((s.drop (i + 1)).take 8) : Int) - 9223372036854775808 from rfl)
            generalize numV (s.drop (i + 1)) = N at *
            clear hc1
            generalize s[i] = c at *
            go_wp2_with fail
            obtain ⟨X, hX⟩ : ∃ X, X = wr.alloc (.cells #[.int .i64 1, .int .i64 0, .string ⟨#[]⟩] 25) := ⟨_, rfl⟩
            obtain ⟨pb, hpb⟩ : ∃ pb, pb = wr.heap.size := ⟨_, rfl⟩
            rw [← hX, ← hpb]
            have HX6 := Lib.hid (show X.heap[pb]? = some (.cells #[.int .i64 1, .int .i64 0, .string ⟨#[]⟩] 25) by rw [hX, hpb]; exact heap_alloc_last wr _)
            have HOX := Lib.hid (show OwnT X w.heap.size (.slice va vn vc) o by rw [hX]; exact HO.out.alloc _)
            have HBX := Lib.hid (show Below w.heap.size w X by rw [hX]; exact HB.out.alloc hbs _)
            have HNE := Lib.hid (show ∀ g, (Value.slice va vn vc).ownBlock = some g → g ≠ pb from fun g hg => by have := (HO.out.lt g hg).2; omega)
            have hpbw : w.heap.size ≤ pb := by omega
            clear hX hpb
            go_loopw [7, 8] (fun v kv wq => ∃ k : Nat, kv = .int .i64 (k : Int) ∧ k ≤ 8 ∧ v = .int .u64 (val ((s.drop (i + 1)).take k) : Int) ∧ wq = X) (fun _ kv _ => 8 - (intOf kv).toNat)
            case atStart => exact ⟨0, rfl, by omega, rfl, rfl⟩
            case round =>
              obtain ⟨k, rfl, hk, rfl, rfl⟩ := hrel
              by_cases hk8 : k < 8
              · have hlt2 : i + 1 + k < s.length := by omega
                have hml2 : (i : Int) + 1 + (k : Int) < (s.length : Int) := by omega
                have hg2 := tx_get s (i + 1 + k) hlt2 (by rw [hz]; exact hlt2)
                have HT := Lib.hid (show val ((s.drop (i + 1)).take (k + 1)) = val ((s.drop (i + 1)).take k) * 256 + s[i + 1 + k].toNat by
                  rw [val_take _ k (by rw [List.length_drop]; omega), List.getElem_drop])
                have hv : val ((s.drop (i + 1)).take k) < 72057594037927936 := Nat.lt_of_lt_of_le (val_take_lt _ k hk) (Nat.pow_le_pow_right (n := 256) (by decide) (show k ≤ 7 by omega))
                have hbyte := u8_lt s[i + 1 + k]
                generalize s[i + 1 + k] = x at *
                generalize val ((s.drop (i + 1)).take k) = n at *
                go_wp2_with fail
                refine ⟨⟨k + 1, by rw [Int.natCast_add]; rfl, by omega, ?_, by first | rfl | trivial⟩, ?_⟩
                · rw [HT.out]; simp
                · simp only [intOf]; omega
              · have hk8' : k = 8 := by omega
                subst hk8'
                have hst := (sub_top _ (val_take_lt (s.drop (i + 1)) 8 (by omega))).trans HV.out.symm
                generalize val ((s.drop (i + 1)).take 8) = V at *
                have c60 : wr.cell? ⟨pb, 0, none⟩ = some (.int .i64 1) := by rw [cell_of_row _ _ _ _ _ _ HX6.out]; rfl
                have c61 : wr.cell? ⟨pb, 1, none⟩ = some (.int .i64 0) := by rw [cell_of_row _ _ _ _ _ _ HX6.out]; rfl
                have c62 : wr.cell? ⟨pb, 2, none⟩ = some (.string ⟨#[]⟩) := by rw [cell_of_row _ _ _ _ _ _ HX6.out]; rfl
                have f61 : wr.frozen? ⟨pb, 1, none⟩ = false := frozen_of_row wr pb 1 _ _ HX6.out
                have HOY := Lib.hid ((HOX.out.other (o := 1) (u := .int .i64 (wrap64 (IntKind.u64.wrap ((V : Int) - 9223372036854775808)))) HNE.out).alloc (.cells #[.int .i64 1, .int .i64 (wrap64 (IntKind.u64.wrap ((V : Int) - 9223372036854775808))), .string ⟨#[]⟩] 25))
                have HBY := Lib.hid (below_set (o := 1) (u := .int .i64 (wrap64 (IntKind.u64.wrap ((V : Int) - 9223372036854775808)))) hpbw HBX.out)
                have hsz : (wr.setCell ⟨pb, 1, none⟩ (.int .i64 (wrap64 (IntKind.u64.wrap ((V : Int) - 9223372036854775808))))).heap.size = wr.heap.size := by simp [World.setCell]
                have hT := heap_alloc_last (wr.setCell ⟨pb, 1, none⟩ (.int .i64 (wrap64 (IntKind.u64.wrap ((V : Int) - 9223372036854775808))))) (.cells #[.int .i64 1, .int .i64 (wrap64 (IntKind.u64.wrap ((V : Int) - 9223372036854775808))), .string ⟨#[]⟩] 25)
                rw [hsz] at hT
                obtain ⟨u3, w3, hr3, ho4, hg4⟩ := run_append_parts (w := (wr.setCell ⟨pb, 1, none⟩ (.int .i64 (wrap64 (IntKind.u64.wrap ((V : Int) - 9223372036854775808))))).alloc (.cells #[.int .i64 1, .int .i64 (wrap64 (IntKind.u64.wrap ((V : Int) - 9223372036854775808))), .string ⟨#[]⟩] 25)) 22 w.heap.size (.slice va vn vc) (.slice (some ⟨wr.heap.size, 0, none⟩) 1 1) o [(1, N, [])] HOY.out (prow_lit hT rfl (by unfold maxLen; simp) (by rw [hst]; rfl) (by intro q hq; rw [List.mem_singleton] at hq; rw [hq]; exact HIP.out)) (by simp; omega) (by rw [alloc_size]; have := HBY.out.size; omega)
                have HO4 := Lib.hid ho4
                have HB4 := Lib.hid ((HBY.out.alloc HBY.out.size _).grown hg4 (by rw [alloc_size]; have := HBY.out.size; omega) fun g hg => (HOX.out.lt g hg).1)
                clear ho4 hg4 hT hsz hst
                go_wp2_with (refine wpList_appended rfl _ _ 22 22 rfl (.slice va vn vc) (.slice (some ⟨wr.heap.size, 0, none⟩) 1 1) u3 rfl rfl hr3 ?_; clear hr3)
                refine ⟨⟨_, i + 9, by first | rfl | (rw [Int.natCast_add]; congr 1; omega), by omega, HO4.out, HI2.out, HB4.out, by simp; omega, szp_snoc HZP.out (by simp)⟩, ?_⟩
                simp only [intOf]; omega
          · have t2 : decide ((s.length : Int) - ((i : Int) + 1) < 8) = true := decide_eq_true (by omega)
            have HNO := Lib.hid (HF1.out (by rw [List.length_drop]; omega))
            have HB1 := Lib.hid (HB.out.alloc hbs (.cells #[.int .i64 1, .int .i64 0, .string ⟨#[]⟩] 25))
            clear hc1
            generalize s[i] = c at *
            go_wp2_with fail
            go_ret2
            exact ⟨HB1.out, .inr (.inr ⟨HS1.out, HNO.out, rfl⟩)⟩
        · by_cases hc2 : s[i] = 2
          · skip
            have HI1 := Lib.hid (HIT.out hc2)
            have hcv0 : (s[i].toNat : Int) = 2 := by rw [hc2]; rfl
            clear HFO HFN HIN HIT hc1 hc2
            generalize s[i] = c at *
            go_wp2_with fail
            clear hcv0
            obtain ⟨X, hX⟩ : ∃ X, X = wr.alloc (.cells #[.int .i64 2, .int .i64 0, .string ⟨#[]⟩] 25) := ⟨_, rfl⟩
            obtain ⟨pb, hpb⟩ : ∃ pb, pb = wr.heap.size := ⟨_, rfl⟩
            rw [← hX, ← hpb]
            have HX6 := Lib.hid (show X.heap[pb]? = some (.cells #[.int .i64 2, .int .i64 0, .string ⟨#[]⟩] 25) by rw [hX, hpb]; exact heap_alloc_last wr _)
            have HOX := Lib.hid (show OwnT X w.heap.size (.slice va vn vc) o by rw [hX]; exact HO.out.alloc _)
            have HBX := Lib.hid (show Below w.heap.size w X by rw [hX]; exact HB.out.alloc hbs _)
            have HNE := Lib.hid (show ∀ g, (Value.slice va vn vc).ownBlock = some g → g ≠ pb from fun g hg => by have := (HO.out.lt g hg).2; omega)
            have hpbw : w.heap.size ≤ pb := by omega
            clear hX hpb
            have HPX := Lib.hid (show pb < X.heap.size from (Array.getElem?_eq_some_iff.1 HX6.out).1)
            go_loopw [5, 9] (fun kv tv wq => ∃ (k : Nat) (t : List UInt8), kv = .int .i64 (k : Int) ∧ k ≤ s.length ∧ i + 1 ≤ k ∧ OwnU wq X.heap.size tv t ∧ Below X.heap.size X wq ∧ t.length ≤ k ∧ InvT s i t k) (fun kv _ _ => s.length + 1 - (intOf kv).toNat)
            case atStart => exact ⟨i + 1, [], rfl, by omega, Nat.le_refl _, ⟨rfl, .inl ⟨rfl, rfl⟩⟩, Below.refl _ _, by simp, invT_start s i⟩
            case round =>
              obtain ⟨k, t, rfl, hk, hik, ht3, hb3, htk, hJ⟩ := hrel
              have hs3 := hb3.size
              obtain ⟨ta, tn, tc, rfl, htn⟩ := ht3.shapeQ
              have HTN := Lib.hid htn
              have HT3 := Lib.hid ht3
              have HB3 := Lib.hid hb3
              clear ht3 htn
              by_cases hkl : k < s.length
              · have tk1 : decide ((k : Int) < (s.length : Int)) = true := decide_eq_true (by omega)
                have hmlk : (k : Int) < (s.length : Int) := by omega
                have hgk := tx_get s k hkl (by rw [hz]; exact hkl)
                have hbk := u8_lt s[k]
                by_cases hk0 : s[k] = 0
                · have tk2 : ((s[k].toNat : Int) == 0) = true := by rw [hk0]; rfl
                  by_cases hkl2 : k + 1 < s.length
                  · have tk3 : ((k : Int) + 1 == (s.length : Int)) = false := by rw [beq_eq_false_iff_ne]; omega
                    have hmlk2 : (k : Int) + 1 < (s.length : Int) := by omega
                    have hgk2 := tx_get s (k + 1) hkl2 (by rw [hz]; exact hkl2)
                    have hbk2 := u8_lt s[k + 1]
                    by_cases hk255 : s[k + 1] = 255
                    · have tk4 : ((s[k + 1].toNat : Int) != 255) = false := by rw [hk255]; rfl
                      have HJ2 := Lib.hid (invT_step2 hJ hkl2 hk0 hk255)
                      have hx0 : s[k].toNat = 0 := by rw [hk0]; rfl
                      clear hJ hk0 hk255
                      generalize s[k] = x at *
                      generalize s[k + 1] = y at *
                      obtain rfl : x = 0 := UInt8.toNat_inj.1 hx0
                      obtain ⟨u3, w3, hr3, ho4, hg4⟩ := run_append_bytes (w := wr.alloc (.cells #[.int .u8 0] 5)) 39 X.heap.size (.slice ta tn tc) (.slice (some ⟨wr.heap.size, 0, none⟩) 1 1) t [0] (OwnU.alloc HT3.out _) (own_one wr 0 0 rfl).row (by simp; omega) (by rw [alloc_size]; omega)
                      have HO4 := Lib.hid ho4
                      have HB4 := Lib.hid ((HB3.out.alloc hs3 _).grown hg4 (by rw [alloc_size]; omega) fun g hg => (HT3.out.lt g hg).1)
                      clear ho4 hg4 hb3
                      go_wp2_with (refine wpList_appended rfl _ _ 39 39 rfl (.slice ta tn tc) (.slice (some ⟨wr.heap.size, 0, none⟩) 1 1) u3 rfl rfl hr3 ?_; clear hr3)
                      refine ⟨⟨k + 2, t ++ [0], by first | rfl | (rw [Int.natCast_add]; congr 1; omega), by omega, by omega, HO4.out, HB4.out, by simp; omega, HJ2.out⟩, ?_⟩
                      simp only [intOf]; omega
                    · have hy0 : s[k + 1].toNat ≠ 255 := fun e => hk255 (UInt8.toNat_inj.1 e)
                      have tk4 : ((s[k + 1].toNat : Int) != 255) = true := by rw [bne_iff_ne]; omega
                      have HI2 := Lib.hid (HI1.out t k hJ (.inr ⟨hkl, hk0, fun _ => hk255⟩))
                      have h6 := (hb3.block pb HPX.out).trans HX6.out
                      have c60 : wr.cell? ⟨pb, 0, none⟩ = some (.int .i64 2) := by rw [cell_of_row _ _ _ _ _ _ h6]; rfl
                      have c61 : wr.cell? ⟨pb, 1, none⟩ = some (.int .i64 0) := by rw [cell_of_row _ _ _ _ _ _ h6]; rfl
                      have c62 : wr.cell? ⟨pb, 2, none⟩ = some (.string ⟨#[]⟩) := by rw [cell_of_row _ _ _ _ _ _ h6]; rfl
                      have f62 : wr.frozen? ⟨pb, 2, none⟩ = false := frozen_of_row wr pb 2 _ _ h6
                      have hcv := conv_row HT3.out.row
                      have HOY := Lib.hid (((HOX.out.below hb3).other (o := 2) (u := .string (txB t)) HNE.out).alloc (.cells #[.int .i64 2, .int .i64 0, .string (txB t)] 25))
                      have HBY := Lib.hid (below_set (o := 2) (u := .string (txB t)) hpbw (below_trans HBX.out hb3))
                      have hsz : (wr.setCell ⟨pb, 2, none⟩ (.string (txB t))).heap.size = wr.heap.size := by simp [World.setCell]
                      have hT := heap_alloc_last (wr.setCell ⟨pb, 2, none⟩ (.string (txB t))) (.cells #[.int .i64 2, .int .i64 0, .string (txB t)] 25)
                      rw [hsz] at hT
                      obtain ⟨u3, w3, hr3, ho4, hg4⟩ := run_append_parts (w := (wr.setCell ⟨pb, 2, none⟩ (.string (txB t))).alloc (.cells #[.int .i64 2, .int .i64 0, .string (txB t)] 25)) 22 w.heap.size (.slice va vn vc) (.slice (some ⟨wr.heap.size, 0, none⟩) 1 1) o [(2, 0, t)] HOY.out (prow_lit hT rfl (by unfold maxLen; simp) rfl (by intro q hq; rw [List.mem_singleton] at hq; rw [hq]; exact inP_txt t)) (by simp; omega) (by rw [alloc_size]; have := HBY.out.size; omega)
                      have HO4 := Lib.hid ho4
                      have HB4 := Lib.hid ((HBY.out.alloc HBY.out.size _).grown hg4 (by rw [alloc_size]; have := HBY.out.size; omega) fun g hg => (HOX.out.lt g hg).1)
                      have HSZ := Lib.hid (szp_snoc (p := (2, 0, t)) HZP.out (by simp only; omega))
                      clear ho4 hg4 hT hsz h6 hb3 hJ hk0 hk255
                      generalize s[k] = x at *
                      generalize s[k + 1] = y at *
                      go_wp2_with (refine wpList_appended rfl _ _ 22 22 rfl (.slice va vn vc) (.slice (some ⟨wr.heap.size, 0, none⟩) 1 1) u3 rfl rfl hr3 ?_; clear hr3)
                      refine ⟨⟨_, k + 2, by first | rfl | (rw [Int.natCast_add]; rfl), by omega, HO4.out, HI2.out, HB4.out, by simp; omega, HSZ.out⟩, ?_⟩
                      simp only [intOf]; omega
                  · have tk3 : ((k : Int) + 1 == (s.length : Int)) = true := by rw [beq_iff_eq]; omega
                    have HI2 := Lib.hid (HI1.out t k hJ (.inr ⟨hkl, hk0, fun hd => absurd hd hkl2⟩))
                    have h6 := (hb3.block pb HPX.out).trans HX6.out
                    have c60 : wr.cell? ⟨pb, 0, none⟩ = some (.int .i64 2) := by rw [cell_of_row _ _ _ _ _ _ h6]; rfl
                    have c61 : wr.cell? ⟨pb, 1, none⟩ = some (.int .i64 0) := by rw [cell_of_row _ _ _ _ _ _ h6]; rfl
                    have c62 : wr.cell? ⟨pb, 2, none⟩ = some (.string ⟨#[]⟩) := by rw [cell_of_row _ _ _ _ _ _ h6]; rfl
                    have f62 : wr.frozen? ⟨pb, 2, none⟩ = false := frozen_of_row wr pb 2 _ _ h6
                    have hcv := conv_row HT3.out.row
                    have HOY := Lib.hid (((HOX.out.below hb3).other (o := 2) (u := .string (txB t)) HNE.out).alloc (.cells #[.int .i64 2, .int .i64 0, .string (txB t)] 25))
                    have HBY := Lib.hid (below_set (o := 2) (u := .string (txB t)) hpbw (below_trans HBX.out hb3))
                    have hsz : (wr.setCell ⟨pb, 2, none⟩ (.string (txB t))).heap.size = wr.heap.size := by simp [World.setCell]
                    have hT := heap_alloc_last (wr.setCell ⟨pb, 2, none⟩ (.string (txB t))) (.cells #[.int .i64 2, .int .i64 0, .string (txB t)] 25)
                    rw [hsz] at hT
                    obtain ⟨u3, w3, hr3, ho4, hg4⟩ := run_append_parts (w := (wr.setCell ⟨pb, 2, none⟩ (.string (txB t))).alloc (.cells #[.int .i64 2, .int .i64 0, .string (txB t)] 25)) 22 w.heap.size (.slice va vn vc) (.slice (some ⟨wr.heap.size, 0, none⟩) 1 1) o [(2, 0, t)] HOY.out (prow_lit hT rfl (by unfold maxLen; simp) rfl (by intro q hq; rw [List.mem_singleton] at hq; rw [hq]; exact inP_txt t)) (by simp; omega) (by rw [alloc_size]; have := HBY.out.size; omega)
                    have HO4 := Lib.hid ho4
                    have HB4 := Lib.hid ((HBY.out.alloc HBY.out.size _).grown hg4 (by rw [alloc_size]; have := HBY.out.size; omega) fun g hg => (HOX.out.lt g hg).1)
                    have HSZ := Lib.hid (szp_snoc (p := (2, 0, t)) HZP.out (by simp only; omega))
                    clear ho4 hg4 hT hsz h6 hb3 hJ hk0
                    generalize s[k] = x at *
                    go_wp2_with (refine wpList_appended rfl _ _ 22 22 rfl (.slice va vn vc) (.slice (some ⟨wr.heap.size, 0, none⟩) 1 1) u3 rfl rfl hr3 ?_; clear hr3)
                    refine ⟨⟨_, k + 2, by first | rfl | (rw [Int.natCast_add]; rfl), by omega, HO4.out, HI2.out, HB4.out, by simp; omega, HSZ.out⟩, ?_⟩
                    simp only [intOf]; omega
                · have hx0 : s[k].toNat ≠ 0 := fun e => hk0 (UInt8.toNat_inj.1 e)
                  have tk2 : ((s[k].toNat : Int) == 0) = false := by rw [beq_eq_false_iff_ne]; omega
                  have HJ2 := Lib.hid (invT_step1 hJ hkl hk0)
                  clear hJ hk0 hx0
                  generalize s[k] = x at *
                  obtain ⟨u3, w3, hr3, ho4, hg4⟩ := run_append_bytes (w := wr.alloc (.cells #[.int .u8 (x.toNat : Int)] 5)) 39 X.heap.size (.slice ta tn tc) (.slice (some ⟨wr.heap.size, 0, none⟩) 1 1) t [x] (OwnU.alloc HT3.out _) (own_one wr x _ rfl).row (by simp; omega) (by rw [alloc_size]; omega)
                  have HO4 := Lib.hid ho4
                  have HB4 := Lib.hid ((HB3.out.alloc hs3 _).grown hg4 (by rw [alloc_size]; omega) fun g hg => (HT3.out.lt g hg).1)
                  clear ho4 hg4 hb3
                  go_wp2_with (refine wpList_appended rfl _ _ 39 39 rfl (.slice ta tn tc) (.slice (some ⟨wr.heap.size, 0, none⟩) 1 1) u3 rfl rfl hr3 ?_; clear hr3)
                  refine ⟨⟨k + 1, t ++ [x], by rw [Int.natCast_add]; rfl, by omega, by omega, HO4.out, HB4.out, by simp; omega, HJ2.out⟩, ?_⟩
                  simp only [intOf]; omega
              · have tk1 : decide ((k : Int) < (s.length : Int)) = false := decide_eq_false (by omega)
                have HI2 := Lib.hid (HI1.out t k hJ (.inl (by omega)))
                have h6 := (hb3.block pb HPX.out).trans HX6.out
                have c60 : wr.cell? ⟨pb, 0, none⟩ = some (.int .i64 2) := by rw [cell_of_row _ _ _ _ _ _ h6]; rfl
                have c61 : wr.cell? ⟨pb, 1, none⟩ = some (.int .i64 0) := by rw [cell_of_row _ _ _ _ _ _ h6]; rfl
                have c62 : wr.cell? ⟨pb, 2, none⟩ = some (.string ⟨#[]⟩) := by rw [cell_of_row _ _ _ _ _ _ h6]; rfl
                have f62 : wr.frozen? ⟨pb, 2, none⟩ = false := frozen_of_row wr pb 2 _ _ h6
                have hcv := conv_row HT3.out.row
                have HOY := Lib.hid (((HOX.out.below hb3).other (o := 2) (u := .string (txB t)) HNE.out).alloc (.cells #[.int .i64 2, .int .i64 0, .string (txB t)] 25))
                have HBY := Lib.hid (below_set (o := 2) (u := .string (txB t)) hpbw (below_trans HBX.out hb3))
                have hsz : (wr.setCell ⟨pb, 2, none⟩ (.string (txB t))).heap.size = wr.heap.size := by simp [World.setCell]
                have hT := heap_alloc_last (wr.setCell ⟨pb, 2, none⟩ (.string (txB t))) (.cells #[.int .i64 2, .int .i64 0, .string (txB t)] 25)
                rw [hsz] at hT
                obtain ⟨u3, w3, hr3, ho4, hg4⟩ := run_append_parts (w := (wr.setCell ⟨pb, 2, none⟩ (.string (txB t))).alloc (.cells #[.int .i64 2, .int .i64 0, .string (txB t)] 25)) 22 w.heap.size (.slice va vn vc) (.slice (some ⟨wr.heap.size, 0, none⟩) 1 1) o [(2, 0, t)] HOY.out (prow_lit hT rfl (by unfold maxLen; simp) rfl (by intro q hq; rw [List.mem_singleton] at hq; rw [hq]; exact inP_txt t)) (by simp; omega) (by rw [alloc_size]; have := HBY.out.size; omega)
                have HO4 := Lib.hid ho4
                have HB4 := Lib.hid ((HBY.out.alloc HBY.out.size _).grown hg4 (by rw [alloc_size]; have := HBY.out.size; omega) fun g hg => (HOX.out.lt g hg).1)
                have HSZ := Lib.hid (szp_snoc (p := (2, 0, t)) HZP.out (by simp only; omega))
                clear ho4 hg4 hT hsz h6 hb3 hJ
                go_wp2_with (refine wpList_appended rfl _ _ 22 22 rfl (.slice va vn vc) (.slice (some ⟨wr.heap.size, 0, none⟩) 1 1) u3 rfl rfl hr3 ?_; clear hr3)
                refine ⟨⟨_, k + 2, by first | rfl | (rw [Int.natCast_add]; rfl), by omega, HO4.out, HI2.out, HB4.out, by simp; omega, HSZ.out⟩, ?_⟩
                simp only [intOf]; omega
          · have HNO := Lib.hid (HFO.out hc1 hc2)
            have t2 : ((s[i].toNat : Int) == 1) = false := u8_ne (y := 1) hc1
            have t3 : ((s[i].toNat : Int) == 2) = false := u8_ne (y := 2) hc2
            clear hc1 hc2
            generalize s[i] = c at *
            have hcb := u8_lt c
            have HB1 := Lib.hid (HB.out.alloc hbs (.cells #[.int .i64 (c.toNat : Int), .int .i64 0, .string ⟨#[]⟩] 25))
            go_wp2_with fail
            go_ret2
            exact ⟨HB1.out, .inr (.inr ⟨HS1.out, HNO.out, rfl⟩)⟩
      · skip
        have t1 : decide ((i : Int) < (s.length : Int)) = false := decide_eq_false (by omega)
        have HK := Lib.hid (refKey_any _ o wr ho.row HZP.out)
        have HYES := Lib.hid (inv_yes (s := s) ho.2)
        have HNO := Lib.hid (inv_no hinv (by omega) hs1)
        obtain ⟨va, vc, rfl, _, _⟩ := ho.shape
        have HO := Lib.hid ho
        have HB := Lib.hid hb
        clear ho hb hinv
        have htq := tx_beqS (keyT o) s
        by_cases he : keyE o = 0
        · by_cases ht : keyT o = s
          · have HY2 := Lib.hid (HYES.out he ht)
            rw [ht, he] at HK
            have htq2 : ((txB s).toList == (txB s).toList) = true := by simp
            clear htq
            go_wp2_with fail
            refine HK.out.mono ?_
            rintro e w2 ⟨rfl, hb2⟩
            have HB2 := Lib.hid (below_trans HB.out hb2)
            have HO2 := Lib.hid (HO.out.below hb2)
            clear hb2
            go_wp2_with fail
            go_ret2
            exact ⟨HB2.out, .inr (.inl ⟨HS1.out, o, _, HY2.out.1, HY2.out.2.1, HY2.out.2.2, rfl, HO2.out⟩)⟩
          · rw [decide_eq_false ht] at htq
            rw [he] at HK
            have HN2 := Lib.hid (HNO.out (fun h => ht h.2))
            generalize txB (keyT o) = Z at *
            go_wp2_with fail
            refine HK.out.mono ?_
            rintro e w2 ⟨rfl, hb2⟩
            have HB2 := Lib.hid (below_trans HB.out hb2)
            clear hb2
            go_wp2_with fail
            go_ret2
            exact ⟨HB2.out, .inr (.inr ⟨HS1.out, HN2.out, rfl⟩)⟩
        · have te : (keyE o != 0) = true := by simp [he]
          have HN2 := Lib.hid (HNO.out (fun h => he h.1))
          generalize txB (keyT o) = Z at *
          generalize keyE o = eo at *
          go_wp2_with fail
          refine HK.out.mono ?_
          rintro e w2 ⟨rfl, hb2⟩
          have HB2 := Lib.hid (below_trans HB.out hb2)
          clear hb2
          go_wp2_with fail
          go_ret2
          exact ⟨HB2.out, .inr (.inr ⟨HS1.out, HN2.out, rfl⟩)⟩
end Go.Proofs.Ytpinmkoaihjhfaa
