/- Texts of this seat, put together: AnQ, AnQ2, AnQ3. -/
import Derived.Test.YtggjeiemofkfbaaGN4
import Derived.Test.YtggjeiemofkfbaaGR1
/- The document's own Start, End, Move, Right (layer 8). -/
namespace Go.Proofs.Ytggjeiemofkfbaa
open Go.RowKit Rn Ch
open An (away aheadR fullA placeA nA isAhead)
open Cp (Atm atms opA kA)

theorem placeA_take {up : Bool} {a : Int} {F : List Atm} {k : Nat} (h : k < F.length) :
    placeA up a (F.take (k + 1)) 0 = placeA up a (F.take k) 0 + (match F[k] with | .ins _ _ => if away up a (kA (F.take k)) = true then 0 else 1 | .keep _ => if (kA (F.take k) : Int) < a then 1 else 0 | .del => 0) := by
  rw [List.take_succ_eq_append_getElem h, An.placeA_append, Int.zero_add]
  cases F[k] <;> simp only [placeA, Int.add_zero]
set_option maxRecDepth 100000 in
set_option maxHeartbeats 8000000 in
theorem refPlace_up (f a : Int) (v : Value) (ops : List OpD) (w : World) (hv : OpRow w v ops) (hok : OkC f ops) (_h0 : 0 ≤ a) (_h1 : a ≤ f) :
    Calls Try.prog 63 #[chAgg f v, .int .i64 a, .bool true] w fun e w' => e = .returned (.int .i64 (placeA true a (fullA f (norm ops)) 0)) ∧ Below w.heap.size w w' := by
  obtain ⟨aa, acap, rfl⟩ := hv.shape
  obtain ⟨W, hW, x, bW⟩ : ∃ W, W = w.alloc (.cells #[.int .i64 f, .slice aa ops.length acap] 24) ∧ W.heap[w.heap.size]? = some (.cells #[.int .i64 f, .slice aa ops.length acap] 24 (0, 0)) ∧ Below w.heap.size w W := ⟨_, rfl, heap_new _ _, below_box _ _⟩
  have HW := Lib.hid hW
  have BW := Lib.hid bW
  obtain ⟨p0, p1, _, _⟩ := cells2 x
  have HC := Lib.hid (refAtoms_any f _ ops W (hv.below bW) hok)
  have hs := An.full_sums (norm_ok hok).1
  have hlim : nA (fullA f (norm ops)) ≤ 20000 := by rw [hs.2]; exact (norm_ok hok).1.2.2.2.2.2
  have hf1 := hok.2.1
  obtain ⟨F, hFF⟩ : ∃ F, F = fullA f (norm ops) := ⟨_, rfl⟩
  rw [← hFF] at hs hlim HC ⊢
  have HS := Lib.hid (And.intro hs.1 (And.intro hlim hf1))
  clear hW bW x hv hok hs hlim hFF hf1
  go_enter Try.func63, Try.ntmps63
  go_wp2_with fail
  rw [← HW.out]
  refine HC.out.mono ?_
  rintro e w6 ⟨u, rfl, o6, b1⟩
  obtain ⟨la, lc, hu⟩ := o6.row.shape
  have RO := o6.row
  rw [hu] at RO
  rw [List.length_map] at hu RO
  subst hu
  obtain ⟨la', lc', hsh, v1, v2, v3⟩ := RO
  injection hsh with i1 i2 i3
  subst i1
  have V3 := Lib.hid v3
  have hn9 : F.length ≤ 9223372036854775807 := by have := Nat.le_trans v1 v2; rw [List.length_map] at this; exact this
  have B6 := Lib.hid (BW.out.trans (b1.mono BW.out.size))
  clear b1 o6 v1 v2 v3 i2 i3 p0 p1 HC
  go_wp2_with fail
  go_loopw [8, 9, 10] (fun n o i wr => ∃ k : Nat, n = .int .i64 (placeA true a (F.take k) 0) ∧ o = .int .i64 (kA (F.take k) : Int) ∧ i = .int .i64 (k : Int) ∧ k ≤ F.length ∧ w6 = wr) (fun _ _ i _ => F.length - (intOf i).toNat)
  case atStart => exact ⟨0, rfl, rfl, rfl, Nat.zero_le _, rfl⟩
  case round =>
    obtain ⟨k, rfl, rfl, rfl, hk, rfl⟩ := hrel
    obtain ⟨l1, l2, l3⟩ := kA_nA_lim F k
    obtain ⟨l4, l5, l6⟩ := HS.out
    have l7 := An.placeA_nonneg true a (F.take k) 0
    have l8 := An.placeA_le true a (F.take k) 0
    by_cases hlt : k < F.length
    · have hlt' : (k : Int) < (F.length : Int) := by omega
      obtain ⟨t1, _⟩ := kA_nA_take hlt
      have t3 := placeA_take (up := true) (a := a) hlt
      have hlm : k < (F.map opA).length := by rw [List.length_map]; exact hlt
      obtain ⟨b, off, rfl, hbl, av, _, _, z0, _, _, _⟩ := V3.out k hlm
      rw [List.getElem_map] at z0
      obtain ⟨o, ho⟩ : ∃ o : Int, (kA (F.take k) : Int) = o := ⟨_, rfl⟩
      obtain ⟨n, hn⟩ : ∃ n, placeA true a (F.take k) 0 = n := ⟨_, rfl⟩
      have g0 : 0 ≤ o := by omega
      have g1 : o ≤ 20000 := by omega
      have g2 : 0 ≤ n := by omega
      have g3 : n ≤ 20000 := by omega
      rw [ho] at t1 t3 ⊢
      rw [hn] at t3 ⊢
      have hw1 : IntKind.i64.wrap (o + 1) = o + 1 := IntWalk.i64_in _ (by omega)
      have hw2 : IntKind.i64.wrap (n + 1) = n + 1 := IntWalk.i64_in _ (by omega)
      clear l1 l2 l3 l4 l5 l6 l7 l8 ho hn
      by_cases hd : F[k] = .del
      · have hk2 : (opA F[k]).kind = 3 := by rw [hd]; rfl
        rw [hd] at t1 t3
        simp only at t1 t3
        rw [hk2] at z0
        clear hd hk2
        have T := Lib.hid (And.intro t1 t3)
        clear t1 t3
        go_wp2_with fail
        all_goals first
          | (go_roundw
             case rel => exact ⟨k + 1, by rw [T.out.2, Int.add_zero], by rw [T.out.1], by go_num, by omega, by trivial⟩
             case measure => simp [intOf]; omega)
          | exact ⟨⟨k + 1, by rw [T.out.2, Int.add_zero], by rw [T.out.1], by go_num, by omega, by trivial⟩, by simp [intOf]; omega⟩
      · cases hx : F[k] with
        | del => exact absurd hx hd
        | ins c x =>
          have hk2 : (opA F[k]).kind = 2 := by rw [hx]; rfl
          rw [hx] at t1 t3
          simp only [away, if_true, decide_eq_true_eq] at t1 t3
          rw [hk2] at z0
          clear hk2
          by_cases c0 : o < a
          · rw [if_neg (by omega)] at t3
            have T := Lib.hid (And.intro (t1.trans (Int.add_zero _)) t3)
            clear t1 t3 hx hd
            go_wp2_with fail
            all_goals first
              | (go_roundw
                 case rel => exact ⟨k + 1, by rw [T.out.2], by rw [T.out.1], by go_num, by omega, by trivial⟩
                 case measure => simp [intOf]; omega)
              | exact ⟨⟨k + 1, by rw [T.out.2], by rw [T.out.1], by go_num, by omega, by trivial⟩, by simp [intOf]; omega⟩
          · by_cases c1 : o = a
            · have c1' : (o == a) = true := by rw [beq_iff_eq]; exact c1
              rw [if_neg (by omega)] at t3
              have T := Lib.hid (And.intro (t1.trans (Int.add_zero _)) t3)
              clear c1
              clear t1 t3 hx hd
              go_wp2_with fail
              all_goals first
                | (go_roundw
                   case rel => exact ⟨k + 1, by rw [T.out.2], by rw [T.out.1], by go_num, by omega, by trivial⟩
                   case measure => simp [intOf]; omega)
                | exact ⟨⟨k + 1, by rw [T.out.2], by rw [T.out.1], by go_num, by omega, by trivial⟩, by simp [intOf]; omega⟩
            · have c1' : (o == a) = false := by rw [beq_eq_false_iff_ne]; exact c1
              rw [if_pos (by omega)] at t3
              have T := Lib.hid (And.intro (t1.trans (Int.add_zero _)) (t3.trans (Int.add_zero _)))
              clear t1 t3 hx hd
              go_wp2_with fail
              all_goals first
                | (go_roundw
                   case rel => exact ⟨k + 1, by rw [T.out.2], by rw [T.out.1], by go_num, by omega, by trivial⟩
                   case measure => simp [intOf]; omega)
                | exact ⟨⟨k + 1, by rw [T.out.2], by rw [T.out.1], by go_num, by omega, by trivial⟩, by simp [intOf]; omega⟩
        | keep x =>
          have hk2 : (opA F[k]).kind = 1 := by rw [hx]; rfl
          rw [hx] at t1 t3
          simp only at t1 t3
          rw [hk2] at z0
          clear hk2
          by_cases c0 : o < a
          · rw [if_pos c0] at t3
            have T := Lib.hid (And.intro t1 t3)
            clear t1 t3 hx hd
            go_wp2_with fail
            all_goals first
              | (go_roundw
                 case rel => exact ⟨k + 1, by rw [T.out.2], by rw [T.out.1], by go_num, by omega, by trivial⟩
                 case measure => simp [intOf]; omega)
              | exact ⟨⟨k + 1, by rw [T.out.2], by rw [T.out.1], by go_num, by omega, by trivial⟩, by simp [intOf]; omega⟩
          · rw [if_neg c0] at t3
            have T := Lib.hid (And.intro t1 (t3.trans (Int.add_zero _)))
            clear t1 t3 hx hd
            go_wp2_with fail
            all_goals first
              | (go_roundw
                 case rel => exact ⟨k + 1, by rw [T.out.2], by rw [T.out.1], by go_num, by omega, by trivial⟩
                 case measure => simp [intOf]; omega)
              | exact ⟨⟨k + 1, by rw [T.out.2], by rw [T.out.1], by go_num, by omega, by trivial⟩, by simp [intOf]; omega⟩
    · have hkn : k = F.length := by omega
      subst hkn
      rw [List.take_length]
      go_wp2_with fail
      go_ret
      exact ⟨rfl, B6.out⟩
set_option maxRecDepth 100000 in
set_option maxHeartbeats 8000000 in
theorem refPlace_down (f a : Int) (v : Value) (ops : List OpD) (w : World) (hv : OpRow w v ops) (hok : OkC f ops) (_h0 : 0 ≤ a) (_h1 : a ≤ f) :
    Calls Try.prog 63 #[chAgg f v, .int .i64 a, .bool false] w fun e w' => e = .returned (.int .i64 (placeA false a (fullA f (norm ops)) 0)) ∧ Below w.heap.size w w' := by
  obtain ⟨aa, acap, rfl⟩ := hv.shape
  obtain ⟨W, hW, x, bW⟩ : ∃ W, W = w.alloc (.cells #[.int .i64 f, .slice aa ops.length acap] 24) ∧ W.heap[w.heap.size]? = some (.cells #[.int .i64 f, .slice aa ops.length acap] 24 (0, 0)) ∧ Below w.heap.size w W := ⟨_, rfl, heap_new _ _, below_box _ _⟩
  have HW := Lib.hid hW
  have BW := Lib.hid bW
  obtain ⟨p0, p1, _, _⟩ := cells2 x
  have HC := Lib.hid (refAtoms_any f _ ops W (hv.below bW) hok)
  have hs := An.full_sums (norm_ok hok).1
  have hlim : nA (fullA f (norm ops)) ≤ 20000 := by rw [hs.2]; exact (norm_ok hok).1.2.2.2.2.2
  have hf1 := hok.2.1
  obtain ⟨F, hFF⟩ : ∃ F, F = fullA f (norm ops) := ⟨_, rfl⟩
  rw [← hFF] at hs hlim HC ⊢
  have HS := Lib.hid (And.intro hs.1 (And.intro hlim hf1))
  clear hW bW x hv hok hs hlim hFF hf1
  go_enter Try.func63, Try.ntmps63
  go_wp2_with fail
  rw [← HW.out]
  refine HC.out.mono ?_
  rintro e w6 ⟨u, rfl, o6, b1⟩
  obtain ⟨la, lc, hu⟩ := o6.row.shape
  have RO := o6.row
  rw [hu] at RO
  rw [List.length_map] at hu RO
  subst hu
  obtain ⟨la', lc', hsh, v1, v2, v3⟩ := RO
  injection hsh with i1 i2 i3
  subst i1
  have V3 := Lib.hid v3
  have hn9 : F.length ≤ 9223372036854775807 := by have := Nat.le_trans v1 v2; rw [List.length_map] at this; exact this
  have B6 := Lib.hid (BW.out.trans (b1.mono BW.out.size))
  clear b1 o6 v1 v2 v3 i2 i3 p0 p1 HC
  go_wp2_with fail
  go_loopw [8, 9, 10] (fun n o i wr => ∃ k : Nat, n = .int .i64 (placeA false a (F.take k) 0) ∧ o = .int .i64 (kA (F.take k) : Int) ∧ i = .int .i64 (k : Int) ∧ k ≤ F.length ∧ w6 = wr) (fun _ _ i _ => F.length - (intOf i).toNat)
  case atStart => exact ⟨0, rfl, rfl, rfl, Nat.zero_le _, rfl⟩
  case round =>
    obtain ⟨k, rfl, rfl, rfl, hk, rfl⟩ := hrel
    obtain ⟨l1, l2, l3⟩ := kA_nA_lim F k
    obtain ⟨l4, l5, l6⟩ := HS.out
    have l7 := An.placeA_nonneg false a (F.take k) 0
    have l8 := An.placeA_le false a (F.take k) 0
    by_cases hlt : k < F.length
    · have hlt' : (k : Int) < (F.length : Int) := by omega
      obtain ⟨t1, _⟩ := kA_nA_take hlt
      have t3 := placeA_take (up := false) (a := a) hlt
      have hlm : k < (F.map opA).length := by rw [List.length_map]; exact hlt
      obtain ⟨b, off, rfl, hbl, av, _, _, z0, _, _, _⟩ := V3.out k hlm
      rw [List.getElem_map] at z0
      obtain ⟨o, ho⟩ : ∃ o : Int, (kA (F.take k) : Int) = o := ⟨_, rfl⟩
      obtain ⟨n, hn⟩ : ∃ n, placeA false a (F.take k) 0 = n := ⟨_, rfl⟩
      have g0 : 0 ≤ o := by omega
      have g1 : o ≤ 20000 := by omega
      have g2 : 0 ≤ n := by omega
      have g3 : n ≤ 20000 := by omega
      rw [ho] at t1 t3 ⊢
      rw [hn] at t3 ⊢
      have hw1 : IntKind.i64.wrap (o + 1) = o + 1 := IntWalk.i64_in _ (by omega)
      have hw2 : IntKind.i64.wrap (n + 1) = n + 1 := IntWalk.i64_in _ (by omega)
      clear l1 l2 l3 l4 l5 l6 l7 l8 ho hn
      by_cases hd : F[k] = .del
      · have hk2 : (opA F[k]).kind = 3 := by rw [hd]; rfl
        rw [hd] at t1 t3
        simp only at t1 t3
        rw [hk2] at z0
        clear hd hk2
        have T := Lib.hid (And.intro t1 t3)
        clear t1 t3
        go_wp2_with fail
        all_goals first
          | (go_roundw
             case rel => exact ⟨k + 1, by rw [T.out.2, Int.add_zero], by rw [T.out.1], by go_num, by omega, by trivial⟩
             case measure => simp [intOf]; omega)
          | exact ⟨⟨k + 1, by rw [T.out.2, Int.add_zero], by rw [T.out.1], by go_num, by omega, by trivial⟩, by simp [intOf]; omega⟩
      · cases hx : F[k] with
        | del => exact absurd hx hd
        | ins c x =>
          have hk2 : (opA F[k]).kind = 2 := by rw [hx]; rfl
          rw [hx] at t1 t3
          simp only [away, Bool.false_eq_true, if_false, decide_eq_true_eq] at t1 t3
          rw [hk2] at z0
          clear hk2
          by_cases c0 : o < a
          · rw [if_neg (by omega)] at t3
            have T := Lib.hid (And.intro (t1.trans (Int.add_zero _)) t3)
            clear t1 t3 hx hd
            go_wp2_with fail
            all_goals first
              | (go_roundw
                 case rel => exact ⟨k + 1, by rw [T.out.2], by rw [T.out.1], by go_num, by omega, by trivial⟩
                 case measure => simp [intOf]; omega)
              | exact ⟨⟨k + 1, by rw [T.out.2], by rw [T.out.1], by go_num, by omega, by trivial⟩, by simp [intOf]; omega⟩
          · by_cases c1 : o = a
            · have c1' : (o == a) = true := by rw [beq_iff_eq]; exact c1
              rw [if_pos (by omega)] at t3
              have T := Lib.hid (And.intro (t1.trans (Int.add_zero _)) (t3.trans (Int.add_zero _)))
              clear c1
              clear t1 t3 hx hd
              go_wp2_with fail
              all_goals first
                | (go_roundw
                   case rel => exact ⟨k + 1, by rw [T.out.2], by rw [T.out.1], by go_num, by omega, by trivial⟩
                   case measure => simp [intOf]; omega)
                | exact ⟨⟨k + 1, by rw [T.out.2], by rw [T.out.1], by go_num, by omega, by trivial⟩, by simp [intOf]; omega⟩
            · have c1' : (o == a) = false := by rw [beq_eq_false_iff_ne]; exact c1
              rw [if_pos (by omega)] at t3
              have T := Lib.hid (And.intro (t1.trans (Int.add_zero _)) (t3.trans (Int.add_zero _)))
              clear t1 t3 hx hd
              go_wp2_with fail
              all_goals first
                | (go_roundw
                   case rel => exact ⟨k + 1, by rw [T.out.2], by rw [T.out.1], by go_num, by omega, by trivial⟩
                   case measure => simp [intOf]; omega)
                | exact ⟨⟨k + 1, by rw [T.out.2], by rw [T.out.1], by go_num, by omega, by trivial⟩, by simp [intOf]; omega⟩
        | keep x =>
          have hk2 : (opA F[k]).kind = 1 := by rw [hx]; rfl
          rw [hx] at t1 t3
          simp only at t1 t3
          rw [hk2] at z0
          clear hk2
          by_cases c0 : o < a
          · rw [if_pos c0] at t3
            have T := Lib.hid (And.intro t1 t3)
            clear t1 t3 hx hd
            go_wp2_with fail
            all_goals first
              | (go_roundw
                 case rel => exact ⟨k + 1, by rw [T.out.2], by rw [T.out.1], by go_num, by omega, by trivial⟩
                 case measure => simp [intOf]; omega)
              | exact ⟨⟨k + 1, by rw [T.out.2], by rw [T.out.1], by go_num, by omega, by trivial⟩, by simp [intOf]; omega⟩
          · rw [if_neg c0] at t3
            have T := Lib.hid (And.intro t1 (t3.trans (Int.add_zero _)))
            clear t1 t3 hx hd
            go_wp2_with fail
            all_goals first
              | (go_roundw
                 case rel => exact ⟨k + 1, by rw [T.out.2], by rw [T.out.1], by go_num, by omega, by trivial⟩
                 case measure => simp [intOf]; omega)
              | exact ⟨⟨k + 1, by rw [T.out.2], by rw [T.out.1], by go_num, by omega, by trivial⟩, by simp [intOf]; omega⟩
    · have hkn : k = F.length := by omega
      subst hkn
      rw [List.take_length]
      go_wp2_with fail
      go_ret
      exact ⟨rfl, B6.out⟩
end Go.Proofs.Ytggjeiemofkfbaa

/- The document's own Right, Start, End of layer 8. -/
namespace Go.Proofs.Ytggjeiemofkfbaa
open Go.RowKit Rn Ch
open An (away aheadR fullA placeA nA isAhead)

theorem rgE_true {f t n : Int} : rgE ⟨f, t, true⟩ n = if f = t ∧ 0 ≤ f ∧ t ≤ n then 0 else 80 := by
  unfold rgE rgFit
  simp [and_assoc]
theorem rgE_false {f t n : Int} : rgE ⟨f, t, false⟩ n = if f < t ∧ 0 ≤ f ∧ t ≤ n then 0 else 80 := by
  unfold rgE rgFit
  simp [and_assoc]
set_option maxRecDepth 100000 in
set_option maxHeartbeats 2000000 in
theorem refRgRight_any (r : RgD) (n : Int) (w : World) : Calls Try.prog 38 #[rgAgg r, .int .i64 n] w fun e w' => e = .returned (.int .i64 (rgE r n)) ∧ Below w.heap.size w w' := by
  obtain ⟨f, t, l⟩ := r
  obtain ⟨W, hW, x, bW⟩ : ∃ W, W = w.alloc (.cells #[.int .i64 f, .int .i64 t, .bool l] 46) ∧ W.heap[w.heap.size]? = some (.cells #[.int .i64 f, .int .i64 t, .bool l] 46 (0, 0)) ∧ Below w.heap.size w W := ⟨_, rfl, heap_new _ _, below_box _ _⟩
  have HW := Lib.hid hW
  have BW := Lib.hid bW
  obtain ⟨c0, c1, c2, _⟩ := cells3 x
  clear hW bW x
  cases l with
  | true =>
    by_cases e1 : f = t
    · have t1 : (f == t) = true := by rw [e1]; exact beq_self_eq_true _
      by_cases e2 : 0 ≤ f
      · by_cases e3 : f ≤ n
        · have HR : Hid (rgE ⟨f, t, true⟩ n = 0) := Lib.hid (by rw [rgE_true, if_pos (by omega)])
          clear e1
          go_enter Try.func38, Try.ntmps38
          go_wp2_with fail
          rw [← HW.out]
          go_wp2_with fail
          all_goals (first | (go_ret; exact ⟨show Ending.returned (.int .i64 0) = .returned (.int .i64 (rgE ⟨f, t, true⟩ n)) from by rw [HR.out], BW.out⟩) | (exfalso; omega))
        · have HR : Hid (rgE ⟨f, t, true⟩ n = 80) := Lib.hid (by rw [rgE_true, if_neg (by omega)])
          clear e1
          go_enter Try.func38, Try.ntmps38
          go_wp2_with fail
          rw [← HW.out]
          go_wp2_with fail
          all_goals (first | (go_ret; exact ⟨show Ending.returned (.int .i64 80) = .returned (.int .i64 (rgE ⟨f, t, true⟩ n)) from by rw [HR.out], BW.out⟩) | (exfalso; omega))
      · have HR : Hid (rgE ⟨f, t, true⟩ n = 80) := Lib.hid (by rw [rgE_true, if_neg (by omega)])
        clear e1
        go_enter Try.func38, Try.ntmps38
        go_wp2_with fail
        rw [← HW.out]
        go_wp2_with fail
        all_goals (first | (go_ret; exact ⟨show Ending.returned (.int .i64 80) = .returned (.int .i64 (rgE ⟨f, t, true⟩ n)) from by rw [HR.out], BW.out⟩) | (exfalso; omega))
    · have t1 : (f == t) = false := by rw [beq_eq_false_iff_ne]; exact e1
      have HR : Hid (rgE ⟨f, t, true⟩ n = 80) := Lib.hid (by rw [rgE_true, if_neg (by omega)])
      clear e1
      go_enter Try.func38, Try.ntmps38
      go_wp2_with fail
      rw [← HW.out]
      go_wp2_with fail
      all_goals (first | (go_ret; exact ⟨show Ending.returned (.int .i64 80) = .returned (.int .i64 (rgE ⟨f, t, true⟩ n)) from by rw [HR.out], BW.out⟩) | (exfalso; omega))
  | false =>
    by_cases e1 : f < t
    · by_cases e2 : 0 ≤ f
      · by_cases e3 : t ≤ n
        · have HR : Hid (rgE ⟨f, t, false⟩ n = 0) := Lib.hid (by rw [rgE_false, if_pos (by omega)])
          go_enter Try.func38, Try.ntmps38
          go_wp2_with fail
          rw [← HW.out]
          go_wp2_with fail
          all_goals (first | (go_ret; exact ⟨show Ending.returned (.int .i64 0) = .returned (.int .i64 (rgE ⟨f, t, false⟩ n)) from by rw [HR.out], BW.out⟩) | (exfalso; omega))
        · have HR : Hid (rgE ⟨f, t, false⟩ n = 80) := Lib.hid (by rw [rgE_false, if_neg (by omega)])
          go_enter Try.func38, Try.ntmps38
          go_wp2_with fail
          rw [← HW.out]
          go_wp2_with fail
          all_goals (first | (go_ret; exact ⟨show Ending.returned (.int .i64 80) = .returned (.int .i64 (rgE ⟨f, t, false⟩ n)) from by rw [HR.out], BW.out⟩) | (exfalso; omega))
      · have HR : Hid (rgE ⟨f, t, false⟩ n = 80) := Lib.hid (by rw [rgE_false, if_neg (by omega)])
        go_enter Try.func38, Try.ntmps38
        go_wp2_with fail
        rw [← HW.out]
        go_wp2_with fail
        all_goals (first | (go_ret; exact ⟨show Ending.returned (.int .i64 80) = .returned (.int .i64 (rgE ⟨f, t, false⟩ n)) from by rw [HR.out], BW.out⟩) | (exfalso; omega))
    · by_cases e2 : 0 ≤ f
      · have HR : Hid (rgE ⟨f, t, false⟩ n = 80) := Lib.hid (by rw [rgE_false, if_neg (by omega)])
        go_enter Try.func38, Try.ntmps38
        go_wp2_with fail
        rw [← HW.out]
        go_wp2_with fail
        all_goals (first | (go_ret; exact ⟨show Ending.returned (.int .i64 80) = .returned (.int .i64 (rgE ⟨f, t, false⟩ n)) from by rw [HR.out], BW.out⟩) | (exfalso; omega))
      · have HR : Hid (rgE ⟨f, t, false⟩ n = 80) := Lib.hid (by rw [rgE_false, if_neg (by omega)])
        go_enter Try.func38, Try.ntmps38
        go_wp2_with fail
        rw [← HW.out]
        go_wp2_with fail
        all_goals (first | (go_ret; exact ⟨show Ending.returned (.int .i64 80) = .returned (.int .i64 (rgE ⟨f, t, false⟩ n)) from by rw [HR.out], BW.out⟩) | (exfalso; omega))
/-- Texts that are not too long for the document's own count. -/
structure SmallC (ops : List OpD) : Prop where
  z : OSized ops
  t : TSmall ops
set_option maxRecDepth 100000 in
set_option maxHeartbeats 2000000 in
theorem refAsked_any (f a : Int) (v : Value) (ops : List OpD) (w : World) (hv : OpRow w v ops) (hz : SmallC ops) :
    Calls Try.prog 62 #[chAgg f v, .int .i64 a] w fun e w' => e = .returned (.int .i64 (movE f ops a)) ∧ Below w.heap.size w w' := by
  obtain ⟨aa, acap, rfl⟩ := hv.shape
  obtain ⟨W, hW, x, bW⟩ : ∃ W, W = w.alloc (.cells #[.int .i64 f, .slice aa ops.length acap] 24) ∧ W.heap[w.heap.size]? = some (.cells #[.int .i64 f, .slice aa ops.length acap] 24 (0, 0)) ∧ Below w.heap.size w W := ⟨_, rfl, heap_new _ _, below_box _ _⟩
  have HW := Lib.hid hW
  have HX := Lib.hid x
  have BW := Lib.hid bW
  obtain ⟨p0, p1, _, _⟩ := cells2 x
  have HC := Lib.hid (refRight_any f _ ops W (hv.below bW) hz.z hz.t)
  clear hW bW x hv hz
  go_enter Try.func62, Try.ntmps62
  go_wp2_with fail
  rw [← HW.out]
  refine HC.out.mono ?_
  rintro e w1 ⟨rfl, b1⟩
  have B1 := Lib.hid (BW.out.trans (b1.mono BW.out.size))
  clear p0 p1
  obtain ⟨p0, p1, _, _⟩ := cells2 (heap_up8 HX.out b1)
  clear b1
  by_cases he : toE f ops = 0
  · have te : (toE f ops == 0) = true := by rw [he]; rfl
    have HE := Lib.hid he
    by_cases h0 : a < 0
    · have E1 := Lib.hid (movE_arg HE.out (.inl h0))
      clear he
      go_wp2_with fail
      all_goals (go_ret; exact ⟨show Ending.returned (.int .i64 1) = .returned (.int .i64 (movE f ops a)) from by rw [E1.out], B1.out⟩)
    · by_cases h1 : f < a
      · have E1 := Lib.hid (movE_arg HE.out (.inr h1))
        clear he
        go_wp2_with fail
        all_goals (go_ret; exact ⟨show Ending.returned (.int .i64 1) = .returned (.int .i64 (movE f ops a)) from by rw [E1.out], B1.out⟩)
      · have E1 := Lib.hid (show movE f ops a = toE f ops by rw [movE_ok HE.out (by omega) (by omega), HE.out])
        clear he
        go_wp2_with fail
        all_goals (go_ret; exact ⟨show Ending.returned (.int .i64 (toE f ops)) = .returned (.int .i64 (movE f ops a)) from by rw [E1.out], B1.out⟩)
  · have te : (toE f ops == 0) = false := by rw [beq_eq_false_iff_ne]; exact he
    have E1 := Lib.hid (show movE f ops a = toE f ops by unfold movE; rw [if_pos he])
    clear he
    go_wp2_with fail
    all_goals (go_ret; exact ⟨show Ending.returned (.int .i64 (toE f ops)) = .returned (.int .i64 (movE f ops a)) from by rw [E1.out], B1.out⟩)
end Go.Proofs.Ytggjeiemofkfbaa

/- The document's own Start, End, Move. -/
namespace Go.Proofs.Ytggjeiemofkfbaa
open Go.RowKit Rn Ch
open An (away aheadR fullA placeA nA isAhead)

theorem movOut_mk {up : Bool} {f a N : Int} {ops : List OpD} {w w' : World} (h : movE f ops a = 0) (hn : movN up f ops a = N) (hb : Below w.heap.size w w') : MovOut up f ops a w (.returned (.tuple #[.int .i64 N, .int .i64 0])) w' := ⟨by rw [h, hn], hb⟩
set_option maxRecDepth 100000 in
set_option maxHeartbeats 2000000 in
theorem refStart_any (f a : Int) (v : Value) (ops : List OpD) (w : World) (hv : OpRow w v ops) (hz : SmallC ops) :
    Calls Try.prog 34 #[chAgg f v, .int .i64 a] w (MovOut true f ops a w) := by
  obtain ⟨aa, acap, rfl⟩ := hv.shape
  obtain ⟨W, hW, x, bW⟩ : ∃ W, W = w.alloc (.cells #[.int .i64 f, .slice aa ops.length acap] 24) ∧ W.heap[w.heap.size]? = some (.cells #[.int .i64 f, .slice aa ops.length acap] 24 (0, 0)) ∧ Below w.heap.size w W := ⟨_, rfl, heap_new _ _, below_box _ _⟩
  have HW := Lib.hid hW
  have HX := Lib.hid x
  have BW := Lib.hid bW
  have RW := Lib.hid (hv.below bW)
  obtain ⟨p0, p1, _, _⟩ := cells2 x
  have HC := Lib.hid (refAsked_any f a _ ops W (hv.below bW) hz)
  clear hW bW x hv hz
  go_enter Try.func34, Try.ntmps34
  go_wp2_with fail
  rw [← HW.out]
  refine HC.out.mono ?_
  rintro e w1 ⟨rfl, b1⟩
  have B1 := Lib.hid (BW.out.trans (b1.mono BW.out.size))
  have R1 := Lib.hid (RW.out.below b1)
  clear p0 p1
  obtain ⟨p0, p1, _, _⟩ := cells2 (heap_up8 HX.out b1)
  clear b1
  by_cases he : movE f ops a = 0
  · have te : (movE f ops a != 0) = false := by rw [he]; rfl
    have HE := Lib.hid he
    obtain ⟨h1, h2, h3⟩ := movE_zero he
    have HP := Lib.hid (refPlace_up f a _ ops w1 R1.out ((toE_iff _ _).1 h1) h2 h3)
    have HN := Lib.hid (movN_full (up := true) he)
    clear he h1 h2 h3
    go_wp2_with fail
    refine HP.out.mono ?_
    rintro e w2 ⟨rfl, b2⟩
    have B2 := Lib.hid (B1.out.trans (b2.mono B1.out.size))
    clear b2
    go_wp2_with fail
    go_ret2
    exact movOut_mk HE.out HN.out B2.out
  · have te : (movE f ops a != 0) = true := by rw [bne_iff_ne]; exact he
    have HE := Lib.hid he
    clear he
    go_wp2_with fail
    go_ret2
    exact movOut_bad rfl HE.out B1.out
set_option maxRecDepth 100000 in
set_option maxHeartbeats 2000000 in
theorem refEnd_any (f a : Int) (v : Value) (ops : List OpD) (w : World) (hv : OpRow w v ops) (hz : SmallC ops) :
    Calls Try.prog 35 #[chAgg f v, .int .i64 a] w (MovOut false f ops a w) := by
  obtain ⟨aa, acap, rfl⟩ := hv.shape
  obtain ⟨W, hW, x, bW⟩ : ∃ W, W = w.alloc (.cells #[.int .i64 f, .slice aa ops.length acap] 24) ∧ W.heap[w.heap.size]? = some (.cells #[.int .i64 f, .slice aa ops.length acap] 24 (0, 0)) ∧ Below w.heap.size w W := ⟨_, rfl, heap_new _ _, below_box _ _⟩
  have HW := Lib.hid hW
  have HX := Lib.hid x
  have BW := Lib.hid bW
  have RW := Lib.hid (hv.below bW)
  obtain ⟨p0, p1, _, _⟩ := cells2 x
  have HC := Lib.hid (refAsked_any f a _ ops W (hv.below bW) hz)
  clear hW bW x hv hz
  go_enter Try.func35, Try.ntmps35
  go_wp2_with fail
  rw [← HW.out]
  refine HC.out.mono ?_
  rintro e w1 ⟨rfl, b1⟩
  have B1 := Lib.hid (BW.out.trans (b1.mono BW.out.size))
  have R1 := Lib.hid (RW.out.below b1)
  clear p0 p1
  obtain ⟨p0, p1, _, _⟩ := cells2 (heap_up8 HX.out b1)
  clear b1
  by_cases he : movE f ops a = 0
  · have te : (movE f ops a != 0) = false := by rw [he]; rfl
    have HE := Lib.hid he
    obtain ⟨h1, h2, h3⟩ := movE_zero he
    have HP := Lib.hid (refPlace_down f a _ ops w1 R1.out ((toE_iff _ _).1 h1) h2 h3)
    have HN := Lib.hid (movN_full (up := false) he)
    clear he h1 h2 h3
    go_wp2_with fail
    refine HP.out.mono ?_
    rintro e w2 ⟨rfl, b2⟩
    have B2 := Lib.hid (B1.out.trans (b2.mono B1.out.size))
    clear b2
    go_wp2_with fail
    go_ret2
    exact movOut_mk HE.out HN.out B2.out
  · have te : (movE f ops a != 0) = true := by rw [bne_iff_ne]; exact he
    have HE := Lib.hid he
    clear he
    go_wp2_with fail
    go_ret2
    exact movOut_bad rfl HE.out B1.out
theorem mvA_full {f : Int} {ops : List OpD} {r : RgD} (h : mvE f ops r = 0) : mvA ops r = placeA true r.f (fullA f (norm ops)) 0 := by
  obtain ⟨h1, h2⟩ := mvE_zero h
  obtain ⟨g0, g1, g2, g3, g4⟩ := rgE_ok h2
  exact An.aheadR_eq (norm_ok ((toE_iff _ _).1 h1)).1 g0 (by omega)
theorem mvB_full {f : Int} {ops : List OpD} {r : RgD} (h : mvE f ops r = 0) (hl : r.lost = false) : mvB ops r = placeA false r.t (fullA f (norm ops)) 0 := by
  obtain ⟨h1, h2⟩ := mvE_zero h
  obtain ⟨g0, g1, g2, g3, g4⟩ := rgE_ok h2
  unfold mvB
  rw [if_neg (by rw [hl]; simp)]
  exact An.aheadR_eq (norm_ok ((toE_iff _ _).1 h1)).1 (by omega) (by omega)
set_option maxRecDepth 100000 in
set_option maxHeartbeats 4000000 in
theorem refMove_any (f : Int) (r : RgD) (v : Value) (ops : List OpD) (w : World) (hv : OpRow w v ops) (hz : SmallC ops) :
    Calls Try.prog 36 #[chAgg f v, rgAgg r] w (MvOut f ops r w) := by
  obtain ⟨aa, acap, rfl⟩ := hv.shape
  obtain ⟨rf, rt, rl⟩ := r
  obtain ⟨W, hW, x, y, z, bW⟩ : ∃ W, W = ((w.alloc (.cells #[.int .i64 f, .slice aa ops.length acap] 24)).alloc (.cells #[.int .i64 rf, .int .i64 rt, .bool rl] 46)).alloc (.cells #[.int .i64 0, .int .i64 0, .bool false] 46) ∧
    W.heap[w.heap.size]? = some (.cells #[.int .i64 f, .slice aa ops.length acap] 24 (0, 0)) ∧ W.heap[w.heap.size + 1]? = some (.cells #[.int .i64 rf, .int .i64 rt, .bool rl] 46 (0, 0)) ∧ W.heap[w.heap.size + 2]? = some (.cells #[.int .i64 0, .int .i64 0, .bool false] 46 (0, 0)) ∧ Below w.heap.size w W :=
    ⟨_, rfl, (box3V _ _ _ _).1, (box3V _ _ _ _).2.1, (box3V _ _ _ _).2.2.1, (box3V _ _ _ _).2.2.2⟩
  have HW := Lib.hid hW
  have HX := Lib.hid x
  have HY := Lib.hid y
  have HZ := Lib.hid z
  have BW := Lib.hid bW
  have RW := Lib.hid (hv.below bW)
  obtain ⟨p0, p1, _, _⟩ := cells2 x
  have HC := Lib.hid (refRight_any f _ ops W (hv.below bW) hz.z hz.t)
  clear hW bW x y z hv hz
  go_enter Try.func36, Try.ntmps36
  go_wp2_with fail
  rw [← HW.out]
  refine HC.out.mono ?_
  rintro e w1 ⟨rfl, b1⟩
  have B1 := Lib.hid (BW.out.trans (b1.mono BW.out.size))
  have R1 := Lib.hid (RW.out.below b1)
  have X1 := Lib.hid (heap_up8 HX.out b1)
  have Y1 := Lib.hid (heap_up8 HY.out b1)
  have Z1 := Lib.hid (heap_up8 HZ.out b1)
  clear p0 p1 b1 HC
  by_cases he : toE f ops = 0
  · have te : (toE f ops != 0) = false := by rw [he]; rfl
    have HE := Lib.hid he
    have HOK := Lib.hid ((toE_iff _ _).1 he)
    obtain ⟨p0, p1, _, _⟩ := cells2 X1.out
    obtain ⟨q0, q1, q2, _⟩ := cells3 Y1.out
    have HR := Lib.hid (refRgRight_any ⟨rf, rt, rl⟩ f w1)
    clear he
    go_wp2_with fail
    refine HR.out.mono ?_
    rintro e w2 ⟨rfl, b1⟩
    have B2 := Lib.hid (B1.out.trans (b1.mono B1.out.size))
    have R2 := Lib.hid (R1.out.below b1)
    have X2 := Lib.hid (heap_up8 X1.out b1)
    have Y2 := Lib.hid (heap_up8 Y1.out b1)
    have Z2 := Lib.hid (heap_up8 Z1.out b1)
    clear p0 p1 q0 q1 q2 b1 HR
    by_cases hr : rgE ⟨rf, rt, rl⟩ f = 0
    · have tr : (rgE ⟨rf, rt, rl⟩ f != 0) = false := by rw [hr]; rfl
      have E1 := Lib.hid (show mvE f ops ⟨rf, rt, rl⟩ = 0 by unfold mvE; rw [if_neg (by rw [HE.out]; simp), hr])
      have G := Lib.hid (rgE_ok hr)
      obtain ⟨p0, p1, _, _⟩ := cells2 X2.out
      obtain ⟨q0, q1, q2, _⟩ := cells3 Y2.out
      have HP := Lib.hid (refPlace_up f rf _ ops w2 R2.out HOK.out G.out.1 (by have := G.out; simp only at this; omega))
      have HA := Lib.hid (mvA_full E1.out)
      clear hr
      go_wp2_with fail
      refine HP.out.mono ?_
      rintro e w3 ⟨rfl, b1⟩
      have B3 := Lib.hid (B2.out.trans (b1.mono B2.out.size))
      have R3 := Lib.hid (R2.out.below b1)
      have X3 := Lib.hid (heap_up8 X2.out b1)
      have Y3 := Lib.hid (heap_up8 Y2.out b1)
      have Z3 := Lib.hid (heap_up8 Z2.out b1)
      clear p0 p1 q0 q1 q2 b1 HP
      obtain ⟨a, ha⟩ : ∃ a, a = placeA true rf (fullA f (norm ops)) 0 := ⟨_, rfl⟩
      rw [← ha]
      have HA' := Lib.hid (ha.trans HA.out.symm)
      clear ha
      obtain ⟨p0, p1, _, _⟩ := cells2 X3.out
      obtain ⟨q0, q1, q2, _⟩ := cells3 Y3.out
      cases rl with
      | true =>
        obtain ⟨k0, k1, k2, k3, k4, k5⟩ := cells3 Z3.out
        have hs4 := lt_of_heap Z3.out
        obtain ⟨m1, m2⟩ := agg_set3 (.int .i64 a) (.int .i64 a) (.bool true) Z3.out
        have HQ1 := Lib.hid m1
        have HQ2 := Lib.hid m2
        clear m1 m2
        go_wp2_with fail
        refine bodyPost_ret (results_rgN rfl rfl rfl (cells3 HQ1.out).1 (cells3 HQ1.out).2.1 (cells3 HQ1.out).2.2.1) rfl ?_
        exact mvOut_ok E1.out HA'.out (by unfold mvB; rw [if_pos rfl]; exact HA'.out) (by simp) (B3.out.trans (HQ2.out.below.mono (by omega)))
      | false =>
        have HP := Lib.hid (refPlace_down f rt _ ops w3 R3.out HOK.out (by have := G.out; simp only at this; omega) (by have := G.out; simp only at this; omega))
        have HB := Lib.hid (mvB_full E1.out rfl)
        go_wp2_with fail
        refine HP.out.mono ?_
        rintro e w4 ⟨rfl, b1⟩
        have B4 := Lib.hid (B3.out.trans (b1.mono B3.out.size))
        have Z4 := Lib.hid (heap_up8 Z3.out b1)
        clear p0 p1 q0 q1 q2 b1 HP
        obtain ⟨b, hb⟩ : ∃ b, b = placeA false rt (fullA f (norm ops)) 0 := ⟨_, rfl⟩
        rw [← hb]
        have HB' := Lib.hid (hb.trans HB.out.symm)
        obtain ⟨k0, k1, k2, k3, k4, k5⟩ := cells3 Z4.out
        have hs4 := lt_of_heap Z4.out
        obtain ⟨l, hl⟩ : ∃ l, l = (a == b) := ⟨_, rfl⟩
        have hkk : (a == b) = l := hl.symm
        obtain ⟨m1, m2⟩ := agg_set3 (.int .i64 a) (.int .i64 b) (.bool l) Z4.out
        have HQ1 := Lib.hid m1
        have HQ2 := Lib.hid m2
        have HLL := Lib.hid (show l = decide (a = b) by rw [hl]; rfl)
        clear m1 m2 hb hl
        go_wp2_with fail
        refine bodyPost_ret (results_rgN rfl rfl rfl (cells3 HQ1.out).1 (cells3 HQ1.out).2.1 (cells3 HQ1.out).2.2.1) rfl ?_
        exact mvOut_ok E1.out HA'.out HB'.out HLL.out (B4.out.trans (HQ2.out.below.mono (by omega)))
    · have tr : (rgE ⟨rf, rt, rl⟩ f != 0) = true := by rw [bne_iff_ne]; exact hr
      have E1 := Lib.hid (show mvE f ops ⟨rf, rt, rl⟩ = 80 by
        unfold mvE; rw [if_neg (by rw [HE.out]; simp)]
        unfold rgE at hr ⊢
        split at hr
        · exact absurd rfl hr
        · rw [if_neg (by assumption)])
      obtain ⟨k0, k1, k2, k3, k4, k5⟩ := cells3 Z2.out
      have hs4 := lt_of_heap Z2.out
      obtain ⟨m1, m2⟩ := agg_set3 (.int .i64 0) (.int .i64 0) (.bool false) Z2.out
      have HQ1 := Lib.hid m1
      have HQ2 := Lib.hid m2
      clear m1 m2 hr
      go_wp2_with fail
      refine bodyPost_ret (results_rgN rfl rfl rfl (cells3 HQ1.out).1 (cells3 HQ1.out).2.1 (cells3 HQ1.out).2.2.1) rfl ?_
      exact mvOut_bad E1.out (by decide) (B2.out.trans (HQ2.out.below.mono (by omega)))
  · have te : (toE f ops != 0) = true := by rw [bne_iff_ne]; exact he
    have HE := Lib.hid he
    have E1 := Lib.hid (show mvE f ops ⟨rf, rt, rl⟩ = toE f ops by unfold mvE; rw [if_pos he])
    obtain ⟨k0, k1, k2, k3, k4, k5⟩ := cells3 Z1.out
    have hs4 := lt_of_heap Z1.out
    obtain ⟨m1, m2⟩ := agg_set3 (.int .i64 0) (.int .i64 0) (.bool false) Z1.out
    have HQ1 := Lib.hid m1
    have HQ2 := Lib.hid m2
    clear m1 m2 he
    go_wp2_with fail
    refine bodyPost_ret (results_rgN rfl rfl rfl (cells3 HQ1.out).1 (cells3 HQ1.out).2.1 (cells3 HQ1.out).2.2.1) rfl ?_
    exact mvOut_bad E1.out HE.out (B1.out.trans (HQ2.out.below.mono (by omega)))
end Go.Proofs.Ytggjeiemofkfbaa
