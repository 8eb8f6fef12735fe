/- The document's own answers: Behind, Splice, walked. -/
import Derived.Test.YtpjblmhhcadcbaaDoorRefBehind
import Derived.Deep.RegionHeld3
namespace Go.Proofs.YtpjblmhhcadcbaaDoor
open Go.RowKit Rn

set_option maxHeartbeats 2000000 in
theorem refBehind_any (s p : ByteArray) (w : World) (hs : s.size ≤ 1048576) (hp : p.size ≤ 1048576) :
    Calls Tryd.prog 21 #[.string s, .string p] w fun e w' => e = .returned (.tuple #[.int .i64 (bhN s.data.toList p.data.toList), .int .i64 (twoE s.data.toList p.data.toList)]) ∧ Below w.heap.size w w' := by
  by_cases hboth : (∃ cs, rd s.data.toList = some cs) ∧ (∃ ds, rd p.data.toList = some ds)
  · obtain ⟨⟨cs, h1⟩, ⟨ds, h2⟩⟩ := hboth
    have E0 : Hid (ahN s.data.toList p.data.toList = (pre cs ds : Nat)) := by unfold ahN; rw [h1, h2]; exact rfl
    have E1 : Hid (bhN s.data.toList p.data.toList = (post cs ds : Nat)) := by unfold bhN; rw [h1, h2]; exact rfl
    have E2 : Hid (twoE s.data.toList p.data.toList = 0) := by unfold twoE; rw [h1, h2]; exact rfl
    have l1 := (rd_some h1).2.2
    have l2 := (rd_some h2).2.2
    have H1 := Lib.hid h1
    have H2 := Lib.hid h2
    clear h1 h2
    have hpl := pre_le cs ds
    go_enter Tryd.func21, Tryd.ntmps21
    go_wp2_with fail
    refine (refAhead_any s p _ hs hp).mono ?_
    rintro e w1 ⟨rfl, hb1⟩
    have hs1 := hb1.size
    rw [E0.out, E2.out]
    go_wp2_with fail
    refine (read2 s _ hs).mono ?_
    rintro e w2 ⟨hb2, ⟨h, v, rfl⟩ | ⟨cs', v1, h, rfl, ho1⟩⟩
    · rw [H1.out] at h; cases h
    · rw [H1.out] at h
      simp only [Option.some.injEq] at h
      subst h
      have hs2 := hb2.size
      have HO1 := Lib.hid ho1
      clear ho1
      go_wp2_with fail
      refine (read2 p _ hp).mono ?_
      rintro e w3 ⟨hb3, ⟨h, v, rfl⟩ | ⟨ds', v2, h, rfl, ho2⟩⟩
      · rw [H2.out] at h; cases h
      · rw [H2.out] at h
        simp only [Option.some.injEq] at h
        subst h
        have b03 : Below w.heap.size w w3 := (hb1.trans (hb2.mono hs1)).trans (hb3.mono (by omega))
        obtain ⟨u1, sl1, r1⟩ := slice_from (HO1.out.below hb3) (pre cs ds) (by omega)
        obtain ⟨u2, sl2, r2⟩ := slice_from ho2 (pre cs ds) (by omega)
        have R1 := Lib.hid r1
        have R2 := Lib.hid r2
        have hsz := b03.size
        clear r1 r2 ho2 hb1 hb2 hb3
        have L1 : (cs.drop (pre cs ds)).length ≤ 20000 := by rw [List.length_drop]; omega
        have L2 : (ds.drop (pre cs ds)).length ≤ 20000 := by rw [List.length_drop]; omega
        go_wp2_with fail
        go_region_held3 (fun _ => True) (trivial)
          (first
            | (go_at_call_of 36 (u1); refine (turned_any (cs.drop (pre cs ds)) _ _ (by exact (R1.out.below (Below.refl _ _).drew).holds) L1).mono ?_; rintro e wA ⟨vA, rfl, hrA, hbA⟩)
            | (go_at_call_of 36 (u2); refine (turned_any (ds.drop (pre cs ds)) _ _ (by exact (R2.out.below ((Below.refl _ _).drew.trans hbA)).holds) L2).mono ?_; rintro e wB ⟨vB, rfl, hrB, hbB⟩)
            | (go_at_call 35; refine (refAlike_any (cs.drop (pre cs ds)).reverse (ds.drop (pre cs ds)).reverse vA vB _ (by exact (hrA.below hbB).holds) (by exact hrB.holds) (by rw [List.length_reverse]; exact L1) (by rw [List.length_reverse]; exact L2)).mono ?_; rintro e wC ⟨rfl, nC, rfl⟩; rw [post_turned]))
        go_wp2_with fail
        go_ret2
        rw [E1.out, E2.out]
        have sA := hbA.size
        have sB := hbB.size
        change w3.heap.size ≤ _ at sA
        exact ⟨rfl, below_drewN ((b03.drew.trans (hbA.mono (by exact hsz))).trans (hbB.mono (by omega))) _⟩
  · have E0 : ahN s.data.toList p.data.toList = 0 ∧ bhN s.data.toList p.data.toList = 0 ∧ twoE s.data.toList p.data.toList = 10 := by
      unfold ahN bhN twoE
      cases h1 : rd s.data.toList with
      | none => exact ⟨rfl, rfl, rfl⟩
      | some cs =>
        cases h2 : rd p.data.toList with
        | none => exact ⟨rfl, rfl, rfl⟩
        | some ds => exact absurd ⟨⟨cs, h1⟩, ⟨ds, h2⟩⟩ hboth
    have E1 := Lib.hid E0
    clear E0 hboth
    go_enter Tryd.func21, Tryd.ntmps21
    go_wp2_with fail
    refine (refAhead_any s p _ hs hp).mono ?_
    rintro e w1 ⟨rfl, hb1⟩
    rw [E1.out.1, E1.out.2.2]
    go_wp2_with fail
    go_ret2
    rw [E1.out.2.1, E1.out.2.2]
    exact ⟨rfl, hb1⟩
theorem len_row {w : World} {v : Value} {cs : List Nat} (h : Row w v cs) : ∀ W, (Builtin.len_ #[41] 3 #[v]).run Tryd.prog W = .ok (.int .i64 (cs.length : Int)) W := by
  obtain ⟨a, k, rfl, _, _⟩ := h.holds
  intro W
  rw [run_len_slice W _ _ _ _ _ undInts]
  rfl
/-- Three texts, one behind the other. -/
theorem T_app (a b : List Nat) : T a ++ T b = T (a ++ b) := by
  apply ba_inj
  rw [ByteArray.data_append, Array.toList_append, T_data, T_data, T_data, ← txt_append]
theorem T_size_le (cs : List Nat) (n : Nat) (h : cs.length ≤ n) : (T cs).size ≤ 4 * n := by rw [T_size]; have := (txt_len cs).2; omega

set_option maxRecDepth 100000 in
set_option maxHeartbeats 2000000 in
theorem refSplice_any (s p : ByteArray) (a g : Int) (w : World) (hs : s.size ≤ 1048576) (hp : p.size ≤ 1048576) :
    Calls Tryd.prog 17 #[.string s, .int .i64 a, .int .i64 g, .string p] w fun e w' => e = .returned (.tuple #[.string (spS s.data.toList a g p.data.toList), .int .i64 (spE s.data.toList a g p.data.toList)]) ∧ Below w.heap.size w w' := by
  go_enter Tryd.func17, Tryd.ntmps17
  go_wp2_with fail
  refine (read2 s _ hs).mono ?_
  rintro e w1 ⟨hb1, hr1⟩
  have hs1 := hb1.size
  rcases hr1 with ⟨h1, v1, rfl⟩ | ⟨cs, v1, h1, rfl, ho1⟩
  · have E1 : Hid (spS s.data.toList a g p.data.toList = ⟨#[]⟩) := by unfold spS; rw [h1]; exact rfl
    have E2 : Hid (spE s.data.toList a g p.data.toList = 10) := by unfold spE; rw [h1]; exact rfl
    clear h1
    go_wp2_with fail
    refine (read2 p _ hp).mono ?_
    rintro e w2 ⟨hb2, ⟨h2, v2, rfl⟩ | ⟨ds, v2, h2, rfl, ho2⟩⟩
    all_goals
      (try clear ho2)
      clear h2
      go_wp2_with fail
      go_ret2
      rw [E1.out, E2.out]
      exact ⟨rfl, hb1.trans (hb2.mono hs1)⟩
  · have HO1 := Lib.hid ho1
    have H1 := Lib.hid h1
    clear ho1 h1
    go_wp2_with fail
    refine (read2 p _ hp).mono ?_
    rintro e w2 ⟨hb2, ⟨h2, v2, rfl⟩ | ⟨ds, v2, h2, rfl, ho2⟩⟩
    · have E1 : Hid (spS s.data.toList a g p.data.toList = ⟨#[]⟩) := by unfold spS; rw [H1.out, h2]; exact rfl
      have E2 : Hid (spE s.data.toList a g p.data.toList = 10) := by unfold spE; rw [H1.out, h2]; exact rfl
      clear h2
      go_wp2_with fail
      go_ret2
      rw [E1.out, E2.out]
      exact ⟨rfl, hb1.trans (hb2.mono hs1)⟩
    · obtain ⟨c1, _, l1⟩ := rd_some H1.out
      obtain ⟨d1, _, l2⟩ := rd_some h2
      have b02 : Below w.heap.size w w2 := hb1.trans (hb2.mono hs1)
      have ho1 := HO1.out.below hb2
      have HO1' := Lib.hid ho1
      have HO2 := Lib.hid ho2
      have len1 := len_row ho1
      have len2 := len_row ho2
      by_cases hab : a < 0 ∨ (cs.length : Int) < a ∨ g < 0 ∨ (cs.length : Int) - a < g
      · have E1 : Hid (spS s.data.toList a g p.data.toList = ⟨#[]⟩) := by unfold spS; rw [H1.out, h2]; simp only [if_pos hab]; exact trivial
        have E2 : Hid (spE s.data.toList a g p.data.toList = 1) := by unfold spE; rw [H1.out, h2]; simp only [if_pos hab]; exact trivial
        clear h2 ho1 ho2 hb1 hb2
        by_cases q1 : a < 0
        · clear hab
          go_wp2_with fail
          go_ret2
          rw [E1.out, E2.out]
          exact ⟨rfl, b02⟩
        · by_cases q2 : (cs.length : Int) < a
          · clear hab
            go_wp2_with fail
            go_ret2
            rw [E1.out, E2.out]
            exact ⟨rfl, b02⟩
          · by_cases q3 : g < 0
            · clear hab
              go_wp2_with fail
              go_ret2
              rw [E1.out, E2.out]
              exact ⟨rfl, b02⟩
            · have q4 : (cs.length : Int) - a < g := by omega
              clear hab
              go_wp2_with fail
              go_ret2
              rw [E1.out, E2.out]
              exact ⟨rfl, b02⟩
      · by_cases hbig : 20000 < (cs.length : Int) - g + (ds.length : Int)
        · have E1 : Hid (spS s.data.toList a g p.data.toList = ⟨#[]⟩) := by unfold spS; rw [H1.out, h2]; simp only [if_neg hab, if_pos hbig]; exact trivial
          have E2 : Hid (spE s.data.toList a g p.data.toList = 3) := by unfold spE; rw [H1.out, h2]; simp only [if_neg hab, if_pos hbig]; exact trivial
          have q1 : 0 ≤ a := by omega
          have q2 : a ≤ (cs.length : Int) := by omega
          have q3 : 0 ≤ g := by omega
          have q4 : g ≤ (cs.length : Int) - a := by omega
          clear h2 ho1 ho2 hb1 hb2 hab
          go_wp2_with fail
          go_ret2
          rw [E1.out, E2.out]
          exact ⟨rfl, b02⟩
        · have q1 : 0 ≤ a := by omega
          have q3 : 0 ≤ g := by omega
          obtain ⟨n, rfl⟩ := Int.eq_ofNat_of_zero_le q1
          obtain ⟨k, rfl⟩ := Int.eq_ofNat_of_zero_le q3
          have E1 : Hid (spS s.data.toList n k p.data.toList = T (cs.take n ++ (ds ++ cs.drop (n + k)))) := by unfold spS; rw [H1.out, h2]; simp only [if_neg hab, if_neg hbig, Int.toNat_natCast]; exact trivial
          have E2 : Hid (spE s.data.toList n k p.data.toList = 0) := by unfold spE; rw [H1.out, h2]; simp only [if_neg hab, if_neg hbig]; exact trivial
          have hnk : n + k ≤ cs.length := by omega
          have hfit : (cs.length : Int) - k + (ds.length : Int) ≤ 20000 := by omega
          obtain ⟨u1, sl1, r1⟩ := slice_to HO1'.out n (by omega)
          obtain ⟨u2, sl2, r2⟩ := slice_from HO1'.out (n + k) (by omega)
          have R1 := Lib.hid r1
          have R2 := Lib.hid r2
          have hsz := b02.size
          have sl2' := sl2
          rw [show ((n + k : Nat) : Int) = (n : Int) + (k : Int) from by omega] at sl2'
          have L1 : (cs.take n).length ≤ 1048576 := by rw [List.length_take]; omega
          have L2 : (cs.drop (n + k)).length ≤ 1048576 := by rw [List.length_drop]; omega
          have K1 : allOk (cs.take n) := fun c h => c1 c (List.mem_of_mem_take h)
          have K2 : allOk (cs.drop (n + k)) := fun c h => c1 c (List.mem_of_mem_drop h)
          have z1 := T_size_le (cs.take n) 20000 (by rw [List.length_take]; omega)
          have z2 := T_size_le ds 20000 (by omega)
          have z3 := T_size_le (cs.drop (n + k)) 20000 (by rw [List.length_drop]; omega)
          have z4 := T_size_le (cs.take n ++ ds) 40000 (by rw [List.length_append, List.length_take]; omega)
          have z5 : (T (cs.take n)).size + (T ds).size ≤ 160000 := by omega
          have z6 : (T (cs.take n ++ ds)).size + (T (cs.drop (n + k))).size ≤ 240000 := by omega
          have hw : IntKind.i64.wrap ((n : Int) + (k : Int)) = (n : Int) + (k : Int) := IntWalk.i64_in _ (by omega)
          have z7 : (9223372036854775807 < (T (cs.take n)).size + (T ds).size) = False := by simp; omega
          have z8 : (9223372036854775807 < (T (cs.take n ++ ds)).size + (T (cs.drop (n + k))).size) = False := by simp; omega
          clear z1 z2 z3 z4 z5 z6
          have app1 := T_app (cs.take n) ds
          have app2 := T_app (cs.take n ++ ds) (cs.drop (n + k))
          rw [List.append_assoc] at app2
          clear h2 ho1 ho2 hb1 hb2 hab hbig q1 q3 r1 r2 sl2
          go_wp2_with fail
          go_region_held3 (fun _ => True) (trivial)
            (first
              | (go_at_call_of 28 (u1); refine (write_any (cs.take n) _ _ (by exact (R1.out.below (Below.refl _ _).drew).holds) K1 L1).mono ?_; rintro e wA ⟨rfl, hbA⟩)
              | (go_at_call_of 28 (v2); refine (write_any ds _ _ (by exact (HO2.out.below ((Below.refl _ _).drew.trans hbA)).holds) d1 (by omega)).mono ?_; rintro e wB ⟨rfl, hbB⟩)
              | (go_at_call_of 28 (u2); refine (write_any (cs.drop (n + k)) _ _ (by exact (R2.out.below (((Below.refl _ _).drew.trans hbA).trans (hbB.mono (by exact hbA.size)))).holds) K2 L2).mono ?_; rintro e wC ⟨rfl, hbC⟩))
          go_wp2_with fail
          go_ret2
          rw [E1.out, E2.out]
          have sA := hbA.size
          have sB := hbB.size
          change w2.heap.size ≤ _ at sA
          exact ⟨rfl, ((b02.drew.trans (hbA.mono (by exact hsz))).trans (hbB.mono (by omega))).trans (hbC.mono (by omega))⟩
end Go.Proofs.YtpjblmhhcadcbaaDoor
