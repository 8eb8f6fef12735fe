/- The document's own answers: alike, turned, Ahead, Behind. -/
import Derived.Test.YtpjblmhhcadcbaaDoorRefCut
namespace Go.Proofs.YtpjblmhhcadcbaaDoor
open Go.RowKit Rn

set_option maxHeartbeats 1000000 in
theorem refAlike_any (cs ds : List Nat) (v1 v2 : Value) (w : World) (h1 : Holds .i64 w v1 cs) (h2 : Holds .i64 w v2 ds) (hn1 : cs.length ≤ 20000) (hn2 : ds.length ≤ 20000) :
    Calls Tryd.prog 35 #[v1, v2] w fun e w' => e = .returned (.int .i64 (pre cs ds : Nat)) ∧ ∃ n, w' = w.drewN n := by
  obtain ⟨a1, c1, rfl, _, h1⟩ := h1
  obtain ⟨a2, c2, rfl, _, h2⟩ := h2
  have H1 := Lib.hid h1; have H2 := Lib.hid h2; clear h1 h2
  go_enter Tryd.func35, Tryd.ntmps35
  go_wp2_with fail
  go_loopw [5] (fun v wr => ∃ (k m : Nat), v = .int .i64 (k : Int) ∧ k ≤ min cs.length ds.length ∧ Hid (∀ j, j < k → same cs ds j = true) ∧ wr = w.drewN m) (fun v _ => min cs.length ds.length - (intOf v).toNat)
  case atStart => exact ⟨0, 0, rfl, by omega, fun j hj => by omega, rfl⟩
  case round =>
    obtain ⟨k, m, rfl, hk, hp, rfl⟩ := hrel
    by_cases g1 : k < cs.length
    · by_cases g2 : k < ds.length
      · obtain ⟨b1, o1, rfl, hb1, hx⟩ := H1.out k g1
        obtain ⟨b2, o2, rfl, hb2, hy⟩ := H2.out k g2
        have d1 : (k : Int) < (cs.length : Int) := by omega
        have d2 : (k : Int) < (ds.length : Int) := by omega
        obtain ⟨x, ex⟩ : ∃ x : Nat, x = cs.getD k 0 := ⟨_, rfl⟩
        obtain ⟨y, ey⟩ : ∃ y : Nat, y = ds.getD k 0 := ⟨_, rfl⟩
        rw [← ex] at hx
        rw [← ey] at hy
        have hs : same cs ds k = ((x : Int) == (y : Int)) := by unfold same; rw [← ex, ← ey]
        have HS := Lib.hid hs
        clear ex ey hs
        cases hxy : ((x : Int) == (y : Int)) with
        | true =>
          go_wp2_with fail
          go_quiet (fail)
          go_wp2_with fail
          go_roundw
          case rel => exact ⟨k + 1, _, by go_num, by omega, fun j hj => by rcases Nat.lt_succ_iff_lt_or_eq.1 hj with h | h; exact hp.out j h; rw [h, HS.out]; exact hxy, rfl⟩
          case measure => simp [intOf]; omega
        | false =>
          go_wp2_with fail
          go_quiet (fail)
          go_wp2_with fail
          go_ret
          rw [show pre cs ds = k from lead_eq (k := k) (by omega) hp.out (Or.inr (by rw [HS.out]; exact hxy))]
          exact ⟨rfl, _, World.drewN_drewN ..⟩
      · have hkn : k = min cs.length ds.length := by omega
        have d1 : (k : Int) < (cs.length : Int) := by omega
        have d2 : decide ((k : Int) < (ds.length : Int)) = false := by simp; omega
        have HK := Lib.hid hkn
        clear hkn
        go_wp2_with fail
        go_quiet (fail)
        go_wp2_with fail
        go_ret
        rw [show pre cs ds = k from lead_eq (k := k) (by omega) hp.out (Or.inl HK.out)]
        exact ⟨rfl, _, World.drewN_drewN ..⟩
    · have hkn : k = min cs.length ds.length := by omega
      have d1 : decide ((k : Int) < (cs.length : Int)) = false := by simp; omega
      have HK := Lib.hid hkn
      clear hkn
      go_wp2_with fail
      go_quiet (fail)
      go_wp2_with fail
      go_ret
      rw [show pre cs ds = k from lead_eq (k := k) (by omega) hp.out (Or.inl HK.out)]
      exact ⟨rfl, _, World.drewN_drewN ..⟩

def TurnedPost (w : World) (cs : List Nat) (e : Ending) (w' : World) : Prop := ∃ v, e = .returned v ∧ Row w' v cs.reverse ∧ Below w.heap.size w w'
theorem rev_succ (cs : List Nat) (k : Nat) (h : k < cs.length) : intVals (cs.reverse.take (k + 1)) = intVals (cs.reverse.take k) ++ [.int .i64 (cs.getD (cs.length - 1 - k) 0 : Nat)] := by
  have hk : k < cs.reverse.length := by rw [List.length_reverse]; exact h
  have e : cs.reverse[k] = cs.getD (cs.length - 1 - k) 0 := by
    rw [List.getElem_reverse, List.getD_eq_getElem?_getD, List.getElem?_eq_getElem (by omega)]; rfl
  rw [List.take_succ_eq_append_getElem hk, e]
  simp [intVals]

set_option maxHeartbeats 1000000 in
theorem turned_any (cs : List Nat) (v : Value) (w : World) (h : Holds .i64 w v cs) (hl : cs.length ≤ 20000) :
    Calls Tryd.prog 36 #[v] w (TurnedPost w cs) := by
  obtain ⟨a, cap, rfl, _, hcell⟩ := h
  have Hcell := Lib.hid hcell
  clear hcell
  obtain ⟨i0, hi, hz0, hz1, hz2⟩ := info_parts infoInt
  go_enter Tryd.func36, Tryd.ntmps36
  go_wp2_with fail
  go_loopg [3, 4] cs.length (fun gk v i wr => ∃ k : Nat, cs.length ≤ gk + k ∧ i = .int .i64 ((cs.length : Int) - 1 - (k : Int)) ∧ k ≤ cs.length ∧ wr.ownsRow w.heap.size 3 1 v (cs.reverse.take k).length (intVals (cs.reverse.take k)) ∧ Below w.heap.size w wr)
  case atStart => exact ⟨0, by omega, int_eq (by omega), Nat.zero_le _, World.ownsRow_nil _ _ _ _, Below.refl _ _⟩
  case round =>
    obtain ⟨k, hgk, rfl, hk, hown, hbw⟩ := hrel
    have hlk : (cs.reverse.take k).length = k := by rw [List.length_take, List.length_reverse]; omega
    rw [hlk] at hown
    have Hlk := Lib.hid hlk
    clear hlk
    by_cases hlt : k < cs.length
    · obtain ⟨b, off, rfl, hb, hx⟩ := Hcell.out (cs.length - 1 - k) (by omega)
      have hx' : wr.cell? ⟨b, off + (cs.length - 1 - k), none⟩ = some (.int .i64 (cs.getD (cs.length - 1 - k) 0 : Nat)) := by rw [hbw.cell (by exact hb)]; exact hx
      obtain ⟨c, hc⟩ : ∃ c, c = cs.getD (cs.length - 1 - k) 0 := ⟨_, rfl⟩
      rw [← hc] at hx'
      have Hc := Lib.hid hc
      clear hc hx
      have q1 : 0 ≤ (cs.length : Int) - 1 - (k : Int) := by omega
      have q2 : (cs.length : Int) - 1 - (k : Int) < (cs.length : Int) := by omega
      have Hown := Lib.hid hown
      go_wp2_with (first | (at_builtin; refine wpList_append_own _ rfl _ _ 41 rfl w.heap.size 3 i0 (.int .i64 0) 1 8 Tryd.underlying41 hi hz0 hz1 hz2 rfl (by decide) _ _ _ rfl (hown.alloc _) ⟨wr.heap.size, 0, none⟩ 1 1 [.int .i64 (c : Int)] rfl rfl ?_ ?_ ?_ ?_ ?_ ?_))
      all_goals
        first
          | rfl
          | (intro u hu; simp at hu; subst hu; rfl)
          | (unfold maxLen; omega)
          | omega
          | (have := hbw.size; simp; omega)
          | exact fun j u hj => new_at _ _ _ j u hj
          | (intro v' w1 hown' hgrow _
             clear hown hi hz0 hz1 hz2
             have Hown' := Lib.hid hown'
             clear hown'
             go_wp2_with fail
             go_roundg (gk - 1)
             case measure => omega
             case rel =>
               refine ⟨k + 1, by omega, int_eq (by omega), by omega, ?_, (hbw.alloc hbw.size _).grown hgrow (by have := hbw.size; simp; omega) (fun j hj => (Hown.out.lt j hj).1)⟩
               rw [rev_succ cs k hlt, ← Hc.out, show (cs.reverse.take (k + 1)).length = k + 1 from by rw [List.length_take, List.length_reverse]; omega]
               exact Hown'.out)
    · have hkn : k = cs.length := by omega
      have e0 : (cs.length : Int) - 1 - (k : Int) = -1 := by omega
      have e1 : cs.reverse.take k = cs.reverse := List.take_of_length_le (by rw [List.length_reverse]; omega)
      rw [e1] at hown
      have e2 : k = cs.reverse.length := by rw [List.length_reverse]; exact hkn
      rw [e2] at hown
      have hr := Row.of hown
      clear e2
      have HR := Lib.hid hr
      rw [e0]
      clear e0 e1 hown hr hkn hi hz0 hz1 hz2
      go_wp2_with fail
      go_ret
      exact ⟨_, rfl, HR.out, hbw⟩

set_option maxHeartbeats 400000 in
theorem refAhead_any (s p : ByteArray) (w : World) (hs : s.size ≤ 1048576) (hp : p.size ≤ 1048576) :
    Calls Tryd.prog 20 #[.string s, .string p] w fun e w' => e = .returned (.tuple #[.int .i64 (ahN s.data.toList p.data.toList), .int .i64 (twoE s.data.toList p.data.toList)]) ∧ Below w.heap.size w w' := by
  go_enter Tryd.func20, Tryd.ntmps20
  go_wp2_with fail
  refine (read2 s _ hs).mono ?_
  rintro e w1 ⟨hb1, hr1⟩
  have hs1 := hb1.size
  rcases hr1 with ⟨h1, v1, rfl⟩ | ⟨cs, v1, h1, rfl, ho1⟩
  · have E1 : Hid (ahN s.data.toList p.data.toList = 0) := by unfold ahN; rw [h1]; exact rfl
    have E2 : Hid (twoE s.data.toList p.data.toList = 10) := by unfold twoE; rw [h1]; exact rfl
    clear h1
    go_wp2_with fail
    refine (read2 p _ hp).mono ?_
    rintro e w2 ⟨hb2, ⟨h2, v2, rfl⟩ | ⟨ds, v2, h2, rfl, ho2⟩⟩
    all_goals
      (try clear ho2)
      clear h2
      go_wp2_with fail
      go_ret2
      rw [E1.out, E2.out]
      exact ⟨rfl, hb1.trans (hb2.mono hs1)⟩
  · have HO1 := Lib.hid ho1
    have H1 := Lib.hid h1
    clear ho1 h1
    go_wp2_with fail
    refine (read2 p _ hp).mono ?_
    rintro e w2 ⟨hb2, ⟨h2, v2, rfl⟩ | ⟨ds, v2, h2, rfl, ho2⟩⟩
    · have E1 : Hid (ahN s.data.toList p.data.toList = 0) := by unfold ahN; rw [H1.out, h2]; exact rfl
      have E2 : Hid (twoE s.data.toList p.data.toList = 10) := by unfold twoE; rw [H1.out, h2]; exact rfl
      clear h2
      go_wp2_with fail
      go_ret2
      rw [E1.out, E2.out]
      exact ⟨rfl, hb1.trans (hb2.mono hs1)⟩
    · have E1 : Hid (ahN s.data.toList p.data.toList = (pre cs ds : Nat)) := by unfold ahN; rw [H1.out, h2]; exact rfl
      have E2 : Hid (twoE s.data.toList p.data.toList = 0) := by unfold twoE; rw [H1.out, h2]; exact rfl
      have l1 := (rd_some H1.out).2.2
      have l2 := (rd_some h2).2.2
      have HO2 := Lib.hid ho2
      clear h2 ho2
      go_wp2_with fail
      refine (refAlike_any cs ds _ _ _ (HO1.out.below hb2).holds HO2.out.holds l1 l2).mono ?_
      rintro e w3 ⟨rfl, n, rfl⟩
      go_wp2_with fail
      go_ret2
      rw [E1.out, E2.out]
      exact ⟨rfl, below_drewN (hb1.trans (hb2.mono hs1)) _⟩
end Go.Proofs.YtpjblmhhcadcbaaDoor
