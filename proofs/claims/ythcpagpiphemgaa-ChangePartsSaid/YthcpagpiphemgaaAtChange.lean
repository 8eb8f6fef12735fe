/- The document's own Change. -/
import Derived.Test.YthcpagpiphemgaaAtRow
import Derived.BigQuiet
namespace Go.Proofs.Ythcpagpiphemgaa
open Go.RowKit

set_option maxHeartbeats 2000000 in
theorem change_any (v : Value) (l : List (ByteArray × ByteArray)) (w : World) (h : AtRow w v l) (hsz : ∀ x ∈ l, x.1.size ≤ maxLen ∧ x.2.size ≤ maxLen) :
    Calls Try.prog 50 #[v] w fun e w' => e = .returned (.int .i64 (chgE l)) ∧ ∃ m, w' = w.drewN m := by
  obtain ⟨a, cap, rfl, h1, h2, h3⟩ := h
  have hn : l.length ≤ 9223372036854775807 := Nat.le_trans h1 h2
  have H3 := Lib.hid h3
  have Hsz := Lib.hid hsz
  clear h3 hsz
  go_enter Try.func50, Try.ntmps50
  by_cases h8 : 8 < l.length
  · have h8' : (8 : Int) < (l.length : Int) := by omega
    have HE := Lib.hid (chgE_long h8)
    go_wp2_with fail
    go_ret
    rw [HE.out]
    exact ⟨rfl, 0, rfl⟩
  · have h8' : decide ((8 : Int) < (l.length : Int)) = false := by simp; omega
    have h8'' : decide (8 < l.length) = false := by simp; omega
    go_wp2_with fail
    go_loopw [3, 4, 5] (fun i _ _ wr => ∃ n m : Nat, i = .int .i64 (n : Int) ∧ n ≤ l.length ∧ (∀ j (h : j < l.length), j < n → chgOne l j h = true) ∧ wr = w.drewN m) (fun i _ _ _ => l.length - (intOf i).toNat)
    case atStart => exact ⟨0, 0, rfl, by omega, fun j _ h => by omega, rfl⟩
    case round =>
      obtain ⟨n, m, rfl, hk, hall, rfl⟩ := hrel
      have Hall := Lib.hid hall
      clear hall
      by_cases hlt : n < l.length
      · have hlt' : (n : Int) < (l.length : Int) := by omega
        obtain ⟨b, off, rfl, _, x1, z1⟩ := H3.out n hlt
        obtain ⟨y1, y2⟩ := Hsz.out _ (List.getElem_mem hlt)
        have step : chgOne l n hlt = true → ∀ j (h : j < l.length), j < n + 1 → chgOne l j h = true := fun h0 j hj hjk => by
          by_cases e : j = n
          · subst e; exact h0
          · exact Hall.out j hj (by omega)
        have Step := Lib.hid step
        have Bad := Lib.hid (fun h => chgE_bad hlt h)
        clear step Hall
        go_wp2_with (go_at_call 61; refine (key_any _ _ y1).mono ?_)
        rintro e w1 ⟨rfl, rfl⟩
        go_wp2_with (go_at_call 62; refine (value_any _ _ y2).mono ?_)
        rintro e w1 ⟨rfl, rfl⟩
        cases hkb : keyB l[n].1 with
        | false =>
          have hb := Lib.hid (Bad.out (by unfold chgOne; rw [hkb]; rfl))
          clear Step Bad
          go_wp2_with fail
          go_quiet (fail)
          go_wp2_with fail
          go_ret
          rw [hb.out]
          exact ⟨rfl, m + nq, by rw [World.drewN_drewN]⟩
        | true =>
          cases hvb : valB l[n].2 with
          | false =>
            have hb := Lib.hid (Bad.out (by unfold chgOne; rw [hkb, hvb]; rfl))
            clear Step Bad
            go_wp2_with fail
            go_quiet (fail)
            go_wp2_with fail
            go_ret
            rw [hb.out]
            exact ⟨rfl, m + nq, by rw [World.drewN_drewN]⟩
          | true =>
            by_cases h0 : 0 < n
            · have h0' : (0 : Int) < (n : Int) := by omega
              have hn1 : 0 ≤ (n : Int) - 1 := by omega
              have hn2 : (n : Int) - 1 < (l.length : Int) := by omega
              obtain ⟨b', off', hbo, _, x2, _⟩ := H3.out (n - 1) (by omega)
              simp only [Option.some.injEq, Addr.mk.injEq, and_true] at hbo
              obtain ⟨rfl, rfl⟩ := hbo
              cases ht : Op.bytesLess (l[n - 1]'(by omega)).1.toList l[n].1.toList with
              | true =>
                have hs := Lib.hid (Step.out (by unfold chgOne; rw [hkb, hvb, dif_pos h0, ht]; rfl))
                have hle : (Op.bytesLess l[n].1.toList (l[n - 1]'(by omega)).1.toList || l[n].1.toList == (l[n - 1]'(by omega)).1.toList) = false := by rw [leq_not, ht]; rfl
                clear Step Bad
                go_wp2_with fail
                go_quiet (fail)
                go_wp2_with fail
                go_roundw
                case rel => exact ⟨n + 1, _, by go_num, by omega, hs.out, rfl⟩
                case measure => simp [intOf]; omega
              | false =>
                have hb := Lib.hid (Bad.out (by unfold chgOne; rw [hkb, hvb, dif_pos h0, ht]; rfl))
                have hle : (Op.bytesLess l[n].1.toList (l[n - 1]'(by omega)).1.toList || l[n].1.toList == (l[n - 1]'(by omega)).1.toList) = true := by rw [leq_not, ht]; rfl
                clear Step Bad
                go_wp2_with fail
                go_quiet (fail)
                go_wp2_with fail
                go_ret
                rw [hb.out]
                exact ⟨rfl, m + nq, by rw [World.drewN_drewN]⟩
            · have h0' : decide ((0 : Int) < (n : Int)) = false := by simp; omega
              have h0'' : decide (0 < n) = false := by simp; omega
              have hs := Lib.hid (Step.out (by unfold chgOne; rw [hkb, hvb, dif_neg h0]; rfl))
              clear Step Bad
              go_wp2_with fail
              go_quiet (fail)
              go_wp2_with fail
              go_roundw
              case rel => exact ⟨n + 1, _, by go_num, by omega, hs.out, rfl⟩
              case measure => simp [intOf]; omega
      · have hkn : n = l.length := by omega
        subst hkn
        have HE := Lib.hid (chgE_ok (by omega) fun j hj => Hall.out j hj hj)
        clear Hall
        go_wp2_with fail
        go_ret
        rw [HE.out]
        exact ⟨rfl, _, rfl⟩
end Go.Proofs.Ythcpagpiphemgaa
