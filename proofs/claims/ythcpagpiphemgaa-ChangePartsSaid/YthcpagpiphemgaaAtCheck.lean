/- The program's check of a row, by the one closure and the other; Right, Change. -/
import Derived.Test.YthcpagpiphemgaaAtAll
import Derived.Test.YthcpagpiphemgaaAtChange
namespace Go.Proofs.Ythcpagpiphemgaa
open Go.RowKit

theorem below_drewN {B : Nat} {a w : World} (h : Below B a w) (n : Nat) : Below B a (w.drewN n) := ⟨h.os, h.tape, h.output, h.size, h.block⟩

/-- Is the attribute at i one that may stand there: of attributes? -/
def rgtOne (l : List (ByteArray × ByteArray)) (i : Nat) (h : i < l.length) : Bool := keyB l[i].1 && valNE l[i].2 && (if h0 : 0 < i then Op.bytesLess (l[i - 1]'(by omega)).1.toList l[i].1.toList else true)
def rgtB (l : List (ByteArray × ByteArray)) : Bool := decide (l.length ≤ 8 ∧ ∀ i (h : i < l.length), rgtOne l i h = true)
def rgtE (l : List (ByteArray × ByteArray)) : Int := if rgtB l = true then 0 else 20
theorem rgtE_bad {l : List (ByteArray × ByteArray)} {i : Nat} (h : i < l.length) (hb : rgtOne l i h = false) : rgtE l = 20 := by
  have : rgtB l = false := decide_eq_false fun hh => by
    have := hh.2 i h
    rw [hb] at this
    cases this
  unfold rgtE
  rw [this]; rfl
theorem rgtE_long {l : List (ByteArray × ByteArray)} (h : 8 < l.length) : rgtE l = 20 := by
  have : rgtB l = false := decide_eq_false fun hh => by have := hh.1; omega
  unfold rgtE
  rw [this]; rfl
theorem rgtE_ok {l : List (ByteArray × ByteArray)} (h : l.length ≤ 8) (hh : ∀ i (h : i < l.length), rgtOne l i h = true) : rgtE l = 0 := by
  have : rgtB l = true := decide_eq_true ⟨h, hh⟩
  unfold rgtE
  rw [this]; rfl

set_option maxHeartbeats 4000000 in
theorem checkC_any (v : Value) (l : List (ByteArray × ByteArray)) (w : World) (h : AtRow w v l) (hsz : ∀ x ∈ l, x.1.size ≤ maxLen ∧ x.2.size ≤ maxLen) :
    Calls Try.prog 55 #[v, .func (.func 56) #[] #[]] w fun e w' => e = .returned (.int .i64 (chgE l)) ∧ Below w.heap.size w w' := by
  obtain ⟨a, cap, rfl, h1, h2, h3⟩ := h
  have hn : l.length ≤ 9223372036854775807 := Nat.le_trans h1 h2
  have H3 := Lib.hid h3
  have Hsz := Lib.hid hsz
  clear h3 hsz
  go_enter Try.func55, Try.ntmps55
  by_cases h8 : 8 < l.length
  · have h8' : (8 : Int) < (l.length : Int) := by omega
    have HE := Lib.hid (chgE_long h8)
    go_wp2_with fail
    go_ret
    rw [HE.out]
    exact ⟨rfl, Below.refl _ _⟩
  · have h8' : decide ((8 : Int) < (l.length : Int)) = false := by simp; omega
    have h8'' : decide (8 < l.length) = false := by simp; omega
    go_wp2_with fail
    go_loopw [12] (fun i wr => ∃ n : Nat, i = .int .i64 (n : Int) ∧ n ≤ l.length ∧ (∀ j (h : j < l.length), j < n → chgOne l j h = true) ∧ Below w.heap.size w wr) (fun i _ => l.length - (intOf i).toNat)
    case atStart => exact ⟨0, rfl, by omega, fun j _ h => by omega, Below.refl _ _⟩
    case round =>
      obtain ⟨n, rfl, hk, hall, hB⟩ := hrel
      have Hall := Lib.hid hall
      clear hall
      by_cases hlt : n < l.length
      · have hlt' : (n : Int) < (l.length : Int) := by omega
        obtain ⟨b, off, rfl, hbl, x1', z1'⟩ := H3.out n hlt
        have x1 : wr.cell? ⟨b, off + n * 2, none⟩ = some (.string l[n].1) := by rw [hB.cell (by exact hbl)]; exact x1'
        have z1 : wr.cell? ⟨b, off + n * 2 + 1, none⟩ = some (.string l[n].2) := by rw [hB.cell (by exact hbl)]; exact z1'
        have hs0 := hB.size
        have hbl' : b < wr.heap.size := by omega
        have HB := Lib.hid hB
        obtain ⟨y1, y2⟩ := Hsz.out _ (List.getElem_mem hlt)
        have step : chgOne l n hlt = true → ∀ j (h : j < l.length), j < n + 1 → chgOne l j h = true := fun h0 j hj hjk => by
          by_cases e : j = n
          · subst e; exact h0
          · exact Hall.out j hj (by omega)
        have Step := Lib.hid step
        have Bad := Lib.hid (fun h => chgE_bad hlt h)
        clear step Hall
        cases hkb : keyB l[n].1 with
        | false =>
          have hb := Lib.hid (Bad.out (by unfold chgOne; rw [hkb]; rfl))
          have kc : ∀ W : World, Calls Try.prog 66 #[.string l[n].1] W fun e w' => e = .returned (.bool false) ∧ w' = W := fun W => by have := keyD_any l[n].1 W y1; rw [hkb] at this; exact this
          have Kc := Lib.hid kc
          clear Step Bad hkb kc x1' z1' hB
          go_wp2_with fail
          go_quiet ((go_at_call 66; exact Calls.quiet_of_same (Kc.out _)))
          go_wp2_with fail
          go_ret
          rw [hb.out]
          exact ⟨rfl, below_drewN (HB.out.alloc hs0 _) _⟩
        | true =>
          have kc : ∀ W : World, Calls Try.prog 66 #[.string l[n].1] W fun e w' => e = .returned (.bool true) ∧ w' = W := fun W => by have := keyD_any l[n].1 W y1; rw [hkb] at this; exact this
          have Kc := Lib.hid kc
          clear kc
          cases hvb : valB l[n].2 with
          | false =>
            have hb := Lib.hid (Bad.out (by unfold chgOne; rw [hkb, hvb]; rfl))
            have vc : ∀ W : World, Calls Try.prog 56 #[.string l[n].2] W fun e w' => e = .returned (.bool false) ∧ w' = W := fun W => by have := plain_any l[n].2 W y2; rw [hvb] at this; exact this
            have Vc := Lib.hid vc
            clear Step Bad hkb hvb vc x1' z1' hB
            go_wp2_with fail
            go_quiet (first | (go_at_call 66; exact Calls.quiet_of_same (Kc.out _)) | (go_at_call 56; exact Calls.quiet_of_same (Vc.out _)))
            go_wp2_with fail
            go_ret
            rw [hb.out]
            exact ⟨rfl, below_drewN (HB.out.alloc hs0 _) _⟩
          | true =>
            have vc : ∀ W : World, Calls Try.prog 56 #[.string l[n].2] W fun e w' => e = .returned (.bool true) ∧ w' = W := fun W => by have := plain_any l[n].2 W y2; rw [hvb] at this; exact this
            have Vc := Lib.hid vc
            clear vc
            by_cases h0 : 0 < n
            · have h0' : (0 : Int) < (n : Int) := by omega
              have hn1 : 0 ≤ (n : Int) - 1 := by omega
              have hn2 : (n : Int) - 1 < (l.length : Int) := by omega
              obtain ⟨b', off', hbo, _, x2', _⟩ := H3.out (n - 1) (by omega)
              simp only [Option.some.injEq, Addr.mk.injEq, and_true] at hbo
              obtain ⟨rfl, rfl⟩ := hbo
              have x2 : wr.cell? ⟨b, off + (n - 1) * 2, none⟩ = some (.string (l[n - 1]'(by omega)).1) := by rw [hB.cell (by exact hbl)]; exact x2'
              cases ht : Op.bytesLess (l[n - 1]'(by omega)).1.toList l[n].1.toList with
              | true =>
                have hs := Lib.hid (Step.out (by unfold chgOne; rw [hkb, hvb, dif_pos h0, ht]; rfl))
                clear Step Bad hkb hvb x1' z1' x2' hB
                go_wp2_with fail
                go_quiet (first | (go_at_call 66; exact Calls.quiet_of_same (Kc.out _)) | (go_at_call 56; exact Calls.quiet_of_same (Vc.out _)))
                go_wp2_with fail
                go_roundw
                case rel => exact ⟨n + 1, by go_num, by omega, hs.out, below_drewN (HB.out.alloc hs0 _) _⟩
                case measure => simp [intOf]; omega
              | false =>
                have hb := Lib.hid (Bad.out (by unfold chgOne; rw [hkb, hvb, dif_pos h0, ht]; rfl))
                clear Step Bad hkb hvb x1' z1' x2' hB
                go_wp2_with fail
                go_quiet (first | (go_at_call 66; exact Calls.quiet_of_same (Kc.out _)) | (go_at_call 56; exact Calls.quiet_of_same (Vc.out _)))
                go_wp2_with fail
                go_ret
                rw [hb.out]
                exact ⟨rfl, below_drewN (HB.out.alloc hs0 _) _⟩
            · have h0' : decide ((0 : Int) < (n : Int)) = false := by simp; omega
              have h0'' : decide (0 < n) = false := by simp; omega
              have hs := Lib.hid (Step.out (by unfold chgOne; rw [hkb, hvb, dif_neg h0]; rfl))
              clear Step Bad hkb hvb x1' z1' hB
              go_wp2_with fail
              go_quiet (first | (go_at_call 66; exact Calls.quiet_of_same (Kc.out _)) | (go_at_call 56; exact Calls.quiet_of_same (Vc.out _)))
              go_wp2_with fail
              go_roundw
              case rel => exact ⟨n + 1, by go_num, by omega, hs.out, below_drewN (HB.out.alloc hs0 _) _⟩
              case measure => simp [intOf]; omega
      · have hkn : n = l.length := by omega
        have HE := Lib.hid (chgE_ok (by omega) fun j hj => Hall.out j hj (by omega))
        subst hkn
        clear Hall
        go_wp2_with fail
        go_ret
        rw [HE.out]
        exact ⟨rfl, hB⟩

theorem changeD_any (v : Value) (l : List (ByteArray × ByteArray)) (w : World) (h : AtRow w v l) (hsz : ∀ x ∈ l, x.1.size ≤ maxLen ∧ x.2.size ≤ maxLen) :
    Calls Try.prog 43 #[v] w fun e w' => e = .returned (.int .i64 (chgE l)) ∧ Below w.heap.size w w' := by
  go_enter Try.func43, Try.ntmps43
  go_wp2_with fail
  refine (checkC_any v l w h hsz).mono ?_
  rintro e w1 ⟨rfl, hb⟩
  go_wp2_with fail
  go_ret
  exact ⟨rfl, hb⟩

set_option maxHeartbeats 4000000 in
theorem checkR_any (v : Value) (l : List (ByteArray × ByteArray)) (w : World) (h : AtRow w v l) (hsz : ∀ x ∈ l, x.1.size ≤ maxLen ∧ x.2.size ≤ maxLen) :
    Calls Try.prog 55 #[v, .func (.func 58) #[] #[]] w fun e w' => e = .returned (.int .i64 (rgtE l)) ∧ Below w.heap.size w w' := by
  obtain ⟨a, cap, rfl, h1, h2, h3⟩ := h
  have hn : l.length ≤ 9223372036854775807 := Nat.le_trans h1 h2
  have H3 := Lib.hid h3
  have Hsz := Lib.hid hsz
  clear h3 hsz
  go_enter Try.func55, Try.ntmps55
  by_cases h8 : 8 < l.length
  · have h8' : (8 : Int) < (l.length : Int) := by omega
    have HE := Lib.hid (rgtE_long h8)
    go_wp2_with fail
    go_ret
    rw [HE.out]
    exact ⟨rfl, Below.refl _ _⟩
  · have h8' : decide ((8 : Int) < (l.length : Int)) = false := by simp; omega
    have h8'' : decide (8 < l.length) = false := by simp; omega
    go_wp2_with fail
    go_loopw [12] (fun i wr => ∃ n : Nat, i = .int .i64 (n : Int) ∧ n ≤ l.length ∧ (∀ j (h : j < l.length), j < n → rgtOne l j h = true) ∧ Below w.heap.size w wr) (fun i _ => l.length - (intOf i).toNat)
    case atStart => exact ⟨0, rfl, by omega, fun j _ h => by omega, Below.refl _ _⟩
    case round =>
      obtain ⟨n, rfl, hk, hall, hB⟩ := hrel
      have Hall := Lib.hid hall
      clear hall
      by_cases hlt : n < l.length
      · have hlt' : (n : Int) < (l.length : Int) := by omega
        obtain ⟨b, off, rfl, hbl, x1', z1'⟩ := H3.out n hlt
        have x1 : wr.cell? ⟨b, off + n * 2, none⟩ = some (.string l[n].1) := by rw [hB.cell (by exact hbl)]; exact x1'
        have z1 : wr.cell? ⟨b, off + n * 2 + 1, none⟩ = some (.string l[n].2) := by rw [hB.cell (by exact hbl)]; exact z1'
        have hs0 := hB.size
        have hbl' : b < wr.heap.size := by omega
        have HB := Lib.hid hB
        obtain ⟨y1, y2⟩ := Hsz.out _ (List.getElem_mem hlt)
        have step : rgtOne l n hlt = true → ∀ j (h : j < l.length), j < n + 1 → rgtOne l j h = true := fun h0 j hj hjk => by
          by_cases e : j = n
          · subst e; exact h0
          · exact Hall.out j hj (by omega)
        have Step := Lib.hid step
        have Bad := Lib.hid (fun h => rgtE_bad hlt h)
        clear step Hall
        cases hkb : keyB l[n].1 with
        | false =>
          have hb := Lib.hid (Bad.out (by unfold rgtOne; rw [hkb]; rfl))
          have kc : ∀ W : World, Calls Try.prog 66 #[.string l[n].1] W fun e w' => e = .returned (.bool false) ∧ w' = W := fun W => by have := keyD_any l[n].1 W y1; rw [hkb] at this; exact this
          have Kc := Lib.hid kc
          clear Step Bad hkb kc x1' z1' hB
          go_wp2_with fail
          go_quiet ((go_at_call 66; exact Calls.quiet_of_same (Kc.out _)))
          go_wp2_with fail
          go_ret
          rw [hb.out]
          exact ⟨rfl, below_drewN (HB.out.alloc hs0 _) _⟩
        | true =>
          have kc : ∀ W : World, Calls Try.prog 66 #[.string l[n].1] W fun e w' => e = .returned (.bool true) ∧ w' = W := fun W => by have := keyD_any l[n].1 W y1; rw [hkb] at this; exact this
          have Kc := Lib.hid kc
          clear kc
          cases hvb : valNE l[n].2 with
          | false =>
            have hb := Lib.hid (Bad.out (by unfold rgtOne; rw [hkb, hvb]; rfl))
            have vc : ∀ W : World, Calls Try.prog 58 #[.string l[n].2] W fun e w' => e = .returned (.bool false) ∧ w' = W := fun W => by have := right1_any l[n].2 W y2; rw [hvb] at this; exact this
            have Vc := Lib.hid vc
            clear Step Bad hkb hvb vc x1' z1' hB
            go_wp2_with fail
            go_quiet (first | (go_at_call 66; exact Calls.quiet_of_same (Kc.out _)) | (go_at_call 58; exact Calls.quiet_of_same (Vc.out _)))
            go_wp2_with fail
            go_ret
            rw [hb.out]
            exact ⟨rfl, below_drewN (HB.out.alloc hs0 _) _⟩
          | true =>
            have vc : ∀ W : World, Calls Try.prog 58 #[.string l[n].2] W fun e w' => e = .returned (.bool true) ∧ w' = W := fun W => by have := right1_any l[n].2 W y2; rw [hvb] at this; exact this
            have Vc := Lib.hid vc
            clear vc
            by_cases h0 : 0 < n
            · have h0' : (0 : Int) < (n : Int) := by omega
              have hn1 : 0 ≤ (n : Int) - 1 := by omega
              have hn2 : (n : Int) - 1 < (l.length : Int) := by omega
              obtain ⟨b', off', hbo, _, x2', _⟩ := H3.out (n - 1) (by omega)
              simp only [Option.some.injEq, Addr.mk.injEq, and_true] at hbo
              obtain ⟨rfl, rfl⟩ := hbo
              have x2 : wr.cell? ⟨b, off + (n - 1) * 2, none⟩ = some (.string (l[n - 1]'(by omega)).1) := by rw [hB.cell (by exact hbl)]; exact x2'
              cases ht : Op.bytesLess (l[n - 1]'(by omega)).1.toList l[n].1.toList with
              | true =>
                have hs := Lib.hid (Step.out (by unfold rgtOne; rw [hkb, hvb, dif_pos h0, ht]; rfl))
                clear Step Bad hkb hvb x1' z1' x2' hB
                go_wp2_with fail
                go_quiet (first | (go_at_call 66; exact Calls.quiet_of_same (Kc.out _)) | (go_at_call 58; exact Calls.quiet_of_same (Vc.out _)))
                go_wp2_with fail
                go_roundw
                case rel => exact ⟨n + 1, by go_num, by omega, hs.out, below_drewN (HB.out.alloc hs0 _) _⟩
                case measure => simp [intOf]; omega
              | false =>
                have hb := Lib.hid (Bad.out (by unfold rgtOne; rw [hkb, hvb, dif_pos h0, ht]; rfl))
                clear Step Bad hkb hvb x1' z1' x2' hB
                go_wp2_with fail
                go_quiet (first | (go_at_call 66; exact Calls.quiet_of_same (Kc.out _)) | (go_at_call 58; exact Calls.quiet_of_same (Vc.out _)))
                go_wp2_with fail
                go_ret
                rw [hb.out]
                exact ⟨rfl, below_drewN (HB.out.alloc hs0 _) _⟩
            · have h0' : decide ((0 : Int) < (n : Int)) = false := by simp; omega
              have h0'' : decide (0 < n) = false := by simp; omega
              have hs := Lib.hid (Step.out (by unfold rgtOne; rw [hkb, hvb, dif_neg h0]; rfl))
              clear Step Bad hkb hvb x1' z1' hB
              go_wp2_with fail
              go_quiet (first | (go_at_call 66; exact Calls.quiet_of_same (Kc.out _)) | (go_at_call 58; exact Calls.quiet_of_same (Vc.out _)))
              go_wp2_with fail
              go_roundw
              case rel => exact ⟨n + 1, by go_num, by omega, hs.out, below_drewN (HB.out.alloc hs0 _) _⟩
              case measure => simp [intOf]; omega
      · have hkn : n = l.length := by omega
        have HE := Lib.hid (rgtE_ok (by omega) fun j hj => Hall.out j hj (by omega))
        subst hkn
        clear Hall
        go_wp2_with fail
        go_ret
        rw [HE.out]
        exact ⟨rfl, hB⟩

theorem rightD_any (v : Value) (l : List (ByteArray × ByteArray)) (w : World) (h : AtRow w v l) (hsz : ∀ x ∈ l, x.1.size ≤ maxLen ∧ x.2.size ≤ maxLen) :
    Calls Try.prog 45 #[v] w fun e w' => e = .returned (.int .i64 (rgtE l)) ∧ Below w.heap.size w w' := by
  go_enter Try.func45, Try.ntmps45
  go_wp2_with fail
  refine (checkR_any v l w h hsz).mono ?_
  rintro e w1 ⟨rfl, hb⟩
  go_wp2_with fail
  go_ret
  exact ⟨rfl, hb⟩

end Go.Proofs.Ythcpagpiphemgaa
