import Derived.Test.YtadookafnfnaoaaGreatDoorGS1
import Derived.Test.YtadookafnfnaoaaGreatDoorGS0
/- The program's check of a row, by the one closure and the other; Right, Change. -/
namespace Go.Proofs.YtadookafnfnaoaaGreatDoor
open Go.RowKit

theorem below_drewN {B : Nat} {a w : World} (h : Below B a w) (n : Nat) : Below B a (w.drewN n) := ⟨h.os, h.tape, h.output, h.size, h.block⟩

/-- Is the attribute at i one that may stand there: of attributes? -/
def rgtOne (l : List (ByteArray × ByteArray)) (i : Nat) (h : i < l.length) : Bool := keyB l[i].1 && valNE l[i].2 && (if h0 : 0 < i then Op.bytesLess (l[i - 1]'(by omega)).1.toList l[i].1.toList else true)
def rgtB (l : List (ByteArray × ByteArray)) : Bool := decide (l.length ≤ 8 ∧ ∀ i (h : i < l.length), rgtOne l i h = true)
def rgtE (l : List (ByteArray × ByteArray)) : Int := if rgtB l = true then 0 else 20
theorem rgtE_bad {l : List (ByteArray × ByteArray)} {i : Nat} (h : i < l.length) (hb : rgtOne l i h = false) : rgtE l = 20 := by
  have : rgtB l = false := decide_eq_false fun hh => by
    have := hh.2 i h
    rw [hb] at this
    cases this
  unfold rgtE
  rw [this]; rfl
theorem rgtE_long {l : List (ByteArray × ByteArray)} (h : 8 < l.length) : rgtE l = 20 := by
  have : rgtB l = false := decide_eq_false fun hh => by have := hh.1; omega
  unfold rgtE
  rw [this]; rfl
theorem rgtE_ok {l : List (ByteArray × ByteArray)} (h : l.length ≤ 8) (hh : ∀ i (h : i < l.length), rgtOne l i h = true) : rgtE l = 0 := by
  have : rgtB l = true := decide_eq_true ⟨h, hh⟩
  unfold rgtE
  rw [this]; rfl

set_option maxHeartbeats 4000000 in
theorem checkC_any (v : Value) (l : List (ByteArray × ByteArray)) (w : World) (h : AtRow w v l) (hsz : ∀ x ∈ l, x.1.size ≤ maxLen ∧ x.2.size ≤ maxLen) :
    Calls Tryz.prog 130 #[v, .func (.func 131) #[] #[]] w fun e w' => e = .returned (.int .i64 (chgE l)) ∧ Below w.heap.size w w' := by
  obtain ⟨a, cap, rfl, h1, h2, h3⟩ := h
  have hn : l.length ≤ 9223372036854775807 := Nat.le_trans h1 h2
  have H3 := Lib.hid h3
  have Hsz := Lib.hid hsz
  clear h3 hsz
  go_enter Tryz.func130, Tryz.ntmps130
  by_cases h8 : 8 < l.length
  · have h8' : (8 : Int) < (l.length : Int) := by omega
    have HE := Lib.hid (chgE_long h8)
    go_wp2_with fail
    go_ret
    rw [HE.out]
    exact ⟨rfl, Below.refl _ _⟩
  · have h8' : decide ((8 : Int) < (l.length : Int)) = false := by simp; omega
    have h8'' : decide (8 < l.length) = false := by simp; omega
    go_wp2_with fail
    go_loopw [12] (fun i wr => ∃ n : Nat, i = .int .i64 (n : Int) ∧ n ≤ l.length ∧ (∀ j (h : j < l.length), j < n → chgOne l j h = true) ∧ Below w.heap.size w wr) (fun i _ => l.length - (intOf i).toNat)
    case atStart => exact ⟨0, rfl, by omega, fun j _ h => by omega, Below.refl _ _⟩
    case round =>
      obtain ⟨n, rfl, hk, hall, hB⟩ := hrel
      have Hall := Lib.hid hall
      clear hall
      by_cases hlt : n < l.length
      · have hlt' : (n : Int) < (l.length : Int) := by omega
        obtain ⟨b, off, rfl, hbl, x1', z1'⟩ := H3.out n hlt
        have x1 : wr.cell? ⟨b, off + n * 2, none⟩ = some (.string l[n].1) := by rw [hB.cell (by exact hbl)]; exact x1'
        have z1 : wr.cell? ⟨b, off + n * 2 + 1, none⟩ = some (.string l[n].2) := by rw [hB.cell (by exact hbl)]; exact z1'
        have hs0 := hB.size
        have hbl' : b < wr.heap.size := by omega
        have HB := Lib.hid hB
        obtain ⟨y1, y2⟩ := Hsz.out _ (List.getElem_mem hlt)
        have step : chgOne l n hlt = true → ∀ j (h : j < l.length), j < n + 1 → chgOne l j h = true := fun h0 j hj hjk => by
          by_cases e : j = n
          · subst e; exact h0
          · exact Hall.out j hj (by omega)
        have Step := Lib.hid step
        have Bad := Lib.hid (fun h => chgE_bad hlt h)
        clear step Hall
        cases hkb : keyB l[n].1 with
        | false =>
          have hb := Lib.hid (Bad.out (by unfold chgOne; rw [hkb]; rfl))
          have kc : ∀ W : World, Calls Tryz.prog 138 #[.string l[n].1] W fun e w' => e = .returned (.bool false) ∧ w' = W := fun W => by have := keyD_any l[n].1 W y1; rw [hkb] at this; exact this
          have Kc := Lib.hid kc
          clear Step Bad hkb kc x1' z1' hB
          go_wp2_with fail
          go_quiet ((go_at_call 138; exact Calls.quiet_of_same (Kc.out _)))
          go_wp2_with fail
          go_ret
          rw [hb.out]
          exact ⟨rfl, below_drewN (HB.out.alloc hs0 _) _⟩
        | true =>
          have kc : ∀ W : World, Calls Tryz.prog 138 #[.string l[n].1] W fun e w' => e = .returned (.bool true) ∧ w' = W := fun W => by have := keyD_any l[n].1 W y1; rw [hkb] at this; exact this
          have Kc := Lib.hid kc
          clear kc
          cases hvb : valB l[n].2 with
          | false =>
            have hb := Lib.hid (Bad.out (by unfold chgOne; rw [hkb, hvb]; rfl))
            have vc : ∀ W : World, Calls Tryz.prog 131 #[.string l[n].2] W fun e w' => e = .returned (.bool false) ∧ w' = W := fun W => by have := plain_any l[n].2 W y2; rw [hvb] at this; exact this
            have Vc := Lib.hid vc
            clear Step Bad hkb hvb vc x1' z1' hB
            go_wp2_with fail
            go_quiet (first | (go_at_call 138; exact Calls.quiet_of_same (Kc.out _)) | (go_at_call 131; exact Calls.quiet_of_same (Vc.out _)))
            go_wp2_with fail
            go_ret
            rw [hb.out]
            exact ⟨rfl, below_drewN (HB.out.alloc hs0 _) _⟩
          | true =>
            have vc : ∀ W : World, Calls Tryz.prog 131 #[.string l[n].2] W fun e w' => e = .returned (.bool true) ∧ w' = W := fun W => by have := plain_any l[n].2 W y2; rw [hvb] at this; exact this
            have Vc := Lib.hid vc
            clear vc
            by_cases h0 : 0 < n
            · have h0' : (0 : Int) < (n : Int) := by omega
              have hn1 : 0 ≤ (n : Int) - 1 := by omega
              have hn2 : (n : Int) - 1 < (l.length : Int) := by omega
              obtain ⟨b', off', hbo, _, x2', _⟩ := H3.out (n - 1) (by omega)
              simp only [Option.some.injEq, Addr.mk.injEq, and_true] at hbo
              obtain ⟨rfl, rfl⟩ := hbo
              have x2 : wr.cell? ⟨b, off + (n - 1) * 2, none⟩ = some (.string (l[n - 1]'(by omega)).1) := by rw [hB.cell (by exact hbl)]; exact x2'
              cases ht : Op.bytesLess (l[n - 1]'(by omega)).1.toList l[n].1.toList with
              | true =>
                have hs := Lib.hid (Step.out (by unfold chgOne; rw [hkb, hvb, dif_pos h0, ht]; rfl))
                clear Step Bad hkb hvb x1' z1' x2' hB
                go_wp2_with fail
                go_quiet (first | (go_at_call 138; exact Calls.quiet_of_same (Kc.out _)) | (go_at_call 131; exact Calls.quiet_of_same (Vc.out _)))
                go_wp2_with fail
                go_roundw
                case rel => exact ⟨n + 1, by go_num, by omega, hs.out, below_drewN (HB.out.alloc hs0 _) _⟩
                case measure => simp [intOf]; omega
              | false =>
                have hb := Lib.hid (Bad.out (by unfold chgOne; rw [hkb, hvb, dif_pos h0, ht]; rfl))
                clear Step Bad hkb hvb x1' z1' x2' hB
                go_wp2_with fail
                go_quiet (first | (go_at_call 138; exact Calls.quiet_of_same (Kc.out _)) | (go_at_call 131; exact Calls.quiet_of_same (Vc.out _)))
                go_wp2_with fail
                go_ret
                rw [hb.out]
                exact ⟨rfl, below_drewN (HB.out.alloc hs0 _) _⟩
            · have h0' : decide ((0 : Int) < (n : Int)) = false := by simp; omega
              have h0'' : decide (0 < n) = false := by simp; omega
              have hs := Lib.hid (Step.out (by unfold chgOne; rw [hkb, hvb, dif_neg h0]; rfl))
              clear Step Bad hkb hvb x1' z1' hB
              go_wp2_with fail
              go_quiet (first | (go_at_call 138; exact Calls.quiet_of_same (Kc.out _)) | (go_at_call 131; exact Calls.quiet_of_same (Vc.out _)))
              go_wp2_with fail
              go_roundw
              case rel => exact ⟨n + 1, by go_num, by omega, hs.out, below_drewN (HB.out.alloc hs0 _) _⟩
              case measure => simp [intOf]; omega
      · have hkn : n = l.length := by omega
        have HE := Lib.hid (chgE_ok (by omega) fun j hj => Hall.out j hj (by omega))
        subst hkn
        clear Hall
        go_wp2_with fail
        go_ret
        rw [HE.out]
        exact ⟨rfl, hB⟩

theorem changeD_any (v : Value) (l : List (ByteArray × ByteArray)) (w : World) (h : AtRow w v l) (hsz : ∀ x ∈ l, x.1.size ≤ maxLen ∧ x.2.size ≤ maxLen) :
    Calls Tryz.prog 114 #[v] w fun e w' => e = .returned (.int .i64 (chgE l)) ∧ Below w.heap.size w w' := by
  go_enter Tryz.func114, Tryz.ntmps114
  go_wp2_with fail
  refine (checkC_any v l w h hsz).mono ?_
  rintro e w1 ⟨rfl, hb⟩
  go_wp2_with fail
  go_ret
  exact ⟨rfl, hb⟩

set_option maxHeartbeats 4000000 in
theorem checkR_any (v : Value) (l : List (ByteArray × ByteArray)) (w : World) (h : AtRow w v l) (hsz : ∀ x ∈ l, x.1.size ≤ maxLen ∧ x.2.size ≤ maxLen) :
    Calls Tryz.prog 130 #[v, .func (.func 132) #[] #[]] w fun e w' => e = .returned (.int .i64 (rgtE l)) ∧ Below w.heap.size w w' := by
  obtain ⟨a, cap, rfl, h1, h2, h3⟩ := h
  have hn : l.length ≤ 9223372036854775807 := Nat.le_trans h1 h2
  have H3 := Lib.hid h3
  have Hsz := Lib.hid hsz
  clear h3 hsz
  go_enter Tryz.func130, Tryz.ntmps130
  by_cases h8 : 8 < l.length
  · have h8' : (8 : Int) < (l.length : Int) := by omega
    have HE := Lib.hid (rgtE_long h8)
    go_wp2_with fail
    go_ret
    rw [HE.out]
    exact ⟨rfl, Below.refl _ _⟩
  · have h8' : decide ((8 : Int) < (l.length : Int)) = false := by simp; omega
    have h8'' : decide (8 < l.length) = false := by simp; omega
    go_wp2_with fail
    go_loopw [12] (fun i wr => ∃ n : Nat, i = .int .i64 (n : Int) ∧ n ≤ l.length ∧ (∀ j (h : j < l.length), j < n → rgtOne l j h = true) ∧ Below w.heap.size w wr) (fun i _ => l.length - (intOf i).toNat)
    case atStart => exact ⟨0, rfl, by omega, fun j _ h => by omega, Below.refl _ _⟩
    case round =>
      obtain ⟨n, rfl, hk, hall, hB⟩ := hrel
      have Hall := Lib.hid hall
      clear hall
      by_cases hlt : n < l.length
      · have hlt' : (n : Int) < (l.length : Int) := by omega
        obtain ⟨b, off, rfl, hbl, x1', z1'⟩ := H3.out n hlt
        have x1 : wr.cell? ⟨b, off + n * 2, none⟩ = some (.string l[n].1) := by rw [hB.cell (by exact hbl)]; exact x1'
        have z1 : wr.cell? ⟨b, off + n * 2 + 1, none⟩ = some (.string l[n].2) := by rw [hB.cell (by exact hbl)]; exact z1'
        have hs0 := hB.size
        have hbl' : b < wr.heap.size := by omega
        have HB := Lib.hid hB
        obtain ⟨y1, y2⟩ := Hsz.out _ (List.getElem_mem hlt)
        have step : rgtOne l n hlt = true → ∀ j (h : j < l.length), j < n + 1 → rgtOne l j h = true := fun h0 j hj hjk => by
          by_cases e : j = n
          · subst e; exact h0
          · exact Hall.out j hj (by omega)
        have Step := Lib.hid step
        have Bad := Lib.hid (fun h => rgtE_bad hlt h)
        clear step Hall
        cases hkb : keyB l[n].1 with
        | false =>
          have hb := Lib.hid (Bad.out (by unfold rgtOne; rw [hkb]; rfl))
          have kc : ∀ W : World, Calls Tryz.prog 138 #[.string l[n].1] W fun e w' => e = .returned (.bool false) ∧ w' = W := fun W => by have := keyD_any l[n].1 W y1; rw [hkb] at this; exact this
          have Kc := Lib.hid kc
          clear Step Bad hkb kc x1' z1' hB
          go_wp2_with fail
          go_quiet ((go_at_call 138; exact Calls.quiet_of_same (Kc.out _)))
          go_wp2_with fail
          go_ret
          rw [hb.out]
          exact ⟨rfl, below_drewN (HB.out.alloc hs0 _) _⟩
        | true =>
          have kc : ∀ W : World, Calls Tryz.prog 138 #[.string l[n].1] W fun e w' => e = .returned (.bool true) ∧ w' = W := fun W => by have := keyD_any l[n].1 W y1; rw [hkb] at this; exact this
          have Kc := Lib.hid kc
          clear kc
          cases hvb : valNE l[n].2 with
          | false =>
            have hb := Lib.hid (Bad.out (by unfold rgtOne; rw [hkb, hvb]; rfl))
            have vc : ∀ W : World, Calls Tryz.prog 132 #[.string l[n].2] W fun e w' => e = .returned (.bool false) ∧ w' = W := fun W => by have := right1_any l[n].2 W y2; rw [hvb] at this; exact this
            have Vc := Lib.hid vc
            clear Step Bad hkb hvb vc x1' z1' hB
            go_wp2_with fail
            go_quiet (first | (go_at_call 138; exact Calls.quiet_of_same (Kc.out _)) | (go_at_call 132; exact Calls.quiet_of_same (Vc.out _)))
            go_wp2_with fail
            go_ret
            rw [hb.out]
            exact ⟨rfl, below_drewN (HB.out.alloc hs0 _) _⟩
          | true =>
            have vc : ∀ W : World, Calls Tryz.prog 132 #[.string l[n].2] W fun e w' => e = .returned (.bool true) ∧ w' = W := fun W => by have := right1_any l[n].2 W y2; rw [hvb] at this; exact this
            have Vc := Lib.hid vc
            clear vc
            by_cases h0 : 0 < n
            · have h0' : (0 : Int) < (n : Int) := by omega
              have hn1 : 0 ≤ (n : Int) - 1 := by omega
              have hn2 : (n : Int) - 1 < (l.length : Int) := by omega
              obtain ⟨b', off', hbo, _, x2', _⟩ := H3.out (n - 1) (by omega)
              simp only [Option.some.injEq, Addr.mk.injEq, and_true] at hbo
              obtain ⟨rfl, rfl⟩ := hbo
              have x2 : wr.cell? ⟨b, off + (n - 1) * 2, none⟩ = some (.string (l[n - 1]'(by omega)).1) := by rw [hB.cell (by exact hbl)]; exact x2'
              cases ht : Op.bytesLess (l[n - 1]'(by omega)).1.toList l[n].1.toList with
              | true =>
                have hs := Lib.hid (Step.out (by unfold rgtOne; rw [hkb, hvb, dif_pos h0, ht]; rfl))
                clear Step Bad hkb hvb x1' z1' x2' hB
                go_wp2_with fail
                go_quiet (first | (go_at_call 138; exact Calls.quiet_of_same (Kc.out _)) | (go_at_call 132; exact Calls.quiet_of_same (Vc.out _)))
                go_wp2_with fail
                go_roundw
                case rel => exact ⟨n + 1, by go_num, by omega, hs.out, below_drewN (HB.out.alloc hs0 _) _⟩
                case measure => simp [intOf]; omega
              | false =>
                have hb := Lib.hid (Bad.out (by unfold rgtOne; rw [hkb, hvb, dif_pos h0, ht]; rfl))
                clear Step Bad hkb hvb x1' z1' x2' hB
                go_wp2_with fail
                go_quiet (first | (go_at_call 138; exact Calls.quiet_of_same (Kc.out _)) | (go_at_call 132; exact Calls.quiet_of_same (Vc.out _)))
                go_wp2_with fail
                go_ret
                rw [hb.out]
                exact ⟨rfl, below_drewN (HB.out.alloc hs0 _) _⟩
            · have h0' : decide ((0 : Int) < (n : Int)) = false := by simp; omega
              have h0'' : decide (0 < n) = false := by simp; omega
              have hs := Lib.hid (Step.out (by unfold rgtOne; rw [hkb, hvb, dif_neg h0]; rfl))
              clear Step Bad hkb hvb x1' z1' hB
              go_wp2_with fail
              go_quiet (first | (go_at_call 138; exact Calls.quiet_of_same (Kc.out _)) | (go_at_call 132; exact Calls.quiet_of_same (Vc.out _)))
              go_wp2_with fail
              go_roundw
              case rel => exact ⟨n + 1, by go_num, by omega, hs.out, below_drewN (HB.out.alloc hs0 _) _⟩
              case measure => simp [intOf]; omega
      · have hkn : n = l.length := by omega
        have HE := Lib.hid (rgtE_ok (by omega) fun j hj => Hall.out j hj (by omega))
        subst hkn
        clear Hall
        go_wp2_with fail
        go_ret
        rw [HE.out]
        exact ⟨rfl, hB⟩

theorem rightD_any (v : Value) (l : List (ByteArray × ByteArray)) (w : World) (h : AtRow w v l) (hsz : ∀ x ∈ l, x.1.size ≤ maxLen ∧ x.2.size ≤ maxLen) :
    Calls Tryz.prog 116 #[v] w fun e w' => e = .returned (.int .i64 (rgtE l)) ∧ Below w.heap.size w w' := by
  go_enter Tryz.func116, Tryz.ntmps116
  go_wp2_with fail
  refine (checkR_any v l w h hsz).mono ?_
  rintro e w1 ⟨rfl, hb⟩
  go_wp2_with fail
  go_ret
  exact ⟨rfl, hb⟩

end Go.Proofs.YtadookafnfnaoaaGreatDoor
/- The document's own Right. -/
namespace Go.Proofs.YtadookafnfnaoaaGreatDoor
open Go.RowKit

theorem rgt_of {l : List (ByteArray × ByteArray)} {i : Nat} (h : i < l.length) (hc : chgOne l i h = true) (hv : 1 ≤ l[i].2.size) : rgtOne l i h = true := by
  unfold chgOne at hc
  unfold rgtOne valNE
  rw [decide_eq_true hv]
  exact hc
theorem rgt_empty {l : List (ByteArray × ByteArray)} {i : Nat} (h : i < l.length) (hv : l[i].2.size = 0) : rgtE l = 20 := rgtE_bad h (by
  unfold rgtOne valNE
  rw [decide_eq_false (by omega)]
  simp)
theorem chg_of_rgt {l : List (ByteArray × ByteArray)} (h : rgtB l = true) : chgB l = true := by
  obtain ⟨h1, h2⟩ := of_decide_eq_true h
  refine decide_eq_true ⟨h1, fun i hi => ?_⟩
  have := h2 i hi
  unfold rgtOne valNE at this
  unfold chgOne
  simp only [Bool.and_eq_true] at this ⊢
  exact ⟨⟨this.1.1, this.1.2.2⟩, this.2⟩
theorem rgt_of_bad {l : List (ByteArray × ByteArray)} (h : chgB l = false) : rgtE l = 20 := by
  have : rgtB l = false := by
    cases hr : rgtB l with
    | false => rfl
    | true => rw [chg_of_rgt hr] at h; cases h
  unfold rgtE
  rw [this]; rfl

set_option maxHeartbeats 2000000 in
theorem right_any (v : Value) (l : List (ByteArray × ByteArray)) (w : World) (h : AtRow w v l) (hsz : ∀ x ∈ l, x.1.size ≤ maxLen ∧ x.2.size ≤ maxLen) :
    Calls Tryz.prog 82 #[v] w fun e w' => e = .returned (.int .i64 (rgtE l)) ∧ ∃ m, w' = w.drewN m := by
  have hcc := fun W hW => change_any v l W hW hsz
  obtain ⟨a, cap, rfl, h1, h2, h3⟩ := id h
  have hn : l.length ≤ 9223372036854775807 := Nat.le_trans h1 h2
  have H3 := Lib.hid h3
  have Hc := Lib.hid hcc
  clear h3 hcc
  cases hcb : chgB l with
  | false =>
    have hE : chgE l = 20 := by unfold chgE; rw [hcb]; rfl
    have hb := Lib.hid (rgt_of_bad hcb)
    have Hcall := Lib.hid (Hc.out w h)
    rw [hE] at Hcall
    clear hE hcb Hc h
    go_enter Tryz.func82, Tryz.ntmps82
    go_wp2_with fail
    refine Hcall.out.mono ?_
    rintro e w1 ⟨rfl, m, rfl⟩
    by_cases hz : 0 < l.length
    · have hz' : (0 : Int) < (l.length : Int) := by omega
      go_wp2_with fail
      go_loopw [4] (fun i wr => i = .int .i64 0 ∧ wr = w.drewN m) (fun i _ => 0)
      case atStart => exact ⟨rfl, rfl⟩
      case round =>
        obtain ⟨rfl, rfl⟩ := hrel
        go_wp2_with fail
        go_ret
        rw [hb.out]
        exact ⟨rfl, m, rfl⟩
    · have hz' : l.length = 0 := by omega
      have hz1 : decide ((0 : Int) < (l.length : Int)) = false := decide_eq_false (by omega)
      have hz2 : decide (0 < l.length) = false := decide_eq_false (by omega)
      clear hz'
      go_wp2_with fail
      go_loopw [4] (fun i wr => i = .int .i64 0 ∧ wr = w.drewN m) (fun i _ => 0)
      case atStart => exact ⟨rfl, rfl⟩
      case round =>
        obtain ⟨rfl, rfl⟩ := hrel
        go_wp2_with fail
        go_ret
        rw [hb.out]
        exact ⟨rfl, m, rfl⟩
  | true =>
    have hE : chgE l = 0 := by unfold chgE; rw [hcb]; rfl
    have hall := (of_decide_eq_true hcb).2
    have hl8 := (of_decide_eq_true hcb).1
    have Hall := Lib.hid hall
    have Hcall := Lib.hid (Hc.out w h)
    rw [hE] at Hcall
    clear hE hcb Hc h hall
    go_enter Tryz.func82, Tryz.ntmps82
    go_wp2_with fail
    refine Hcall.out.mono ?_
    rintro e w1 ⟨rfl, m, rfl⟩
    go_wp2_with fail
    go_loopw [4] (fun i wr => ∃ n : Nat, i = .int .i64 (n : Int) ∧ n ≤ l.length ∧ (∀ j (h : j < l.length), j < n → rgtOne l j h = true) ∧ wr = w.drewN m) (fun i _ => l.length - (intOf i).toNat)
    case atStart => exact ⟨0, rfl, by omega, fun j _ h => by omega, rfl⟩
    case round =>
      obtain ⟨n, rfl, hk, hok, rfl⟩ := hrel
      have Hok := Lib.hid hok
      clear hok
      by_cases hlt : n < l.length
      · have hlt' : (n : Int) < (l.length : Int) := by omega
        obtain ⟨b, off, rfl, hbl, x1, z1⟩ := H3.out n hlt
        by_cases hz : 1 ≤ l[n].2.size
        · have t1 : (l[n].2.toList == []) = false := by rw [beq_eq_false_iff_ne]; exact fun e => by have := size_nil.1 e; omega
          have t3 : l[n].2.toList.isEmpty = false := by cases h : l[n].2.toList with | nil => rw [h] at t1; cases t1 | cons _ _ => rfl
          have step : ∀ j (h : j < l.length), j < n + 1 → rgtOne l j h = true := fun j hj hjk => by
            by_cases e : j = n
            · subst e; exact rgt_of hlt (Hall.out j hlt) hz
            · exact Hok.out j hj (by omega)
          have Step := Lib.hid step
          clear step Hok
          go_wp2_with fail
          go_roundw
          case rel => exact ⟨n + 1, by go_num, by omega, Step.out, by trivial⟩
          case measure => simp [intOf]; omega
        · have hb := Lib.hid (rgt_empty hlt (by omega))
          have t0 : l[n].2.toList = [] := size_nil.2 (by omega)
          have t3 : l[n].2.toList.isEmpty = true := by rw [t0]; rfl
          clear hz Hok
          go_wp2_with fail
          go_ret
          rw [hb.out]
          exact ⟨rfl, m, rfl⟩
      · have hkn : n = l.length := by omega
        have hb := Lib.hid (rgtE_ok hl8 fun j hj => Hok.out j hj (by omega))
        subst hkn
        clear Hok
        go_wp2_with fail
        go_ret
        rw [hb.out]
        exact ⟨rfl, m, rfl⟩
end Go.Proofs.YtadookafnfnaoaaGreatDoor
/- Plain maths of changesets: which may be, how long what comes of them is, the one normal form. -/
namespace Go.Proofs.YtadookafnfnaoaaGreatDoor
namespace Ch
open Rn
/-- An operation, plain. -/
structure OpD where
  kind : Int
  n : Int
  text : ByteArray
  attrs : List (ByteArray × ByteArray)
def cat (a b : ByteArray) : ByteArray := ⟨(a.data.toList ++ b.data.toList).toArray⟩
theorem cat_data (a b : ByteArray) : (cat a b).data.toList = a.data.toList ++ b.data.toList := rfl
theorem size_data (a : ByteArray) : a.size = a.data.toList.length := rfl
theorem ba_eq {a b : ByteArray} (h : a.data.toList = b.data.toList) : a = b := by
  cases a; cases b; simp at h; subst h; rfl
theorem cat_size (a b : ByteArray) : (cat a b).size = a.size + b.size := by rw [size_data, cat_data, List.length_append]; rfl
theorem cat_nil {a b : ByteArray} (h : b.size = 0) : cat a b = a := ba_eq (by
  rw [cat_data, List.length_eq_zero_iff.1 (show b.data.toList.length = 0 from h), List.append_nil])
theorem cat_eq (a b : ByteArray) : a ++ b = cat a b := ba_eq (by simp [cat_data])

def opSz (o : OpD) : Int := if o.kind = 2 then cnt o.text.data.toList else o.n
def opE (o : OpD) : Int :=
  if o.kind = 1 then (if o.n < 1 ∨ o.text.size ≠ 0 then 30 else chgE o.attrs)
  else if o.kind = 2 then (if o.n ≠ 0 ∨ o.text.size = 0 then 30 else if er o.text.data.toList ≠ 0 then er o.text.data.toList else rgtE o.attrs)
  else if o.kind = 3 then (if o.n < 1 ∨ o.text.size ≠ 0 ∨ o.attrs.length ≠ 0 then 30 else 0)
  else 30
def scan : Int → Int → List OpD → Int × Int × Int
  | left, u, [] => (left, u, 0)
  | left, u, o :: r =>
    if opE o ≠ 0 then (0, 0, opE o)
    else if o.kind = 2 then scan left (u + opSz o) r
    else if left < o.n then (0, 0, 31)
    else scan (left - o.n) (if o.kind = 3 then u - o.n else u) r
def toE (f : Int) (ops : List OpD) : Int :=
  if f < 0 ∨ 20000 < f then 31 else if 2000 < ops.length then 2 else if (scan f f ops).2.2 ≠ 0 then (scan f f ops).2.2 else if 20000 < (scan f f ops).2.1 then 3 else 0
def toN (f : Int) (ops : List OpD) : Int := if toE f ops = 0 then (scan f f ops).2.1 else 0

def kd : List OpD → Int
  | [] => 0
  | o :: r => (if o.kind = 2 then 0 else o.n) + kd r
def dl : List OpD → Int
  | [] => 0
  | o :: r => (if o.kind = 3 then o.n else 0) + dl r
def ins : List OpD → Int
  | [] => 0
  | o :: r => (if o.kind = 2 then cnt o.text.data.toList else 0) + ins r
def allE (ops : List OpD) : Prop := ∀ o ∈ ops, opE o = 0

theorem cnt_nonneg (l : List UInt8) : 0 ≤ cnt l ∧ cnt l ≤ 20000 := by
  unfold cnt
  split
  · rename_i cs h
    have := (rd_some h).2.2
    omega
  · omega
theorem er_cases (l : List UInt8) : er l = 0 ∨ er l = 10 := by unfold er; split <;> simp
theorem chgE_cases (l : List (ByteArray × ByteArray)) : chgE l = 0 ∨ chgE l = 20 := by unfold chgE; split <;> simp
theorem rgtE_cases (l : List (ByteArray × ByteArray)) : rgtE l = 0 ∨ rgtE l = 20 := by unfold rgtE; split <;> simp

theorem opE_keep {o : OpD} (hk : o.kind = 1) : opE o = 0 ↔ 1 ≤ o.n ∧ o.text.size = 0 ∧ chgE o.attrs = 0 := by
  unfold opE
  rw [if_pos hk]
  split <;> omega
theorem opE_put {o : OpD} (hk : o.kind = 2) : opE o = 0 ↔ o.n = 0 ∧ o.text.size ≠ 0 ∧ er o.text.data.toList = 0 ∧ rgtE o.attrs = 0 := by
  unfold opE
  rw [if_neg (by omega), if_pos hk]
  split
  · omega
  · split <;> omega
theorem opE_cut {o : OpD} (hk : o.kind = 3) : opE o = 0 ↔ 1 ≤ o.n ∧ o.text.size = 0 ∧ o.attrs.length = 0 := by
  unfold opE
  rw [if_neg (by omega), if_neg (by omega), if_pos hk]
  split <;> omega
theorem opE_kind {o : OpD} (h : opE o = 0) : o.kind = 1 ∨ o.kind = 2 ∨ o.kind = 3 := by
  unfold opE at h
  split at h
  · omega
  · split at h
    · omega
    · split at h <;> omega
theorem opE_n {o : OpD} (h : opE o = 0) (hk : o.kind ≠ 2) : 1 ≤ o.n := by
  rcases opE_kind h with k | k | k
  · exact ((opE_keep k).1 h).1
  · exact absurd k hk
  · exact ((opE_cut k).1 h).1

theorem scan_ok (ops : List OpD) : ∀ left u : Int, 0 ≤ left → ((scan left u ops).2.2 = 0 ↔ allE ops ∧ kd ops ≤ left) ∧ ((scan left u ops).2.2 = 0 → (scan left u ops).2.1 = u - dl ops + ins ops) := by
  induction ops with
  | nil =>
    intro left u h
    refine ⟨⟨fun _ => ⟨(fun o ho => by cases ho), h⟩, fun _ => rfl⟩, fun _ => ?_⟩
    show u = u - 0 + 0
    omega
  | cons o r ih =>
    intro left u h
    have hall : allE (o :: r) ↔ opE o = 0 ∧ allE r := by
      unfold allE
      rw [List.forall_mem_cons]
    rw [hall]
    show ((scan left u (o :: r)).2.2 = 0 ↔ _) ∧ _
    rw [scan, kd, dl, ins]
    by_cases he : opE o = 0
    · rw [if_neg (by simpa using he)]
      by_cases hk : o.kind = 2
      · rw [if_pos hk, if_pos hk, if_pos hk, if_neg (by omega)]
        obtain ⟨h1, h2⟩ := ih left (u + opSz o) h
        have hs : opSz o = cnt o.text.data.toList := by unfold opSz; rw [if_pos hk]
        refine ⟨?_, fun h0 => ?_⟩
        · rw [h1]
          constructor
          · rintro ⟨a, b⟩; exact ⟨⟨he, a⟩, by omega⟩
          · rintro ⟨⟨_, a⟩, b⟩; exact ⟨a, by omega⟩
        · rw [h2 h0, hs]; omega
      · rw [if_neg hk, if_neg hk, if_neg hk]
        have hn := opE_n he hk
        by_cases hl : left < o.n
        · rw [if_pos hl]
          have hkd : allE r → 0 ≤ kd r := fun ha => by
            clear ih hall
            induction r with
            | nil => exact Int.le_refl _
            | cons x s ih =>
              have hx := ha x (List.mem_cons_self ..)
              have := ih fun y hy => ha y (List.mem_cons_of_mem _ hy)
              rw [kd]
              split
              · omega
              · have := opE_n hx (by assumption); omega
          refine ⟨⟨fun h0 => by simp at h0, fun ⟨⟨_, ha⟩, hb⟩ => ?_⟩, fun h0 => by simp at h0⟩
          have := hkd ha
          omega
        · rw [if_neg hl]
          obtain ⟨h1, h2⟩ := ih (left - o.n) (if o.kind = 3 then u - o.n else u) (by omega)
          refine ⟨?_, fun h0 => ?_⟩
          · rw [h1]
            constructor
            · rintro ⟨a, b⟩; exact ⟨⟨he, a⟩, by omega⟩
            · rintro ⟨⟨_, a⟩, b⟩; exact ⟨a, by omega⟩
          · rw [h2 h0]
            split <;> omega
    · rw [if_pos (by simpa using he)]
      exact ⟨⟨fun h0 => absurd h0 he, fun ⟨⟨a, _⟩, _⟩ => absurd a he⟩, fun h0 => absurd h0 he⟩

/-- What is right. -/
def OkC (f : Int) (ops : List OpD) : Prop := 0 ≤ f ∧ f ≤ 20000 ∧ ops.length ≤ 2000 ∧ allE ops ∧ kd ops ≤ f ∧ f - dl ops + ins ops ≤ 20000
theorem toE_iff (f : Int) (ops : List OpD) : toE f ops = 0 ↔ OkC f ops := by
  unfold toE OkC
  by_cases h1 : f < 0 ∨ 20000 < f
  · rw [if_pos h1]
    constructor
    · omega
    · rintro ⟨a, b, _⟩; omega
  · rw [if_neg h1]
    by_cases h2 : 2000 < ops.length
    · rw [if_pos h2]
      constructor
      · omega
      · rintro ⟨_, _, a, _⟩; omega
    · rw [if_neg h2]
      obtain ⟨h3, h4⟩ := scan_ok ops f f (by omega)
      by_cases h5 : (scan f f ops).2.2 = 0
      · rw [if_neg (by simpa using h5)]
        have h6 := h4 h5
        obtain ⟨h7, h8⟩ := h3.1 h5
        rw [h6]
        split
        · constructor
          · omega
          · rintro ⟨_, _, _, _, _, a⟩; omega
        · exact ⟨fun _ => ⟨by omega, by omega, by omega, h7, h8, by omega⟩, fun _ => rfl⟩
      · rw [if_pos (by simpa using h5)]
        exact ⟨fun h => absurd h h5, fun ⟨_, _, _, a, b, _⟩ => h3.2 ⟨a, b⟩⟩
theorem toN_ok {f : Int} {ops : List OpD} (h : toE f ops = 0) : toN f ops = f - dl ops + ins ops := by
  unfold toN
  rw [if_pos h]
  have hc := (toE_iff f ops).1 h
  exact (scan_ok ops f f hc.1).2 (((scan_ok ops f f hc.1).1).2 ⟨hc.2.2.2.1, hc.2.2.2.2.1⟩)
theorem toN_bad {f : Int} {ops : List OpD} (h : toE f ops ≠ 0) : toN f ops = 0 := by
  unfold toN
  rw [if_neg h]

/-- The normal form, the last operation first. -/
def put : List OpD → OpD → List OpD
  | [], o => [o]
  | x :: r, o => if x.kind = o.kind ∧ x.attrs = o.attrs then { x with n := x.n + o.n, text := cat x.text o.text } :: r else o :: x :: r
def delO (g : Int) : OpD := ⟨3, g, ⟨#[]⟩, []⟩
def flush (s : List OpD × Int) : List OpD := if 0 < s.2 then put s.1 (delO s.2) else s.1
def add (s : List OpD × Int) (o : OpD) : List OpD × Int := if o.kind = 3 then (s.1, s.2 + o.n) else if o.kind = 1 then (put (flush s) o, 0) else (put s.1 o, s.2)
def trim : List OpD → List OpD
  | [] => []
  | x :: r => if x.kind = 1 ∧ x.attrs.length = 0 then r else x :: r
def fold (ops : List OpD) : List OpD × Int := ops.foldl add ([], 0)
def norm (ops : List OpD) : List OpD := (trim (flush (fold ops))).reverse
theorem fold_snoc (ops : List OpD) (o : OpD) : fold (ops ++ [o]) = add (fold ops) o := by unfold fold; rw [List.foldl_append]; rfl

def NF : List OpD → Prop
  | [] => True
  | y :: r => (∀ x r', r = x :: r' → ¬ (x.kind = y.kind ∧ x.attrs = y.attrs) ∧ (x.kind = 3 → y.kind = 1)) ∧ NF r
def hd3 (l : List OpD) : Prop := ∀ x r, l = x :: r → x.kind ≠ 3

theorem put_fresh {l : List OpD} {o : OpD} (h : ∀ x r, l = x :: r → ¬ (x.kind = o.kind ∧ x.attrs = o.attrs)) : put l o = o :: l := by
  cases l with
  | nil => rfl
  | cons x r => rw [put, if_neg (h x r rfl)]
theorem put_len_le (l : List OpD) (o : OpD) : (put l o).length ≤ l.length + 1 := by
  cases l with
  | nil => simp [put]
  | cons x r => rw [put]; split <;> simp
theorem put_head (l : List OpD) (o : OpD) : ∃ x r, put l o = x :: r ∧ x.kind = o.kind ∧ x.attrs = o.attrs := by
  cases l with
  | nil => exact ⟨o, [], rfl, rfl, rfl⟩
  | cons x r =>
    rw [put]
    split
    · rename_i h; exact ⟨_, _, rfl, h.1, h.2⟩
    · exact ⟨_, _, rfl, rfl, rfl⟩
theorem put_NF {l : List OpD} {o : OpD} (h : NF l) (hd : ∀ x r, l = x :: r → x.kind = 3 → o.kind = 1 ∨ o.kind = 3 ∧ o.attrs = x.attrs) : NF (put l o) := by
  cases l with
  | nil => exact ⟨(fun x r' e => by cases e), trivial⟩
  | cons x r =>
    rw [put]
    split
    · rename_i ha
      refine ⟨fun y r' e => ?_, h.2⟩
      obtain ⟨h1, h2⟩ := h.1 y r' e
      exact ⟨h1, h2⟩
    · rename_i ha
      refine ⟨fun y r' e => ?_, h⟩
      simp only [List.cons.injEq] at e
      obtain ⟨rfl, rfl⟩ := e
      refine ⟨ha, fun h3 => ?_⟩
      rcases hd _ _ rfl h3 with h | ⟨h, h'⟩
      · exact h
      · exact absurd ⟨h3.trans h.symm, h'.symm⟩ ha

/-- What holds of a state on the way. -/
def St (s : List OpD × Int) : Prop := NF s.1 ∧ hd3 s.1
theorem St.flush {s : List OpD × Int} (h : St s) : NF (flush s) := by
  unfold Ch.flush
  split
  · refine put_NF h.1 fun x r e h3 => absurd h3 (h.2 x r e)
  · exact h.1
theorem St.add {s : List OpD × Int} (h : St s) {o : OpD} (_ho : o.kind = 1 ∨ o.kind = 2 ∨ o.kind = 3) : St (add s o) := by
  unfold Ch.add
  split
  · exact h
  · split
    · rename_i h3 h1
      refine ⟨put_NF h.flush fun x r e _ => .inl h1, fun x r e => ?_⟩
      obtain ⟨y, r', e', hy, _⟩ := put_head (Ch.flush s) o
      rw [e'] at e
      simp only [List.cons.injEq] at e
      rw [← e.1, hy, h1]
      decide
    · rename_i h3 h1
      refine ⟨put_NF h.1 fun x r e h3' => absurd h3' (h.2 x r e), fun x r e => ?_⟩
      obtain ⟨y, r', e', hy, _⟩ := put_head s.1 o
      rw [e'] at e
      simp only [List.cons.injEq] at e
      rw [← e.1, hy]
      exact h3
theorem fold_St {ops : List OpD} (h : allE ops) : St (fold ops) := by
  have key : ∀ (ops : List OpD) (s : List OpD × Int), St s → allE ops → St (ops.foldl add s) := by
    intro ops
    induction ops with
    | nil => intro s h _; exact h
    | cons o r ih => intro s h ha; exact ih _ (h.add (opE_kind (ha o (List.mem_cons_self ..)))) fun x hx => ha x (List.mem_cons_of_mem _ hx)
  exact key ops _ ⟨trivial, fun x r e => by cases e⟩ h

def siz (s : List OpD × Int) : Nat := s.1.length + if 0 < s.2 then 1 else 0
theorem flush_len (s : List OpD × Int) : (flush s).length ≤ siz s := by
  unfold flush siz
  split
  · exact put_len_le _ _
  · exact Nat.le_refl _
theorem siz_add (s : List OpD × Int) (o : OpD) : siz (add s o) ≤ siz s + 1 := by
  have h1 := flush_len s
  unfold add
  split
  · unfold siz; dsimp only; split <;> split <;> omega
  · split
    · have := put_len_le (flush s) o
      have e : siz (put (flush s) o, 0) = (put (flush s) o).length := by unfold siz; simp
      rw [e]; omega
    · have := put_len_le s.1 o
      unfold siz; dsimp only; split <;> omega
theorem siz_fold (ops : List OpD) : siz (fold ops) ≤ ops.length := by
  have key : ∀ (ops : List OpD) (s : List OpD × Int), siz (ops.foldl add s) ≤ siz s + ops.length := by
    intro ops
    induction ops with
    | nil => intro s; simp
    | cons o r ih =>
      intro s
      have h1 := ih (add s o)
      have h2 := siz_add s o
      rw [List.foldl_cons, List.length_cons]
      omega
  have := key ops ([], 0)
  have e : siz ([], 0) = 0 := rfl
  rw [e] at this
  unfold fold
  omega
theorem trim_len (l : List OpD) : (trim l).length ≤ l.length := by
  cases l with
  | nil => exact Nat.le_refl _
  | cons x r => rw [trim]; split <;> simp
theorem norm_len (ops : List OpD) : (norm ops).length ≤ ops.length := by
  unfold norm
  rw [List.length_reverse]
  exact Nat.le_trans (trim_len _) (Nat.le_trans (flush_len _) (siz_fold _))

/-- The sums. -/
theorem kd_append (a b : List OpD) : kd (a ++ b) = kd a + kd b := by
  induction a with
  | nil => simp [kd]
  | cons x r ih => simp only [List.cons_append, kd, ih]; omega
theorem dl_append (a b : List OpD) : dl (a ++ b) = dl a + dl b := by
  induction a with
  | nil => simp [dl]
  | cons x r ih => simp only [List.cons_append, dl, ih]; omega
theorem ins_append (a b : List OpD) : ins (a ++ b) = ins a + ins b := by
  induction a with
  | nil => simp [ins]
  | cons x r ih => simp only [List.cons_append, ins, ih]; omega
theorem kd_reverse (a : List OpD) : kd a.reverse = kd a := by
  induction a with
  | nil => rfl
  | cons x r ih => rw [List.reverse_cons, kd_append, ih]; simp only [kd]; omega
theorem dl_reverse (a : List OpD) : dl a.reverse = dl a := by
  induction a with
  | nil => rfl
  | cons x r ih => rw [List.reverse_cons, dl_append, ih]; simp only [dl]; omega
theorem ins_reverse (a : List OpD) : ins a.reverse = ins a := by
  induction a with
  | nil => rfl
  | cons x r ih => rw [List.reverse_cons, ins_append, ih]; simp only [ins]; omega
theorem ins_nonneg (l : List OpD) : 0 ≤ ins l := by
  induction l with
  | nil => exact Int.le_refl _
  | cons x r ih => rw [ins]; have := cnt_nonneg x.text.data.toList; split <;> omega
theorem kd_nonneg {l : List OpD} (h : allE l) : 0 ≤ kd l := by
  induction l with
  | nil => exact Int.le_refl _
  | cons x r ih =>
    have := ih fun y hy => h y (List.mem_cons_of_mem _ hy)
    rw [kd]
    split
    · omega
    · have := opE_n (h x (List.mem_cons_self ..)) (by assumption); omega
theorem dl_le_kd {l : List OpD} (h : allE l) : 0 ≤ dl l ∧ dl l ≤ kd l := by
  induction l with
  | nil => exact ⟨Int.le_refl _, Int.le_refl _⟩
  | cons x r ih =>
    have := ih fun y hy => h y (List.mem_cons_of_mem _ hy)
    have hx := h x (List.mem_cons_self ..)
    rw [kd, dl]
    rcases opE_kind hx with k | k | k
    · rw [if_neg (by omega), if_neg (by omega)]; have := opE_n hx (by omega); omega
    · rw [if_neg (by omega), if_pos k]; omega
    · rw [if_pos k, if_neg (by omega)]; have := opE_n hx (by omega); omega

/-- Two texts, one behind the other. -/
theorem er_cat {a b : ByteArray} (ha : er a.data.toList = 0) (hb : er b.data.toList = 0) (h : cnt a.data.toList + cnt b.data.toList ≤ 20000) :
    er (cat a b).data.toList = 0 ∧ cnt (cat a b).data.toList = cnt a.data.toList + cnt b.data.toList := by
  cases hra : rd a.data.toList with
  | none => rw [er_none hra] at ha; omega
  | some cs =>
    cases hrb : rd b.data.toList with
    | none => rw [er_none hrb] at hb; omega
    | some ds =>
      rw [cnt_some hra, cnt_some hrb] at h
      obtain ⟨a1, a2, a3⟩ := rd_some hra
      obtain ⟨b1, b2, b3⟩ := rd_some hrb
      have e : rd (cat a b).data.toList = some (cs ++ ds) := by
        rw [cat_data, a2, b2, ← txt_append]
        refine rd_txt _ (fun c hc => ?_) (by rw [List.length_append]; omega)
        rcases List.mem_append.1 hc with h | h
        · exact a1 c h
        · exact b1 c h
      rw [er_some e, cnt_some e, cnt_some hra, cnt_some hrb, List.length_append]
      exact ⟨rfl, by omega⟩
theorem put_one {x o : OpD} (hx : opE x = 0) (ho : opE o = 0) (hk : x.kind = o.kind) (_ha : x.attrs = o.attrs) (hi : ins [x] + ins [o] ≤ 20000) :
    opE { x with n := x.n + o.n, text := cat x.text o.text } = 0 ∧ (x.kind = 2 → cnt (cat x.text o.text).data.toList = cnt x.text.data.toList + cnt o.text.data.toList) := by
  rcases opE_kind hx with k | k | k
  · obtain ⟨x1, x2, x3⟩ := (opE_keep k).1 hx
    obtain ⟨o1, o2, o3⟩ := (opE_keep (hk ▸ k)).1 ho
    refine ⟨(opE_keep (show ({ x with n := x.n + o.n, text := cat x.text o.text } : OpD).kind = 1 from k)).2 ⟨by show 1 ≤ x.n + o.n; omega, by show (cat x.text o.text).size = 0; rw [cat_size]; omega, x3⟩, fun h => by omega⟩
  · obtain ⟨x1, x2, x3, x4⟩ := (opE_put k).1 hx
    obtain ⟨o1, o2, o3, o4⟩ := (opE_put (hk ▸ k)).1 ho
    simp only [ins] at hi
    rw [if_pos k, if_pos (hk ▸ k)] at hi
    obtain ⟨e1, e2⟩ := er_cat x3 o3 (by omega)
    refine ⟨(opE_put (show ({ x with n := x.n + o.n, text := cat x.text o.text } : OpD).kind = 2 from k)).2 ⟨by show x.n + o.n = 0; omega, by show (cat x.text o.text).size ≠ 0; rw [cat_size]; omega, e1, x4⟩, fun _ => e2⟩
  · obtain ⟨x1, x2, x3⟩ := (opE_cut k).1 hx
    obtain ⟨o1, o2, o3⟩ := (opE_cut (hk ▸ k)).1 ho
    refine ⟨(opE_cut (show ({ x with n := x.n + o.n, text := cat x.text o.text } : OpD).kind = 3 from k)).2 ⟨by show 1 ≤ x.n + o.n; omega, by show (cat x.text o.text).size = 0; rw [cat_size]; omega, x3⟩, fun h => by omega⟩
theorem put_all {l : List OpD} {o : OpD} (hl : allE l) (ho : opE o = 0) (hi : ins l + ins [o] ≤ 20000) :
    allE (put l o) ∧ kd (put l o) = kd l + kd [o] ∧ dl (put l o) = dl l + dl [o] ∧ ins (put l o) = ins l + ins [o] := by
  cases l with
  | nil =>
    refine ⟨fun x hx => ?_, ?_, ?_, ?_⟩
    · simp [put] at hx; subst hx; exact ho
    · simp [put, kd]
    · simp [put, dl]
    · simp [put, ins]
  | cons x r =>
    have hx := hl x (List.mem_cons_self ..)
    have hr : allE r := fun y hy => hl y (List.mem_cons_of_mem _ hy)
    rw [put]
    split
    · rename_i h
      have hir := ins_nonneg r
      have hi' : ins [x] + ins [o] ≤ 20000 := by simp only [ins] at hi ⊢; omega
      obtain ⟨h1, h2⟩ := put_one hx ho h.1 h.2 hi'
      refine ⟨fun y hy => ?_, ?_, ?_, ?_⟩
      · rcases List.mem_cons.1 hy with rfl | hy
        · exact h1
        · exact hr y hy
      · simp only [kd, ← h.1]; split <;> omega
      · simp only [dl, ← h.1]; split <;> omega
      · simp only [ins, ← h.1]
        split
        · rw [h2 (by assumption)]; omega
        · omega
    · refine ⟨fun y hy => ?_, ?_, ?_, ?_⟩
      · rcases List.mem_cons.1 hy with rfl | hy
        · exact ho
        · exact hl y hy
      · simp only [kd]; omega
      · simp only [dl]; omega
      · simp only [ins]; omega
theorem delO_ok {g : Int} (h : 0 < g) : opE (delO g) = 0 := (opE_cut rfl).2 ⟨by show 1 ≤ g; omega, rfl, rfl⟩
theorem flush_all {s : List OpD × Int} (hl : allE s.1) (hg : 0 ≤ s.2) (hi : ins s.1 ≤ 20000) :
    allE (flush s) ∧ kd (flush s) = kd s.1 + s.2 ∧ dl (flush s) = dl s.1 + s.2 ∧ ins (flush s) = ins s.1 := by
  unfold flush
  split
  · have e : ins [delO s.2] = 0 := rfl
    obtain ⟨h1, h2, h3, h4⟩ := put_all hl (delO_ok (by assumption)) (by rw [e]; omega)
    refine ⟨h1, ?_, ?_, ?_⟩
    · rw [h2]; simp [kd, delO]
    · rw [h3]; simp [dl, delO]
    · rw [h4, e]; omega
  · exact ⟨hl, by omega, by omega, rfl⟩
theorem add_all {s : List OpD × Int} {o : OpD} (hl : allE s.1) (hg : 0 ≤ s.2) (ho : opE o = 0) (hi : ins s.1 + ins [o] ≤ 20000) :
    allE (add s o).1 ∧ 0 ≤ (add s o).2 ∧ kd (add s o).1 + (add s o).2 = kd s.1 + s.2 + kd [o] ∧ dl (add s o).1 + (add s o).2 = dl s.1 + s.2 + dl [o] ∧ ins (add s o).1 = ins s.1 + ins [o] := by
  have hio := ins_nonneg [o]
  obtain ⟨f1, f2, f3, f4⟩ := flush_all hl hg (by omega)
  unfold add
  split
  · rename_i h3
    have := opE_n ho (by omega)
    refine ⟨hl, by show 0 ≤ s.2 + o.n; omega, ?_, ?_, ?_⟩
    · simp only [kd]; rw [if_neg (by omega)]; omega
    · simp only [dl]; rw [if_pos h3]; omega
    · simp only [ins]; rw [if_neg (by omega)]; omega
  · split
    · obtain ⟨h1, h2, h3, h4⟩ := put_all f1 ho (by rw [f4]; exact hi)
      refine ⟨h1, Int.le_refl _, ?_, ?_, ?_⟩
      · show kd (put (flush s) o) + 0 = _; rw [h2, f2]; omega
      · show dl (put (flush s) o) + 0 = _; rw [h3, f3]; omega
      · show ins (put (flush s) o) = _; rw [h4, f4]
    · rename_i h3 h1
      obtain ⟨g1, g2, g3, g4⟩ := put_all hl ho hi
      refine ⟨g1, hg, ?_, ?_, g4⟩
      · show kd (put s.1 o) + s.2 = _; rw [g2]; omega
      · show dl (put s.1 o) + s.2 = _; rw [g3]; omega
theorem fold_all {ops : List OpD} (h : allE ops) (hi : ins ops ≤ 20000) :
    allE (fold ops).1 ∧ 0 ≤ (fold ops).2 ∧ kd (fold ops).1 + (fold ops).2 = kd ops ∧ dl (fold ops).1 + (fold ops).2 = dl ops ∧ ins (fold ops).1 = ins ops := by
  have key : ∀ (ops : List OpD) (s : List OpD × Int), allE s.1 → 0 ≤ s.2 → allE ops → ins s.1 + ins ops ≤ 20000 →
      allE (ops.foldl add s).1 ∧ 0 ≤ (ops.foldl add s).2 ∧ kd (ops.foldl add s).1 + (ops.foldl add s).2 = kd s.1 + s.2 + kd ops ∧ dl (ops.foldl add s).1 + (ops.foldl add s).2 = dl s.1 + s.2 + dl ops ∧ ins (ops.foldl add s).1 = ins s.1 + ins ops := by
    intro ops
    induction ops with
    | nil => intro s h1 h2 _ _; refine ⟨h1, h2, ?_, ?_, ?_⟩ <;> simp [kd, dl, ins]
    | cons o r ih =>
      intro s h1 h2 h3 h4
      have hir := ins_nonneg r
      have hs : ins (o :: r) = ins [o] + ins r := ins_append [o] r
      have hk : kd (o :: r) = kd [o] + kd r := kd_append [o] r
      have hd : dl (o :: r) = dl [o] + dl r := dl_append [o] r
      obtain ⟨a1, a2, a3, a4, a5⟩ := add_all h1 h2 (h3 o (List.mem_cons_self ..)) (by omega)
      obtain ⟨b1, b2, b3, b4, b5⟩ := ih (add s o) a1 a2 (fun x hx => h3 x (List.mem_cons_of_mem _ hx)) (by omega)
      rw [List.foldl_cons]
      exact ⟨b1, b2, by omega, by omega, by omega⟩
  obtain ⟨a, b, c, d, e⟩ := key ops ([], 0) (fun x hx => by cases hx) (Int.le_refl _) h (by simp [ins]; exact hi)
  have z1 : kd ([] : List OpD) = 0 := rfl
  have z2 : dl ([] : List OpD) = 0 := rfl
  have z3 : ins ([] : List OpD) = 0 := rfl
  simp only [z1, z2, z3] at c d e
  unfold fold
  exact ⟨a, b, by omega, by omega, by omega⟩
theorem trim_all {l : List OpD} (h : allE l) : allE (trim l) ∧ kd (trim l) ≤ kd l ∧ dl (trim l) = dl l ∧ ins (trim l) = ins l := by
  cases l with
  | nil => exact ⟨h, Int.le_refl _, rfl, rfl⟩
  | cons x r =>
    rw [trim]
    split
    · rename_i hb
      have := opE_n (h x (List.mem_cons_self ..)) (by omega)
      refine ⟨fun y hy => h y (List.mem_cons_of_mem _ hy), ?_, ?_, ?_⟩
      · rw [kd, if_neg (by omega)]; omega
      · rw [dl, if_neg (by omega)]; omega
      · rw [ins, if_neg (by omega)]; omega
    · exact ⟨h, Int.le_refl _, rfl, rfl⟩
theorem OkC.ins {f : Int} {ops : List OpD} (h : OkC f ops) : ins ops ≤ 20000 := by
  obtain ⟨_, _, _, h4, h5, h6⟩ := h
  have := dl_le_kd h4
  omega
/-- The normal form is right, and as long. -/
theorem norm_ok {f : Int} {ops : List OpD} (h : OkC f ops) : OkC f (norm ops) ∧ dl (norm ops) = dl ops ∧ Ch.ins (norm ops) = Ch.ins ops := by
  have hi := h.ins
  obtain ⟨h1, h2, h3, h4, h5, h6⟩ := h
  obtain ⟨a1, a2, a3, a4, a5⟩ := fold_all h4 hi
  obtain ⟨b1, b2, b3, b4⟩ := flush_all a1 a2 (by omega)
  obtain ⟨c1, c2, c3, c4⟩ := trim_all b1
  have hl := norm_len ops
  unfold norm at hl ⊢
  have k1 : kd (trim (flush (fold ops))).reverse = kd (trim (flush (fold ops))) := kd_reverse _
  have k2 : dl (trim (flush (fold ops))).reverse = dl (trim (flush (fold ops))) := dl_reverse _
  have k3 : Ch.ins (trim (flush (fold ops))).reverse = Ch.ins (trim (flush (fold ops))) := ins_reverse _
  refine ⟨⟨h1, h2, by omega, fun x hx => c1 x (List.mem_reverse.1 hx), by omega, by omega⟩, by omega, by omega⟩
theorem norm_to {f : Int} {ops : List OpD} (h : toE f ops = 0) : toE f (norm ops) = 0 ∧ toN f (norm ops) = toN f ops := by
  obtain ⟨h1, h2, h3⟩ := norm_ok ((toE_iff f ops).1 h)
  have h4 := (toE_iff f _).2 h1
  exact ⟨h4, by rw [toN_ok h, toN_ok h4, h2, h3]⟩

/-- Of a normal one it is that one. -/
theorem fold_normal (l : List OpD) (h : NF l) (ha : allE l) : flush (l.foldr (fun o s => add s o) ([], 0)) = l ∧ (hd3 l → l.foldr (fun o s => add s o) ([], 0) = (l, 0)) := by
  induction l with
  | nil => exact ⟨rfl, fun _ => rfl⟩
  | cons y r ih =>
    obtain ⟨i1, i2⟩ := ih h.2 fun x hx => ha x (List.mem_cons_of_mem _ hx)
    have hy := ha y (List.mem_cons_self ..)
    have hput : put r y = y :: r := put_fresh fun x r' e => (h.1 x r' e).1
    rw [List.foldr_cons]
    rcases opE_kind hy with k | k | k
    · have e : add (r.foldr (fun o s => add s o) ([], 0)) y = (y :: r, 0) := by
        have e0 : ∀ s : List OpD × Int, add s y = (put (flush s) y, 0) := fun s => by unfold add; rw [if_neg (by omega), if_pos k]
        rw [e0, i1, hput]
      rw [e]
      exact ⟨rfl, fun _ => rfl⟩
    · have hr : hd3 r := fun x r' e h3 => by have := (h.1 x r' e).2 h3; omega
      have e : add (r.foldr (fun o s => add s o) ([], 0)) y = (y :: r, 0) := by
        rw [i2 hr]
        unfold add
        rw [if_neg (by omega), if_neg (by omega), hput]
      rw [e]
      exact ⟨rfl, fun _ => rfl⟩
    · have hr : hd3 r := fun x r' e h3 => by have := (h.1 x r' e).2 h3; omega
      obtain ⟨y1, y2, y3⟩ := (opE_cut k).1 hy
      have e : add (r.foldr (fun o s => add s o) ([], 0)) y = (r, y.n) := by
        rw [i2 hr]
        unfold add
        rw [if_pos k]
        simp
      have hyd : delO y.n = y := by
        obtain ⟨a, b, c, d⟩ := y
        simp only at k y1 y2 y3
        subst k
        have hc : c = ⟨#[]⟩ := ba_eq (List.length_eq_zero_iff.1 y2)
        have hd : d = [] := List.length_eq_zero_iff.1 y3
        rw [hc, hd]; rfl
      rw [e]
      refine ⟨?_, fun h3 => absurd k (h3 y r rfl)⟩
      unfold flush
      rw [if_pos (by show 0 < y.n; omega)]
      show put r (delO y.n) = _
      rw [hyd, hput]
theorem NF.trim {l : List OpD} (h : NF l) : NF (trim l) := by
  cases l with
  | nil => exact h
  | cons x r => rw [Ch.trim]; split
                · exact h.2
                · exact h
theorem trim_trim {l : List OpD} (h : NF l) : trim (trim l) = trim l := by
  cases l with
  | nil => rfl
  | cons x r =>
    by_cases hb : x.kind = 1 ∧ x.attrs.length = 0
    · have e : trim (x :: r) = r := by rw [trim, if_pos hb]
      rw [e]
      cases r with
      | nil => rfl
      | cons y s =>
        rw [trim, if_neg]
        intro hb'
        refine (h.1 y s rfl).1 ⟨by omega, ?_⟩
        rw [List.length_eq_zero_iff.1 hb'.2, List.length_eq_zero_iff.1 hb.2]
    · have e : trim (x :: r) = x :: r := by rw [trim, if_neg hb]
      rw [e, e]
theorem norm_norm {f : Int} {ops : List OpD} (h : OkC f ops) : norm (norm ops) = norm ops := by
  have hc := (norm_ok h).1.2.2.2.1
  have hs := (fold_St h.2.2.2.1).flush.trim
  have ha : allE (trim (flush (fold ops))) := fun x hx => hc x (List.mem_reverse.2 hx)
  have := (fold_normal _ hs ha).1
  have e : fold (norm ops) = (trim (flush (fold ops))).foldr (fun o s => add s o) ([], 0) := by
    show List.foldl add ([], 0) (trim (flush (fold ops))).reverse = _
    rw [List.foldl_reverse]
  show (trim (flush (fold (norm ops)))).reverse = (trim (flush (fold ops))).reverse
  rw [e, this, trim_trim (fold_St h.2.2.2.1).flush]

end Ch
end Go.Proofs.YtadookafnfnaoaaGreatDoor
