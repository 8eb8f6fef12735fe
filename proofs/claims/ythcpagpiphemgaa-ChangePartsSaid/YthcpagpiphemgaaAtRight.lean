/- The document's own Right. -/
import Derived.Test.YthcpagpiphemgaaAtCheck
namespace Go.Proofs.Ythcpagpiphemgaa
open Go.RowKit

theorem rgt_of {l : List (ByteArray × ByteArray)} {i : Nat} (h : i < l.length) (hc : chgOne l i h = true) (hv : 1 ≤ l[i].2.size) : rgtOne l i h = true := by
  unfold chgOne at hc
  unfold rgtOne valNE
  rw [decide_eq_true hv]
  exact hc
theorem rgt_empty {l : List (ByteArray × ByteArray)} {i : Nat} (h : i < l.length) (hv : l[i].2.size = 0) : rgtE l = 20 := rgtE_bad h (by
  unfold rgtOne valNE
  rw [decide_eq_false (by omega)]
  simp)
theorem chg_of_rgt {l : List (ByteArray × ByteArray)} (h : rgtB l = true) : chgB l = true := by
  obtain ⟨h1, h2⟩ := of_decide_eq_true h
  refine decide_eq_true ⟨h1, fun i hi => ?_⟩
  have := h2 i hi
  unfold rgtOne valNE at this
  unfold chgOne
  simp only [Bool.and_eq_true] at this ⊢
  exact ⟨⟨this.1.1, this.1.2.2⟩, this.2⟩
theorem rgt_of_bad {l : List (ByteArray × ByteArray)} (h : chgB l = false) : rgtE l = 20 := by
  have : rgtB l = false := by
    cases hr : rgtB l with
    | false => rfl
    | true => rw [chg_of_rgt hr] at h; cases h
  unfold rgtE
  rw [this]; rfl

set_option maxHeartbeats 2000000 in
theorem right_any (v : Value) (l : List (ByteArray × ByteArray)) (w : World) (h : AtRow w v l) (hsz : ∀ x ∈ l, x.1.size ≤ maxLen ∧ x.2.size ≤ maxLen) :
    Calls Try.prog 49 #[v] w fun e w' => e = .returned (.int .i64 (rgtE l)) ∧ ∃ m, w' = w.drewN m := by
  have hcc := fun W hW => change_any v l W hW hsz
  obtain ⟨a, cap, rfl, h1, h2, h3⟩ := id h
  have hn : l.length ≤ 9223372036854775807 := Nat.le_trans h1 h2
  have H3 := Lib.hid h3
  have Hc := Lib.hid hcc
  clear h3 hcc
  cases hcb : chgB l with
  | false =>
    have hE : chgE l = 20 := by unfold chgE; rw [hcb]; rfl
    have hb := Lib.hid (rgt_of_bad hcb)
    have Hcall := Lib.hid (Hc.out w h)
    rw [hE] at Hcall
    clear hE hcb Hc h
    go_enter Try.func49, Try.ntmps49
    go_wp2_with fail
    refine Hcall.out.mono ?_
    rintro e w1 ⟨rfl, m, rfl⟩
    by_cases hz : 0 < l.length
    · have hz' : (0 : Int) < (l.length : Int) := by omega
      go_wp2_with fail
      go_loopw [4] (fun i wr => i = .int .i64 0 ∧ wr = w.drewN m) (fun i _ => 0)
      case atStart => exact ⟨rfl, rfl⟩
      case round =>
        obtain ⟨rfl, rfl⟩ := hrel
        go_wp2_with fail
        go_ret
        rw [hb.out]
        exact ⟨rfl, m, rfl⟩
    · have hz' : l.length = 0 := by omega
      have hz1 : decide ((0 : Int) < (l.length : Int)) = false := decide_eq_false (by omega)
      have hz2 : decide (0 < l.length) = false := decide_eq_false (by omega)
      clear hz'
      go_wp2_with fail
      go_loopw [4] (fun i wr => i = .int .i64 0 ∧ wr = w.drewN m) (fun i _ => 0)
      case atStart => exact ⟨rfl, rfl⟩
      case round =>
        obtain ⟨rfl, rfl⟩ := hrel
        go_wp2_with fail
        go_ret
        rw [hb.out]
        exact ⟨rfl, m, rfl⟩
  | true =>
    have hE : chgE l = 0 := by unfold chgE; rw [hcb]; rfl
    have hall := (of_decide_eq_true hcb).2
    have hl8 := (of_decide_eq_true hcb).1
    have Hall := Lib.hid hall
    have Hcall := Lib.hid (Hc.out w h)
    rw [hE] at Hcall
    clear hE hcb Hc h hall
    go_enter Try.func49, Try.ntmps49
    go_wp2_with fail
    refine Hcall.out.mono ?_
    rintro e w1 ⟨rfl, m, rfl⟩
    go_wp2_with fail
    go_loopw [4] (fun i wr => ∃ n : Nat, i = .int .i64 (n : Int) ∧ n ≤ l.length ∧ (∀ j (h : j < l.length), j < n → rgtOne l j h = true) ∧ wr = w.drewN m) (fun i _ => l.length - (intOf i).toNat)
    case atStart => exact ⟨0, rfl, by omega, fun j _ h => by omega, rfl⟩
    case round =>
      obtain ⟨n, rfl, hk, hok, rfl⟩ := hrel
      have Hok := Lib.hid hok
      clear hok
      by_cases hlt : n < l.length
      · have hlt' : (n : Int) < (l.length : Int) := by omega
        obtain ⟨b, off, rfl, hbl, x1, z1⟩ := H3.out n hlt
        by_cases hz : 1 ≤ l[n].2.size
        · have t1 : (l[n].2.toList == []) = false := by rw [beq_eq_false_iff_ne]; exact fun e => by have := size_nil.1 e; omega
          have t3 : l[n].2.toList.isEmpty = false := by cases h : l[n].2.toList with | nil => rw [h] at t1; cases t1 | cons _ _ => rfl
          have step : ∀ j (h : j < l.length), j < n + 1 → rgtOne l j h = true := fun j hj hjk => by
            by_cases e : j = n
            · subst e; exact rgt_of hlt (Hall.out j hlt) hz
            · exact Hok.out j hj (by omega)
          have Step := Lib.hid step
          clear step Hok
          go_wp2_with fail
          go_roundw
          case rel => exact ⟨n + 1, by go_num, by omega, Step.out, by trivial⟩
          case measure => simp [intOf]; omega
        · have hb := Lib.hid (rgt_empty hlt (by omega))
          have t0 : l[n].2.toList = [] := size_nil.2 (by omega)
          have t3 : l[n].2.toList.isEmpty = true := by rw [t0]; rfl
          clear hz Hok
          go_wp2_with fail
          go_ret
          rw [hb.out]
          exact ⟨rfl, m, rfl⟩
      · have hkn : n = l.length := by omega
        have hb := Lib.hid (rgtE_ok hl8 fun j hj => Hok.out j hj (by omega))
        subst hkn
        clear Hok
        go_wp2_with fail
        go_ret
        rw [hb.out]
        exact ⟨rfl, m, rfl⟩
end Go.Proofs.Ythcpagpiphemgaa
