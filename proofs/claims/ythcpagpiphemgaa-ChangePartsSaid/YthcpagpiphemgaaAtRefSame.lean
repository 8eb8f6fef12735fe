/- Are two rows of attributes the same: the document's. -/
import Derived.Test.YthcpagpiphemgaaAtRow
import Derived.BigQuiet
import Derived.Laws.StructEq
namespace Go.Proofs.Ythcpagpiphemgaa
open Go.RowKit

theorem ext_le {l m : List (ByteArray × ByteArray)} (hl : l.length = m.length) (h : ∀ j (h1 : j < l.length) (h2 : j < m.length), l[j] = m[j]) : l = m :=
  List.ext_getElem hl h

def sameB (l m : List (ByteArray × ByteArray)) : Bool := decide (l = m)
theorem sameB_len {l m : List (ByteArray × ByteArray)} (h : l.length ≠ m.length) : sameB l m = false := decide_eq_false fun e => h (by rw [e])
theorem sameB_at {l m : List (ByteArray × ByteArray)} {n : Nat} (h1 : n < l.length) (h2 : n < m.length) (h : l[n] ≠ m[n]) : sameB l m = false := decide_eq_false fun e => by
  subst e; exact h rfl
theorem sameB_all {l m : List (ByteArray × ByteArray)} (hl : l.length = m.length) (h : ∀ j (h1 : j < l.length) (h2 : j < m.length), l[j] = m[j]) : sameB l m = true := decide_eq_true (ext_le hl h)

set_option maxHeartbeats 2000000 in
theorem refSame_any (v u : Value) (l m : List (ByteArray × ByteArray)) (w : World) (hv : AtRow w v l) (hu : AtRow w u m) :
    Calls Try.prog 34 #[v, u] w fun e w' => e = .returned (.bool (sameB l m)) ∧ ∃ k, w' = w.drewN k := by
  obtain ⟨a, cap, rfl, h1, h2, h3⟩ := hv
  obtain ⟨a', cap', rfl, h1', h2', h3'⟩ := hu
  have hn : l.length ≤ 9223372036854775807 := Nat.le_trans h1 h2
  have hn' : m.length ≤ 9223372036854775807 := Nat.le_trans h1' h2'
  have H3 := Lib.hid h3
  have H3' := Lib.hid h3'
  clear h3 h3'
  by_cases hlen : l.length = m.length
  · have Hlen := Lib.hid hlen
    have hle2 : ((l.length : Int) == (m.length : Int)) = true := by rw [hlen]; simp
    have hle3 : ((l.length : Int) != (m.length : Int)) = false := by rw [hlen]; simp
    clear hlen
    go_enter Try.func34, Try.ntmps34
    go_wp2_with fail
    go_loopw [5] (fun i wr => ∃ n k : Nat, i = .int .i64 (n : Int) ∧ n ≤ l.length ∧ (∀ j (h1 : j < l.length) (h2 : j < m.length), j < n → l[j] = m[j]) ∧ wr = w.drewN k) (fun i _ => l.length - (intOf i).toNat)
    case atStart => exact ⟨0, 0, rfl, by omega, fun j _ _ h => by omega, rfl⟩
    case round =>
      obtain ⟨n, k, rfl, hk, hall, rfl⟩ := hrel
      have Hall := Lib.hid hall
      clear hall
      by_cases hlt : n < l.length
      · have hlt2 : n < m.length := by have := Hlen.out; omega
        have hlt' : (n : Int) < (l.length : Int) := by omega
        have hlt2' : (n : Int) < (m.length : Int) := by omega
        obtain ⟨b, off, rfl, _, x1, z1⟩ := H3.out n hlt
        obtain ⟨b', off', rfl, _, x2, z2⟩ := H3'.out n hlt2
        by_cases hk1 : l[n].1 = m[n].1
        · by_cases hk2 : l[n].2 = m[n].2
          · have step : ∀ j (h1 : j < l.length) (h2 : j < m.length), j < n + 1 → l[j] = m[j] := fun j hj1 hj2 hjk => by
              by_cases e : j = n
              · subst e; exact Prod.ext hk1 hk2
              · exact Hall.out j hj1 hj2 (by omega)
            have Step := Lib.hid step
            have t1 : (l[n].1.toList == m[n].1.toList) = true := by rw [hk1]; simp
            have t2 : (l[n].2.toList == m[n].2.toList) = true := by rw [hk2]; simp
            clear step Hall hk1 hk2
            go_wp2_with fail
            go_quiet (fail)
            go_wp2_with fail
            go_roundw
            case rel => exact ⟨n + 1, _, by go_num, by omega, Step.out, rfl⟩
            case measure => simp [intOf]; omega
          · have hs := Lib.hid (sameB_at hlt hlt2 fun e => hk2 (congrArg Prod.snd e))
            have t1 : (l[n].1.toList == m[n].1.toList) = true := by rw [hk1]; simp
            have t2 : (l[n].2.toList == m[n].2.toList) = false := by rw [beq_eq_false_iff_ne]; exact fun e => hk2 (toList_ba e)
            clear Hall hk1 hk2
            go_wp2_with fail
            go_quiet (fail)
            go_wp2_with fail
            go_ret
            rw [hs.out]
            exact ⟨rfl, k + nq, by rw [World.drewN_drewN]⟩
        · have hs := Lib.hid (sameB_at hlt hlt2 fun e => hk1 (congrArg Prod.fst e))
          have t1 : (l[n].1.toList == m[n].1.toList) = false := by rw [beq_eq_false_iff_ne]; exact fun e => hk1 (toList_ba e)
          clear Hall hk1
          go_wp2_with fail
          go_quiet (fail)
          go_wp2_with fail
          go_ret
          rw [hs.out]
          exact ⟨rfl, k + nq, by rw [World.drewN_drewN]⟩
      · have hkn : n = l.length := by omega
        have hs := Lib.hid (sameB_all Hlen.out fun j h1 h2 => Hall.out j h1 h2 (by omega))
        subst hkn
        clear Hall
        go_wp2_with fail
        go_ret
        rw [hs.out]
        exact ⟨rfl, k, rfl⟩
  · have hs := Lib.hid (sameB_len hlen)
    have hle2 : ((l.length : Int) == (m.length : Int)) = false := by rw [beq_eq_false_iff_ne]; omega
    have hle3 : ((l.length : Int) != (m.length : Int)) = true := by rw [bne_iff_ne]; omega
    clear hlen
    go_enter Try.func34, Try.ntmps34
    go_wp2_with fail
    go_ret
    rw [hs.out]
    exact ⟨rfl, 0, rfl⟩

end Go.Proofs.Ythcpagpiphemgaa
