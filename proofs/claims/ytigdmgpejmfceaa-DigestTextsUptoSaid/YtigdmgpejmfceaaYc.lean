/- slices.Chunk of a row of bytes: the function that it answers, told round by round. -/
import Derived.Test.YtigdmgpejmfceaaBb
import Derived.Test.YtigdmgpejmfceaaItLaw
import Derived.Shelf.Abstract
import Derived.OwnWalkIn
import Derived.TacticsInMore
import Derived.LoopNIn
import Derived.LoopIn
import Derived.Shelf.RegionOpen
namespace Go.Proofs.Ytigdmgpejmfceaa
open Go.RowKit Go.Shelf Su
attribute [local go_sem] Oper.semAt_some

theorem row_head {w : World} {a : Option Addr} {n cap : Nat} {l : List UInt8} (h : BRow w (.slice a n cap) l) (H : Nat) (hH : H ≤ l.length) : BRow w (.slice a H H) (l.take H) := by
  obtain ⟨a0, cap0, he, h1, h2, h3, h4⟩ := h
  simp only [Value.slice.injEq] at he
  obtain ⟨rfl, rfl, rfl⟩ := he
  have hl : (l.take H).length = H := by rw [List.length_take]; omega
  refine ⟨a, H, by rw [hl], by omega, by omega, fun e => by have := h3 e; omega, fun i hi => ?_⟩
  obtain ⟨b, off, e, hlt, h5⟩ := h4 i (by omega)
  exact ⟨b, off, e, hlt, by rw [List.getElem_take]; exact h5⟩
/-- How many rounds there are; how long a round's bytes are; which they are; what stands for them. -/
def cnt (L n : Nat) : Nat := (L + n - 1) / n
def chL (L n k : Nat) : Nat := min n (L - k * n)
def chB (l : List UInt8) (n k : Nat) : List UInt8 := (l.drop (k * n)).take n
def chV (a : Option Addr) (L n k : Nat) : Value := sliced a (k * n) (k * n + chL L n k) (k * n + chL L n k) 1
theorem chL_of {L n k : Nat} (h : k * n < L) (hn : 1 ≤ n) : 1 ≤ chL L n k ∧ chL L n k ≤ n ∧ k * n + chL L n k ≤ L := by unfold chL; omega
theorem cnt_lt {L n k : Nat} (hn : 1 ≤ n) : k < cnt L n ↔ k * n < L := by
  unfold cnt
  rw [Nat.lt_div_iff_mul_lt (by omega)]
  omega
theorem chV_row {w : World} {a : Option Addr} {m cap : Nat} {l : List UInt8} (h : BRow w (.slice a m cap) l) (n k : Nat) (hn : 1 ≤ n) (hk : k * n < l.length) : BRow w (chV a l.length n k) (chB l n k) := by
  obtain ⟨c1, c2, c3⟩ := chL_of hk hn
  have h1 := row_head h (k * n + chL l.length n k) c3
  have hl : (l.take (k * n + chL l.length n k)).length = k * n + chL l.length n k := by rw [List.length_take]; omega
  obtain ⟨_, h2, _⟩ := row_part h1 (k * n) (k * n + chL l.length n k) (by omega) (by omega)
  have e : ((l.take (k * n + chL l.length n k)).drop (k * n)).take (k * n + chL l.length n k - k * n) = chB l n k := by
    unfold chB
    rw [List.drop_take, List.take_take, Nat.min_self, Nat.add_sub_cancel_left]
    unfold chL
    rcases Nat.le_total n (l.length - k * n) with h | h
    · rw [Nat.min_eq_left h]
    · rw [Nat.min_eq_right h, List.take_of_length_le (by rw [List.length_drop]; omega), List.take_of_length_le (by rw [List.length_drop]; omega)]
  rw [e] at h2
  exact h2
theorem chB_len (l : List UInt8) (n k : Nat) : (chB l n k).length = chL l.length n k := by
  unfold chB chL
  rw [List.length_take, List.length_drop]
theorem chV_shape (a : Option Addr) (L n k : Nat) : ∃ a', chV a L n k = .slice a' (chL L n k) (chL L n k) := by
  unfold chV sliced
  rw [Nat.add_sub_cancel_left]
  exact ⟨_, rfl⟩

set_option maxHeartbeats 2000000 in
theorem chunk_any (a : Option Addr) (m cap : Nat) (n : Nat) (w : World) (h1 : 1 ≤ n) (h2 : n ≤ 1000) :
    Calls Try.prog 26 #[.slice a m cap, .int .i64 (n : Int)] w fun e w' => e = .returned (.func (.func 33) #[] #[.pointer (some ⟨w.heap.size, 0, none⟩), .pointer (some ⟨w.heap.size + 1, 0, none⟩)]) ∧ w' = (w.alloc (.cells #[.slice a m cap] 22)).alloc (.cells #[.int .i64 (n : Int)] 3) := by
  have d : decide ((n : Int) < 1) = false := decide_eq_false (by omega)
  go_enter Try.func26, Try.ntmps26
  go_wp2_with fail
  go_ret
  simp

set_option maxRecDepth 100000 in
set_option maxHeartbeats 4000000 in
theorem chunk_iter (B bs bn : Nat) (a : Option Addr) (L cap n : Nat) (tB : List TypeId) (Kp : World → World → Prop) (Fr : World → Nat → Prop) (h1 : 1 ≤ n) (h2 : n ≤ 1000) (hL : L ≤ 140737488355328) (hcap : L ≤ cap)
    (hKp : ∀ {A A' : World}, Kp A A' → ∀ {t : TypeId} {v : Value}, (Boxed A bs t v → Boxed A' bs t v) ∧ (Boxed A bn t v → Boxed A' bn t v)) :
    Iter Try.prog 33 #[.pointer (some ⟨bs, 0, none⟩), .pointer (some ⟨bn, 0, none⟩)] (fun x : Value => #[x]) ((List.range (cnt L n)).map (chV a L n)) B [] [] tB Kp Fr
      (fun W => Boxed W bs 22 (.slice a L cap) ∧ Boxed W bn 3 (.int .i64 (n : Int))) (fun _ => True) := by
  intro l J Jx W hBW ⟨hs, hn⟩ hJ hJx _ hY h0
  have hxl : ((List.range (cnt L n)).map (chV a L n)).length = cnt L n := by simp
  have HXL := Lib.hid hxl
  have HC := Lib.hid (fun k => cnt_lt (L := L) (n := n) (k := k) h1)
  clear hxl
  refine callsIn_of_wp Try.func33 rfl trivial ?_ rfl
  simp only [Try.ntmps33, List.size_toArray, List.length_cons, List.length_nil, Nat.reduceAdd, Nat.reduceSub, Array.replicate_succ, Array.replicate_zero, List.push_toArray, List.append_toArray, List.nil_append, List.cons_append]
  gi_wp2
  gi_loopw [4] (fun p wr => ∃ k : Nat, p = .int .i64 ((k * n : Nat) : Int) ∧ k ≤ cnt L n ∧ k * n ≤ L + n ∧ J k wr ∧ Boxed wr bs 22 (.slice a L cap) ∧ Boxed wr bn 3 (.int .i64 (n : Int)) ∧ B ≤ wr.heap.size) (fun p _ => L + n - (intOf p).toNat)
  case atStart => exact ⟨0, by simp, Nat.zero_le _, by omega, h0, hs, hn, hBW⟩
  case round =>
    obtain ⟨k, rfl, hk, hkn, hJk, hsk, hnk, hBk⟩ := hrel
    clear hs hn h0
    have c1 := hsk.cell
    have c2 := hnk.cell
    obtain ⟨p, hp⟩ : ∃ p, p = k * n := ⟨_, rfl⟩
    rw [← hp] at hkn ⊢
    by_cases hlt : p < L
    · have hkl : k < cnt L n := (HC.out k).2 (by omega)
      obtain ⟨e1, e2, e3⟩ := chL_of (L := L) (n := n) (k := k) (by omega) h1
      have HY := Lib.hid (hY k (by rw [HXL.out]; exact hkl))
      have hx : ((List.range (cnt L n)).map (chV a L n))[k]'(by rw [HXL.out]; exact hkl) = chV a L n k := by simp
      rw [hx] at HY
      have HK := Lib.hid hsk
      have HN := Lib.hid hnk
      have HJ := Lib.hid (hJ k wr wr.drew hJk (step_below [] ((Below.refl _ _).drew) hBk))
      have HP := Lib.hid hp
      have HKL := Lib.hid hkl
      have HM := Lib.hid (show chL L n k = if L - p < n then L - p else n by unfold chL; rw [← hp]; split <;> omega)
      have hsl : (Instr.sliceAt 22 (.slice a L cap) (some (.int .i64 (p : Int))) none none).run Try.prog wr.drew = .ok (sliced a p L cap 1) wr.drew := run_tail a L cap p (by omega) _
      have hsl2 : ∀ W', (Instr.sliceAt 22 (.slice a L cap) (some (.int .i64 (p : Int))) (some (.int .i64 ((p : Int) + (chL L n k : Nat)))) (some (.int .i64 ((p : Int) + (chL L n k : Nat))))).run Try.prog W' = .ok (chV a L n k) W' := fun W' => by
        rw [show (p : Int) + ((chL L n k : Nat) : Int) = ((p + chL L n k : Nat) : Int) by omega, run_sliceAt_slice W' _ _ _ _ _ underB, run_slice_lhm W' _ _ _ _ underB .i64 .i64 .i64 _ _ _ (by omega) (by omega) (by omega) (by omega), elemB, Try.sizeOf5]
        unfold chV
        rw [HP.out]
        rfl
      obtain ⟨a', hv⟩ := chV_shape a L n k
      generalize chV a L n k = cv at HY hsl2 hv
      generalize chL L n k = c at *
      subst hv
      clear hJk hsk hnk hp hkl hY hJ hJx hx hsl
      have key : ∀ K : Prop, (((L - p : Nat) : Int) < (n : Int) → c = L - p → K) → (¬ ((L - p : Nat) : Int) < (n : Int) → n = c → K) → K := fun K k1 k2 => by
        have := HM.out
        by_cases h : L - p < n
        · rw [if_pos h] at this; exact k1 (by omega) this
        · rw [if_neg h] at this; exact k2 (by omega) this.symm
      clear HM
      gi_wp2
      refine key _ (fun hm hc => ?_) (fun hm hc => ?_)
      all_goals
        subst hc
        clear key
        gi_region
        obtain ⟨fn, tmps, assign, body, hy, hR⟩ := HY.out _ HJ.out
        have HR := Lib.hid hR
        clear hR
        have d1 : wr.drew.cell? ⟨bs, 0, none⟩ = some (.slice a L cap) := c1
        gi_wp2
        refine ⟨rfl, HR.out.mono ?_⟩
        rintro e W3 (⟨rfl, hJ3, hr3, hk3⟩ | ⟨rfl, hJx3, _⟩)
        · have HJ3 := Lib.hid hJ3
          have HS3 := Lib.hid ((hKp hk3).1 (show Boxed wr.drew bs 22 (.slice a L cap) from HK.out))
          have HN3 := Lib.hid ((hKp hk3).2 (show Boxed wr.drew bn 3 (.int .i64 (n : Int)) from HN.out))
          have hb3 : B ≤ W3.heap.size := Nat.le_trans hBk hr3.below.size
          have d2 := HN3.out.cell
          clear hJ3 hr3 hk3
          gi_wp2
          go_roundw
          case rel => exact ⟨k + 1, by rw [Nat.add_mul, ← HP.out, Nat.one_mul, Int.natCast_add], HKL.out, by rw [Nat.add_mul, ← HP.out]; omega, HJ3.out, HS3.out, HN3.out, hb3⟩
          case measure => simp only [intOf]; omega
        · have HX3 := Lib.hid hJx3
          clear hJx3
          gi_wp2
          refine bodyPost_ret (results_none rfl _ _ _) rfl ?_
          exact ⟨⟨_, rfl⟩, .inr ⟨k, by rw [HXL.out]; exact HKL.out, HX3.out⟩⟩
    · have hke : k = cnt L n := by
        have := (HC.out k).2
        by_cases h : k < cnt L n
        · have := (HC.out k).1 h; omega
        · omega
      have HJ := Lib.hid (show J ((List.range (cnt L n)).map (chV a L n)).length wr by rw [HXL.out, ← hke]; exact hJk)
      clear hke hJk hsk hnk hY hJ hJx
      gi_wp2
      go_end0
      exact ⟨⟨_, rfl⟩, .inl ⟨HJ.out, trivial⟩⟩
end Go.Proofs.Ytigdmgpejmfceaa
