/- Parts of rows of bytes; numbers read. -/
import Derived.Test.YtbnkpbphahjomaaDoorSm
namespace Go.Proofs.YtbnkpbphahjomaaDoor
open Go.RowKit Su

theorem elemB : Tryd.prog.elem 22 = 5 := by kernel_rfl
theorem underB : Tryd.prog.underlying 22 = some (.slice (Tryd.prog.elem 22)) := by kernel_rfl
theorem row_part {w : World} {a : Option Addr} {n cap : Nat} {l : List UInt8} (h : BRow w (.slice a n cap) l) (A H : Nat) (hAH : A ≤ H) (hH : H ≤ l.length) :
    n = l.length ∧ BRow w (sliced a A H cap 1) ((l.drop A).take (H - A)) ∧ ∃ a' c', sliced a A H cap 1 = .slice a' (H - A) c' := by
  obtain ⟨a0, cap0, he0, h1, h2, h3, h4⟩ := h
  simp only [Value.slice.injEq] at he0
  obtain ⟨rfl, rfl, rfl⟩ := he0
  have hl : ((l.drop A).take (H - A)).length = H - A := by rw [List.length_take, List.length_drop]; omega
  have hs : sliced a A H cap 1 = .slice (if cap = A then a else a.map (·.add (A * 1))) (H - A) (cap - A) := rfl
  refine ⟨rfl, ?_, _, _, hs⟩
  refine ⟨if cap = A then a else a.map (·.add (A * 1)), cap - A, by rw [hl]; exact hs, by rw [hl]; omega, by omega, fun e => ?_, fun i hi => ?_⟩
  · split at e
    · have := h3 e; omega
    · cases a with
      | none => have := h3 rfl; omega
      | some _ => cases e
  · rw [hl] at hi
    obtain ⟨b, off, rfl, hlt, h5⟩ := h4 (A + i) (by omega)
    refine ⟨b, off + A, ?_, hlt, ?_⟩
    · rw [if_neg (by omega)]
      show some ((⟨b, off, none⟩ : Addr).add (A * 1)) = _
      rw [add_at, Nat.mul_one]
    · rw [List.getElem_take, List.getElem_drop, ← h5, Nat.add_assoc]
theorem run_mid (a : Option Addr) (n cap A H : Nat) (h1 : A ≤ H) (h2 : H ≤ cap) (W : World) :
    (Instr.sliceAt 22 (.slice a n cap) (some (.int .i64 (A : Int))) (some (.int .i64 (H : Int))) none).run Tryd.prog W = .ok (sliced a A H cap 1) W := by
  rw [run_sliceAt_slice W _ _ _ _ _ underB, run_slice_lh W _ _ _ _ underB .i64 .i64 _ _ (by omega) (by omega) (by omega), elemB, Tryd.sizeOf5]
  rfl
theorem run_head (a : Option Addr) (n cap H : Nat) (h2 : H ≤ cap) (W : World) :
    (Instr.sliceAt 22 (.slice a n cap) none (some (.int .i64 (H : Int))) none).run Tryd.prog W = .ok (sliced a 0 H cap 1) W := by
  rw [run_sliceAt_slice W _ _ _ _ _ underB, run_slice_h W _ _ _ _ underB .i64 _ (by omega) (by omega), elemB, Tryd.sizeOf5]
  rfl
theorem run_tail (a : Option Addr) (n cap A : Nat) (h2 : A ≤ n) (W : World) :
    (Instr.sliceAt 22 (.slice a n cap) (some (.int .i64 (A : Int))) none none).run Tryd.prog W = .ok (sliced a A n cap 1) W := by
  rw [run_sliceAt_slice W _ _ _ _ _ underB, run_slice_l W _ _ _ _ underB .i64 _ (by omega) (by omega), elemB, Tryd.sizeOf5]
  rfl

/-- The bytes of a part. -/
def part (l : List UInt8) (a s : Nat) : List UInt8 := (l.drop a).take s
/-- May a number be read there? -/
def readOk (l : List UInt8) (a s : Int) : Prop := 1 ≤ s ∧ s ≤ 8 ∧ 0 ≤ a ∧ a + s ≤ l.length ∧ val (part l a.toNat s.toNat) ≤ 9223372036854775807
instance (l : List UInt8) (a s : Int) : Decidable (readOk l a s) := by unfold readOk; infer_instance
def readV (l : List UInt8) (a s : Int) : Int := if readOk l a s then (val (part l a.toNat s.toNat) : Int) else 0
def readE (l : List UInt8) (a s : Int) : Int := if readOk l a s then 0 else 1
theorem or_low (n x : Nat) (h : x < 256) : n * 256 ||| x = n * 256 + x := by
  have h1 := Nat.two_pow_add_eq_or_of_lt (i := 8) (b := x) (by omega) n
  rw [show n * 256 = 2 ^ 8 * n by omega]
  exact h1.symm
theorem pow_le8 {k s : Nat} (hk : k ≤ s) (h8 : s ≤ 8) : 256 ^ k ≤ 18446744073709551616 :=
  Nat.le_trans (Nat.pow_le_pow_right (by decide) (Nat.le_trans hk h8)) (by decide)
theorem val_take (l : List UInt8) (k : Nat) (h : k < l.length) : val (l.take (k + 1)) = val (l.take k) * 256 + l[k].toNat := by
  rw [List.take_succ_eq_append_getElem h, val_snoc]

set_option maxRecDepth 100000 in
set_option maxHeartbeats 2000000 in
theorem read_in (v : Value) (l : List UInt8) (a s : Nat) (w : World) (h : BRow w v l) (h1 : 1 ≤ s) (h8 : s ≤ 8) (hl : a + s ≤ l.length) :
    Calls Tryd.prog 10 #[v, .int .i64 (a : Int), .int .i64 (s : Int)] w fun e w' => (val (part l a s) ≤ 9223372036854775807 → e = .returned (.tuple #[.int .i64 (val (part l a s) : Int), .int .i64 0])) ∧ (¬ val (part l a s) ≤ 9223372036854775807 → e = .returned (.tuple #[.int .i64 0, .int .i64 1])) ∧ w = w' := by
  have hlen := h.len
  obtain ⟨ad, cap, rfl, h2, h3, _⟩ := id h
  unfold maxLen at hlen h3
  obtain ⟨_, hp, a', c', hsl⟩ := row_part h a (a + s) (by omega) hl
  have hrun := run_mid ad l.length cap a (a + s) (by omega) (by omega) w
  rw [hsl] at hp hrun
  rw [show a + s - a = s by omega] at hp hrun
  have HP := Lib.hid (show BRow w (.slice a' s c') (part l a s) from hp)
  have hpl : (part l a s).length = s := by simp [part]; omega
  have HPL := Lib.hid hpl
  have HLT := Lib.hid (val_lt (part l a s))
  have d1 : decide ((s : Int) < 1) = false := decide_eq_false (by omega)
  have d2 : decide (8 < (s : Int)) = false := decide_eq_false (by omega)
  have d3 : decide ((a : Int) < 0) = false := decide_eq_false (by omega)
  have d4 : decide ((l.length : Int) - (s : Int) < (a : Int)) = false := decide_eq_false (by omega)
  have e1 : (a : Int) + (s : Int) = ((a + s : Nat) : Int) := by omega
  have hrun' : (Instr.sliceAt 22 (.slice ad l.length cap) (some (.int .i64 (a : Int))) (some (.int .i64 ((a : Int) + (s : Int)))) none).run Tryd.prog w = .ok (.slice a' s c') w := by rw [e1]; exact hrun
  obtain ⟨p, hpp⟩ : ∃ p, p = part l a s := ⟨_, rfl⟩
  rw [← hpp] at HP HPL HLT ⊢
  clear h hp hsl hrun hpl hpp e1
  go_enter Tryd.func10, Tryd.ntmps10
  go_wp2_with fail
  go_loop [8, 10, 36] (fun n _ i => ∃ k : Nat, n = .int .u64 ((val (p.take k) : Nat) : Int) ∧ i = .int .i64 (k : Int) ∧ k ≤ s) (fun _ _ i => s - (intOf i).toNat)
  case atStart => exact ⟨0, rfl, rfl, by omega⟩
  case round =>
    obtain ⟨k, rfl, rfl, hk⟩ := hrel
    have hv := val_lt (p.take k)
    by_cases hlt : k < s
    · have hlt' : (k : Int) < (s : Int) := by omega
      have HH := HP.out
      obtain ⟨_, _, he, _, _, _, h5⟩ := HH
      obtain ⟨b, off, e, hbl, hc⟩ := h5 k (by rw [HPL.out]; exact hlt)
      simp only [Value.slice.injEq] at he
      obtain ⟨rfl, _, rfl⟩ := he
      subst e
      have HT := Lib.hid (val_take p k (by rw [HPL.out]; exact hlt))
      obtain ⟨x, hx⟩ : ∃ x, x = (p[k]'(by rw [HPL.out]; exact hlt)).toNat := ⟨_, rfl⟩
      have hx2 : x < 256 := by rw [hx]; exact u8_lt _
      rw [← hx] at HT hc
      have hp7 : val (p.take k) < 72057594037927936 := Nat.lt_of_lt_of_le hv (Nat.le_trans (Nat.pow_le_pow_right (by decide) (show (p.take k).length ≤ 7 by rw [List.length_take]; omega)) (by decide))
      obtain ⟨n, hn⟩ : ∃ n, n = val (p.take k) := ⟨_, rfl⟩
      rw [← hn] at HT hp7 ⊢
      have q1 : bits .or .u64 ((n : Int) * 256) (x : Int) = ((n * 256 + x : Nat) : Int) := by
        rw [← or_low n x hx2]
        exact u64_or_nat (n * 256) x (by omega) (by omega)
      obtain ⟨m, hm⟩ : ∃ m, m = n * 256 + x := ⟨_, rfl⟩
      rw [← hm] at q1 HT
      clear hn hx hm hv h5
      go_wp2_with fail
      refine ⟨⟨k + 1, by rw [HT.out], by rw [Int.natCast_add]; rfl, by omega⟩, ?_⟩
      simp only [intOf]
      omega
    · have HK := Lib.hid (show k = s by omega)
      have hge : ¬ (k : Int) < (s : Int) := by omega
      have HE := Lib.hid (show val p = val (p.take k) by rw [HK.out, ← HPL.out, List.take_length])
      have hv2 : val (p.take k) < 18446744073709551616 := Nat.lt_of_lt_of_le hv (pow_le8 (show (p.take k).length ≤ s by rw [List.length_take]; omega) h8)
      obtain ⟨n, hn⟩ : ∃ n, n = val (p.take k) := ⟨_, rfl⟩
      rw [← hn] at HE hv2 ⊢
      clear hn hv
      by_cases hb : n ≤ 9223372036854775807
      · have hd : decide ((9223372036854775807 : Int) < (n : Int)) = false := decide_eq_false (by omega)
        go_wp2_with fail
        go_ret2
        rw [HE.out]
        exact ⟨fun _ => rfl, fun h => absurd hb (by omega), by trivial⟩
      · have hd : decide ((9223372036854775807 : Int) < (n : Int)) = true := decide_eq_true (by omega)
        go_wp2_with fail
        go_ret2
        rw [HE.out]
        exact ⟨fun h => absurd h (by omega), fun _ => rfl, by trivial⟩
end Go.Proofs.YtbnkpbphahjomaaDoor
