/- A part's bytes put behind a key: the program's putPart. -/
import Derived.Test.YtpinmkoaihjhfaaTl
namespace Go.Proofs.Ytpinmkoaihjhfaa
open Go.RowKit Su Tp
attribute [local go_sem] Oper.semAt_some

/-- What putPart leaves: whether there was room, and if so the part's bytes behind the key. -/
def PartOut (B kb : Nat) (w0 : World) (l : List UInt8) (p : Pt) (e : Ending) (w' : World) : Prop :=
  ∃ m, e = .returned (.bool (decide ((l ++ partK p).length ≤ 100))) ∧ KeySt B w0 kb m w' ∧ ((l ++ partK p).length ≤ 100 → m = l ++ partK p)
abbrev putV (kb : Nat) : Value := .func (.func 20) #[] #[.pointer (some ⟨kb, 0, none⟩)]
theorem KeySt.drew {B kb : Nat} {w0 W : World} {l : List UInt8} (h : KeySt B w0 kb l W) : KeySt B w0 kb l W.drew := h.step (Below.refl _ _).drew
theorem alloc_size (W : World) (o : Obj) : (W.alloc o).heap.size = W.heap.size + 1 := Array.size_push _
theorem one_row (W : World) (o : Obj) (x : UInt8) : BRow ((W.alloc o).alloc (.cells #[.int .u8 (x.toNat : Int)] 5)) (.slice (some ⟨W.heap.size + 1, 0, none⟩) 1 1) [x] := by
  have q := (own_one (W.alloc o) x _ rfl).row
  rw [alloc_size] at q
  exact q
theorem two_at (W : World) (o o2 : Obj) : ((W.alloc o).alloc o2).heap[W.heap.size]? = some o :=
  (((Below.refl (W.alloc o).heap.size (W.alloc o)).alloc (Nat.le_refl _) o2).block W.heap.size (by rw [alloc_size]; omega)).trans (heap_alloc_last W o)
set_option maxRecDepth 100000 in
set_option maxHeartbeats 8000000 in
theorem putInt_any (B kb : Nat) (w0 W : World) (l : List UInt8) (n : Int) (S : ByteArray) (h : KeySt B w0 kb l W) (hl : l.length ≤ 100) (hn : inI n) :
    Calls Try.prog 21 #[.agg #[.int .i64 1, .int .i64 n, .string S], putV kb] W fun e w' => ∃ m, e = .returned (.bool (decide (l.length + 9 ≤ 100))) ∧ KeySt B w0 kb m w' ∧ (l.length + 9 ≤ 100 → m = l ++ 1 :: be 8 (lift n)) := by
  have HN := Lib.hid hn
  clear hn
  obtain ⟨D, hD⟩ : ∃ D, D = decide (l.length + 9 ≤ 100) := ⟨_, rfl⟩
  rw [← hD]
  have HD := Lib.hid hD
  clear hD
  go_enter Try.func21, Try.ntmps21
  go_wp2_with fail
  have k1 := (h.alloc (.cells #[.int .i64 1, .int .i64 n, .string S] 25)).alloc (.cells #[.int .u8 1] 5)
  have p1 : ((W.alloc (.cells #[.int .i64 1, .int .i64 n, .string S] 25)).alloc (.cells #[.int .u8 1] 5)).heap[W.heap.size]? = some (.cells #[.int .i64 1, .int .i64 n, .string S] 25) := two_at _ _ _
  have HP1 := Lib.hid p1
  refine (put_any B kb w0 _ l [1] _ k1 (one_row W _ 1) (by omega) (by simp)).mono ?_
  rintro e w1 ⟨rfl, k2, kp⟩
  have HK2 := Lib.hid k2
  have p2 := kp _ _ _ HP1.out
  have c1 : w1.cell? ⟨W.heap.size, 1, none⟩ = some (.int .i64 n) := by rw [cell_of_row _ _ _ _ _ _ p2]; rfl
  clear k1 k2 kp p1 p2 h
  by_cases hf : l.length + 1 ≤ 100
  · have t1 : decide ((l ++ [1]).length ≤ 100) = true := decide_eq_true (by simp; omega)
    rw [t1]
    clear t1
    go_wp2_with fail
    refine (numberBytes_any n w1 HN.out).mono ?_
    rintro e w2 ⟨v, rfl, ho, hb⟩
    have hbl : (be 8 (lift n)).length = 8 := be_len _ _
    have HO := Lib.hid (put_any B kb w0 w2 (l ++ [1]) (be 8 (lift n)) v (HK2.out.step hb) ho.row (by simp; omega) (by omega))
    obtain ⟨va, vc, rfl⟩ := ho.shape
    rw [hbl] at HO ⊢
    have HL := Lib.hid (show ((l ++ [1]) ++ be 8 (lift n)).length = l.length + 9 by simp [be_len])
    have HA := Lib.hid (show (l ++ [1]) ++ be 8 (lift n) = l ++ 1 :: be 8 (lift n) by simp)
    clear ho hb hbl
    go_wp2_with fail
    refine HO.out.mono ?_
    rintro e w3 ⟨rfl, k3, _⟩
    rw [HL.out, ← HD.out]
    have HK3 := Lib.hid k3
    clear k3
    go_wp2_with fail
    go_ret
    exact ⟨_, rfl, HK3.out, fun _ => HA.out⟩
  · have t1 : decide ((l ++ [1]).length ≤ 100) = false := decide_eq_false (by simp; omega)
    obtain rfl : D = false := by rw [HD.out]; exact decide_eq_false (by omega)
    have HF := Lib.hid (show ¬ l.length + 9 ≤ 100 by omega)
    rw [t1]
    clear t1 hf
    go_wp2_with fail
    go_ret
    exact ⟨_, rfl, HK2.out, fun h => absurd h HF.out⟩
end Go.Proofs.Ytpinmkoaihjhfaa
