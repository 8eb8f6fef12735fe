/- A number's bytes: the program's numberBytes. -/
import Derived.Test.YtpinmkoaihjhfaaTc
namespace Go.Proofs.Ytpinmkoaihjhfaa
open Go.RowKit Su Tp

def zero8 : Array Value := #[.int .u8 0, .int .u8 0, .int .u8 0, .int .u8 0, .int .u8 0, .int .u8 0, .int .u8 0, .int .u8 0]
theorem make8 (W : World) : (Instr.makeSlice 39 (.int .i64 8) (.int .i64 8)).run Try.prog W = .ok (.slice (some ⟨W.heap.size, 0, none⟩) 8 8) (W.alloc (.cells zero8 5)) := by
  obtain ⟨i0, hi, hz0, hz1, hz2⟩ := info_parts infoByte
  have h := run_make_row (P := Try.prog) 39 5 i0 (.int .u8 0) Try.underlying39 hi hz0 hz1 rfl .i64 .i64 8 (by rw [hz2]; omega) (by omega) W
  rw [made_eq] at h
  exact h
theorem own_made8 (w : World) : OwnU (w.alloc (.cells zero8 5)) w.heap.size (.slice (some ⟨w.heap.size, 0, none⟩) 8 8) (List.replicate 8 0) :=
  World.ownsRow_lit w zero8 8 (Nat.le_refl _) (by unfold maxLen; omega) rfl
/-- A row when so many bytes are in. -/
def mix8 (T : List UInt8) (k : Nat) : List UInt8 := T.take k ++ List.replicate (8 - k) 0
theorem mix8_len (T : List UInt8) (hT : T.length = 8) (k : Nat) (hk : k ≤ 8) : (mix8 T k).length = 8 := by
  unfold mix8
  rw [List.length_append, List.length_take, List.length_replicate]
  omega
theorem mix8_set (T : List UInt8) (hT : T.length = 8) (k : Nat) (hk : k < 8) : (mix8 T k).set k (T[k]) = mix8 T (k + 1) := by
  match T, hT, k, hk with
  | [a, b, c, d, e, f, g, h], _, 0, _ => rfl
  | [a, b, c, d, e, f, g, h], _, 1, _ => rfl
  | [a, b, c, d, e, f, g, h], _, 2, _ => rfl
  | [a, b, c, d, e, f, g, h], _, 3, _ => rfl
  | [a, b, c, d, e, f, g, h], _, 4, _ => rfl
  | [a, b, c, d, e, f, g, h], _, 5, _ => rfl
  | [a, b, c, d, e, f, g, h], _, 6, _ => rfl
  | [a, b, c, d, e, f, g, h], _, 7, _ => rfl
theorem be8_at (m k : Nat) (h : k < 8) (hk : k < (be 8 m).length) : (be 8 m)[k]'hk = UInt8.ofNat (m / 256 ^ (7 - k)) := by
  match k, h with
  | 0, _ => simp [be_cons]
  | 1, _ => simp [be_cons]
  | 2, _ => simp [be_cons]
  | 3, _ => simp [be_cons]
  | 4, _ => simp [be_cons]
  | 5, _ => simp [be_cons]
  | 6, _ => simp [be_cons]
  | 7, _ => simp [be_cons]
theorem byteCells_set (l : List UInt8) (k : Nat) (x : UInt8) : (Lib.byteCells l).set k (.int .u8 (x.toNat : Int)) = Lib.byteCells (l.set k x) := by
  unfold Lib.byteCells
  rw [List.map_set]
theorem OwnU.stored {w : World} {B g n cap : Nat} {l : List UInt8} (h : OwnU w B (.slice (some ⟨g, 0, none⟩) n cap) l) (hn : n = l.length) (k : Nat) (x : UInt8) : OwnU (w.setCell ⟨g, k, none⟩ (.int .u8 (x.toNat : Int))) B (.slice (some ⟨g, 0, none⟩) n cap) (l.set k x) := by
  subst hn
  have := World.ownsRow.stored h k (.int .u8 (x.toNat : Int))
  unfold OwnU
  rw [← byteCells_set, List.length_set]
  exact this.1
theorem xor_top (a : Nat) (h : a < 18446744073709551616) : a ^^^ 9223372036854775808 = (a + 9223372036854775808) % 18446744073709551616 := by
  by_cases h1 : a < 9223372036854775808
  · have e := Su.xor_low 63 1 a (by omega)
    rw [Nat.xor_comm, show (9223372036854775808 : Nat) = 2 ^ 63 * 1 from rfl, e]
    omega
  · obtain ⟨r, rfl⟩ : ∃ r, a = 2 ^ 63 * 1 + r := ⟨a - 9223372036854775808, by omega⟩
    have hr : r < 2 ^ 63 := by omega
    rw [← Su.xor_low 63 1 r hr, show (9223372036854775808 : Nat) = 2 ^ 63 * 1 from rfl, Nat.xor_comm (2 ^ 63 * 1) r, Nat.xor_assoc, Nat.xor_self, Nat.xor_zero, Nat.xor_comm r, Su.xor_low 63 1 r hr]
    omega
theorem lift_xor {n : Int} (h : inI n) : bits .xor .u64 (IntKind.u64.wrap n) 9223372036854775808 = (lift n : Int) := by
  have hw : IntKind.u64.wrap n = ((n % 18446744073709551616).toNat : Int) := by
    have : IntKind.u64.wrap n = n % 18446744073709551616 := by simp [IntKind.wrap, IntKind.signed, IntKind.bits]
    rw [this]
    omega
  rw [hw]
  have := u64_xor_nat (n % 18446744073709551616).toNat 9223372036854775808 (by omega) (by omega)
  rw [show ((9223372036854775808 : Nat) : Int) = 9223372036854775808 from rfl] at this
  rw [this, xor_top _ (by omega)]
  unfold lift inI at *
  omega
theorem byte8 (m k : Nat) (h : k < 8) : (m : Int) / 2 ^ (8 * (7 - k)) % 256 = ((UInt8.ofNat (m / 256 ^ (7 - k))).toNat : Int) := by
  rw [UInt8.toNat_ofNat']
  match k, h with
  | 0, _ => simp
  | 1, _ => simp
  | 2, _ => simp
  | 3, _ => simp
  | 4, _ => simp
  | 5, _ => simp
  | 6, _ => simp
  | 7, _ => simp
set_option maxRecDepth 100000 in
set_option maxHeartbeats 8000000 in
theorem numberBytes_any (n : Int) (w : World) (hn : inI n) :
    Calls Try.prog 32 #[.int .i64 n] w fun e w' => ∃ v, e = .returned v ∧ OwnU w' w.heap.size v (be 8 (lift n)) ∧ Below w.heap.size w w' := by
  have hT := be_len 8 (lift n)
  have HA := Lib.hid (be8_at (lift n))
  have HO := Lib.hid (own_made8 w)
  have hmk := make8 w
  generalize be 8 (lift n) = T at *
  have HS := Lib.hid (mix8_set T hT)
  have HL := Lib.hid (mix8_len T hT)
  go_enter Try.func32, Try.ntmps32
  go_wp2_with fail
  go_loopw [8] (fun i wr => ∃ k : Nat, i = .int .i64 (k : Int) ∧ k ≤ 8 ∧ OwnU wr w.heap.size (.slice (some ⟨w.heap.size, 0, none⟩) 8 8) (mix8 T k) ∧ Below w.heap.size w wr) (fun i _ => 8 - (intOf i).toNat)
  case atStart => exact ⟨0, rfl, by omega, HO.out, (Below.refl _ _).alloc (Nat.le_refl _) _⟩
  case round =>
    obtain ⟨k, rfl, hk, ho, hb⟩ := hrel
    by_cases hlt : k < 8
    · have hc := World.ownsRow.cellAt (show wr.ownsRow w.heap.size 5 1 (.slice (some ⟨w.heap.size, 0, none⟩) 8 8) 8 (Lib.byteCells (mix8 T k)) by have := ho; unfold OwnU at this; rwa [HL.out k hk] at this) k (by omega)
      have hf := World.ownsRow.frozenAt (show wr.ownsRow w.heap.size 5 1 (.slice (some ⟨w.heap.size, 0, none⟩) 8 8) 8 (Lib.byteCells (mix8 T k)) by have := ho; unfold OwnU at this; rwa [HL.out k hk] at this) k
      rw [byteCells_at _ k (by rw [HL.out k hk]; omega)] at hc
      generalize (mix8 T k)[k]'_ = y at hc
      have HW := Lib.hid ho
      have HB := Lib.hid hb
      have HX := Lib.hid (lift_xor hn)
      clear ho hb
      go_wp2_with fail
      have e1 := byte8 (lift n) k hlt
      have e2 := HA.out k hlt (by rw [hT]; exact hlt)
      refine ⟨⟨k + 1, rfl, by omega, ?_, HB.out.setCell (p := ⟨w.heap.size, k, none⟩) (Nat.le_refl _) _⟩, ?_⟩
      · rw [HX.out, e1, ← e2, ← HS.out k hlt]
        exact HW.out.stored (HL.out k hk).symm k _
      · simp only [intOf]; omega
    · have hk8 : k = 8 := by omega
      subst hk8
      have HB := Lib.hid hb
      have HW := Lib.hid (show OwnU wr w.heap.size (.slice (some ⟨w.heap.size, 0, none⟩) 8 8) T by
        have := ho
        unfold mix8 at this
        rwa [List.take_of_length_le (by omega), List.replicate_zero, List.append_nil] at this)
      clear ho hb hlt
      go_wp2_with fail
      go_ret
      exact ⟨_, rfl, HW.out, HB.out⟩
end Go.Proofs.Ytpinmkoaihjhfaa
