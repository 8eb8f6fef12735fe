/- Bytes of signs: the program's bytesOf; strings.IndexByte of the signs. -/
import Derived.Test.YtigdmgpejmfceaaYd
import Derived.Test.YtigdmgpejmfceaaYk
import Derived.Lib.Bytealg
namespace Go.Proofs.Ytigdmgpejmfceaa
open Go.RowKit Su Yg

set_option maxHeartbeats 1000000 in
set_option maxRecDepth 100000 in
theorem lite_any (s : ByteArray) (c : Int) (w : World) :
    Calls Try.prog 39 #[.string s, .int .u8 c] w fun e w' => e = .returned (.int .i64 (Lib.indexByte s.data.toList c.toNat.toUInt8)) ∧ w = w' := by
  go_enter Try.func39, Try.ntmps39
  go_wp2
  rw [run_callFunc_extern Try.func40 (by kernel_rfl) (by kernel_rfl) (by kernel_rfl) (e := Extern.BytealgIndexByte.indexByte) (by kernel_rfl), Lib.run_indexByteString]
  simp only [Result.andThen]
  rw [Oper.upon_value]
  go_wp2
  go_ret
  exact ⟨rfl, rfl⟩
def ix (c : UInt8) : Int := if idx c < 64 then (idx c : Int) else -1
theorem ix_eq (c : UInt8) : Lib.indexByte signsL c = ix c := by
  have H : ∀ i : Fin 256, Lib.indexByte signsL (UInt8.ofNat i.1) = ix (UInt8.ofNat i.1) := by decide +kernel
  have h := H ⟨c.toNat, c.toNat_lt⟩
  rwa [show UInt8.ofNat c.toNat = c from UInt8.ofNat_toNat] at h
theorem ix_max (c : UInt8) : (if ix c < 0 then (0 : Int) else ix c) = (mag c : Int) := by
  unfold ix mag
  split
  · rw [if_neg (by omega)]
  · rfl
theorem ix_in (c : UInt8) : -1 ≤ ix c ∧ ix c < 64 := by unfold ix; split <;> omega
set_option maxHeartbeats 1000000 in
theorem sig_any (c : UInt8) (w : World) :
    Calls Try.prog 34 #[.string signsT, .int .u8 (c.toNat : Int)] w fun e w' => e = .returned (.int .i64 (ix c)) ∧ w = w' := by
  have h := lite_any signsT (c.toNat : Int) w
  rw [show signsT.data.toList = signsL from rfl, show ((c.toNat : Int).toNat.toUInt8) = c by rw [Int.toNat_natCast]; exact UInt8.ofNat_toNat, ix_eq] at h
  have H := Lib.hid h
  clear h
  generalize ix c = i at *
  go_enter Try.func34, Try.ntmps34
  go_wp2_with fail
  refine H.out.mono ?_
  rintro e w' ⟨rfl, rfl⟩
  go_wp2_with fail
  go_ret
  exact ⟨rfl, by trivial⟩
/-- What stands between two rounds. -/
def xx (cs : List UInt8) (k : Nat) : Nat := (cs.take k).foldl (fun x c => x * 64 + mag c) 0
theorem xx_succ (cs : List UInt8) (k : Nat) (h : k < cs.length) : xx cs (k + 1) = xx cs k * 64 + mag cs[k] := by
  unfold xx
  rw [List.take_succ_eq_append_getElem h, List.foldl_append]
  rfl
theorem xx_lt (cs : List UInt8) (k : Nat) (h : k ≤ cs.length) : xx cs k < 64 ^ k := by
  induction k with
  | zero => simp [xx]
  | succ k ih =>
    rw [xx_succ cs k (by omega), Nat.pow_succ]
    have := ih (by omega)
    have := mag_lt (cs[k]'(by omega))
    omega
def nn (_a _b c d : UInt8) (k : Nat) : Nat := if k ≤ 2 then 3 else if k = 3 then (if c = 61 then 1 else 3) else many c d
theorem nn_succ (a b c d : UInt8) (k : Nat) (h : k < [a, b, c, d].length) : nn a b c d (k + 1) = if [a, b, c, d][k] = 61 ∧ 1 < k then min (nn a b c d k) (k - 1) else nn a b c d k := by
  match k, h with
  | 0, _ => simp [nn]
  | 1, _ => simp [nn]
  | 2, _ => simp [nn]
  | 3, _ => simp [nn, many]; split <;> split <;> rfl
theorem nn_in (a b c d : UInt8) (k : Nat) : 1 ≤ nn a b c d k ∧ nn a b c d k ≤ 3 := by
  unfold nn
  have := many_in c d
  split
  · omega
  · split
    · split <;> omega
    · exact this

set_option maxRecDepth 100000 in
set_option maxHeartbeats 4000000 in
theorem bytesOf_any (v : Value) (a b c d : UInt8) (w : World) (h : BRow w v [a, b, c, d]) :
    Calls Try.prog 28 #[v] w fun e w' => ∃ v', e = .returned v' ∧ BRow w' v' (bytesOf a b c d) ∧ Below w.heap.size w w' := by
  have HV := Lib.hid h
  obtain ⟨ad, cap, rfl, g2, g3, g4, g5⟩ := h
  have H5 := Lib.hid g5
  clear g4 g5
  rw [show [a, b, c, d].length = 4 from rfl] at g2 ⊢
  have HN := Lib.hid (nn_succ a b c d)
  have HNI := Lib.hid (nn_in a b c d)
  have HX := Lib.hid (xx_succ [a, b, c, d])
  have HXL := Lib.hid (xx_lt [a, b, c, d])
  have HB := Lib.hid (show bytesOf a b c d = (bytes3 (xx [a, b, c, d] 4)).take (nn a b c d 4) by
    unfold bytesOf
    rw [show xx [a, b, c, d] 4 = num4 a b c d by simp [xx, num4], show nn a b c d 4 = many c d by simp [nn]])
  unfold maxLen at g3
  generalize hcs : [a, b, c, d] = cs at *
  have HCL := Lib.hid (show cs.length = 4 by rw [← hcs]; rfl)
  obtain ⟨N, hN⟩ : ∃ N : Nat → Nat, N = nn a b c d := ⟨_, rfl⟩
  obtain ⟨X, hX⟩ : ∃ X : Nat → Nat, X = xx cs := ⟨_, rfl⟩
  rw [← hN] at HN HNI HB
  rw [← hX] at HX HXL HB
  have hN0 : N 0 = 3 := by rw [hN]; simp [nn]
  have hX0 : X 0 = 0 := by rw [hX]; simp [xx]
  have H0 := Lib.hid (And.intro hN0 hX0)
  clear hN hX hN0 hX0 hcs
  go_enter Try.func28, Try.ntmps28
  go_wp2_with fail
  go_loop [3, 4, 5, 6, 10] (fun n x _ _ i => ∃ k : Nat, i = .int .i64 (k : Int) ∧ k ≤ 4 ∧ n = .int .i64 (N k : Int) ∧ x = .int .i64 (X k : Int)) (fun _ _ _ _ i => 4 - (intOf i).toNat)
  case atStart => exact ⟨0, rfl, by omega, by rw [H0.out.1]; rfl, by rw [H0.out.2]; rfl⟩
  case round =>
    obtain ⟨k, rfl, hk, rfl, rfl⟩ := hrel
    obtain ⟨m1, m2⟩ := HNI.out k
    have x1 := HXL.out k (by rw [HCL.out]; exact hk)
    have x2 : X k < 16777216 + 1 := Nat.lt_of_lt_of_le x1 (Nat.le_trans (Nat.pow_le_pow_right (by decide) hk) (by decide))
    clear x1
    by_cases hlt : k < 4
    · have hlt' : (k : Int) < 4 := by omega
      obtain ⟨bb, off, rfl, hbl, hc⟩ := H5.out k (by rw [HCL.out]; exact hlt)
      have hlc : k < cs.length := by rw [HCL.out]; exact hlt
      have HNS := Lib.hid (HN.out k hlc)
      have HXS := Lib.hid (HX.out k hlc)
      have HS := Lib.hid (sig_any cs[k] w)
      have hmx := ix_max cs[k]
      have hmi := ix_in cs[k]
      have hml := mag_lt cs[k]
      have q1 := i64_join (a := X k * 64) (b := mag cs[k]) 6 (by omega) (by omega) (by omega) (by omega)
      rw [← HXS.out] at q1
      have q1 : bits .or .i64 ((X k : Int) * 64) (mag cs[k] : Int) = (X (k + 1) : Int) := q1
      have HIF := Lib.hid (fun (h : cs[k] = 61 ∧ 1 < k) => show N (k + 1) = min (N k) (k - 1) by rw [HNS.out, if_pos h])
      have HIE := Lib.hid (fun (h : ¬ (cs[k] = 61 ∧ 1 < k)) => show N (k + 1) = N k by rw [HNS.out, if_neg h])
      have HBE := Lib.hid (fun (z : UInt8) => show ((z.toNat : Int) == 61) = decide (z = 61) by
        by_cases hz : z = 61
        · subst hz; rfl
        · rw [decide_eq_false hz, beq_eq_false_iff_ne]
          intro e
          exact hz (UInt8.toNat_inj.1 (show z.toNat = (61 : UInt8).toNat by have : (61 : UInt8).toNat = 61 := rfl; omega)))
      have hbe := HBE.out cs[k]
      clear HNS HXS HBE
      generalize cs[k] = z at *
      generalize hxe : X (k + 1) = x' at *
      generalize hne : N (k + 1) = n' at *
      have HXE := Lib.hid hxe
      have HNE := Lib.hid hne
      clear hxe hne
      generalize X k = xk at *
      generalize N k = nk at *
      generalize ix z = iz at *
      generalize mag z = mz at *
      by_cases hz : z = 61
      · rw [decide_eq_true hz] at hbe
        by_cases hk2 : 1 < k
        · have e := HIF.out ⟨hz, hk2⟩
          clear HIF HIE hz
          have hk2' : (1 : Int) < (k : Int) := by omega
          by_cases hm : k - 1 < nk
          · have HE := Lib.hid (show n' = k - 1 by omega)
            have hm' : (k : Int) - 1 < (nk : Int) := by omega
            clear e
            go_wp2_with fail
            refine HS.out.mono ?_
            rintro e w1 ⟨rfl, rfl⟩
            go_wp2_with fail
            refine ⟨⟨k + 1, by rw [Int.natCast_add]; rfl, by omega, by rw [HNE.out, HE.out]; congr 1; omega, by rw [HXE.out]⟩, ?_⟩
            simp only [intOf]
            omega
          · have HE := Lib.hid (show n' = nk by omega)
            have hm' : ¬ (k : Int) - 1 < (nk : Int) := by omega
            clear e
            go_wp2_with fail
            refine HS.out.mono ?_
            rintro e w1 ⟨rfl, rfl⟩
            go_wp2_with fail
            refine ⟨⟨k + 1, by rw [Int.natCast_add]; rfl, by omega, by rw [HNE.out, HE.out], by rw [HXE.out]⟩, ?_⟩
            simp only [intOf]
            omega
        · have HE := Lib.hid (HIE.out (fun h => hk2 h.2))
          clear HIF HIE hz
          have hk2' : decide ((1 : Int) < (k : Int)) = false := decide_eq_false (by omega)
          go_wp2_with fail
          refine HS.out.mono ?_
          rintro e w1 ⟨rfl, rfl⟩
          go_wp2_with fail
          refine ⟨⟨k + 1, by rw [Int.natCast_add]; rfl, by omega, by rw [HNE.out, HE.out], by rw [HXE.out]⟩, ?_⟩
          simp only [intOf]
          omega
      · rw [decide_eq_false hz] at hbe
        have HE := Lib.hid (HIE.out (fun h => hz h.1))
        clear HIF HIE hz
        go_wp2_with fail
        refine HS.out.mono ?_
        rintro e w1 ⟨rfl, rfl⟩
        go_wp2_with fail
        refine ⟨⟨k + 1, by rw [Int.natCast_add]; rfl, by omega, by rw [HNE.out, HE.out], by rw [HXE.out]⟩, ?_⟩
        simp only [intOf]
        omega
    · have hk4 : k = 4 := by omega
      have HK := Lib.hid hk4
      have hge : ¬ (k : Int) < 4 := by omega
      rw [← HK.out] at HB
      have HXC := Lib.hid (show X k < 16777216 by have := HXL.out k (by rw [HCL.out]; exact hk); rw [hk4] at this ⊢; exact this)
      generalize X k = xk at *
      generalize N k = nk at *
      have hsl : ∀ (W : World) (b : Nat), (Instr.sliceAt 55 (.pointer (some ⟨b, 0, none⟩)) none (some (.int .i64 (nk : Int))) none).run Try.prog W = .ok (.slice (some ⟨b, 0, none⟩) nk 3) W := fun W b => by
        have hu : Try.prog.underlying 55 = some (.array (Try.prog.arrayLen 55) (Try.prog.elem 55)) := by kernel_rfl
        have hl : Try.prog.arrayLen 55 = 3 := by kernel_rfl
        have he : Try.prog.elem 55 = 5 := by kernel_rfl
        rw [run_sliceAt_array_h (w := W) (a := ⟨b, 0, none⟩) (t := 55) (ht := hu) (kh := .i64) (h := (nk : Int)) (by omega) (by rw [hl]; omega), hl, he, Try.sizeOf5]
        simp [slicedAt, Result.andThen, add_at]
      have HBY := Lib.hid (show Lib.byteCells (bytes3 xk) = [.int .u8 ((xk : Int) / 65536 % 256), .int .u8 ((xk : Int) / 256 % 256), .int .u8 ((xk : Int) % 256)] by
        simp only [Lib.byteCells, bytes3, List.map_cons, List.map_nil, UInt8.toNat_ofNat']
        rfl)
      clear hk4
      go_wp2_with fail
      go_ret
      refine ⟨_, rfl, ?_, (Below.refl _ _).alloc (Nat.le_refl _) _⟩
      rw [HB.out]
      have h3 : BRow (w.alloc (.cells #[.int .u8 ((xk : Int) / 65536 % 256), .int .u8 ((xk : Int) / 256 % 256), .int .u8 ((xk : Int) % 256)] 55)) (.slice (some ⟨w.heap.size, 0, none⟩) 3 3) (bytes3 xk) := brow_blk (heap_alloc_last w _) rfl (by simp [bytes3, maxLen]) HBY.out.symm
      obtain ⟨_, hb, _⟩ := row_part h3 0 nk (by omega) (by simp [bytes3]; omega)
      have e : sliced (some ⟨w.heap.size, 0, none⟩) 0 nk 3 1 = .slice (some ⟨w.heap.size, 0, none⟩) nk 3 := by simp [sliced, add_at]
      rw [e] at hb
      simp only [List.drop_zero, Nat.sub_zero] at hb
      rw [← HK.out]
      exact hb
end Go.Proofs.Ytigdmgpejmfceaa
