/- Four neighbouring bytes turned are told: the law's walk. -/
import Derived.Test.YtbnkpbphahjomaaDoorSa
namespace Go.Proofs.YtbnkpbphahjomaaDoor
open Go.RowKit Su

/-- Bytes turned by others. -/
def turnB (d y : UInt8) : UInt8 := UInt8.ofNat (d.toNat ^^^ y.toNat)
theorem turn_nat (d y : UInt8) : (turnB d y).toNat = d.toNat ^^^ y.toNat := by
  unfold turnB
  have hl : d.toNat ^^^ y.toNat < 256 := Nat.xor_lt_two_pow (n := 8) (u8_lt d) (u8_lt y)
  rw [UInt8.toNat_ofNat', Nat.mod_eq_of_lt hl]
theorem turn_same (d y : UInt8) : turnB d y = d ↔ y.toNat = 0 := by
  rw [← UInt8.toNat_inj, turn_nat]
  constructor
  · intro h
    have h2 : d.toNat ^^^ (d.toNat ^^^ y.toNat) = d.toNat ^^^ d.toNat := by rw [h]
    rwa [← Nat.xor_assoc, Nat.xor_self, Nat.zero_xor] at h2
  · intro h; rw [h, Nat.xor_zero]
def xr (D bs : List UInt8) (i : Nat) : List UInt8 := List.zipWith turnB (D.take i) (bs.take i)
theorem xr_succ {D bs : List UInt8} {i : Nat} (h1 : i < D.length) (h2 : i < bs.length) : xr D bs (i + 1) = xr D bs i ++ [turnB D[i] bs[i]] := by
  unfold xr
  rw [List.take_succ_eq_append_getElem h1, List.take_succ_eq_append_getElem h2, List.zipWith_append]
  · rfl
  · rw [List.length_take, List.length_take]; omega
theorem xr_len {D bs : List UInt8} {i : Nat} (h1 : i ≤ D.length) (h2 : i ≤ bs.length) : (xr D bs i).length = i := by
  unfold xr
  rw [List.length_zipWith, List.length_take, List.length_take]; omega
/-- The row when so many are turned. -/
def turned (X bs : List UInt8) (k i : Nat) : List UInt8 := X.take k ++ xr (X.drop k) bs i ++ (X.drop k).drop i
theorem turned_len {X bs : List UInt8} {k i : Nat} (hk : k + i ≤ X.length) (h2 : i ≤ bs.length) : (turned X bs k i).length = X.length := by
  unfold turned
  rw [List.length_append, List.length_append, xr_len (by rw [List.length_drop]; omega) h2]
  simp
  omega
theorem turned_at {X bs : List UInt8} {k i : Nat} (hk : k + i < X.length) (h2 : i < bs.length) (h : k + i < (turned X bs k i).length) : (turned X bs k i)[k + i] = X[k + i] := by
  have hx := xr_len (D := X.drop k) (bs := bs) (i := i) (by rw [List.length_drop]; omega) (by omega)
  have e : (turned X bs k i)[k + i]? = X[k + i]? := by
    unfold turned
    rw [List.getElem?_append_right (by rw [List.length_append, hx, List.length_take]; omega), List.length_append, hx, List.length_take, List.getElem?_drop, List.getElem?_drop]
    congr 1
    omega
  rw [List.getElem?_eq_getElem h, List.getElem?_eq_getElem hk] at e
  exact Option.some.inj e
theorem turned_set {X bs : List UInt8} {k i : Nat} (hk : k + i < X.length) (h2 : i < bs.length) : (turned X bs k i).set (k + i) (turnB X[k + i] bs[i]) = turned X bs k (i + 1) := by
  have hx := xr_len (D := X.drop k) (bs := bs) (i := i) (by rw [List.length_drop]; omega) (by omega)
  have hd : i < (X.drop k).length := by rw [List.length_drop]; omega
  unfold turned
  rw [xr_succ hd h2, List.getElem_drop, List.drop_eq_getElem_cons hd, List.getElem_drop]
  generalize X[k + i] = x0
  rw [show k + i = (X.take k ++ xr (X.drop k) bs i).length + 0 by rw [List.length_append, hx, List.length_take]; omega, List.set_append_right _ _ (by omega)]
  simp
def sameT (X bs : List UInt8) (k i : Nat) : Bool := decide (xr (X.drop k) bs i = (X.drop k).take i)
theorem sameT_succ {X bs : List UInt8} {k i : Nat} (hk : k + i < X.length) (h2 : i < bs.length) : sameT X bs k (i + 1) = (sameT X bs k i && decide (bs[i].toNat = 0)) := by
  have hd : i < (X.drop k).length := by rw [List.length_drop]; omega
  have hx := xr_len (D := X.drop k) (bs := bs) (i := i) (by omega) (by omega)
  unfold sameT
  rw [xr_succ hd h2, List.take_succ_eq_append_getElem hd, Bool.eq_iff_iff, Bool.and_eq_true, decide_eq_true_iff, decide_eq_true_iff, decide_eq_true_iff]
  rw [← turn_same ((X.drop k)[i]) bs[i]]
  constructor
  · intro h
    have h3 := List.append_inj h (by rw [hx, List.length_take]; omega)
    exact ⟨h3.1, by simpa using h3.2⟩
  · rintro ⟨h3, h4⟩
    rw [h3, h4]
theorem rem_nat (m : Int) (n : Nat) (h : 0 ≤ m) : ∃ k : Nat, k < n + 4 ∧ m.tmod ((n : Int) + 4) = (k : Int) ∧ m % ((n : Int) + 4) = (k : Int) := by
  have h1 := Int.emod_nonneg m (show (n : Int) + 4 ≠ 0 by omega)
  have h2 := Int.emod_lt_of_pos m (show (0 : Int) < (n : Int) + 4 by omega)
  refine ⟨(m % ((n : Int) + 4)).toNat, by omega, ?_, by omega⟩
  rw [Int.tmod_eq_emod_of_nonneg h]
  omega
theorem turned_zero (X bs : List UInt8) (k : Nat) : turned X bs k 0 = X := by simp [turned, xr]
theorem turn_bits (d y : UInt8) : bits .xor .u8 (d.toNat : Int) (y.toNat : Int) = ((turnB d y).toNat : Int) := by
  rw [turn_nat]
  exact u8_xor_nat d.toNat y.toNat (u8_lt d) (u8_lt y)
theorem told {l X bs : List UInt8} {k i : Nat} (hX : sealed l = X) (hb : bs.length = 4) (hi : i ≤ 4) (hk : k + i ≤ X.length) : (openB (turned X bs k i)).isSome = sameT X bs k i := by
  have hx := xr_len (D := X.drop k) (bs := bs) (i := i) (by rw [List.length_drop]; omega) (by omega)
  have e : sealed l = X.take k ++ (X.drop k).take i ++ (X.drop k).drop i := by
    rw [hX, List.append_assoc, List.take_append_drop, List.take_append_drop]
  exact tells e (by rw [hx, List.length_take, List.length_drop]; omega) (by rw [List.length_take]; omega)

set_option maxRecDepth 100000 in
set_option maxHeartbeats 4000000 in
theorem tells_walk (v : Value) (l bs : List UInt8) (n : Int) (w : World) (hf : Fo w) (hv : BRow w v l) (hb : bs.length = 4) (hl : l.length + 4 ≤ 140737488355328) (hn : -9223372036854775808 ≤ n) (hn' : n ≤ 9223372036854775807) :
    Calls Tryd.prog 5 #[v, .int .i64 n, .agg (Lib.byteCells bs).toArray] w fun e w' => e = .returned (.bool true) ∧ Below w.heap.size w w' := by
  have hb0 : Below w.heap.size w (w.alloc (.cells (Lib.byteCells bs).toArray 38)) := (Below.refl _ _).alloc (Nat.le_refl _) _
  have HA := Lib.hid (awake_any _ (hf.below hb0))
  have HS := Lib.hid (fun (W : World) (hb : Below w.heap.size w W) => seal_any v l W (hv.below hb) (hf.below hb) hl)
  have HO := Lib.hid (fun (W : World) (hb : Below w.heap.size w W) (x : Value) (Y : List UInt8) (h : BRow W x Y) (hy : Y.length ≤ 140737488355328) => open_any x Y W h (hf.below hb) hy)
  have HB0 := Lib.hid hb0
  obtain ⟨va, vc, rfl⟩ : ∃ a k, v = .slice a l.length k := by obtain ⟨a, c, h, _⟩ := hv; exact ⟨a, c, h⟩
  have HC0 := Lib.hid (show (w.alloc (.cells (Lib.byteCells bs).toArray 38)).heap[w.heap.size]? = some (.cells (Lib.byteCells bs).toArray 38 (0, 0)) from heap_alloc_last w _)
  have HBL := Lib.hid hb
  have hcb : ∀ W : World, W.heap[w.heap.size]? = some (.cells (Lib.byteCells bs).toArray 38 (0, 0)) → ∀ i (hi : i < bs.length), W.cell? ⟨w.heap.size, i, none⟩ = some (.int .u8 (bs[i].toNat : Int)) := fun W h i hi => by
    rw [cell_of_row W w.heap.size i _ _ _ h, List.getElem?_toArray]; exact byteCells_at bs i hi
  have HCB := Lib.hid hcb
  clear hcb
  generalize (Lib.byteCells bs).toArray = arr at *
  clear hv hb0
  go_enter Tryd.func5, Tryd.ntmps5
  go_wp2_with fail
  refine HA.out.mono ?_
  rintro e w1 ⟨rfl, hb1⟩
  have HB1 := Lib.hid (HB0.out.trans (hb1.mono (by simp)))
  have HC1 := Lib.hid ((hb1.block _ (by simp)).trans HC0.out)
  have hz1 : w.heap.size + 1 ≤ w1.heap.size := by have := hb1.size; simp at this; exact this
  clear hb1
  go_wp2_with fail
  refine (HS.out w1 HB1.out).mono ?_
  rintro e w2 ⟨v2, rfl, ho2, hb2⟩
  have HB2 := Lib.hid (HB1.out.trans (hb2.mono HB1.out.size))
  have HC2 := Lib.hid ((hb2.block _ (by omega)).trans HC1.out)
  have hz2 : w1.heap.size ≤ w2.heap.size := hb2.size
  obtain ⟨g, c, rfl⟩ := own_open ho2 (by intro h; have := seal_len l; rw [h] at this; simp at this)
  have hsl := seal_len l
  rw [hsl] at ho2
  have hgl := (ho2.lt g rfl).1
  have HO2 := Lib.hid ho2
  rw [hsl]
  obtain ⟨X, hX⟩ : ∃ X, X = sealed l := ⟨_, rfl⟩
  rw [← hX] at HO2 hsl
  have HX := Lib.hid hX.symm
  have HXL := Lib.hid hsl
  clear ho2 hb2 hX hsl HC0 HC1
  by_cases hneg : n < 0
  · obtain ⟨k, hk2, hk, hk'⟩ := rem_nat (-(n + 1)) l.length (by omega)
    go_wp2_with fail
    go_loopw [10, 11] (fun sv iv wr => ∃ i : Nat, sv = .bool (sameT X bs k i) ∧ iv = .int .i64 (i : Int) ∧ i ≤ 4 ∧ k + i ≤ l.length + 4 ∧ OwnU wr w1.heap.size (.slice (some ⟨g, 0, none⟩) (l.length + 4) c) (turned X bs k i) ∧ wr.heap[w.heap.size]? = some (.cells arr 38 (0, 0)) ∧ Below w.heap.size w wr) (fun _ iv _ => 4 - (intOf iv).toNat)
    case atStart => exact ⟨0, by simp [sameT, xr], rfl, by omega, by omega, by rw [turned_zero]; exact HO2.out, HC2.out, HB2.out⟩
    case round =>
      obtain ⟨i, rfl, rfl, hi, hki, hown, hbx, hbl⟩ := hrel
      have HOW := Lib.hid hown
      have HBX := Lib.hid hbx
      have HBE := Lib.hid hbl
      have htl : (turned X bs k i).length = l.length + 4 := by rw [turned_len (by rw [HXL.out]; omega) (by rw [HBL.out]; omega)]; exact HXL.out
      have HTL := Lib.hid htl
      clear hown hbx hbl
      by_cases hgo : i < 4 ∧ k + i < l.length + 4
      · obtain ⟨hi4, hkl⟩ := hgo
        have hi4' : (i : Int) < 4 := by omega
        have hkl' : (k : Int) + (i : Int) < (l.length : Int) + 4 := by omega
        have hXk : k + i < X.length := by rw [HXL.out]; exact hkl
        have hbi : i < bs.length := by rw [HBL.out]; exact hi4
        obtain ⟨c1, f1⟩ := own_at HOW.out htl (k + i) (by omega)
        rw [turned_at hXk hbi (by omega)] at c1
        have c2 := HCB.out wr HBX.out i hbi
        have HPUT := Lib.hid (own_put HOW.out htl (k + i) (turnB X[k + i] bs[i]))
        rw [turned_set hXk hbi] at HPUT
        have HST := Lib.hid (sameT_succ hXk hbi)
        have q1 := turn_bits X[k + i] bs[i]
        have HBX2 := Lib.hid (fun u : Value => (Below.heap_setCell wr ⟨g, k + i, none⟩ u w.heap.size (by simp; omega)).trans HBX.out)
        have hxx := u8_lt bs[i]
        have c3 := fun u : Value => HCB.out _ (HBX2.out u) i hbi
        generalize turnB X[k + i] bs[i] = z at *
        generalize X[k + i] = x at *
        generalize bs[i] = y at *
        have e1 : IntKind.i64.wrap ((k : Int) + (i : Int)) = (k : Int) + (i : Int) := IntWalk.i64_in _ (by omega)
        have e2 : ((k : Int) + (i : Int)).toNat = k + i := by omega
        have e3 : (0 : Int) ≤ (k : Int) + (i : Int) := by omega
        clear htl hi hki hk hk'
        go_wp2_with fail
        go_region
        have HNB := Lib.hid (show (Below w.heap.size w (wr.setCell ⟨g, k + i, none⟩ (.int .u8 (z.toNat : Int))).drew) from (HBE.out.setCell (by simp; omega) _).drew)
        generalize sameT X bs k i = S at *
        cases S
        · have HST2 := Lib.hid (show sameT X bs k (i + 1) = false from HST.out)
          go_wp2_with fail
          refine ⟨⟨i + 1, by rw [HST2.out], by rw [Int.natCast_add]; rfl, by omega, by omega, HPUT.out.below ((Below.refl _ _).drew), HBX2.out _, HNB.out⟩, ?_⟩
          simp only [intOf]
          omega
        · by_cases hy0 : y.toNat = 0
          · have HST2 := Lib.hid (show sameT X bs k (i + 1) = true by rw [HST.out, hy0]; rfl)
            have t0 : ((y.toNat : Int) == 0) = true := by rw [beq_iff_eq]; omega
            have HY0 := Lib.hid hy0
            clear hy0
            go_wp2_with fail
            refine ⟨⟨i + 1, by rw [HST2.out], by rw [Int.natCast_add]; rfl, by omega, by omega, HPUT.out.below ((Below.refl _ _).drew), HBX2.out _, HNB.out⟩, ?_⟩
            simp only [intOf]
            omega
          · have HST2 := Lib.hid (show sameT X bs k (i + 1) = false by rw [HST.out, decide_eq_false hy0]; rfl)
            have t0 : ((y.toNat : Int) == 0) = false := by rw [beq_eq_false_iff_ne]; omega
            have HY0 := Lib.hid hy0
            clear hy0
            go_wp2_with fail
            refine ⟨⟨i + 1, by rw [HST2.out], by rw [Int.natCast_add]; rfl, by omega, by omega, HPUT.out.below ((Below.refl _ _).drew), HBX2.out _, HNB.out⟩, ?_⟩
            simp only [intOf]
            omega
      · have HT := Lib.hid (told HX.out HBL.out hi (by rw [HXL.out]; exact hki))
        have HOP := Lib.hid (HO.out wr HBE.out _ _ HOW.out.row (by rw [HTL.out]; exact hl))
        obtain ⟨S, hS⟩ : ∃ S, S = sameT X bs k i := ⟨_, rfl⟩
        rw [← hS] at HT ⊢
        clear hS htl
        have hcond : decide ((i : Int) < 4) = false ∨ (decide ((i : Int) < 4) = true ∧ decide ((k : Int) + (i : Int) < (l.length : Int) + 4) = false) := by
          by_cases h4 : i < 4
          · right; exact ⟨decide_eq_true (by omega), decide_eq_false (by omega)⟩
          · left; exact decide_eq_false (by omega)
        have e1 : IntKind.i64.wrap ((k : Int) + (i : Int)) = (k : Int) + (i : Int) := IntWalk.i64_in _ (by omega)
        clear hgo
        rcases hcond with d1 | ⟨d1, d2⟩
        all_goals
          go_wp2_with fail
          refine HOP.out.mono ?_
          rintro e w5 ⟨v5, h5, hb5⟩
          have HB5 := Lib.hid (HBE.out.trans (hb5.mono HBE.out.size))
          clear hb5
          rcases h5 with ⟨m, hm, rfl, _⟩ | ⟨hm, rfl, rfl⟩
          · rw [hm] at HT
            have HS2 := Lib.hid (show S = true from HT.out.symm)
            generalize S = S2 at *
            cases S2
            · cases HS2.out
            · clear hm
              go_wp2_with fail
              go_ret
              exact ⟨rfl, HB5.out⟩
          · rw [hm] at HT
            have HS2 := Lib.hid (show S = false from HT.out.symm)
            generalize S = S2 at *
            cases S2
            · clear hm
              go_wp2_with fail
              go_ret
              exact ⟨rfl, HB5.out⟩
            · cases HS2.out
  · obtain ⟨k, hk2, hk, hk'⟩ := rem_nat n l.length (by omega)
    go_wp2_with fail
    go_loopw [10, 11] (fun sv iv wr => ∃ i : Nat, sv = .bool (sameT X bs k i) ∧ iv = .int .i64 (i : Int) ∧ i ≤ 4 ∧ k + i ≤ l.length + 4 ∧ OwnU wr w1.heap.size (.slice (some ⟨g, 0, none⟩) (l.length + 4) c) (turned X bs k i) ∧ wr.heap[w.heap.size]? = some (.cells arr 38 (0, 0)) ∧ Below w.heap.size w wr) (fun _ iv _ => 4 - (intOf iv).toNat)
    case atStart => exact ⟨0, by simp [sameT, xr], rfl, by omega, by omega, by rw [turned_zero]; exact HO2.out, HC2.out, HB2.out⟩
    case round =>
      obtain ⟨i, rfl, rfl, hi, hki, hown, hbx, hbl⟩ := hrel
      have HOW := Lib.hid hown
      have HBX := Lib.hid hbx
      have HBE := Lib.hid hbl
      have htl : (turned X bs k i).length = l.length + 4 := by rw [turned_len (by rw [HXL.out]; omega) (by rw [HBL.out]; omega)]; exact HXL.out
      have HTL := Lib.hid htl
      clear hown hbx hbl
      by_cases hgo : i < 4 ∧ k + i < l.length + 4
      · obtain ⟨hi4, hkl⟩ := hgo
        have hi4' : (i : Int) < 4 := by omega
        have hkl' : (k : Int) + (i : Int) < (l.length : Int) + 4 := by omega
        have hXk : k + i < X.length := by rw [HXL.out]; exact hkl
        have hbi : i < bs.length := by rw [HBL.out]; exact hi4
        obtain ⟨c1, f1⟩ := own_at HOW.out htl (k + i) (by omega)
        rw [turned_at hXk hbi (by omega)] at c1
        have c2 := HCB.out wr HBX.out i hbi
        have HPUT := Lib.hid (own_put HOW.out htl (k + i) (turnB X[k + i] bs[i]))
        rw [turned_set hXk hbi] at HPUT
        have HST := Lib.hid (sameT_succ hXk hbi)
        have q1 := turn_bits X[k + i] bs[i]
        have HBX2 := Lib.hid (fun u : Value => (Below.heap_setCell wr ⟨g, k + i, none⟩ u w.heap.size (by simp; omega)).trans HBX.out)
        have hxx := u8_lt bs[i]
        have c3 := fun u : Value => HCB.out _ (HBX2.out u) i hbi
        generalize turnB X[k + i] bs[i] = z at *
        generalize X[k + i] = x at *
        generalize bs[i] = y at *
        have e1 : IntKind.i64.wrap ((k : Int) + (i : Int)) = (k : Int) + (i : Int) := IntWalk.i64_in _ (by omega)
        have e2 : ((k : Int) + (i : Int)).toNat = k + i := by omega
        have e3 : (0 : Int) ≤ (k : Int) + (i : Int) := by omega
        clear htl hi hki hk hk'
        go_wp2_with fail
        go_region
        have HNB := Lib.hid (show (Below w.heap.size w (wr.setCell ⟨g, k + i, none⟩ (.int .u8 (z.toNat : Int))).drew) from (HBE.out.setCell (by simp; omega) _).drew)
        generalize sameT X bs k i = S at *
        cases S
        · have HST2 := Lib.hid (show sameT X bs k (i + 1) = false from HST.out)
          go_wp2_with fail
          refine ⟨⟨i + 1, by rw [HST2.out], by rw [Int.natCast_add]; rfl, by omega, by omega, HPUT.out.below ((Below.refl _ _).drew), HBX2.out _, HNB.out⟩, ?_⟩
          simp only [intOf]
          omega
        · by_cases hy0 : y.toNat = 0
          · have HST2 := Lib.hid (show sameT X bs k (i + 1) = true by rw [HST.out, hy0]; rfl)
            have t0 : ((y.toNat : Int) == 0) = true := by rw [beq_iff_eq]; omega
            have HY0 := Lib.hid hy0
            clear hy0
            go_wp2_with fail
            refine ⟨⟨i + 1, by rw [HST2.out], by rw [Int.natCast_add]; rfl, by omega, by omega, HPUT.out.below ((Below.refl _ _).drew), HBX2.out _, HNB.out⟩, ?_⟩
            simp only [intOf]
            omega
          · have HST2 := Lib.hid (show sameT X bs k (i + 1) = false by rw [HST.out, decide_eq_false hy0]; rfl)
            have t0 : ((y.toNat : Int) == 0) = false := by rw [beq_eq_false_iff_ne]; omega
            have HY0 := Lib.hid hy0
            clear hy0
            go_wp2_with fail
            refine ⟨⟨i + 1, by rw [HST2.out], by rw [Int.natCast_add]; rfl, by omega, by omega, HPUT.out.below ((Below.refl _ _).drew), HBX2.out _, HNB.out⟩, ?_⟩
            simp only [intOf]
            omega
      · have HT := Lib.hid (told HX.out HBL.out hi (by rw [HXL.out]; exact hki))
        have HOP := Lib.hid (HO.out wr HBE.out _ _ HOW.out.row (by rw [HTL.out]; exact hl))
        obtain ⟨S, hS⟩ : ∃ S, S = sameT X bs k i := ⟨_, rfl⟩
        rw [← hS] at HT ⊢
        clear hS htl
        have hcond : decide ((i : Int) < 4) = false ∨ (decide ((i : Int) < 4) = true ∧ decide ((k : Int) + (i : Int) < (l.length : Int) + 4) = false) := by
          by_cases h4 : i < 4
          · right; exact ⟨decide_eq_true (by omega), decide_eq_false (by omega)⟩
          · left; exact decide_eq_false (by omega)
        have e1 : IntKind.i64.wrap ((k : Int) + (i : Int)) = (k : Int) + (i : Int) := IntWalk.i64_in _ (by omega)
        clear hgo
        rcases hcond with d1 | ⟨d1, d2⟩
        all_goals
          go_wp2_with fail
          refine HOP.out.mono ?_
          rintro e w5 ⟨v5, h5, hb5⟩
          have HB5 := Lib.hid (HBE.out.trans (hb5.mono HBE.out.size))
          clear hb5
          rcases h5 with ⟨m, hm, rfl, _⟩ | ⟨hm, rfl, rfl⟩
          · rw [hm] at HT
            have HS2 := Lib.hid (show S = true from HT.out.symm)
            generalize S = S2 at *
            cases S2
            · cases HS2.out
            · clear hm
              go_wp2_with fail
              go_ret
              exact ⟨rfl, HB5.out⟩
          · rw [hm] at HT
            have HS2 := Lib.hid (show S = false from HT.out.symm)
            generalize S = S2 at *
            cases S2
            · clear hm
              go_wp2_with fail
              go_ret
              exact ⟨rfl, HB5.out⟩
            · cases HS2.out
end Go.Proofs.YtbnkpbphahjomaaDoor
