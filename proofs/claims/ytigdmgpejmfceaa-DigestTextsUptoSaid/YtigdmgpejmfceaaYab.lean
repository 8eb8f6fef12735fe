/- The law DigestTexts, walked. -/
import Derived.Test.YtigdmgpejmfceaaBw
import Derived.Test.YtigdmgpejmfceaaYaa
import Derived.Test.YtigdmgpejmfceaaYt
namespace Go.Proofs.Ytigdmgpejmfceaa
open Go.RowKit Su Yg

theorem apart2 {r0 r1 : VB} {a0 b0 a1 b1 : Nat} (h0 : InU r0.1 a0 b0) (h1 : InU r1.1 a1 b1) (q0 : b0 ≤ a1) : ApartU [r0, r1] := by
  intro i j hi hj hne g hg hg2
  have key : ∀ k (hk : k < [r0, r1].length), [r0, r1][k].1.ownBlock = some g → (k = 0 ∧ a0 ≤ g ∧ g < b0) ∨ (k = 1 ∧ a1 ≤ g ∧ g < b1) := by
    intro k hk h
    match k, hk, h with
    | 0, _, h => exact .inl ⟨rfl, h0 g h⟩
    | 1, _, h => exact .inr ⟨rfl, h1 g h⟩
  have k1 := key i hi hg
  have k2 := key j hj hg2
  omega
theorem rows2 {w : World} {B : Nat} {r0 r1 : VB} (h0 : OwnU w B r0.1 r0.2) (h1 : OwnU w B r1.1 r1.2) : RowsU w B [r0, r1] 0 := by
  intro j hj _
  match j, hj with
  | 0, _ => exact h0
  | 1, _ => exact h1
theorem lent_low {w : World} {B : Nat} {v : Value} {l : List UInt8} (h : LentU w B v l) (g : Nat) (hg : v.ownBlock = some g) : B ≤ g := by
  obtain ⟨g2, cap2, rfl, ho2⟩ := h
  exact (ho2.lt g hg).1
/-- What comes of a text. -/
def rowD (c : List UInt8) : List UInt8 := (dcd c).getD []
def erD (c : List UInt8) : Int := if (dcd c).isSome then 0 else 100
theorem rowD_len (c : List UInt8) : (rowD c).length ≤ c.length := by
  unfold rowD
  cases h : dcd c with
  | none => simp
  | some m =>
    have := (dcd_iff c m).1 h
    have h2 := enc_len m
    rw [this] at h2
    rw [Option.getD_some]
    omega
theorem decOut {c : List UInt8} {w w' : World} {e : Ending} (h : DecOut c w e w') : ∃ v, e = .returned (.tuple #[v, .int .i64 (erD c)]) ∧ OwnU w' w.heap.size v (rowD c) ∧ Below w.heap.size w w' := by
  obtain ⟨v, ⟨m, hm, rfl, ho⟩ | ⟨hm, rfl, rfl⟩, hb⟩ := h
  · exact ⟨v, by unfold erD; rw [hm]; rfl, by unfold rowD; rw [hm]; exact ho, hb⟩
  · exact ⟨_, by unfold erD; rw [hm]; rfl, by unfold rowD; rw [hm]; exact nil_own _ _, hb⟩

set_option maxRecDepth 100000 in
set_option maxHeartbeats 8000000 in
theorem texts_any (v : Value) (l c : List UInt8) (w : World) (h : BRow w v l) (hn : l.length ≤ 1048576) (hc : c.length ≤ 1048576) :
    Calls Try.prog 4 #[v, .string (txB c)] w fun e w' => e = .returned (.bool true) ∧ Below w.heap.size w w' := by
  have HV := Lib.hid h
  have HAW := Lib.hid (awake_any w)
  have HLT := Lib.hid (fun (W : World) (hb : Below w.heap.size w W) => lent_any v l W (HV.out.below hb) (by omega))
  have HEN := Lib.hid (fun (W : World) (x : Value) (h : BRow W x l) => encode_any x l W h (by omega))
  have HHX := Lib.hid (fun (W : World) (x : Value) (h : BRow W x l) => hex_any x l W h (by omega))
  have HRE := Lib.hid (fun (W : World) (hb : Below w.heap.size w W) => refEncode_any v l W (HV.out.below hb) (by omega))
  have HRH := Lib.hid (fun (W : World) (hb : Below w.heap.size w W) => refHex_any v l W (HV.out.below hb) (by omega))
  have HKP := Lib.hid (fun (W : World) (B : Nat) (x : Value) (h : LentU W B x l) (hb : Below w.heap.size w W) => kept_any x v B l W h (HV.out.below hb) (by omega))
  have HDC := Lib.hid (fun (W : World) => (decode_any c W (by omega)).mono fun e w' h => decOut h)
  have HRD := Lib.hid (fun (W : World) => (refDecode_any c W (by omega)).mono fun e w' h => decOut h)
  have HLD := Lib.hid (show (rowD c).length + 2 ≤ 140737488355328 by have := rowD_len c; omega)
  obtain ⟨a, cap, rfl⟩ : ∃ a c, v = .slice a l.length c := by obtain ⟨a, c, h, _⟩ := h; exact ⟨a, c, h⟩
  generalize rowD c = D at *
  generalize erD c = E at *
  generalize txB c = T at *
  clear h
  go_enter Try.func4, Try.ntmps4
  go_wp2_with fail
  refine HAW.out.mono ?_
  rintro e w1 ⟨rfl, hb1⟩
  have HB1 := Lib.hid hb1
  clear HAW hb1
  go_wp2_with fail
  refine (HLT.out w1 HB1.out).mono ?_
  rintro e w2 ⟨v2, rfl, hl2, hb2⟩
  have HL2 := Lib.hid hl2
  have HR2 := Lib.hid hl2.row
  have HB2 := Lib.hid (below_trans HB1.out hb2)
  obtain ⟨la, ln, lc, rfl⟩ : ∃ a n c, v2 = .slice a n c := by obtain ⟨a, c, h, _⟩ := HR2.out; exact ⟨a, _, c, h⟩
  clear HLT hl2 hb2
  go_wp2_with fail
  refine (HEN.out w2 _ HR2.out).mono ?_
  rintro e w3 ⟨rfl, hb3⟩
  have HL3 := Lib.hid (HL2.out.below hb3)
  have HR3 := Lib.hid (HR2.out.below hb3)
  have HB3 := Lib.hid (below_trans HB2.out hb3)
  clear HEN hb3 HL2 HR2 HB2
  go_wp2_with fail
  refine (HHX.out w3 _ HR3.out).mono ?_
  rintro e w4 ⟨rfl, hb4⟩
  have HL4 := Lib.hid (HL3.out.below hb4)
  have HB4 := Lib.hid (below_trans HB3.out hb4)
  clear HHX hb4 HL3 HR3 HB3
  go_wp2_with fail
  refine (HKP.out w4 _ _ HL4.out HB4.out).mono ?_
  rintro e w5 ⟨rfl, g, hg, hgr⟩
  have HB5 := Lib.hid (show Below w.heap.size w w5 from HB4.out.grown hgr HB4.out.size (fun k hk => by
    obtain rfl := Option.some.inj hk
    exact Nat.le_trans HB1.out.size (lent_low HL4.out g hg)))
  clear HKP HL4 HB4 hg hgr
  go_wp2_with fail
  refine (HDC.out w5).mono ?_
  rintro e w6 ⟨v6, rfl, ho6, hb6⟩
  have HO6 := Lib.hid ho6
  have HI6 := Lib.hid ho6.inU
  have HB6 := Lib.hid (below_trans HB5.out hb6)
  have hs6 := hb6.size
  obtain ⟨xa, xn, xc, rfl⟩ := ho6.shapeW
  clear ho6 hb6
  go_wp2_with fail
  refine (HDC.out w6).mono ?_
  rintro e w7 ⟨v7, rfl, ho7, hb7⟩
  have HO7 := Lib.hid ho7
  have HI7 := Lib.hid ho7.inU
  have HO67 := Lib.hid (HO6.out.below hb7)
  have HB7 := Lib.hid (below_trans HB6.out hb7)
  have hs7 := hb7.size
  obtain ⟨ya, yn, yc, rfl⟩ := ho7.shapeW
  clear ho7 hb7 HO6 HDC
  go_wp2_with fail
  refine (HRD.out w7).mono ?_
  rintro e w8 ⟨v8, rfl, ho8, hb8⟩
  have HO8 := Lib.hid ho8
  have HO78 := Lib.hid (HO7.out.below hb8)
  have HO68 := Lib.hid (HO67.out.below hb8)
  have HB8 := Lib.hid (below_trans HB7.out hb8)
  have hs8 := hb8.size
  obtain ⟨za, zn, zc, rfl⟩ := ho8.shapeW
  have HS1 := Lib.hid (same_any _ _ D D w8 HO68.out.row HO8.out.row)
  have HS2 := Lib.hid (same_any _ _ D D w8 HO78.out.row HO8.out.row)
  have hdd : decide (D = D) = true := by simp
  rw [hdd] at HS1 HS2
  clear ho8 hb8 HO7 HO67 HRD hdd
  go_wp2_with fail
  refine HS1.out.mono ?_
  rintro e w9 ⟨rfl, rfl⟩
  go_wp2_with fail
  refine HS2.out.mono ?_
  rintro e w9 ⟨rfl, rfl⟩
  clear HS1 HS2
  have hRW : RowsU (w8.alloc (.cells (rowArr [((.slice xa xn xc), D), ((.slice ya yn yc), D)]) 22)) w5.heap.size [((.slice xa xn xc), D), ((.slice ya yn yc), D)] 0 := rows2 (OwnU.alloc HO68.out _) (OwnU.alloc (own_low HO78.out hs6) _)
  have hAP : ApartU [((.slice xa xn xc), D), ((.slice ya yn yc), D)] := apart2 HI6.out HI7.out (Nat.le_refl _)
  have HOWN := Lib.hid (owned_any w8.heap.size w5.heap.size [((.slice xa xn xc), D), ((.slice ya yn yc), D)] _ (heap_alloc_last w8 (.cells (rowArr [((.slice xa xn xc), D), ((.slice ya yn yc), D)]) 22)) hRW hAP (by simp; omega) (by simp) (by intro j hj; match j, hj with | 0, _ => exact HLD.out | 1, _ => exact HLD.out))
  have HRE2 := HRE
  clear hRW hAP
  go_wp2_with fail
  refine HOWN.out.mono ?_
  rintro e w10 ⟨rfl, hb10⟩
  have HB10 := Lib.hid (show Below w.heap.size w w10 from (HB8.out.alloc HB8.out.size _).trans (hb10.mono HB5.out.size))
  clear HOWN hb10
  go_wp2_with fail
  refine (HRE.out w10 HB10.out).mono ?_
  rintro e w11 ⟨rfl, hb11⟩
  have HB11 := Lib.hid (below_trans HB10.out hb11)
  clear HRE HRE2 hb11
  go_wp2_with fail
  refine (HRH.out w11 HB11.out).mono ?_
  rintro e w12 ⟨rfl, hb12⟩
  have HB12 := Lib.hid (below_trans HB11.out hb12)
  clear HRH hb12
  go_wp2_with fail
  go_ret
  exact ⟨rfl, HB12.out⟩
theorem texts_walk (v : Value) (l : List UInt8) (t : ByteArray) (w : World) (h : BRow w v l) (hn : l.length ≤ 1048576) (ht : t.size ≤ 1048576) :
    Calls Try.prog 4 #[v, .string t] w fun e w' => e = .returned (.bool true) ∧ Below w.heap.size w w' := by
  have e : t.data.toList.length = t.size := by simp
  have := texts_any v l t.data.toList w h hn (by omega)
  rw [← tx_eta t] at this
  exact this
end Go.Proofs.Ytigdmgpejmfceaa
