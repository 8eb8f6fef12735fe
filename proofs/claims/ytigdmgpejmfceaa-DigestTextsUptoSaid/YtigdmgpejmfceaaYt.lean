/- The law DigestBack, walked. -/
import Derived.Test.YtigdmgpejmfceaaYs
namespace Go.Proofs.Ytigdmgpejmfceaa
open Go.RowKit Su Yg Yh

theorem tx_eta (t : ByteArray) : t = txB t.data.toList := by
  cases t with
  | mk d => unfold txB; simp
theorem tx_size (l : List UInt8) : (txB l).size = l.length := by show l.toArray.size = _; simp
theorem tx_beqS (l m : List UInt8) : ((txB l).toList == (txB m).toList) = decide (l = m) := tx_beq l m

set_option maxRecDepth 100000 in
set_option maxHeartbeats 4000000 in
theorem back_any (v : Value) (l c : List UInt8) (w : World) (h : BRow w v l) (hn : l.length * 2 + 80 ≤ 140737488355328) (hc : c.length * 2 + 80 ≤ 140737488355328) :
    Calls Try.prog 5 #[v, .string (txB c)] w fun e w' => e = .returned (.bool true) ∧ Below w.heap.size w w' := by
  have HV := Lib.hid h
  have HAW := Lib.hid (awake_any w)
  have HEN := Lib.hid (fun (W : World) (hb : Below w.heap.size w W) => encode_any v l W (HV.out.below hb) (by omega))
  have HLE := Lib.hid (enc_len l)
  have HDE := Lib.hid (fun (W : World) => decode_any (enc l) W (by rw [HLE.out]; omega))
  have HDC := Lib.hid (fun (W : World) => decode_any c W (by omega))
  have HID := Lib.hid ((dcd_iff (enc l) l).2 rfl)
  have HCV := Lib.hid (fun (W : World) (hb : Below w.heap.size w W) => conv_row (HV.out.below hb))
  obtain ⟨a, cap, rfl⟩ : ∃ a c, v = .slice a l.length c := by obtain ⟨a, c, h, _⟩ := h; exact ⟨a, c, h⟩
  clear h
  go_enter Try.func5, Try.ntmps5
  go_wp2_with fail
  refine HAW.out.mono ?_
  rintro e w1 ⟨rfl, hb1⟩
  have HB1 := Lib.hid hb1
  clear HAW hb1
  go_wp2_with fail
  refine (HEN.out w1 HB1.out).mono ?_
  rintro e w2 ⟨rfl, hb2⟩
  have HB2 := Lib.hid (below_trans HB1.out hb2)
  clear HEN hb2 HB1
  go_wp2_with fail
  refine (HDE.out w2).mono ?_
  rintro e w3 ⟨v3, ⟨m, hm, rfl, ho⟩ | ⟨hm, _, _⟩, hb3⟩
  · rw [HID.out] at hm
    obtain rfl := Option.some.inj hm
    have HB3 := Lib.hid (below_trans HB2.out hb3)
    have hr3 := ho.row
    have c1 := conv_row hr3
    have c2 := HCV.out w3 HB3.out
    obtain ⟨va, vn, vc, rfl⟩ := ho.shapeW
    have hsz : (txB (enc l)).size = (l.length + 2) / 3 * 4 := by rw [tx_size]; exact HLE.out
    obtain ⟨X, hX⟩ : ∃ X, X = txB (enc l) := ⟨_, rfl⟩
    rw [← hX] at hsz ⊢
    clear HDE hm ho hb3 hr3 HB2 HCV hX
    go_wp2_with fail
    refine (HDC.out w3).mono ?_
    rintro e w4 ⟨v4, ⟨m, hm, rfl, ho⟩ | ⟨_, rfl, rfl⟩, hb4⟩
    · have hem := (dcd_iff c m).1 hm
      have HB4 := Lib.hid (below_trans HB3.out hb4)
      have hml := enc_len m
      have HE := Lib.hid (encode_any v4 m w4 ho.row (by rw [hem] at hml; omega))
      rw [hem] at HE
      obtain ⟨va, vn, vc, rfl⟩ := ho.shapeW
      generalize txB c = T at *
      clear c1 c2 HDC ho hb4 hm hem hml
      go_wp2_with fail
      refine HE.out.mono ?_
      rintro e w5 ⟨rfl, hb5⟩
      have HB5 := Lib.hid (below_trans HB4.out hb5)
      clear HE hb5
      go_wp2_with fail
      go_ret
      exact ⟨rfl, HB5.out⟩
    · have HB4 := Lib.hid (below_trans HB3.out hb4)
      generalize txB c = T at *
      clear c1 c2 HDC hb4
      go_wp2_with fail
      go_ret
      exact ⟨rfl, HB4.out⟩
  · rw [HID.out] at hm; cases hm
theorem back_walk (v : Value) (l : List UInt8) (t : ByteArray) (w : World) (h : BRow w v l) (hn : l.length ≤ 1048576) (ht : t.size ≤ 1048576) :
    Calls Try.prog 5 #[v, .string t] w fun e w' => e = .returned (.bool true) ∧ Below w.heap.size w w' := by
  have e : t.data.toList.length = t.size := by simp
  have := back_any v l t.data.toList w h (by omega) (by omega)
  rw [← tx_eta t] at this
  exact this
end Go.Proofs.Ytigdmgpejmfceaa
