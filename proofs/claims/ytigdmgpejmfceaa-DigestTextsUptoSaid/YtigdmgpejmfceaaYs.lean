/- The document's examples. -/
import Derived.Test.YtigdmgpejmfceaaYr
import Derived.Test.YtigdmgpejmfceaaYx
import Derived.Test.YtigdmgpejmfceaaYf
import Derived.Lib.SlBytesConst
namespace Go.Proofs.Ytigdmgpejmfceaa
open Go.RowKit Su Yg Yh

theorem enc_ab : enc [97, 98] = [89, 87, 73, 61] := by decide +kernel
theorem hex_abc : hexL (sha [97, 98, 99]) = [97, 57, 57, 57, 51, 101, 51, 54, 52, 55, 48, 54, 56, 49, 54, 97, 98, 97, 51, 101, 50, 53, 55, 49, 55, 56, 53, 48, 99, 50, 54, 99, 57, 99, 100, 48, 100, 56, 57, 100] := by rw [sha_abc]; decide +kernel
theorem dcd_yr : dcd [89, 82, 61, 61] = none := by decide +kernel

theorem run_eqs (a b : ByteArray) (x y : Operand) (w : World) : (do eqGuard .eql 9 x y (.string a) (.string b); binOp .eql 9 (.string a) (.string b)).run Try.prog w = .ok (.bool (a.toList == b.toList)) w := by
  have hu := Try.underlying9
  go_simp
theorem wpList_bin {P : Program} {ops : Array Oper} {rest : List Oper} {o : Oper} {a : Act} {w w' : World} {Q : Exit → Act → World → Prop}
    (hgd : o.guard = none) (op : BinOp) (t : TypeId) (x y : Operand) (ty : TypeId) (hop : o.op = Op.binOp op t x y ty) (u v r : Value) (hp : a.eval x = u) (hx : a.eval y = v) (hr : (do eqGuard op t x y u v; binOp op t u v).run P w = .ok r w') (h : wpList P ops Q rest (a.put o.dst r) w') : wpList P ops Q (o :: rest) a w := by
  refine wpList_plain hgd fun K hK => ?_
  unfold Oper.wp execOp
  simp only [hop, Sem.run_bind, Sem.run_pure, hp, hx] at hr ⊢
  simp only [hr, Result.andThen_ok]
  exact hK _ _ h
theorem abc_eq : ((txB [97, 57, 57, 57, 51, 101, 51, 54, 52, 55, 48, 54, 56, 49, 54, 97, 98, 97, 51, 101, 50, 53, 55, 49, 55, 56, 53, 48, 99, 50, 54, 99, 57, 99, 100, 48, 100, 56, 57, 100]).toList == ByteArray.toList { data := #[97, 57, 57, 57, 51, 101, 51, 54, 52, 55, 48, 54, 56, 49, 54, 97, 98, 97, 51, 101, 50, 53, 55, 49, 55, 56, 53, 48, 99, 50, 54, 99, 57, 99, 100, 48, 100, 56, 57, 100] }) = true := by decide +kernel
theorem ab_eq : ((txB [89, 87, 73, 61]).toList == [89, 87, 73, 61]) = true := by decide +kernel

set_option maxRecDepth 10000000 in
set_option maxHeartbeats 4000000 in
theorem awake_any (w : World) :
    Calls Try.prog 7 #[] w fun e w' => e = .returned (.bool true) ∧ Below w.heap.size w w' := by
  have HDC := Lib.hid (show Calls Try.prog 19 #[.string { data := #[89, 82, 61, 61] }] w (DecOut [89, 82, 61, 61] w) from decode_any [89, 82, 61, 61] w (by simp))
  have HSH := Lib.hid (fun (W : World) (v : Value) (h : BRow W v [97, 98, 99]) => sha_any v _ W h (by simp))
  have HHX := Lib.hid (fun (W : World) (v : Value) (h : BRow W v (sha [97, 98, 99])) => hex_any v _ W h (by rw [sha_len]; omega))
  have HEN := Lib.hid (fun (W : World) (v : Value) (h : BRow W v [97, 98]) => encode_any v _ W h (by simp))
  rw [hex_abc] at HHX
  rw [enc_ab] at HEN
  obtain ⟨X, hX⟩ : ∃ X, X = txB [97, 57, 57, 57, 51, 101, 51, 54, 52, 55, 48, 54, 56, 49, 54, 97, 98, 97, 51, 101, 50, 53, 55, 49, 55, 56, 53, 48, 99, 50, 54, 99, 57, 99, 100, 48, 100, 56, 57, 100] := ⟨_, rfl⟩
  have hx : (X.toList == ByteArray.toList { data := #[97, 57, 57, 57, 51, 101, 51, 54, 52, 55, 48, 54, 56, 49, 54, 97, 98, 97, 51, 101, 50, 53, 55, 49, 55, 56, 53, 48, 99, 50, 54, 99, 57, 99, 100, 48, 100, 56, 57, 100] }) = true := by rw [hX]; exact abc_eq
  obtain ⟨Z, hZ⟩ : ∃ Z, Z = txB [89, 87, 73, 61] := ⟨_, rfl⟩
  have hz : (Z.toList == [89, 87, 73, 61]) = true := by rw [hZ]; exact ab_eq
  rw [← hX] at HHX
  rw [← hZ] at HEN
  clear hX hZ
  go_enter Try.func7, Try.ntmps7
  go_wp2_with fail
  refine HDC.out.mono ?_
  rintro e w1 ⟨v1, ⟨m, hm, _⟩ | ⟨_, rfl, rfl⟩, hb1⟩
  · rw [dcd_yr] at hm; cases hm
  have HB1 := Lib.hid hb1
  clear HDC hb1
  have hcc := fun C => Lib.run_convert_bytes_const (P := Try.prog) w1 22 5 C 3 3 Try.underlying22 Try.underlying5
  go_wp2_with fail
  clear hcc
  refine (HSH.out _ _ (brow_lit (l := [97, 98, 99]) (heap_alloc_last w1 _) rfl (by simp [maxLen]) rfl)).mono ?_
  rintro e w2 ⟨u2, rfl, hr2, hb2⟩
  have HR2 := Lib.hid hr2.row
  have HB2 := Lib.hid (below_trans HB1.out (below_trans ((Below.refl _ _).alloc (Nat.le_refl _) _) hb2))
  obtain ⟨ua, un, uc, rfl⟩ : ∃ a n c, u2 = .slice a n c := by obtain ⟨a, c, h, _⟩ := HR2.out; exact ⟨a, _, c, h⟩
  clear hr2 hb2
  go_wp2_with fail
  refine (HHX.out _ _ HR2.out).mono ?_
  rintro e w3 ⟨rfl, hb3⟩
  have HB3 := Lib.hid (below_trans HB2.out hb3)
  clear hb3
  have hcc := fun C => Lib.run_convert_bytes_const (P := Try.prog) w3 22 5 C 2 2 Try.underlying22 Try.underlying5
  have HX := Lib.hid hx
  clear hx
  go_wp2_with (refine wpList_bin rfl .eql 9 _ _ _ rfl (.string X) _ _ rfl rfl (run_eqs X _ _ _ w3) ?_; rw [HX.out]; clear HX)
  clear hcc
  refine (HEN.out _ _ (brow_lit (l := [97, 98]) (heap_alloc_last w3 _) rfl (by simp [maxLen]) rfl)).mono ?_
  rintro e w4 ⟨rfl, hb4⟩
  have HB4 := Lib.hid (below_trans HB3.out (below_trans ((Below.refl _ _).alloc (Nat.le_refl _) _) hb4))
  clear hb4
  go_wp2_with fail
  go_ret
  exact ⟨rfl, HB4.out⟩
end Go.Proofs.Ytigdmgpejmfceaa
