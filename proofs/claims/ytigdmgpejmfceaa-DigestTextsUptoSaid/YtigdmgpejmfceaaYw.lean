/- The document's own Encode and Hex. -/
import Derived.Test.YtigdmgpejmfceaaYf
namespace Go.Proofs.Ytigdmgpejmfceaa
open Go.RowKit Su Yg

set_option maxRecDepth 100000 in
set_option maxHeartbeats 4000000 in
theorem refHex_any (v : Value) (l : List UInt8) (w : World) (h : BRow w v l) (hn : l.length * 2 + 64 ≤ 140737488355328) :
    Calls Try.prog 22 #[v] w fun e w' => e = .returned (.string (txB (hexL l))) ∧ Below w.heap.size w w' := by
  have HV := Lib.hid h
  obtain ⟨a, cap, rfl, g2, g3, g4, g5⟩ := h
  unfold maxLen at g3
  have H5 := Lib.hid g5
  clear g4 g5
  have HLN := Lib.hid (fun k => hex_len (l.take k))
  go_enter Try.func22, Try.ntmps22
  go_wp2_with fail
  go_loopw [3, 4] (fun o i wr => ∃ k : Nat, i = .int .i64 (k : Int) ∧ k ≤ l.length ∧ OwnU wr w.heap.size o (hexL (l.take k)) ∧ Below w.heap.size w wr) (fun _ i _ => l.length - (intOf i).toNat)
  case atStart => exact ⟨0, rfl, Nat.zero_le _, nil_own _ _, Below.refl _ _⟩
  case round =>
    obtain ⟨k, rfl, hk, hown, hb⟩ := hrel
    have hBr := hb.size
    by_cases hlt : k < l.length
    · have hlt' : (k : Int) < (l.length : Int) := by omega
      obtain ⟨b, off, rfl, hbl, hc⟩ := H5.out k hlt
      have hc2 : wr.cell? ⟨b, off + k, none⟩ = some (.int .u8 (l[k].toNat : Int)) := (hb.cell (by exact hbl)).trans hc
      have HT := Lib.hid (hex_take l k hlt)
      have hx := u8_lt l[k]
      have r1 : ∀ W, (Instr.index 9 (.string digitsT) (.int .u8 ((l[k].toNat : Int) / 16))).run Try.prog W = .ok (.int .u8 ((dgt (l[k].toNat / 16)).toNat : Int)) W := fun W => run_digit W (l[k].toNat / 16) (by omega) .u8
      have r2 : ∀ W, (Instr.index 9 (.string digitsT) (.int .u8 ((l[k].toNat : Int) % 16))).run Try.prog W = .ok (.int .u8 ((dgt (l[k].toNat % 16)).toNat : Int)) W := fun W => run_digit W (l[k].toNat % 16) (by omega) .u8
      generalize dgt (l[k].toNat / 16) = d1 at *
      generalize dgt (l[k].toNat % 16) = d2 at *
      generalize l[k].toNat = x at *
      obtain ⟨W6, hW6⟩ : ∃ W6, W6 = (wr.drew.alloc (.cells #[.int .u8 (d1.toNat : Int), .int .u8 (d2.toNat : Int)] 5)) := ⟨_, rfl⟩
      have b6 : Below wr.heap.size wr W6 := by rw [hW6]; exact ((Below.refl _ _).drew).alloc (Nat.le_refl _) _
      obtain ⟨u7, w7, hr7, ho7, hg7⟩ := run_append_bytes (w := W6) 22 w.heap.size _ (.slice (some ⟨wr.heap.size, 0, none⟩) 2 2) (hexL (l.take k)) [d1, d2] (hown.below b6) (brow_blk (l := [d1, d2]) (by rw [hW6]; exact heap_alloc_last wr.drew _) rfl (by simp [maxLen]) rfl) (by rw [HLN.out, List.length_take]; simp; omega) (by rw [hW6]; simp; omega)
      obtain ⟨oa, on, oc, rfl⟩ := hown.shapeW
      obtain ⟨ua, un, uc, rfl⟩ := ho7.shapeW
      rw [← HT.out] at ho7
      have HF := Lib.hid (And.intro ho7 (show Below w.heap.size w w7 from (hb.trans (b6.mono hBr)).grown hg7 (by have := b6.size; omega) (fun g hg => ((hown.below b6).lt g hg).1)))
      have c7 := (HF.out.2.cell (by exact hbl)).trans hc
      have c8 := World.new_ne wr ⟨b, off + k, none⟩ hc2
      clear hown hb ho7 hg7 b6 hc
      subst hW6
      have t1 : (x : Int).tdiv 16 = (x : Int) / 16 := Int.tdiv_eq_ediv_of_nonneg (by omega)
      have t2 : (x : Int).tmod 16 = (x : Int) % 16 := Int.tmod_eq_emod_of_nonneg (by omega)
      have t3 : IntKind.u8.wrap ((x : Int) / 16) = (x : Int) / 16 := by rw [IntKind.wrap_u8']; omega
      have t4 : IntKind.u8.wrap ((x : Int) % 16) = (x : Int) % 16 := by rw [IntKind.wrap_u8']; omega
      go_wp2_with fail
      go_region_held3 (fun W => W.cell? ⟨b, off + k, none⟩ = some (.int .u8 (x : Int))) (first | exact c7 | go_keep) (refine step_append_run rfl _ _ 22 22 rfl _ _ _ _ rfl rfl hr7 ?_)
      all_goals
        clear t1 t2 t3 t4
        go_wp2_with fail
        refine ⟨⟨k + 1, by rw [Int.natCast_add]; rfl, by omega, HF.out⟩, ?_⟩
        simp only [intOf]
        omega
    · have hge : ¬ (k : Int) < (l.length : Int) := by omega
      have HK := Lib.hid (show k = l.length by omega)
      rw [HK.out, List.take_length] at hown
      have hcv := conv_row hown.row
      obtain ⟨oa, on, oc, rfl⟩ := hown.shapeW
      have HB := Lib.hid hb
      obtain ⟨E, hE⟩ : ∃ E, E = hexL l := ⟨_, rfl⟩
      rw [← hE] at hcv
      have HE := Lib.hid hE
      clear hown hb hE
      go_wp2_with fail
      go_ret
      exact ⟨by rw [← HE.out]; rfl, HB.out⟩
end Go.Proofs.Ytigdmgpejmfceaa
