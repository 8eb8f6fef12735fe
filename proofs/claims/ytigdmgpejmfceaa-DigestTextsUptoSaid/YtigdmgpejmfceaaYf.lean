/- Bytes in base sixteen: the program's Hex. -/
import Derived.Test.YtigdmgpejmfceaaYe
namespace Go.Proofs.Ytigdmgpejmfceaa
open Go.RowKit Su Yg

/-- An append as an operation of a region that draws. -/
theorem step_append_run {P : Program} {ops : Array Oper} {o : Oper} {a : Act} {w : World} {K : Act → World → Prop} {Q : Exit → Act → World → Prop} {E : Prop}
    (hg : o.guard = none) (s x : Operand) (t u : TypeId) (hop : o.op = Op.call { callee := Callee.builtin Builtin.append, args := #[s, x], argTypes := #[t, u] })
    (v y v' : Value) (w' : World) (hs : a.eval s = v) (hx : a.eval x = y) (hr : (Builtin.append_ #[t, u] o.type #[v, y]).run P w = .ok v' w') (h : K (a.put o.dst v') w') :
    if Region.wanted o (yielded ops a.tmps) = true then Oper.wp P o a w K Q else E := by
  have hw : Region.wanted o (yielded ops a.tmps) = true := by simp [Region.wanted, hg]
  rw [if_pos hw]
  unfold Oper.wp
  simp [execOp, hop, resolve, invoke, builtin, hs, hx, hr, Result.andThen]
  exact h
abbrev digitsT : ByteArray := ⟨#[48, 49, 50, 51, 52, 53, 54, 55, 56, 57, 97, 98, 99, 100, 101, 102]⟩
theorem digits_size : digitsT.size = 16 := rfl
theorem digit_at (n : Nat) (hb : n < digitsT.size) : digitsT[n]'hb = dgt n := by
  have H : ∀ i : Fin 16, digitsT[i.1]'(show i.1 < digitsT.size from i.2) = dgt i.1 := by decide +kernel
  exact H ⟨n, hb⟩
theorem run_digit (W : World) (n : Nat) (h : n < 16) (k : IntKind) : (Instr.index 9 (.string digitsT) (.int k (n : Int))).run Try.prog W = .ok (.int .u8 ((dgt n).toNat : Int)) W := by
  rw [run_index_string W 9 _ _ _ Try.underlying9, dif_pos ⟨by omega, by rw [digits_size]; omega⟩]
  have e := digit_at n (by rw [digits_size]; exact h)
  simp only [Int.toNat_natCast]
  rw [e]
theorem hex_take (l : List UInt8) (k : Nat) (h : k < l.length) : hexL (l.take (k + 1)) = hexL (l.take k) ++ [dgt (l[k].toNat / 16), dgt (l[k].toNat % 16)] := by
  rw [List.take_succ_eq_append_getElem h, hex_snoc]

set_option maxRecDepth 100000 in
set_option maxHeartbeats 4000000 in
theorem hex_any (v : Value) (l : List UInt8) (w : World) (h : BRow w v l) (hn : l.length * 2 + 64 ≤ 140737488355328) :
    Calls Try.prog 18 #[v] w fun e w' => e = .returned (.string (txB (hexL l))) ∧ Below w.heap.size w w' := by
  have HV := Lib.hid h
  obtain ⟨a, cap, rfl, g2, g3, g4, g5⟩ := h
  unfold maxLen at g3
  have H5 := Lib.hid g5
  clear g4 g5
  obtain ⟨W1, hr1, ho1, hb1⟩ := made_own w (2 * l.length) (by omega)
  have hr1' : (Instr.makeSlice 22 (.int .i64 0) (.int .i64 (2 * (l.length : Int)))).run Try.prog w = .ok (.slice (some ⟨w.heap.size, 0, none⟩) 0 (2 * l.length)) W1 := hr1
  have HO1 := Lib.hid ho1
  have HB1 := Lib.hid hb1
  have s1 := hb1.size
  have HLN := Lib.hid (fun k => hex_len (l.take k))
  generalize 2 * l.length = room at hr1' HO1
  clear ho1 hb1 hr1
  go_enter Try.func18, Try.ntmps18
  go_wp2_with fail
  go_loopw [3, 5, 12] (fun o _ i wr => ∃ k : Nat, i = .int .i64 (k : Int) ∧ k ≤ l.length ∧ OwnU wr w.heap.size o (hexL (l.take k)) ∧ Below w.heap.size w wr) (fun _ _ i _ => l.length - (intOf i).toNat)
  case atStart => exact ⟨0, rfl, Nat.zero_le _, HO1.out, HB1.out⟩
  case round =>
    obtain ⟨k, rfl, hk, hown, hb⟩ := hrel
    have hBr := hb.size
    by_cases hlt : k < l.length
    · have hlt' : (k : Int) < (l.length : Int) := by omega
      obtain ⟨b, off, rfl, hbl, hc⟩ := H5.out k hlt
      have hc2 : wr.cell? ⟨b, off + k, none⟩ = some (.int .u8 (l[k].toNat : Int)) := (hb.cell (by exact hbl)).trans hc
      have HT := Lib.hid (hex_take l k hlt)
      have hx := u8_lt l[k]
      have r1 : ∀ W, (Instr.index 9 (.string digitsT) (.int .u8 ((l[k].toNat : Int) / 16))).run Try.prog W = .ok (.int .u8 ((dgt (l[k].toNat / 16)).toNat : Int)) W := fun W => run_digit W (l[k].toNat / 16) (by omega) .u8
      have r2 : ∀ W, (Instr.index 9 (.string digitsT) (.int .u8 ((l[k].toNat : Int) % 16))).run Try.prog W = .ok (.int .u8 ((dgt (l[k].toNat % 16)).toNat : Int)) W := fun W => run_digit W (l[k].toNat % 16) (by omega) .u8
      generalize dgt (l[k].toNat / 16) = d1 at *
      generalize dgt (l[k].toNat % 16) = d2 at *
      generalize l[k].toNat = x at *
      obtain ⟨W6, hW6⟩ : ∃ W6, W6 = (wr.drew.alloc (.cells #[.int .u8 (d1.toNat : Int), .int .u8 (d2.toNat : Int)] 5)) := ⟨_, rfl⟩
      have b6 : Below wr.heap.size wr W6 := by rw [hW6]; exact ((Below.refl _ _).drew).alloc (Nat.le_refl _) _
      obtain ⟨u7, w7, hr7, ho7, hg7⟩ := run_append_bytes (w := W6) 22 w.heap.size _ (.slice (some ⟨wr.heap.size, 0, none⟩) 2 2) (hexL (l.take k)) [d1, d2] (hown.below b6) (brow_blk (l := [d1, d2]) (by rw [hW6]; exact heap_alloc_last wr.drew _) rfl (by simp [maxLen]) rfl) (by rw [HLN.out, List.length_take]; simp; omega) (by rw [hW6]; simp; omega)
      obtain ⟨oa, on, oc, rfl⟩ := hown.shapeW
      obtain ⟨ua, un, uc, rfl⟩ := ho7.shapeW
      rw [← HT.out] at ho7
      have HF := Lib.hid (And.intro ho7 (show Below w.heap.size w w7 from (hb.trans (b6.mono hBr)).grown hg7 (by have := b6.size; omega) (fun g hg => ((hown.below b6).lt g hg).1)))
      clear hown hb ho7 hg7 b6 hc
      subst hW6
      have t1 : (x : Int).tdiv 16 = (x : Int) / 16 := Int.tdiv_eq_ediv_of_nonneg (by omega)
      have t2 : (x : Int).tmod 16 = (x : Int) % 16 := Int.tmod_eq_emod_of_nonneg (by omega)
      have t3 : IntKind.u8.wrap ((x : Int) / 16) = (x : Int) / 16 := by rw [IntKind.wrap_u8']; omega
      have t4 : IntKind.u8.wrap ((x : Int) % 16) = (x : Int) % 16 := by rw [IntKind.wrap_u8']; omega
      go_wp2_with fail
      go_region_held3 (fun _ => True) (trivial) (refine step_append_run rfl _ _ 22 22 rfl _ _ _ _ rfl rfl hr7 ?_)
      all_goals
        clear t1 t2 t3 t4
        go_wp2_with fail
        refine ⟨⟨k + 1, by rw [Int.natCast_add]; rfl, by omega, HF.out⟩, ?_⟩
        simp only [intOf]
        omega
    · have hge : ¬ (k : Int) < (l.length : Int) := by omega
      have HK := Lib.hid (show k = l.length by omega)
      rw [HK.out, List.take_length] at hown
      have hcv := conv_row hown.row
      obtain ⟨oa, on, oc, rfl⟩ := hown.shapeW
      have HB := Lib.hid hb
      obtain ⟨E, hE⟩ : ∃ E, E = hexL l := ⟨_, rfl⟩
      rw [← hE] at hcv
      have HE := Lib.hid hE
      clear hown hb hE
      go_wp2_with fail
      go_ret
      exact ⟨by rw [← HE.out]; rfl, HB.out⟩
end Go.Proofs.Ytigdmgpejmfceaa
