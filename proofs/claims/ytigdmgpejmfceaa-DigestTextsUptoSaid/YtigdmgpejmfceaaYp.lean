/- The digest of bytes: the program's digestOf. -/
import Derived.Test.YtigdmgpejmfceaaYo
import Derived.RangeFuncLeaves
import Derived.Deep.RegionHeld3
namespace Go.Proofs.Ytigdmgpejmfceaa
open Go.RowKit Go.Shelf Su Yh
attribute [local go_sem] Oper.semAt_some

/-- Its answer. -/
def shaA (l : List UInt8) : Array Value := (Lib.byteCells (sha l)).toArray
theorem sha_two (l : List UInt8) : sha l = out5 (stirs (l.drop (l.length / 64 * 64) ++ ending l.length) ((l.drop (l.length / 64 * 64) ++ ending l.length).length / 64) (stirs (l.take (l.length / 64 * 64)) (l.length / 64) h0)) := by
  have hA : (l.take (l.length / 64 * 64)).length = l.length / 64 * 64 := by rw [List.length_take]; omega
  have e : padded l = l.take (l.length / 64 * 64) ++ (l.drop (l.length / 64 * 64) ++ ending l.length) := by
    unfold padded
    rw [← List.append_assoc, List.take_append_drop]
  have h := stirs_append (l.take (l.length / 64 * 64)) (l.drop (l.length / 64 * 64) ++ ending l.length) (l.length / 64) ((l.drop (l.length / 64 * 64) ++ ending l.length).length / 64) h0 hA
  unfold sha
  rw [← h, ← e]
  congr 2
  rw [e, List.length_append, hA]
  omega
theorem tail_len (l : List UInt8) : (l.drop (l.length / 64 * 64) ++ ending l.length).length % 64 = 0 ∧ (l.drop (l.length / 64 * 64) ++ ending l.length).length ≤ 200 := by
  have h1 := padded_len l.length
  have h2 := ending_len l.length
  have h3 := zeros_lt l.length
  rw [List.length_append, List.length_drop]
  omega
theorem cnt_div (L : Nat) (h : L % 64 = 0) : cnt L 64 = L / 64 := by unfold cnt; omega

theorem u8v (n e : Nat) : ((UInt8.ofNat (n / 2 ^ e)).toNat : Int) = (n : Int) / 2 ^ e % 256 := by
  rw [UInt8.toNat_ofNat']
  simp [Int.natCast_ediv, Int.natCast_emod]
theorem wpListIn_loads {F : Fence} {n : Nat} {P : Program} {ops : Array Oper} {rest : List Oper} {o : Oper} {a : Act} {w w' : World} {Q : Exit → Act → World → Prop}
    (hgd : o.guard = none) (t : TypeId) (p : Operand) (hop : o.op = Op.load t p) (u v : Value) (hp : a.eval p = u) (hr : (Instr.loadAt t u).run P w = .ok v w') (h : wpListIn F n P ops Q rest (a.put o.dst v) w') : wpListIn F n P ops Q (o :: rest) a w := by
  refine wpListIn_plain hgd fun K hK => ?_
  unfold Oper.wpIn
  refine ⟨?_, ?_⟩
  · simp [Oper.about, hop]
  · rw [Oper.semAt_plain F _ _ (by rw [hop]; intro c hc'; cases hc')]
    unfold execOp
    simp only [hop, Sem.run_bind, Sem.run_pure, Result.andThen_ok, hp, hr]
    exact hK _ _ h
theorem wpListIn_stores {F : Fence} {n : Nat} {P : Program} {ops : Array Oper} {rest : List Oper} {o : Oper} {a : Act} {w w' : World} {Q : Exit → Act → World → Prop}
    (hgd : o.guard = none) (t : TypeId) (p x : Operand) (hop : o.op = Op.store t p x) (u v : Value) (hp : a.eval p = u) (hx : a.eval x = v) (hr : (Instr.storeAt t u v).run P w = .ok () w') (h : wpListIn F n P ops Q rest (a.put o.dst undef) w') : wpListIn F n P ops Q (o :: rest) a w := by
  refine wpListIn_plain hgd fun K hK => ?_
  unfold Oper.wpIn
  refine ⟨?_, ?_⟩
  · simp [Oper.about, hop]
  · rw [Oper.semAt_plain F _ _ (by rw [hop]; intro c hc'; cases hc')]
    unfold execOp
    simp only [hop, Sem.run_bind, Sem.run_pure, Result.andThen_ok, hp, hx, hr]
    exact hK _ _ h
/-- What lies in memory while the bytes are laid. -/
structure FnSt (w : World) (db D D2 : Nat) (y : H5) (k : Nat) (W : World) : Prop where
  below : Below w.heap.size w W
  res : W.heap[w.heap.size]? = some (.cells (arrB [] 20) 35 (0, 0))
  hh : W.heap[w.heap.size + 1]? = some (.cells (c5 y) 49 (0, 0))
  arr : W.heap[db]? = some (.cells (arrB ((out5 y).take k) 20) 35 (0, 0))
  m1 : W.heap[D]? = some (.deferred (some []))
  m2 : W.heap[D2]? = some (.deferred (some []))
theorem FnSt.cell {w W : World} {db D D2 k : Nat} {y : H5} (h : FnSt w db D D2 y k W) (i : Nat) (hi : i < 20) : ∃ v, W.cell? ⟨db, i, none⟩ = some v ∧ W.frozen? ⟨db, i, none⟩ = false := by
  have hs : i < (arrB ((out5 y).take k) 20).size := by rw [arrB_size _ _ (by rw [List.length_take, out5_len]; omega)]; exact hi
  exact ⟨_, by rw [cell_of_row _ _ _ _ _ _ h.arr, Array.getElem?_eq_getElem hs], frozen_of_row _ _ _ _ _ h.arr⟩
theorem FnSt.set {w W : World} {db D D2 k : Nat} {y : H5} (h : FnSt w db D D2 y k W) (hk : k < 20) (hdb : w.heap.size + 1 < db) (x : UInt8) (hx : (out5 y).take (k + 1) = (out5 y).take k ++ [x]) : FnSt w db D D2 y (k + 1) (W.setCell ⟨db, k, none⟩ (.int .u8 (x.toNat : Int))) := by
  have hl : ((out5 y).take k).length = k := by rw [List.length_take, out5_len]; omega
  have hne : ∀ (i : Nat) (o : Obj), W.heap[i]? = some o → (∀ cs fr, o ≠ .cells cs 35 fr) → i ≠ db := fun i o hi ho e => by
    subst e
    rw [h.arr] at hi
    exact ho _ _ (Option.some.inj hi).symm
  refine ⟨h.below.setCell (by simp; omega) _, ?_, ?_, ?_, ?_, ?_⟩
  · rw [Below.heap_setCell _ _ _ _ (by simp; omega)]; exact h.res
  · rw [Below.heap_setCell _ _ _ _ (by simp; omega)]; exact h.hh
  · have h1 := Lib.heap_setCell_same (i := k) h.arr (.int .u8 (x.toNat : Int))
    have h2 := arrB_set ((out5 y).take k) 20 x (by rw [hl]; exact hk)
    rw [hl, ← hx] at h2
    rw [← h2]
    exact h1
  · rw [Below.heap_setCell _ _ _ _ (hne _ _ h.m1 (fun _ _ e => by cases e))]; exact h.m1
  · rw [Below.heap_setCell _ _ _ _ (hne _ _ h.m2 (fun _ _ e => by cases e))]; exact h.m2

set_option maxRecDepth 100000 in
set_option maxHeartbeats 8000000 in
theorem digestOf_any (v : Value) (l : List UInt8) (w : World) (h : BRow w v l) (hn : l.length ≤ 140737488355328) :
    Calls Try.prog 23 #[v] w fun e w' => e = .returned (.agg (shaA l)) ∧ Below w.heap.size w w' := by
  have HV := Lib.hid h
  obtain ⟨a, cap, rfl, g2, g3, _⟩ := h
  unfold maxLen at g3
  obtain ⟨whole, hwh⟩ : ∃ x, x = l.length / 64 * 64 := ⟨_, rfl⟩
  have hwl : whole ≤ l.length := by omega
  obtain ⟨_, hp1, a1, k1, hs1⟩ := row_part HV.out 0 whole (by omega) hwl
  obtain ⟨_, hp2, a2, k2, hs2⟩ := row_part HV.out whole l.length hwl (Nat.le_refl _)
  have r1 := fun W => run_head a l.length cap whole (by omega) W
  have r2 := fun W => run_tail a l.length cap whole hwl W
  rw [hs1] at hp1
  rw [hs2] at hp2
  simp only [hs1] at r1
  simp only [hs2] at r2
  simp only [List.drop_zero, Nat.sub_zero] at hp1 r1
  rw [List.take_of_length_le (by rw [List.length_drop]; omega)] at hp2
  have HP1 := Lib.hid hp1
  have HP2 := Lib.hid hp2
  have hw1 : ((l.length : Int) / 64 * 64) = (whole : Int) := by rw [hwh]; rfl
  have hl1 : (l.take whole).length = whole := by rw [List.length_take]; omega
  have hc1 : whole ≤ k1 := by have := conv_capO hp1; omega
  have HL1 := Lib.hid hl1
  have HSH := Lib.hid (sha_two l)
  have HTL := Lib.hid (tail_len l)
  rw [← hwh] at HSH HTL
  have HWH := Lib.hid hwh
  have hz20 := zero20
  clear hs1 hs2 hp1 hp2 hwh hl1
  refine (callsIn_wide (n := 0)).1 (callsIn_of_wp_marks Try.func23 rfl trivial ?_ rfl)
  simp only [Try.ntmps23, List.size_toArray, List.length_cons, List.length_nil, Nat.reduceAdd, Nat.reduceSub, Array.replicate_succ, Array.replicate_zero, List.push_toArray, List.append_toArray, List.nil_append, List.cons_append]
  gi_wp2
  refine ⟨trivial, rfl, (callsIn_wide.2 (chunk_any a1 whole k1 64 _ (by omega) (by omega))).mono ?_⟩
  rintro e w2 ⟨rfl, rfl⟩
  simp only [World.size_alloc]
  obtain ⟨Y, hY⟩ : ∃ Y, Y = (((w.alloc (.cells (arrB [] 20) 35)).alloc (.cells #[.int .u32 1732584193, .int .u32 4023233417, .int .u32 2562383102, .int .u32 271733878, .int .u32 3285377520] 49)).alloc (.cells #[.slice a1 whole k1] 22)).alloc (.cells #[.int .i64 ((64 : Nat) : Int)] 3) := ⟨_, rfl⟩
  rw [← hY]
  have sY : Y.heap.size = w.heap.size + 4 := by rw [hY]; simp
  have s0 : HsSt w.heap.size w w.heap.size (w.heap.size + 1) (w.heap.size + 1 + 1) (w.heap.size + 1 + 1 + 1) (.slice a1 whole k1) (.int .i64 ((64 : Nat) : Int)) (.slice none 0 0) [] (stirs (l.take whole) 0 h0) Y := by
    rw [hY]
    refine ⟨((((Below.refl _ w).alloc (Nat.le_refl _) _).alloc (by simp) _).alloc (by simp; omega) _).alloc (by simp; omega) _, ?_, ?_, ?_, ?_, nil_own _ _⟩
    · rw [Below.heap_alloc _ _ _ (by simp; omega), Below.heap_alloc _ _ _ (by simp; omega), Below.heap_alloc _ _ _ (by simp)]; exact heap_alloc_last w _
    · rw [Below.heap_alloc _ _ _ (by simp), Below.heap_alloc _ _ _ (by simp)]
      have := heap_alloc_last (w.alloc (.cells (arrB [] 20) 35)) (.cells #[.int .u32 1732584193, .int .u32 4023233417, .int .u32 2562383102, .int .u32 271733878, .int .u32 3285377520] 49)
      rw [World.size_alloc] at this
      exact this
    · have := (Boxed.new ((w.alloc (.cells (arrB [] 20) 35)).alloc (.cells #[.int .u32 1732584193, .int .u32 4023233417, .int .u32 2562383102, .int .u32 271733878, .int .u32 3285377520] 49)) 22 (.slice a1 whole k1)).alloc (.cells #[.int .i64 ((64 : Nat) : Int)] 3)
      simpa only [World.size_alloc] using this
    · have := Boxed.new (((w.alloc (.cells (arrB [] 20) 35)).alloc (.cells #[.int .u32 1732584193, .int .u32 4023233417, .int .u32 2562383102, .int .u32 271733878, .int .u32 3285377520] 49)).alloc (.cells #[.slice a1 whole k1] 22)) 3 (.int .i64 ((64 : Nat) : Int))
      simpa only [World.size_alloc] using this
  have HST := Lib.hid s0
  clear hY s0
  have HCL := Lib.hid (chunks_len a1 whole 64)
  have HAT := Lib.hid (chunks_at a1 whole 64)
  have HCN := Lib.hid (fun k => cnt_lt (L := whole) (n := 64) (k := k) (by omega))
  have HC64 := Lib.hid (cnt_div whole (by rw [HWH.out]; omega))
  gi_wp2
  refine range_it (chunk_iter w.heap.size (w.heap.size + 1 + 1) (w.heap.size + 1 + 1 + 1) a1 whole k1 64 TH (Kb (w.heap.size + 1 + 1) (w.heap.size + 1 + 1 + 1)) (fun _ _ => True) (by omega) (by omega) (by omega) hc1 (fun h => h.box)) rfl (enters_of Try.func33 (by kernel_rfl) rfl) (fun _ => rfl) (by omega) ?hS Kb.trans Kb.put
    (fun k W' => HsSt w.heap.size w w.heap.size (w.heap.size + 1) (w.heap.size + 1 + 1) (w.heap.size + 1 + 1 + 1) (.slice a1 whole k1) (.int .i64 ((64 : Nat) : Int)) (.slice none 0 0) [] (stirs (l.take whole) k h0) W') (fun c k W' => False)
    (fun _ _ _ h hs => h.step hs) (fun _ _ _ _ h hs => h) (fun _ _ _ _ _ => trivial) HST.out ?rnd ?done ?stop (fun _ _ _ _ => trivial)
  case hS =>
    intro W hb
    exact ⟨(hb.block _ (Boxed.lt HST.out.hs)).trans HST.out.hs, (hb.block _ (Boxed.lt HST.out.hn)).trans HST.out.hn⟩
  case stop =>
    rintro D c k W hle hk hx hD
    exact hx.elim
  case rnd =>
    rintro l' k hk W2 hle hI
    rw [HAT.out k hk]
    rw [HCL.out, HCN.out] at hk
    have HI := Lib.hid hI
    obtain ⟨a', hv⟩ := chV_shape a1 whole 64 k
    have hcl : chL whole 64 k = 64 := by have := HWH.out; unfold chL; omega
    have HR := Lib.hid (fun (W : World) (hb : Below w.heap.size w W) => show BRow W (.slice a' 64 64) (((l.take whole).drop (k * 64)).take 64) by
      have := chV_row (HP1.out.below hb) 64 k (by omega) (by rw [HL1.out]; exact hk)
      rw [HL1.out, hv, hcl] at this
      exact this)
    have HLL := Lib.hid (show (((l.take whole).drop (k * 64)).take 64).length = 64 by
      have := HWH.out
      rw [List.length_take, List.length_drop, HL1.out]; omega)
    have HSS := Lib.hid (show stirs (l.take whole) (k + 1) h0 = stir (stirs (l.take whole) k h0) (((l.take whole).drop (k * 64)).take 64) by rw [stirs])
    have HOK := Lib.hid (stirs_ok (l.take whole) k h0_ok)
    rw [hv, hcl]
    generalize ((l.take whole).drop (k * 64)).take 64 = cb at *
    clear hv hI hcl
    gi_wp2
    refine ⟨Rnd.refl _ _ _ _, Kb.refl _ _ _, HI.out, fun W4 hs hsz4 ⟨r4, hr4⟩ => ?_⟩
    have HI4 := Lib.hid (HI.out.step (hs.more (own' := []) (fun _ h => h) (fun _ _ h => h) (Nat.le_refl _)))
    clear hs hr4 HI
    obtain ⟨x, hx⟩ : ∃ x, x = stirs (l.take whole) k h0 := ⟨_, rfl⟩
    rw [← hx] at HI4 HSS HOK
    have HX := Lib.hid hx
    obtain ⟨⟨c0, c1, c2, c3, c4⟩, _⟩ := cells5 HI4.out.hh
    have hB4 : w.heap.size ≤ W4.heap.size := HI4.out.below.size
    clear hx
    gi_wp2
    refine ⟨trivial, rfl, CallsIn.inRound _ ((callsIn_wide.2 (stirred_any (.slice a' 64 64) cb x W4 (HR.out W4 HI4.out.below) HLL.out HOK.out)).mono ?_)⟩
    rintro e w5 ⟨rfl, hb5⟩
    have HE5 := Lib.hid (fun y => hs_end (N := Y.heap.size) (C := w5) HI4.out hB4 (by omega) (by omega) (by omega) (by omega) hb5 y)
    have h5 := (hb5.block _ (Array.getElem?_eq_some_iff.1 HI4.out.hh).1).trans HI4.out.hh
    obtain ⟨⟨d0, d1, d2, d3, d4⟩, f0, f1, f2, f3, f4⟩ := cells5 h5
    rw [← HSS.out]
    have HSS2 := Lib.hid HSS.out
    generalize hy : stirs (l.take whole) (k + 1) h0 = y at *
    have HY := Lib.hid hy
    clear hy
    rw [show c5 y = #[.int .u32 (y.a : Int), .int .u32 (y.b : Int), .int .u32 (y.c : Int), .int .u32 (y.d : Int), .int .u32 (y.e : Int)] from rfl]
    clear hb5 h5 c0 c1 c2 c3 c4
    gi_wp2
    obtain ⟨e1, e2, e3⟩ := HE5.out y
    refine ⟨e1, e2, ?_⟩
    show HsSt w.heap.size w w.heap.size (w.heap.size + 1) (w.heap.size + 1 + 1) (w.heap.size + 1 + 1 + 1) (.slice a1 whole k1) (.int .i64 ((64 : Nat) : Int)) (.slice none 0 0) [] (stirs (l.take whole) (k + 1) h0) _
    rw [HY.out]
    exact e3
  case done =>
    rintro D W hle hI _ hD
    rw [HCL.out, HC64.out] at hI
    have hB := hI.below.size
    have HR9 := Lib.hid (hI.below)
    have HI := Lib.hid hI
    have HD := Lib.hid hD
    have HEN := Lib.hid (ending_any l.length W.drew (by omega))
    have HTLE := Lib.hid (ending_len l.length)
    have hz64 := zeros_lt l.length
    have hdl : (l.drop whole).length + (ending l.length).length ≤ 140737488355328 := by rw [HTLE.out, List.length_drop]; have := HWH.out; omega
    have HDL := Lib.hid hdl
    have HCH := Lib.hid (fun (x : Option Addr) (m c : Nat) (X : World) => show Calls Try.prog 26 #[.slice x m c, .int .i64 64] X (fun e w' => e = .returned (.func (.func 33) #[] #[.pointer (some ⟨X.heap.size, 0, none⟩), .pointer (some ⟨X.heap.size + 1, 0, none⟩)]) ∧ w' = (X.alloc (.cells #[.slice x m c] 22)).alloc (.cells #[.int .i64 ((64 : Nat) : Int)] 3)) from chunk_any x m c 64 X (by omega) (by omega))
    clear hI hD hdl
    gi_wp2
    refine wpIn_wide.2 (wp_region_noPanic ?_)
    go_region_with (first
      | (go_at_call 26; (with_reducible refine (HCH.out ua un uc w6).mono ?_); rintro e w7 ⟨rfl, rfl⟩)
      | (go_at_call 30; (with_reducible refine (concat_any w5.heap.size (.slice a2 (l.length - whole) k2) (.slice ea en ec) (l.drop whole) (ending l.length) (w5.alloc (.cells #[.slice a2 (l.length - whole) k2, .slice ea en ec] 22)) (by simp) (by simp) (by simp) (HA1.out _ ((Below.refl _ _).alloc (Nat.le_refl _) _)) (HA2.out _ ((Below.refl _ _).alloc (Nat.le_refl _) _)) (by rw [HTLE.out]; omega) HDL.out).mono ?_); rintro e w6 ⟨cv, rfl, hoc, hbc⟩; have hbc2 : Below w5.heap.size w5 w6 := ((Below.refl w5.heap.size w5).alloc (Nat.le_refl _) _).trans (hbc.mono (by simp)); obtain ⟨ua, un, uc, rfl, hun⟩ := hoc.shapeQ; have HUN := Lib.hid hun; have HOC := Lib.hid hoc; have HBC := Lib.hid (And.intro hbc2 hbc); clear hoc hbc hbc2 hun)
      | (go_at_call 31; (with_reducible refine HEN.out.mono ?_); rintro e w5 ⟨ev, rfl, hoe, hbe⟩; obtain ⟨ea, en, ec, rfl⟩ := hoe.shapeW; have HBE := Lib.hid hbe; have HA1 := Lib.hid (fun (X : World) (hX : Below w5.heap.size w5 X) => HP2.out.below ((HR9.out.drew.trans (hbe.mono hB)).trans (hX.mono (Nat.le_trans hB hbe.size)))); have HA2 := Lib.hid (fun (X : World) (hX : Below w5.heap.size w5 X) => hoe.row.below hX); clear hoe hbe))
    refine NoPanic.normal ?_
    clear HEN HCH
    obtain ⟨T, hT⟩ : ∃ T, T = l.drop whole ++ ending l.length := ⟨_, rfl⟩
    rw [← hT] at HOC HUN HSH HTL
    have HUN2 := HUN.out
    subst HUN2
    obtain ⟨x0, hx0⟩ : ∃ x, x = stirs (l.take whole) (whole / 64) h0 := ⟨_, rfl⟩
    have hdiv : l.length / 64 = whole / 64 := by have := HWH.out; omega
    rw [hdiv] at HSH
    rw [← hx0] at HI HSH
    have HX0 := Lib.hid (show x0.Ok by rw [hx0]; exact stirs_ok _ _ h0_ok)
    have hW5 : W.heap.size ≤ w5.heap.size := HBE.out.size
    have hW6 : w5.heap.size ≤ w6.heap.size := HBC.out.1.size
    obtain ⟨Y2, hY2⟩ : ∃ Y2, Y2 = (w6.alloc (.cells #[.slice ua T.length uc] 22)).alloc (.cells #[.int .i64 64] 3) := ⟨_, rfl⟩
    rw [← hY2]
    have sY2 : Y2.heap.size = w6.heap.size + 2 := by rw [hY2]; simp
    have BY2 : Below W.heap.size W Y2 := by
      rw [hY2]
      have h1 : Below W.heap.size W w6 := ((Below.refl W.heap.size W).drew.trans HBE.out).trans (HBC.out.1.mono hW5)
      exact (h1.alloc h1.size _).alloc (by have := h1.size; simp; omega) _
    have B6 : Below w6.heap.size w6 Y2 := by rw [hY2]; exact ((Below.refl _ w6).alloc (Nat.le_refl _) _).alloc (by simp) _
    have s2 : HsSt w.heap.size w w.heap.size (w.heap.size + 1) w6.heap.size (w6.heap.size + 1) (.slice ua T.length uc) (.int .i64 ((64 : Nat) : Int)) (.slice ua T.length uc) T (stirs T 0 x0) Y2 := by
      refine ⟨HI.out.below.trans (BY2.mono hB), (BY2.block _ (Array.getElem?_eq_some_iff.1 HI.out.res).1).trans HI.out.res, (BY2.block _ (Array.getElem?_eq_some_iff.1 HI.out.hh).1).trans HI.out.hh, ?_, ?_, (own_low HOC.out (by simp; omega)).below B6⟩
      · rw [hY2]; exact (Boxed.new w6 22 _).alloc _
      · rw [hY2]
        have := Boxed.new (w6.alloc (.cells #[.slice ua T.length uc] 22)) 3 (.int .i64 64)
        rw [World.size_alloc] at this
        exact this
    have HST2 := Lib.hid s2
    have HD2 := Lib.hid (show Y2.heap[D]? = some (.deferred (some [])) from (BY2.block _ (Array.getElem?_eq_some_iff.1 HD.out).1).trans HD.out)
    have hDl : D < Y2.heap.size := (Array.getElem?_eq_some_iff.1 HD2.out).1
    have hc6 : T.length ≤ uc := conv_capO HOC.out.row
    clear hT hx0 hY2 s2 BY2 B6 HBE HBC HOC HA1 HA2 HI HD HTLE HDL HST
    obtain ⟨tl1, tl2⟩ := HTL.out
    have HCL2 := Lib.hid (chunks_len ua T.length 64)
    have HAT2 := Lib.hid (chunks_at ua T.length 64)
    have HCN2 := Lib.hid (fun k => cnt_lt (L := T.length) (n := 64) (k := k) (by omega))
    have HC642 := Lib.hid (cnt_div T.length tl1)
    generalize w6.heap.size = nb at *
    gi_wp2
    refine range_it (chunk_iter w.heap.size nb (nb + 1) ua T.length uc 64 TH (Kb nb (nb + 1)) (fun _ _ => True) (by omega) (by omega) (by omega) hc6 (fun h => h.box)) rfl (enters_of Try.func33 (by kernel_rfl) rfl) (fun _ => rfl) (by omega) ?hS2 Kb.trans Kb.put
      (fun k W' => HsSt w.heap.size w w.heap.size (w.heap.size + 1) nb (nb + 1) (.slice ua T.length uc) (.int .i64 ((64 : Nat) : Int)) (.slice ua T.length uc) T (stirs T k x0) W' ∧ W'.heap[D]? = some (.deferred (some []))) (fun c k W' => False)
      (fun _ _ _ h hs => ⟨h.1.step hs, hs.other D _ hDl h.2 rfl⟩) (fun _ _ _ _ h hs => h) (fun _ _ _ _ _ => trivial) ⟨HST2.out, HD2.out⟩ ?rnd2 ?done2 ?stop2 (fun _ _ _ _ => trivial)
    case hS2 =>
      intro W hb
      exact ⟨(hb.block _ (Boxed.lt HST2.out.hs)).trans HST2.out.hs, (hb.block _ (Boxed.lt HST2.out.hn)).trans HST2.out.hn⟩
    case stop2 =>
      rintro D c k W hle hk hx hD
      exact hx.elim
    case rnd2 =>
      rintro l' k hk W2 hle2 ⟨hI, hM⟩
      rw [HAT2.out k hk]
      rw [HCL2.out, HCN2.out] at hk
      have HI := Lib.hid hI
      have HM := Lib.hid hM
      obtain ⟨a', hv⟩ := chV_shape ua T.length 64 k
      have hcl : chL T.length 64 k = 64 := by unfold chL; omega
      have HR := Lib.hid (fun (W : World) (hb : OwnU W w.heap.size (.slice ua T.length uc) T) => show BRow W (.slice a' 64 64) ((T.drop (k * 64)).take 64) by
        have := chV_row hb.row 64 k (by omega) hk
        rw [hv, hcl] at this
        exact this)
      have HLL := Lib.hid (show ((T.drop (k * 64)).take 64).length = 64 by rw [List.length_take, List.length_drop]; omega)
      have HSS := Lib.hid (show stirs T (k + 1) x0 = stir (stirs T k x0) ((T.drop (k * 64)).take 64) by rw [stirs])
      have HOK := Lib.hid (stirs_ok T k HX0.out)
      rw [hv, hcl]
      generalize (T.drop (k * 64)).take 64 = cb at *
      clear hv hI hM hcl
      gi_wp2
      refine ⟨Rnd.refl _ _ _ _, Kb.refl _ _ _, ⟨HI.out, HM.out⟩, fun W4 hs hsz4 ⟨r4, hr4⟩ => ?_⟩
      have HI4 := Lib.hid (HI.out.step (hs.more (own' := []) (fun _ h => h) (fun _ _ h => h) (Nat.le_refl _)))
      have HM4 := Lib.hid (hs.other D _ hDl HM.out rfl)
      clear hs hr4 HI HM
      obtain ⟨x, hx⟩ : ∃ x, x = stirs T k x0 := ⟨_, rfl⟩
      rw [← hx] at HI4 HSS HOK
      have HX := Lib.hid hx
      obtain ⟨⟨c0, c1, c2, c3, c4⟩, _⟩ := cells5 HI4.out.hh
      have hB4 : w.heap.size ≤ W4.heap.size := HI4.out.below.size
      clear hx
      gi_wp2
      refine ⟨trivial, rfl, CallsIn.inRound _ ((callsIn_wide.2 (stirred_any (.slice a' 64 64) cb x W4 (HR.out W4 HI4.out.own) HLL.out HOK.out)).mono ?_)⟩
      rintro e w5 ⟨rfl, hb5⟩
      have HE5 := Lib.hid (fun y => hs_end (N := Y2.heap.size) (C := w5) HI4.out hB4 (by omega) (by omega) (by omega) (by omega) hb5 y)
      have hMd : D ≠ w.heap.size + 1 := fun e => by
        have h1 := HI4.out.hh
        rw [← e, HM4.out] at h1
        cases h1
      have HM5 := Lib.hid (fun y => (set5_other (w := w5) (.int .u32 (y : H5).a) (.int .u32 y.b) (.int .u32 y.c) (.int .u32 y.d) (.int .u32 y.e) hMd).trans ((hb5.block _ (Array.getElem?_eq_some_iff.1 HM4.out).1).trans HM4.out))
      have h5 := (hb5.block _ (Array.getElem?_eq_some_iff.1 HI4.out.hh).1).trans HI4.out.hh
      obtain ⟨⟨d0, d1, d2, d3, d4⟩, f0, f1, f2, f3, f4⟩ := cells5 h5
      rw [← HSS.out]
      have HSS2 := Lib.hid HSS.out
      generalize hy : stirs T (k + 1) x0 = y at *
      have HY := Lib.hid hy
      clear hy
      rw [show c5 y = #[.int .u32 (y.a : Int), .int .u32 (y.b : Int), .int .u32 (y.c : Int), .int .u32 (y.d : Int), .int .u32 (y.e : Int)] from rfl]
      clear hb5 h5 c0 c1 c2 c3 c4 hMd
      gi_wp2
      obtain ⟨e1, e2, e3⟩ := HE5.out y
      refine ⟨e1, e2, ?_, HM5.out y⟩
      show HsSt w.heap.size w w.heap.size (w.heap.size + 1) nb (nb + 1) (.slice ua T.length uc) (.int .i64 ((64 : Nat) : Int)) (.slice ua T.length uc) T (stirs T (k + 1) x0) _
      rw [HY.out]
      exact e3
    case done2 =>
      rintro D2 W9 hle2 hI _ hD9
      rw [HCL2.out, HC642.out] at hI
      have HI := Lib.hid hI
      have HD9 := Lib.hid hD9
      have hB9 := hI.1.below.size
      clear hI hD9
      obtain ⟨y, hy⟩ : ∃ y, y = stirs T (T.length / 64) x0 := ⟨_, rfl⟩
      rw [← hy] at HI HSH
      have HOY := Lib.hid (l5_lt y (by rw [hy]; exact stirs_ok _ _ HX0.out))
      have HS0 := Lib.hid (show FnSt w W9.heap.size D D2 y 0 (W9.alloc (.cells (arrB [] 20) 35)) from by
        have hb : Below W9.heap.size W9 (W9.alloc (.cells (arrB [] 20) 35)) := (Below.refl _ _).alloc (Nat.le_refl _) _
        exact ⟨HI.out.1.below.trans (hb.mono hB9), (hb.block _ (Array.getElem?_eq_some_iff.1 HI.out.1.res).1).trans HI.out.1.res, (hb.block _ (Array.getElem?_eq_some_iff.1 HI.out.1.hh).1).trans HI.out.1.hh, heap_alloc_last _ _, (hb.block _ (Array.getElem?_eq_some_iff.1 HI.out.2).1).trans HI.out.2, (hb.block _ (Array.getElem?_eq_some_iff.1 HD9.out).1).trans HD9.out⟩)
      have hneD : D ≠ D2 := by omega
      have hdb : w.heap.size + 1 < W9.heap.size := (Array.getElem?_eq_some_iff.1 HI.out.1.hh).1
      clear hy HI HD9
      gi_wp2
      generalize W9.heap.size = db at *
      gi_loopw [8, 35] (fun _ i wr => ∃ k : Nat, i = .int .i64 (k : Int) ∧ k ≤ 20 ∧ FnSt w db D D2 y k wr) (fun _ i _ => 20 - (intOf i).toNat)
      case atStart => exact ⟨0, rfl, by omega, HS0.out⟩
      case round =>
        obtain ⟨k, rfl, hk, hst⟩ := hrel
        by_cases hlt : k < 20
        · have hlt' : (k : Int) < 20 := by omega
          obtain ⟨c0, _⟩ := cell5 hst.hh (k / 4) (by omega)
          have g0 := HOY.out (k / 4)
          have HO := Lib.hid (out5_at y k hlt)
          have HST := Lib.hid hst
          obtain ⟨vd, cd, fd⟩ := hst.cell k hlt
          generalize (l5 y).getD (k / 4) 0 = n at *
          clear hst
          have HU := Lib.hid (u8v n (24 - 8 * (k % 4)))
          gi_wp2
          refine ⟨⟨k + 1, by rw [Int.natCast_add]; rfl, by omega, ?_⟩, ?_⟩
          · rw [← HU.out]
            exact HST.out.set hlt hdb _ HO.out
          · simp only [intOf]
            omega
        · have hk20 : k = 20 := by omega
          subst hk20
          have HST := Lib.hid hst
          have hfull : arrB ((out5 y).take 20) 20 = shaA l := by
            rw [List.take_of_length_le (by rw [out5_len]; exact Nat.le_refl _), arrB_full _ _ (out5_len y), ← HSH.out]; rfl
          have harr := HST.out.arr
          have hres := HST.out.res
          rw [hfull] at harr
          have hsz : (shaA l).size = 20 := by rw [← hfull, arrB_size _ _ (by rw [List.length_take, out5_len]; omega)]
          have hone : (shaA l).all (·.oneCell') = true := by rw [← hfull]; exact arrB_one _ _
          have hst2 : (Instr.storeAt 35 (.pointer (some ⟨w.heap.size, 0, none⟩)) (.agg (shaA l))).run Try.prog wr = .ok () (wr.setRow w.heap.size (shaA l)) := by
            simp only [Instr.storeAt, Instr.sureAddr, Sem.run_bind, Sem.run_pure, Result.andThen]
            exact run_storeVar_row (P := Try.prog) wr w.heap.size 35 35 (arrB [] 20) (shaA l) hres (by rw [hsz]; exact size20) (by rw [hsz, arrB_size _ _ (by simp)]) hone
          have hld : (Instr.loadAt 35 (.pointer (some ⟨db, 0, none⟩))).run Try.prog wr = .ok (.agg (shaA l)) wr := by
            simp only [Instr.loadAt, Instr.sureAddr, Sem.run_bind, Sem.run_pure, Result.andThen_ok]
            exact run_loadVar_row (P := Try.prog) wr db 35 35 (shaA l) (0, 0) _ harr Try.underlying35 rfl (by rw [hsz]; exact size20)
          have HS2 := Lib.hid hst2
          have HLD := Lib.hid hld
          have HRS := Lib.hid (setRow_heap wr w.heap.size (arrB [] 20) (shaA l) 35 (0, 0) hres)
          have HSZ := Lib.hid hsz
          have hoth : ∀ (i : Nat), wr.heap[i]? = some (.deferred (some [])) → (wr.setRow w.heap.size (shaA l)).heap[i]? = some (.deferred (some [])) := fun i hi => by
            rw [setRow_other wr w.heap.size i _ (fun e => by subst e; rw [hres] at hi; cases hi)]; exact hi
          have HM1 := Lib.hid (hoth D HST.out.m1)
          have HM2 := Lib.hid (hoth D2 HST.out.m2)
          have HB := Lib.hid (below_setRow HST.out.below (Nat.le_refl _) (shaA l))
          clear hst hst2 hld harr hres hsz hone hfull hlt hoth
          gi_wp2_with (first | (refine wpListIn_loads rfl 35 _ rfl _ _ rfl HLD.out ?_; clear HLD) | (refine wpListIn_stores rfl 35 _ _ rfl _ _ rfl rfl HS2.out ?_; clear HS2))
          have hm1 := HM1.out
          have hm2 := HM2.out
          have hrs := HRS.out
          have hb := HB.out
          have hsz := HSZ.out
          have hdl2 : w.heap.size ≤ D := by omega
          have hdl3 : w.heap.size ≤ D2 := by omega
          generalize wr.setRow w.heap.size (shaA l) = V at *
          have hD12 : (V.putObj D2 (.deferred none)).heap[D]? = some (.deferred (some [])) := by
            by_cases e : D = D2
            · exact absurd (hneD) (fun h => h e)
            · exact putObj_other hm2 hm1 e
          refine ⟨by simp, .inl ⟨_, _, rfl, run_takeDeferred hm2, by simp, .inl ⟨_, _, rfl, run_takeDeferred hD12, ?_⟩⟩⟩
          refine ⟨.agg (shaA l), results_cell_row rfl _ _ w.heap.size 35 (shaA l) (0, 0) _ rfl (putObj_cells hD12 rfl (putObj_cells hm2 rfl hrs)) Try.underlying35 rfl (by rw [hsz]; exact size20), rfl, ?_⟩
          exact (hb.trans (below_put hdl3 hm2)).trans (below_put hdl2 hD12)
end Go.Proofs.Ytigdmgpejmfceaa
