/- The words of 64 bytes: the program's spread. -/
import Derived.Test.YtigdmgpejmfceaaYi
import Derived.Lib.BufferMore
import Derived.Laws.Tables
import Derived.Laws.CopyOwn
import Derived.Deep.RegionHeld3
namespace Go.Proofs.Ytigdmgpejmfceaa
open Go.RowKit Su Yh

theorem wpList_loads {P : Program} {ops : Array Oper} {rest : List Oper} {o : Oper} {a : Act} {w w' : World} {Q : Exit → Act → World → Prop}
    (hgd : o.guard = none) (t : TypeId) (p : Operand) (hop : o.op = Op.load t p) (u v : Value) (hp : a.eval p = u) (hr : (Instr.loadAt t u).run P w = .ok v w') (h : wpList P ops Q rest (a.put o.dst v) w') : wpList P ops Q (o :: rest) a w := by
  refine wpList_plain hgd fun K hK => ?_
  unfold Oper.wp execOp
  simp only [hop, Sem.run_bind, Sem.run_pure, Result.andThen_ok, hp, hr]
  exact hK _ _ h
theorem wpList_stores {P : Program} {ops : Array Oper} {rest : List Oper} {o : Oper} {a : Act} {w w' : World} {Q : Exit → Act → World → Prop}
    (hgd : o.guard = none) (t : TypeId) (p x : Operand) (hop : o.op = Op.store t p x) (u v : Value) (hp : a.eval p = u) (hx : a.eval x = v) (hr : (Instr.storeAt t u v).run P w = .ok () w') (h : wpList P ops Q rest (a.put o.dst undef) w') : wpList P ops Q (o :: rest) a w := by
  refine wpList_plain hgd fun K hK => ?_
  unfold Oper.wp execOp
  simp only [hop, Sem.run_bind, Sem.run_pure, Result.andThen_ok, hp, hx, hr]
  exact hK _ _ h
/-- Numbers as an array, noughts behind them. -/
def arrN (l : List Nat) (n : Nat) : Array Value := ((List.range n).map fun i => Value.int .u32 ((l.getD i 0 : Nat) : Int)).toArray
theorem arrN_size (l : List Nat) (n : Nat) : (arrN l n).size = n := by simp [arrN]
theorem arrN_at (l : List Nat) (n i : Nat) (h : i < n) : (arrN l n)[i]? = some (.int .u32 ((l.getD i 0 : Nat) : Int)) := by simp [arrN, h]
theorem arrN_one (l : List Nat) (n : Nat) : (arrN l n).all (·.oneCell') = true := by
  rw [Array.all_eq_true]
  intro i hi
  simp [arrN, Value.oneCell']
theorem arrN_set {l m : List Nat} {n k v : Nat} (hv : m.getD k 0 = v) (ho : ∀ i, i ≠ k → m.getD i 0 = l.getD i 0) : (arrN l n).setIfInBounds k (.int .u32 (v : Int)) = arrN m n := by
  apply Array.ext_getElem?
  intro i
  rw [Array.getElem?_setIfInBounds]
  by_cases hi : i < n
  · rw [arrN_at _ _ _ hi]
    split
    · rename_i e
      subst e
      rw [if_pos (by rw [arrN_size]; exact hi), arrN_at _ _ _ hi, hv]
    · rename_i e
      rw [arrN_at _ _ _ hi, ho i (fun h => e h.symm)]
  · have e1 : ∀ j : List Nat, (arrN j n)[i]? = none := fun j => Array.getElem?_eq_none (by rw [arrN_size]; omega)
    rw [e1, e1]
    split
    · rw [if_neg (by rw [arrN_size]; omega)]
    · rfl
/-- The words when so many bytes are in. -/
def pw (c : List UInt8) (j : Nat) : List Nat := (List.range 16).map fun i => val (((c.take j).drop (4 * i)).take 4)
theorem pw_at (c : List UInt8) (j i : Nat) : (pw c j).getD i 0 = if i < 16 then val (((c.take j).drop (4 * i)).take 4) else 0 := by
  unfold pw
  rw [List.getD_eq_getElem?_getD, List.getElem?_map]
  by_cases h : i < 16
  · rw [if_pos h, List.getElem?_range h]; rfl
  · rw [if_neg h, List.getElem?_eq_none (by simp; omega)]; rfl
theorem pw_all (c : List UInt8) (h : c.length = 64) : pw c 64 = w16 c := by
  unfold pw w16
  rw [← h, List.take_length]
theorem pw_zero (c : List UInt8) (n : Nat) : arrN (pw c 0) n = arrN [] n := by
  unfold arrN
  congr 1
  apply List.map_congr_left
  intro i _
  rw [pw_at]
  split
  · simp [val]
  · simp
theorem seg_eq (c : List UInt8) (j i : Nat) : ((c.take j).drop (4 * i)).take 4 = (c.drop (4 * i)).take (min 4 (j - 4 * i)) := by rw [List.drop_take, List.take_take]
theorem seg_new (c : List UInt8) (j : Nat) (h : j < c.length) : ((c.take (j + 1)).drop (4 * (j / 4))).take 4 = ((c.take j).drop (4 * (j / 4))).take 4 ++ [c[j]] := by
  rw [seg_eq, seg_eq]
  have e1 : min 4 (j + 1 - 4 * (j / 4)) = (j - 4 * (j / 4)) + 1 := by omega
  have e2 : min 4 (j - 4 * (j / 4)) = j - 4 * (j / 4) := by omega
  have hl : j - 4 * (j / 4) < (c.drop (4 * (j / 4))).length := by rw [List.length_drop]; omega
  rw [e1, e2, List.take_succ_eq_append_getElem hl, List.getElem_drop]
  congr 3
  omega
theorem seg_same (c : List UInt8) (j i : Nat) (h : i ≠ j / 4) : ((c.take (j + 1)).drop (4 * i)).take 4 = ((c.take j).drop (4 * i)).take 4 := by
  rw [seg_eq, seg_eq]
  congr 1
  omega
theorem pw_set (c : List UInt8) (j : Nat) (h : c.length = 64) (hj : j < 64) : (arrN (pw c j) 80).setIfInBounds (j / 4) (.int .u32 (((pw c j).getD (j / 4) 0 * 256 + (c[j]'(by omega)).toNat : Nat) : Int)) = arrN (pw c (j + 1)) 80 := by
  apply arrN_set
  · rw [pw_at, pw_at, if_pos (by omega), if_pos (by omega), seg_new c j (by omega), val_snoc]
  · intro i hi
    rw [pw_at, pw_at, seg_same c j i hi]
theorem pw_lt (c : List UInt8) (j : Nat) : (pw c j).getD (j / 4) 0 < 16777216 := by
  rw [pw_at]
  split
  · refine Nat.lt_of_lt_of_le (val_lt _) (Nat.le_trans (Nat.pow_le_pow_right (by decide) (show _ ≤ 3 from ?_)) (by decide))
    rw [List.length_take, List.length_drop, List.length_take]
    omega
  · omega
theorem info80 : (Try.prog.info? 57).map (fun i => (i.zero, i.size)) = some (some (.agg (arrN [] 80)), 80) := by kernel_rfl
theorem zero80 (w : World) : (zeroValue 57).run Try.prog w = .ok (.agg (arrN [] 80)) w := (zero_of_info info80).1 w
theorem size80 : (Try.prog.info? 57).map (·.size) = some 80 := (zero_of_info info80).2
/-- What lies in memory. -/
structure SpSt (w : World) (l : List Nat) (W : World) : Prop where
  below : Below w.heap.size w W
  res : W.heap[w.heap.size]? = some (.cells (arrN [] 80) 57 (0, 0))
  arr : W.heap[w.heap.size + 1]? = some (.cells (arrN l 80) 57 (0, 0))
theorem SpSt.drew {w W : World} {l : List Nat} (h : SpSt w l W) : SpSt w l W.drew := ⟨h.below.drew, h.res, h.arr⟩
theorem SpSt.set {w W : World} {l m : List Nat} {k : Nat} {v : Value} (h : SpSt w l W) (e : (arrN l 80).setIfInBounds k v = arrN m 80) : SpSt w m (W.setCell ⟨w.heap.size + 1, k, none⟩ v) := by
  refine ⟨h.below.setCell (by simp) _, ?_, ?_⟩
  · rw [Below.heap_setCell _ _ _ _ (by simp)]; exact h.res
  · rw [← e]; exact Lib.heap_setCell_same (i := k) h.arr v
theorem SpSt.cell {w W : World} {l : List Nat} (h : SpSt w l W) (k : Nat) (hk : k < 80) : W.cell? ⟨w.heap.size + 1, k, none⟩ = some (.int .u32 ((l.getD k 0 : Nat) : Int)) ∧ W.frozen? ⟨w.heap.size + 1, k, none⟩ = false :=
  ⟨by rw [cell_of_row _ _ _ _ _ _ h.arr, arrN_at _ _ _ hk], frozen_of_row _ _ _ _ _ h.arr⟩

set_option maxRecDepth 100000 in
set_option maxHeartbeats 4000000 in
theorem spread_any (v : Value) (c : List UInt8) (w : World) (h : BRow w v c) (h64 : c.length = 64) :
    Calls Try.prog 35 #[v] w fun e w' => e = .returned (.agg (arrN (words c) 80)) ∧ Below w.heap.size w w' := by
  obtain ⟨a, cap, rfl, g2, g3, _, g5⟩ := h
  have H5 := Lib.hid g5
  have HL := Lib.hid h64
  rw [h64] at g2 ⊢
  have hz := zero80
  have H0 := Lib.hid (pw_zero c 80)
  unfold maxLen at g3
  clear g5 h64
  go_enter Try.func35, Try.ntmps35
  go_wp2_with fail
  have HS0 := Lib.hid (show SpSt w (pw c 0) ((w.alloc (.cells (arrN [] 80) 57)).alloc (.cells (arrN [] 80) 57)) from by
    refine ⟨((Below.refl _ _).alloc (Nat.le_refl _) _).alloc (by simp) _, ?_, ?_⟩
    · rw [Below.heap_alloc _ _ _ (by simp)]; exact heap_alloc_last w _
    · have := heap_alloc_last (w.alloc (.cells (arrN [] 80) 57)) (.cells (arrN [] 80) 57)
      rw [World.size_alloc] at this
      rw [H0.out]
      exact this)
  go_loopw [4, 5, 9] (fun _ _ i wr => ∃ k : Nat, i = .int .i64 (k : Int) ∧ k ≤ 64 ∧ SpSt w (pw c k) wr) (fun _ _ i _ => 64 - (intOf i).toNat)
  case atStart => exact ⟨0, rfl, by omega, HS0.out⟩
  case round =>
    obtain ⟨k, rfl, hk, hst⟩ := hrel
    by_cases hlt : k < 64
    · have hlt' : (k : Int) < 64 := by omega
      obtain ⟨b, off, rfl, hbl, hc⟩ := H5.out k (by rw [HL.out]; exact hlt)
      have hc2 := (hst.below.cell (p := ⟨b, off + k, none⟩) hbl).trans hc
      obtain ⟨c0, f0⟩ := hst.cell (k / 4) (by omega)
      have HE := Lib.hid (pw_set c k HL.out hlt)
      have hn := pw_lt c k
      have HST := Lib.hid hst
      generalize (pw c k).getD (k / 4) 0 = n at *
      have hx := u8_lt (c[k]'(by rw [HL.out]; exact hlt))
      generalize (c[k]'(by rw [HL.out]; exact hlt)).toNat = x at *
      have q1 : bits .or .u32 ((n : Int) * 256) (x : Int) = ((n * 256 + x : Nat) : Int) := by
        rw [show (n : Int) * 256 = ((n * 256 : Nat) : Int) by omega, u32_or_nat (n * 256) x (by omega) (by omega), nat_join 8 _ _ (by omega) (by omega)]
      clear hst hc
      go_wp2_with fail
      refine ⟨⟨k + 1, by rw [Int.natCast_add]; rfl, by omega, HST.out.set HE.out⟩, ?_⟩
      simp only [intOf]
      omega
    · have hk64 : k = 64 := by omega
      subst hk64
      rw [pw_all c HL.out] at hst
      rw [show ((64 : Nat) : Int) = 64 from rfl]
      have HST := Lib.hid hst
      clear hst hlt
      go_wp2_with fail
      go_loopw [6] (fun i wr => ∃ k : Nat, i = .int .i64 ((16 + k : Nat) : Int) ∧ k ≤ 64 ∧ SpSt w (ext k (w16 c)) wr) (fun i _ => 80 - (intOf i).toNat)
      case atStart => exact ⟨0, rfl, by omega, HST.out⟩
      case round =>
        obtain ⟨k, rfl, hk, hst⟩ := hrel
        have hlen := ext_len k (w16 c)
        rw [w16_len] at hlen
        by_cases hlt : k < 64
        · have hlt' : ((16 + k : Nat) : Int) < 80 := by omega
          have HNX := Lib.hid (show nxt (ext k (w16 c)) = rot 1 ((ext k (w16 c)).getD (16 + k - 3) 0 ^^^ (ext k (w16 c)).getD (16 + k - 8) 0 ^^^ (ext k (w16 c)).getD (16 + k - 14) 0 ^^^ (ext k (w16 c)).getD (16 + k - 16) 0) by unfold nxt; rw [hlen])
          have HEX := Lib.hid (ext_snoc k (w16 c))
          have hlt32 := ext_lt k (w16 c) (w16_lt c)
          generalize ext k (w16 c) = l at *
          obtain ⟨j, hj⟩ : ∃ j, j = 16 + k := ⟨_, rfl⟩
          rw [← hj] at HNX hlen hlt' ⊢
          obtain ⟨c3, _⟩ := hst.drew.cell (j - 3) (by omega)
          obtain ⟨c8, _⟩ := hst.drew.cell (j - 8) (by omega)
          obtain ⟨c14, _⟩ := hst.drew.cell (j - 14) (by omega)
          obtain ⟨c16, _⟩ := hst.drew.cell (j - 16) (by omega)
          obtain ⟨cn, fn⟩ := hst.drew.cell j (by omega)
          have hg : ∀ i, l.getD i 0 < 4294967296 := fun i => by
            rw [List.getD_eq_getElem?_getD]
            cases hi : l[i]? with
            | none => simp
            | some x => exact hlt32 x (List.mem_of_getElem? hi)
          have g3 := hg (j - 3)
          have g8 := hg (j - 8)
          have g14 := hg (j - 14)
          have g16 := hg (j - 16)
          have HSE := Lib.hid (arrN_set (l := l) (m := l ++ [nxt l]) (n := 80) (k := j) (v := nxt l) (by rw [← hlen]; simp) (fun i hi => by
            rw [List.getD_eq_getElem?_getD, List.getD_eq_getElem?_getD, List.getElem?_append]
            split
            · rfl
            · rename_i h
              rw [List.getElem?_eq_none (l := [nxt l]) (by simp; omega), List.getElem?_eq_none (by omega)]))
          have hse := HSE.out
          have hst2 := hst.set hse
          have key : ∀ i, i < j → (wr.setCell ⟨w.heap.size + 1, j, none⟩ (.int .u32 (nxt l : Int))).drew.cell? ⟨w.heap.size + 1, i, none⟩ = some (.int .u32 ((l.getD i 0 : Nat) : Int)) := fun i hi => by
            have h1 := (hst2.drew.cell i (by omega)).1
            have h2 : (l ++ [nxt l]).getD i 0 = l.getD i 0 := by
              rw [List.getD_eq_getElem?_getD, List.getD_eq_getElem?_getD, List.getElem?_append_left (by omega)]
            rw [h2] at h1
            exact h1
          have HK4 := Lib.hid (And.intro (key (j - 3) (by omega)) (And.intro (key (j - 8) (by omega)) (And.intro (key (j - 14) (by omega)) (key (j - 16) (by omega)))))
          have HST := Lib.hid hst2
          clear hse hst2 key
          generalize l.getD (j - 3) 0 = y3 at *
          generalize l.getD (j - 8) 0 = y8 at *
          generalize l.getD (j - 14) 0 = y14 at *
          generalize l.getD (j - 16) 0 = y16 at *
          generalize l.getD j 0 = yn at *
          have q1 := u32_xor_nat y3 y8 g3 g8
          have q2 := u32_xor_nat (y3 ^^^ y8) y14 (xor_lt g3 g8) g14
          have q3 := u32_xor_nat (y3 ^^^ y8 ^^^ y14) y16 (xor_lt (xor_lt g3 g8) g14) g16
          have HRO := Lib.hid (rot_any 1 (y3 ^^^ y8 ^^^ y14 ^^^ y16) wr.drew (xor_lt (xor_lt (xor_lt g3 g8) g14) g16) (.inl rfl))
          rw [← HNX.out, show ((1 : Nat) : Int) = 1 from rfl] at HRO
          generalize y3 ^^^ y8 ^^^ y14 ^^^ y16 = z4 at *
          generalize y3 ^^^ y8 ^^^ y14 = z3 at *
          generalize y3 ^^^ y8 = z2 at *
          have hz2 := hz
          have i3 : ((j : Int) - 3).toNat = j - 3 := by omega
          have i8 : ((j : Int) - 8).toNat = j - 8 := by omega
          have i14 : ((j : Int) - 14).toNat = j - 14 := by omega
          have i16 : ((j : Int) - 16).toNat = j - 16 := by omega
          have p3 : 0 ≤ (j : Int) - 3 := by omega
          have pa3 : (3 : Int) ≤ (j : Int) := by omega
          have pb3 : (j : Int) - 3 < 80 := by omega
          have p8 : 0 ≤ (j : Int) - 8 := by omega
          have pa8 : (8 : Int) ≤ (j : Int) := by omega
          have pb8 : (j : Int) - 8 < 80 := by omega
          have p14 : 0 ≤ (j : Int) - 14 := by omega
          have pa14 : (14 : Int) ≤ (j : Int) := by omega
          have pb14 : (j : Int) - 14 < 80 := by omega
          have p16 : 0 ≤ (j : Int) - 16 := by omega
          have pa16 : (16 : Int) ≤ (j : Int) := by omega
          have pb16 : (j : Int) - 16 < 80 := by omega
          have pn : (j : Int) < 80 := by omega
          have w3 : IntKind.i64.wrap ((j : Int) - 3) = (j : Int) - 3 := IntWalk.i64_in _ (by omega)
          have w8 : IntKind.i64.wrap ((j : Int) - 8) = (j : Int) - 8 := IntWalk.i64_in _ (by omega)
          have w14 : IntKind.i64.wrap ((j : Int) - 14) = (j : Int) - 14 := IntWalk.i64_in _ (by omega)
          have w16' : IntKind.i64.wrap ((j : Int) - 16) = (j : Int) - 16 := IntWalk.i64_in _ (by omega)
          have HJ := Lib.hid hj
          generalize nxt l = yx at *
          clear hst hlt32 hg hlen hj
          go_wp2_with fail
          go_region_held3 (fun w' => w'.cell? ⟨w.heap.size + 1, j - 3, none⟩ = some (.int .u32 (y3 : Int)) ∧ w'.cell? ⟨w.heap.size + 1, j - 8, none⟩ = some (.int .u32 (y8 : Int)) ∧ w'.cell? ⟨w.heap.size + 1, j - 14, none⟩ = some (.int .u32 (y14 : Int)) ∧ w'.cell? ⟨w.heap.size + 1, j - 16, none⟩ = some (.int .u32 (y16 : Int))) (first | with_reducible exact ⟨c3, c8, c14, c16⟩ | exact HK4.out) (first | (go_at_call 37; (with_reducible refine HRO.out.mono ?_); rintro e w1 ⟨rfl, rfl⟩))
          clear w3 w8 w14 w16' i3 i8 i14 i16
          go_wp2_with fail
          refine ⟨⟨k + 1, by rw [HJ.out]; rfl, by omega, by rw [HEX.out]; exact HST.out.drew⟩, ?_⟩
          simp only [intOf]
          omega
        · have hk64 : k = 64 := by omega
          subst hk64
          rw [show ext 64 (w16 c) = words c from rfl] at hst
          have HST := Lib.hid hst
          have hload := HST.out.arr
          have hres := HST.out.res
          have hge : ¬ ((16 + 64 : Nat) : Int) < 80 := by omega
          clear hst hlt hlen
          have hst := run_storeVar_row (P := Try.prog) wr w.heap.size 57 57 (arrN [] 80) (arrN (words c) 80) hres (by rw [arrN_size]; exact size80) (by rw [arrN_size, arrN_size]) (arrN_one _ _)
          have hst2 : (Instr.storeAt 57 (.pointer (some ⟨w.heap.size, 0, none⟩)) (.agg (arrN (words c) 80))).run Try.prog wr = .ok () (wr.setRow w.heap.size (arrN (words c) 80)) := by
            simp only [Instr.storeAt, Instr.sureAddr, Sem.run_bind, Sem.run_pure, Result.andThen]
            exact hst
          have hld : (Instr.loadAt 57 (.pointer (some ⟨w.heap.size + 1, 0, none⟩))).run Try.prog wr = .ok (.agg (arrN (words c) 80)) wr := by
            simp only [Instr.loadAt, Instr.sureAddr, Sem.run_bind, Sem.run_pure, Result.andThen_ok]
            exact run_loadVar_row (P := Try.prog) wr (w.heap.size + 1) 57 57 (arrN (words c) 80) (0, 0) _ hload Try.underlying57 rfl (by rw [arrN_size]; exact size80)
          have HS2 := Lib.hid hst2
          have HLD := Lib.hid hld
          have HRS := Lib.hid (setRow_heap wr w.heap.size (arrN [] 80) (arrN (words c) 80) 57 (0, 0) hres)
          generalize hAR : arrN (words c) 80 = AR at *
          have HAR := Lib.hid hAR
          clear hAR
          clear hst hst2 hld hload hres
          go_wp2_with (first | (refine wpList_loads rfl 57 _ rfl _ _ rfl HLD.out ?_; clear HLD) | (refine wpList_stores rfl 57 _ _ rfl _ _ rfl rfl HS2.out ?_; clear HS2))
          refine bodyPost_ret (v := .agg AR) (results_cell_row rfl _ _ w.heap.size 57 _ (0, 0) _ rfl HRS.out Try.underlying57 rfl (by rw [← HAR.out, arrN_size]; exact size80)) rfl ⟨by rw [← HAR.out], below_setRow HST.out.below (Nat.le_refl _) _⟩
end Go.Proofs.Ytigdmgpejmfceaa
