/- Digests and tags: the program's Sha, masked, tagOf, Tag, Right. -/
import Derived.Test.YtigdmgpejmfceaaYp
import Derived.Laws.CopyOwn
namespace Go.Proofs.Ytigdmgpejmfceaa
open Go.RowKit Su Yh

/-- Twenty bytes as a block of one's own. -/
def Row20 (w : World) (B : Nat) (v : Value) (l : List UInt8) : Prop := ∃ g, v = .slice (some ⟨g, 0, none⟩) 20 20 ∧ B ≤ g ∧ w.heap[g]? = some (.cells (Lib.byteCells l).toArray 35 (0, 0)) ∧ l.length = 20
theorem Row20.row {w : World} {B : Nat} {v : Value} {l : List UInt8} (h : Row20 w B v l) : BRow w v l := by
  obtain ⟨g, rfl, _, hg, hl⟩ := h
  exact brow_blk hg hl.symm (by rw [hl]; simp [maxLen]) rfl
theorem Row20.below {w w' : World} {B : Nat} {v : Value} {l : List UInt8} (h : Row20 w B v l) (hb : Below w.heap.size w w') : Row20 w' B v l := by
  obtain ⟨g, e, hB, hg, hl⟩ := h
  exact ⟨g, e, hB, (hb.block _ (Array.getElem?_eq_some_iff.1 hg).1).trans hg, hl⟩
theorem Row20.low {w : World} {B C : Nat} {v : Value} {l : List UInt8} (h : Row20 w B v l) (hC : C ≤ B) : Row20 w C v l := by
  obtain ⟨g, e, hB, hg, hl⟩ := h
  exact ⟨g, e, Nat.le_trans hC hB, hg, hl⟩
theorem bytes_one (l : List UInt8) : (Lib.byteCells l).toArray.all (·.oneCell') = true := by
  rw [Array.all_eq_true_iff_forall_mem]
  intro v hv
  exact byteCells_one l v (by simpa using hv)
theorem bytes_size (l : List UInt8) : (Lib.byteCells l).toArray.size = l.length := by simp [Lib.byteCells]
theorem store20 (w : World) (l : List UInt8) (h : l.length = 20) : (Instr.storeAt 35 (.pointer (some ⟨w.heap.size, 0, none⟩)) (.agg (Lib.byteCells l).toArray)).run Try.prog (w.alloc (.cells (arrB [] 20) 35)) = .ok () (w.alloc (.cells (Lib.byteCells l).toArray 35)) :=
  run_storeAt_new (P := Try.prog) w 35 (arrB [] 20) (Lib.byteCells l).toArray (by rw [bytes_size, h]; exact size20) (by rw [bytes_size, h, arrB_size _ _ (by simp)]) (bytes_one l)

set_option maxRecDepth 100000 in
set_option maxHeartbeats 4000000 in
theorem sha_any (v : Value) (l : List UInt8) (w : World) (h : BRow w v l) (hn : l.length ≤ 140737488355328) :
    Calls Try.prog 9 #[v] w fun e w' => ∃ u, e = .returned u ∧ Row20 w' w.heap.size u (sha l) ∧ Below w.heap.size w w' := by
  have HD := Lib.hid (digestOf_any v l w h hn)
  obtain ⟨a, cap, rfl⟩ : ∃ a c, v = .slice a l.length c := by obtain ⟨a, c, h, _⟩ := h; exact ⟨a, c, h⟩
  have hz := zero20
  have HL := Lib.hid (sha_len l)
  unfold shaA at HD
  generalize sha l = s at *
  clear h
  go_enter Try.func9, Try.ntmps9
  go_wp2_with fail
  refine HD.out.mono ?_
  rintro e w1 ⟨rfl, hb⟩
  have hst := store20 w1 s HL.out
  have HB := Lib.hid hb
  have HLA := Lib.hid (heap_alloc_last w1 (.cells (Lib.byteCells s).toArray 35))
  have HS := Lib.hid (show (w1.alloc (.cells (Lib.byteCells s).toArray 35)).heap[w1.heap.size]? = some (.cells (Lib.byteCells s).toArray 35 (0, 0)) from HLA.out)
  have hsz := hb.size
  clear hb HLA
  go_wp2_with (refine wpList_stores rfl 35 _ _ rfl _ _ rfl rfl hst ?_; clear hst)
  go_ret
  exact ⟨_, rfl, ⟨_, rfl, hsz, HS.out, HL.out⟩, HB.out.alloc HB.out.size _⟩

/-- The bytes that a key comes to. -/
def kk (k : List UInt8) : List UInt8 := if 64 < k.length then sha k else k
/-- The first are masked. -/
def zs (K : List UInt8) (x : UInt8) (k : Nat) : List UInt8 := (K.take k).map (· ^^^ x) ++ K.drop k
theorem zs_zero (K : List UInt8) (x : UInt8) : zs K x 0 = K := by simp [zs]
theorem zs_all (K : List UInt8) (x : UInt8) : zs K x K.length = K.map (· ^^^ x) := by simp [zs]
theorem zs_len (K : List UInt8) (x : UInt8) (k : Nat) : (zs K x k).length = K.length := by simp [zs]; omega
theorem zs_at (K : List UInt8) (x : UInt8) (k : Nat) (h : k < K.length) : (zs K x k)[k]? = some K[k] := by
  unfold zs
  have hl : ((K.take k).map (· ^^^ x)).length = k := by rw [List.length_map, List.length_take]; omega
  rw [List.getElem?_append_right (by omega), hl, Nat.sub_self, List.getElem?_drop, Nat.add_zero, List.getElem?_eq_getElem h]
theorem zs_succ (K : List UInt8) (x : UInt8) (k : Nat) (h : k < K.length) : zs K x (k + 1) = (zs K x k).set k (K[k] ^^^ x) := by
  unfold zs
  rw [List.take_succ_eq_append_getElem h, List.set_append_right _ _ (by simp; omega), List.map_append, List.append_assoc]
  have hl : ((K.take k).map (· ^^^ x)).length = k := by rw [List.length_map, List.length_take]; omega
  rw [hl, Nat.sub_self, List.drop_eq_getElem_cons h]
  rfl
theorem info64 : (Try.prog.info? 63).map (fun i => (i.zero, i.size)) = some (some (.agg (arrB [] 64)), 64) := by kernel_rfl
theorem zero64 (w : World) : (zeroValue 63).run Try.prog w = .ok (.agg (arrB [] 64)) w := (zero_of_info info64).1 w
theorem splice_key (l kl : List UInt8) (h : kl = kk l) : splice (List.replicate 64 (Value.int .u8 0)) 0 (Lib.byteCells kl) = Lib.byteCells (key64 l) := by
  have e : key64 l = kk l ++ List.replicate (64 - (kk l).length) 0 := rfl
  rw [e, h, splice, Nat.zero_add, List.take_zero, List.nil_append, byteCells_append]
  congr 1
  rw [show (Lib.byteCells (kk l)).length = (kk l).length by simp [Lib.byteCells], List.drop_replicate]
  simp [Lib.byteCells]

set_option maxRecDepth 100000 in
set_option maxHeartbeats 4000000 in
theorem masked_any (v : Value) (l : List UInt8) (x : UInt8) (w : World) (h : BRow w v l) (hn : l.length ≤ 140737488355328) :
    Calls Try.prog 32 #[v, .int .u8 (x.toNat : Int)] w fun e w' => ∃ u, e = .returned u ∧ BRow w' u (mask l x) ∧ Below w.heap.size w w' := by
  have HV := Lib.hid h
  have HSHA := Lib.hid (sha_any v l w h hn)
  obtain ⟨a, cap, rfl⟩ : ∃ a c, v = .slice a l.length c := by obtain ⟨a, c, h, _⟩ := h; exact ⟨a, c, h⟩
  clear h
  by_cases h64 : 64 < l.length
  · have ht : decide ((64 : Int) < (l.length : Int)) = true := decide_eq_true (by omega)
    have HKK := Lib.hid (show sha l = kk l by unfold kk; rw [if_pos h64])
    go_enter Try.func32, Try.ntmps32
    go_wp2_with fail
    refine HSHA.out.mono ?_
    rintro e w1 ⟨u, rfl, hr, hb⟩
    obtain ⟨kl, hkl⟩ : ∃ kl, kl = kk l := ⟨_, rfl⟩
    rw [HKK.out, ← hkl] at hr
    have HKL := Lib.hid hkl
    have HB1 := Lib.hid hb
    have hrr := hr.row
    obtain ⟨ua, un, uc, rfl⟩ : ∃ a n c, u = .slice a n c := by obtain ⟨a, c, h, _⟩ := hrr; exact ⟨a, _, c, h⟩
    have hun : un = kl.length := by obtain ⟨a, c, h, _⟩ := hrr; simp only [Value.slice.injEq] at h; exact h.2.1
    subst hun
    have HKR := Lib.hid hrr
    clear hkl hr hb hrr HSHA HKK

    have hl64 : kl.length ≤ 64 := by rw [HKL.out]; unfold kk; split <;> (try rw [sha_len]) <;> omega
    have hz := zero64
    obtain ⟨Z, hZ⟩ : ∃ Z, Z = List.replicate 64 (Value.int .u8 0) := ⟨_, rfl⟩
    have HZ := Lib.hid hZ
    clear hZ
    go_wp2_with (with_reducible refine wpList_copy_splice rfl _ _ 22 22 rfl 5 Try.underlying22 (by kernel_rfl) _ _ _ _ _ _ rfl rfl w1.heap.size 0 Z 63 ?_ (Lib.byteCells kl) ?_ ?_ ?_ ?_ w1.heap.size (w1.alloc (.cells (arrB [] 64) 63)) ?_ ?_ ?_)
    · rw [HZ.out, show (List.replicate 64 (Value.int .u8 0)).toArray = arrB [] 64 from rfl]; exact heap_alloc_last w1 _
    · rw [Lib.byteCells, List.length_map]; exact (Nat.min_eq_left hl64).symm
    · intro hp
      have h5 := HKR.out
      obtain ⟨a9, c9, e9, _, _, _, h9⟩ := h5
      simp only [Value.slice.injEq] at e9
      obtain ⟨rfl, _, _⟩ := e9
      rw [Lib.byteCells, List.length_map] at hp
      obtain ⟨b0, off0, rfl, _, _⟩ := h9 0 hp
      refine ⟨_, rfl, fun j v hj => ?_⟩
      have hjl : j < kl.length := by have := (List.getElem?_eq_some_iff.1 hj).1; simpa [Lib.byteCells] using this
      obtain ⟨b1, off1, e1, hb1, hc1⟩ := h9 j hjl
      simp only [Option.some.injEq, Addr.mk.injEq, and_true] at e1
      obtain ⟨rfl, rfl⟩ := e1
      rw [byteCells_at kl j hjl] at hj
      rw [add_at, ← hj, ← hc1]
      exact ((Below.refl w1.heap.size w1).alloc (Nat.le_refl _) _).cell (by exact hb1)
    · rw [Lib.byteCells, List.length_map, HZ.out, List.length_replicate]; omega
    · exact byteCells_one kl
    · exact Below.refl _ _
    · exact Nat.le_refl _
    intro w2 hw2 hb2
    have HW2 := Lib.hid (show w2.heap[w1.heap.size]? = some (.cells (Lib.byteCells (zs (key64 l) x 0)).toArray 63 (0, 0)) by
      rw [hw2.out, zs_zero, HZ.out, splice_key l kl HKL.out])
    have HK64 := Lib.hid (key64_len l)
    have HB2 := Lib.hid (show Below w.heap.size w w2 from (HB1.out.alloc HB1.out.size _).trans (hb2.mono HB1.out.size))
    have hs1 := HB1.out.size
    clear hw2 hb2 hl64
    go_wp2_with fail
    go_loopw [6, 15] (fun _ i wr => ∃ k : Nat, i = .int .i64 (k : Int) ∧ k ≤ 64 ∧ wr.heap[w1.heap.size]? = some (.cells (Lib.byteCells (zs (key64 l) x k)).toArray 63 (0, 0)) ∧ Below w.heap.size w wr) (fun _ i _ => 64 - (intOf i).toNat)
    case atStart => exact ⟨0, rfl, by omega, HW2.out, HB2.out⟩
    case round =>
      obtain ⟨k, rfl, hk, hh, hb⟩ := hrel
      by_cases hlt : k < 64
      · have hlt' : (k : Int) < 64 := by omega
        have hkl : k < (key64 l).length := by rw [HK64.out]; exact hlt
        have hat := zs_at (key64 l) x k hkl
        have hzl : k < (zs (key64 l) x k).length := by rw [zs_len]; exact hkl
        have c0 : wr.cell? ⟨w1.heap.size, k, none⟩ = some (.int .u8 ((key64 l)[k].toNat : Int)) := by
          rw [cell_of_row _ _ _ _ _ _ hh, List.getElem?_toArray, byteCells_at _ _ hzl]
          rw [List.getElem?_eq_getElem hzl] at hat
          rw [Option.some.inj hat]
        have f0 : wr.frozen? ⟨w1.heap.size, k, none⟩ = false := frozen_of_row _ _ _ _ _ hh
        have HS := Lib.hid (Lib.heap_setCell_same (i := k) hh (.int .u8 (((key64 l)[k] ^^^ x).toNat : Int)))
        have HZS := Lib.hid (show (Lib.byteCells (zs (key64 l) x k)).toArray.setIfInBounds k (.int .u8 (((key64 l)[k] ^^^ x).toNat : Int)) = (Lib.byteCells (zs (key64 l) x (k + 1))).toArray by
          rw [zs_succ _ _ _ hkl]
          apply Array.ext'
          simp [Lib.byteCells, List.map_set])
        have q1 := u8_xor_nat (key64 l)[k].toNat x.toNat (u8_lt _) (u8_lt _)
        rw [show (key64 l)[k].toNat ^^^ x.toNat = ((key64 l)[k] ^^^ x).toNat from (UInt8.toNat_xor _ _).symm] at q1
        have HBB := Lib.hid (hb.setCell (p := ⟨w1.heap.size, k, none⟩) hs1 (.int .u8 (((key64 l)[k] ^^^ x).toNat : Int)))
        rw [HZS.out] at HS
        generalize ((key64 l)[k] ^^^ x).toNat = z at *
        generalize (key64 l)[k].toNat = y at *
        generalize x.toNat = xn at *
        clear hh hb hat hzl HZS
        go_wp2_with fail
        refine ⟨⟨k + 1, by rw [Int.natCast_add]; rfl, by omega, HS.out, HBB.out⟩, ?_⟩
        simp only [intOf]
        omega
      · have hk64 : k = 64 := by omega
        subst hk64
        have hz64 : zs (key64 l) x 64 = mask l x := by
          have := zs_all (key64 l) x
          rw [HK64.out] at this
          exact this
        rw [hz64] at hh
        have HH := Lib.hid hh
        have HBB := Lib.hid hb
        clear hh hb hlt hz64
        go_wp2_with fail
        go_ret
        exact ⟨_, rfl, brow_blk HH.out (mask_len l x).symm (by rw [mask_len]; simp [maxLen]) rfl, HBB.out⟩
  · have ht : decide ((64 : Int) < (l.length : Int)) = false := decide_eq_false (by omega)
    have HB1 := Lib.hid (Below.refl w.heap.size w)
    have HKL := Lib.hid (show l = kk l by unfold kk; rw [if_neg h64])
    have HKR := HV
    clear HSHA
    go_enter Try.func32, Try.ntmps32
    have hl64 : l.length ≤ 64 := by omega
    have hz := zero64
    obtain ⟨Z, hZ⟩ : ∃ Z, Z = List.replicate 64 (Value.int .u8 0) := ⟨_, rfl⟩
    have HZ := Lib.hid hZ
    clear hZ
    go_wp2_with (with_reducible refine wpList_copy_splice rfl _ _ 22 22 rfl 5 Try.underlying22 (by kernel_rfl) _ _ _ _ _ _ rfl rfl w.heap.size 0 Z 63 ?_ (Lib.byteCells l) ?_ ?_ ?_ ?_ w.heap.size (w.alloc (.cells (arrB [] 64) 63)) ?_ ?_ ?_)
    · rw [HZ.out, show (List.replicate 64 (Value.int .u8 0)).toArray = arrB [] 64 from rfl]; exact heap_alloc_last w _
    · rw [Lib.byteCells, List.length_map]; exact (Nat.min_eq_left hl64).symm
    · intro hp
      have h5 := HKR.out
      obtain ⟨a9, c9, e9, _, _, _, h9⟩ := h5
      simp only [Value.slice.injEq] at e9
      obtain ⟨rfl, _, _⟩ := e9
      rw [Lib.byteCells, List.length_map] at hp
      obtain ⟨b0, off0, rfl, _, _⟩ := h9 0 hp
      refine ⟨_, rfl, fun j v hj => ?_⟩
      have hjl : j < l.length := by have := (List.getElem?_eq_some_iff.1 hj).1; simpa [Lib.byteCells] using this
      obtain ⟨b1, off1, e1, hb1, hc1⟩ := h9 j hjl
      simp only [Option.some.injEq, Addr.mk.injEq, and_true] at e1
      obtain ⟨rfl, rfl⟩ := e1
      rw [byteCells_at l j hjl] at hj
      rw [add_at, ← hj, ← hc1]
      exact ((Below.refl w.heap.size w).alloc (Nat.le_refl _) _).cell (by exact hb1)
    · rw [Lib.byteCells, List.length_map, HZ.out, List.length_replicate]; omega
    · exact byteCells_one l
    · exact Below.refl _ _
    · exact Nat.le_refl _
    intro w2 hw2 hb2
    have HW2 := Lib.hid (show w2.heap[w.heap.size]? = some (.cells (Lib.byteCells (zs (key64 l) x 0)).toArray 63 (0, 0)) by
      rw [hw2.out, zs_zero, HZ.out, splice_key l l HKL.out])
    have HK64 := Lib.hid (key64_len l)
    have HB2 := Lib.hid (show Below w.heap.size w w2 from (HB1.out.alloc HB1.out.size _).trans (hb2.mono HB1.out.size))
    have hs1 := HB1.out.size
    clear hw2 hb2 hl64
    go_wp2_with fail
    go_loopw [6, 15] (fun _ i wr => ∃ k : Nat, i = .int .i64 (k : Int) ∧ k ≤ 64 ∧ wr.heap[w.heap.size]? = some (.cells (Lib.byteCells (zs (key64 l) x k)).toArray 63 (0, 0)) ∧ Below w.heap.size w wr) (fun _ i _ => 64 - (intOf i).toNat)
    case atStart => exact ⟨0, rfl, by omega, HW2.out, HB2.out⟩
    case round =>
      obtain ⟨k, rfl, hk, hh, hb⟩ := hrel
      by_cases hlt : k < 64
      · have hlt' : (k : Int) < 64 := by omega
        have hkl : k < (key64 l).length := by rw [HK64.out]; exact hlt
        have hat := zs_at (key64 l) x k hkl
        have hzl : k < (zs (key64 l) x k).length := by rw [zs_len]; exact hkl
        have c0 : wr.cell? ⟨w.heap.size, k, none⟩ = some (.int .u8 ((key64 l)[k].toNat : Int)) := by
          rw [cell_of_row _ _ _ _ _ _ hh, List.getElem?_toArray, byteCells_at _ _ hzl]
          rw [List.getElem?_eq_getElem hzl] at hat
          rw [Option.some.inj hat]
        have f0 : wr.frozen? ⟨w.heap.size, k, none⟩ = false := frozen_of_row _ _ _ _ _ hh
        have HS := Lib.hid (Lib.heap_setCell_same (i := k) hh (.int .u8 (((key64 l)[k] ^^^ x).toNat : Int)))
        have HZS := Lib.hid (show (Lib.byteCells (zs (key64 l) x k)).toArray.setIfInBounds k (.int .u8 (((key64 l)[k] ^^^ x).toNat : Int)) = (Lib.byteCells (zs (key64 l) x (k + 1))).toArray by
          rw [zs_succ _ _ _ hkl]
          apply Array.ext'
          simp [Lib.byteCells, List.map_set])
        have q1 := u8_xor_nat (key64 l)[k].toNat x.toNat (u8_lt _) (u8_lt _)
        rw [show (key64 l)[k].toNat ^^^ x.toNat = ((key64 l)[k] ^^^ x).toNat from (UInt8.toNat_xor _ _).symm] at q1
        have HBB := Lib.hid (hb.setCell (p := ⟨w.heap.size, k, none⟩) hs1 (.int .u8 (((key64 l)[k] ^^^ x).toNat : Int)))
        rw [HZS.out] at HS
        generalize ((key64 l)[k] ^^^ x).toNat = z at *
        generalize (key64 l)[k].toNat = y at *
        generalize x.toNat = xn at *
        clear hh hb hat hzl HZS
        go_wp2_with fail
        refine ⟨⟨k + 1, by rw [Int.natCast_add]; rfl, by omega, HS.out, HBB.out⟩, ?_⟩
        simp only [intOf]
        omega
      · have hk64 : k = 64 := by omega
        subst hk64
        have hz64 : zs (key64 l) x 64 = mask l x := by
          have := zs_all (key64 l) x
          rw [HK64.out] at this
          exact this
        rw [hz64] at hh
        have HH := Lib.hid hh
        have HBB := Lib.hid hb
        clear hh hb hlt hz64
        go_wp2_with fail
        go_ret
        exact ⟨_, rfl, brow_blk HH.out (mask_len l x).symm (by rw [mask_len]; simp [maxLen]) rfl, HBB.out⟩
end Go.Proofs.Ytigdmgpejmfceaa
