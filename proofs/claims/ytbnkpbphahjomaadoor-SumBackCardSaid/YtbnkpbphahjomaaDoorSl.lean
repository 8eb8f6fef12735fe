/- Seals: the program's and the document's. -/
import Derived.Test.YtbnkpbphahjomaaDoorSc
import Derived.Test.YtbnkpbphahjomaaDoorSr
import Derived.Lib.BufferMore
namespace Go.Proofs.YtbnkpbphahjomaaDoor
open Go.RowKit Su

/-- The four bytes of a sum, as an array. -/
def arr4 (n : Nat) : Value := .agg #[.int .u8 ((n % 256 : Nat) : Int), .int .u8 ((n / 256 % 256 : Nat) : Int), .int .u8 ((n / 65536 % 256 : Nat) : Int), .int .u8 ((n / 16777216 : Nat) : Int)]
set_option maxRecDepth 100000 in
set_option maxHeartbeats 2000000 in
theorem tail_any (v : Value) (l : List UInt8) (w : World) (h : BRow w v l) (hf : Fo w) :
    Calls Tryd.prog 23 #[v] w fun e w' => e = .returned (arr4 (sum l)) ∧ Below w.heap.size w w' := by
  have hb0 : Below w.heap.size w (w.alloc (.cells #[.int .u8 0, .int .u8 0, .int .u8 0, .int .u8 0] 38)) := (Below.refl _ _).alloc (Nat.le_refl _) _
  have HS := Lib.hid (sum_any v l _ (h.below hb0) (hf.below hb0))
  have hlt := sum_lt l
  obtain ⟨n, hn⟩ : ∃ n, n = sum l := ⟨_, rfl⟩
  rw [← hn] at HS hlt ⊢
  have HB0 := Lib.hid hb0
  clear hb0 hn
  go_enter Tryd.func23, Tryd.ntmps23
  go_wp2_with fail
  refine HS.out.mono ?_
  rintro e w1 ⟨rfl, hb⟩
  have HB := Lib.hid hb
  have hc := fun i => hb.cell (p := ⟨w.heap.size, i, none⟩) (by simp)
  have hfz := fun i => hb.frozen (p := ⟨w.heap.size, i, none⟩) (by simp)
  have HH := Lib.hid (show w1.heap[w.heap.size]? = some (.cells #[.int .u8 0, .int .u8 0, .int .u8 0, .int .u8 0] 38 (0, 0)) from (hb.block _ (by simp)).trans (heap_alloc_last w _))
  have hsz : w.heap.size + 1 ≤ w1.heap.size := by have := hb.size; simp at this; exact this
  clear hb
  go_wp2_with fail
  have h1 := Lib.heap_setCell_same (i := 0) (HH.out) (.int .u8 ((n : Int) % 256))
  have h2 := Lib.heap_setCell_same (i := 1) h1 (.int .u8 ((n : Int) / 256 % 256))
  have h3 := Lib.heap_setCell_same (i := 2) h2 (.int .u8 ((n : Int) / 65536 % 256))
  have h4 := Lib.heap_setCell_same (i := 3) h3 (.int .u8 ((n : Int) / 16777216))
  refine bodyPost_ret (v := arr4 n) (results_cell_row rfl _ _ w.heap.size 38 _ (0, 0) _ rfl h4 Tryd.underlying38 rfl (by kernel_rfl)) rfl ⟨rfl, ?_⟩
  have hb1 : Below w.heap.size w w1 := HB0.out.trans (HB.out.mono (by simp))
  exact (((hb1.setCell (Nat.le_refl _) _).setCell (Nat.le_refl _) _).setCell (Nat.le_refl _) _).setCell (Nat.le_refl _) _

theorem le4_cells (n : Nat) (h : n < 4294967296) : Lib.byteCells (le4 n) = [.int .u8 ((n % 256 : Nat) : Int), .int .u8 ((n / 256 % 256 : Nat) : Int), .int .u8 ((n / 65536 % 256 : Nat) : Int), .int .u8 ((n / 16777216 : Nat) : Int)] := by
  have e : n / 16777216 % 256 = n / 16777216 := by omega
  simp only [Lib.byteCells, le4, List.map_cons, List.map_nil, UInt8.toNat_ofNat']
  rw [show (2 : Nat) ^ 8 = 256 from rfl, e]
theorem own_low {w : World} {B C : Nat} {v : Value} {l : List UInt8} (h : OwnU w B v l) (hC : C ≤ B) : OwnU w C v l :=
  ⟨h.1, h.2.imp id fun ⟨g, cap, cur, e, hg, r⟩ => ⟨g, cap, cur, e, Nat.le_trans hC hg, r⟩⟩
/-- A row of four bytes in a block. -/
theorem row4 {w : World} {b n : Nat} (hn : n < 4294967296) (h : w.heap[b]? = some (.cells #[.int .u8 ((n % 256 : Nat) : Int), .int .u8 ((n / 256 % 256 : Nat) : Int), .int .u8 ((n / 65536 % 256 : Nat) : Int), .int .u8 ((n / 16777216 : Nat) : Int)] 38 (0, 0))) : BRow w (.slice (some ⟨b, 0, none⟩) 4 4) (le4 n) := by
  refine ⟨some ⟨b, 0, none⟩, 4, rfl, Nat.le_refl _, by unfold maxLen; omega, (fun e => by cases e), fun i hi => ⟨b, 0, rfl, (Array.getElem?_eq_some_iff.1 h).1, ?_⟩⟩
  have hc := byteCells_at (le4 n) i hi
  rw [le4_cells n hn] at hc
  rw [cell_of_row w b (0 + i) _ _ _ h, ← hc, Nat.zero_add]
  simp
set_option maxRecDepth 100000 in
set_option maxHeartbeats 2000000 in
theorem seal_any (v : Value) (l : List UInt8) (w : World) (h : BRow w v l) (hf : Fo w) (hn : l.length + 4 ≤ 140737488355328) :
    Calls Tryd.prog 11 #[v] w fun e w' => ∃ v', e = .returned v' ∧ OwnU w' w.heap.size v' (sealed l) ∧ Below w.heap.size w w' := by
  have HT := Lib.hid (tail_any v l w h hf)
  have hlt := sum_lt l
  have H := Lib.hid h
  obtain ⟨a, cap, rfl⟩ : ∃ a c, v = .slice a l.length c := by obtain ⟨a, c, h, _⟩ := h; exact ⟨a, c, h⟩
  obtain ⟨n, hnn⟩ : ∃ n, n = sum l := ⟨_, rfl⟩
  have HE := Lib.hid (show sealed l = l ++ le4 n by rw [hnn]; rfl)
  rw [← hnn] at HT hlt
  clear hnn h
  go_enter Tryd.func11, Tryd.ntmps11
  go_wp2_with fail
  refine HT.out.mono ?_
  rintro e w1 ⟨rfl, hb⟩
  have HB := Lib.hid hb
  have hsz := hb.size
  clear hb
  unfold arr4
  go_wp2_with fail
  refine (concat_any (w1.heap.size + 1) (.slice a l.length cap) (.slice (some ⟨w1.heap.size, 0, none⟩) 4 4) l (le4 n) _ (by simp) (by simp) (by simp) ?_ ?_ (by rw [le4_len]; omega) (by rw [le4_len]; exact hn)).mono ?_
  · exact H.out.below (HB.out.trans (((Below.refl _ _).alloc hsz _).alloc (by simp; omega) _))
  · refine row4 hlt ?_
    show ((w1.heap.push _).push _)[w1.heap.size]? = _
    rw [Array.getElem?_push]
    simp
  · rintro e w2 ⟨v', rfl, ho, hb2⟩
    have HO := Lib.hid ho
    have HB2 := Lib.hid hb2
    clear ho hb2
    go_wp2_with fail
    go_ret
    refine ⟨_, rfl, ?_, ?_⟩
    · rw [HE.out]
      exact own_low HO.out (by simp; omega)
    · exact (HB.out.trans (((Below.refl _ _).alloc hsz _).alloc (by simp; omega) _)).trans (HB2.out.mono (by simp; omega))
theorem OwnU.alloc {w : World} {B : Nat} {v : Value} {l : List UInt8} (h : OwnU w B v l) (o : Obj) : OwnU (w.alloc o) B v l :=
  World.ownsRow.alloc h o
theorem brow_lit {w : World} {b k : Nat} {cs : Array Value} {fr : Nat × Nat} {l : List UInt8} (h : w.heap[b]? = some (.cells cs 5 fr)) (hk : k = l.length) (hm : l.length ≤ maxLen) (hc : cs.toList = Lib.byteCells l) : BRow w (.slice (some ⟨b, 0, none⟩) k k) l := by
  subst hk
  refine ⟨some ⟨b, 0, none⟩, l.length, rfl, Nat.le_refl _, hm, (fun e => by cases e), fun i hi => ⟨b, 0, rfl, (Array.getElem?_eq_some_iff.1 h).1, ?_⟩⟩
  rw [cell_of_row w b (0 + i) _ _ _ h, ← byteCells_at l i hi, Nat.zero_add, ← hc]
  simp
set_option maxRecDepth 100000 in
set_option maxHeartbeats 2000000 in
theorem refSeal_any (v : Value) (l : List UInt8) (w : World) (h : BRow w v l) (hn : l.length + 4 ≤ 140737488355328) :
    Calls Tryd.prog 19 #[v] w fun e w' => ∃ v', e = .returned v' ∧ OwnU w' w.heap.size v' (sealed l) ∧ Below w.heap.size w w' := by
  have HT := Lib.hid (refSum_any v l w h)
  have hlt := sum_lt l
  have H := Lib.hid h
  obtain ⟨a, cap, rfl⟩ : ∃ a c, v = .slice a l.length c := by obtain ⟨a, c, h, _⟩ := h; exact ⟨a, c, h⟩
  obtain ⟨n, hnn⟩ : ∃ n, n = sum l := ⟨_, rfl⟩
  have HE := Lib.hid (show sealed l = l ++ le4 n by rw [hnn]; rfl)
  have HC := Lib.hid (le4_cells n (by rw [hnn]; exact hlt))
  rw [← hnn] at HT hlt
  have HEM := Lib.hid (own_empty w)
  have HX := Lib.hid ((Below.refl w.heap.size w).alloc (Nat.le_refl _) (.cells #[] 5))
  clear hnn h
  go_enter Tryd.func19, Tryd.ntmps19
  go_wp2_with fail
  refine HT.out.mono ?_
  rintro e w1 ⟨rfl, rfl⟩
  go_wp2_with (first
    | (refine wpList_append_bytes rfl _ _ rfl w.heap.size (.slice ua l.length uc) (.slice (some ⟨w2.heap.size, 0, none⟩) 4 4) l (le4 n) rfl rfl (OwnU.alloc HO2.out _) (brow_lit (heap_alloc_last w2 _) rfl (by rw [le4_len]; unfold maxLen; omega) (by rw [HC.out]; rfl)) (by rw [le4_len]; exact hn) (by simp; omega) ?_; intro u3 w3 own3 gr3; obtain ⟨ua3, uc3, rfl⟩ := own3.shape; have HO3 := Lib.hid own3; have HB3 := Lib.hid ((HB2.out.alloc hs2 _).grown gr3 (by simp; omega) (fun k hk => (HO2.out.lt k hk).1)); clear own3 gr3)
    | (refine wpList_append_bytes rfl _ _ rfl w.heap.size (.slice (some ⟨w.heap.size, 0, none⟩) 0 0) (.slice a l.length cap) [] l rfl rfl HEM.out (H.out.below HX.out) (by simp; omega) (by simp) ?_; intro u w2 own2 gr2; rw [List.nil_append] at own2; obtain ⟨ua, uc, rfl⟩ := own2.shape; have HO2 := Lib.hid own2; have HB2 := Lib.hid (HX.out.grown gr2 (by simp) (fun k hk => (HEM.out.lt k hk).1)); have hs2 := HB2.out.size; clear own2 gr2))
  go_ret
  refine ⟨_, rfl, ?_, HB3.out⟩
  rw [HE.out]
  have h := HO3.out
  rw [List.length_append] at h
  exact h
end Go.Proofs.YtbnkpbphahjomaaDoor
