/- Texts of this seat, put together: Daw, Dpw, Dtw. -/
import Derived.Test.YtgalhfnejhboaaaDoorGF2
import Derived.Test.YtgalhfnejhboaaaDoorGF3
import Derived.Test.YtgalhfnejhboaaaDoorGF5
/- The law's own awake: the document's example. -/
namespace Go.Proofs.YtgalhfnejhboaaaDoor
open Go.RowKit Rn Ch At

def OutV5 (w : World) (v : Value) (e : Ending) (w' : World) : Prop := e = .returned v ∧ Below w.heap.size w w'
set_option maxRecDepth 100000 in
theorem keepV_any (n : Int) (a : Option Addr) (k c : Nat) (w : World) : Calls Tryd.prog 24 #[.int .i64 n, .slice a k c] w (OutV5 w (.agg #[.int .i64 1, .int .i64 n, .string ⟨#[]⟩, .slice a k c])) := by
  go_enter Tryd.func24, Tryd.ntmps24
  go_wp2_with fail
  exact bodyPost_ret (v := .agg #[.int .i64 1, .int .i64 n, .string ⟨#[]⟩, .slice a k c]) (by simp [results, Tryd.results24, go_sem]) rfl ⟨rfl, below_box _ _⟩
set_option maxRecDepth 100000 in
theorem cutV_any (n : Int) (w : World) : Calls Tryd.prog 26 #[.int .i64 n] w (OutV5 w (.agg #[.int .i64 3, .int .i64 n, .string ⟨#[]⟩, .slice none 0 0])) := by
  go_enter Tryd.func26, Tryd.ntmps26
  go_wp2_with fail
  exact bodyPost_ret (v := .agg #[.int .i64 3, .int .i64 n, .string ⟨#[]⟩, .slice none 0 0]) (by simp [results, Tryd.results26, go_sem]) rfl ⟨rfl, below_box _ _⟩
set_option maxRecDepth 100000 in
theorem putV_any (s : ByteArray) (w : World) : Calls Tryd.prog 25 #[.string s, .slice none 0 0] w (OutV5 w (.agg #[.int .i64 2, .int .i64 0, .string s, .slice none 0 0])) := by
  go_enter Tryd.func25, Tryd.ntmps25
  go_wp2_with fail
  exact bodyPost_ret (v := .agg #[.int .i64 2, .int .i64 0, .string s, .slice none 0 0]) (by simp [results, Tryd.results25, go_sem]) rfl ⟨rfl, below_box _ _⟩

def bT (l : List UInt8) : ByteArray := ⟨l.toArray⟩
def exDoc : List RunD := [⟨⟨#[97, 98]⟩, [(⟨#[98]⟩, ⟨#[49]⟩)]⟩, ⟨⟨#[99, 100]⟩, []⟩]
def exOps5 : List OpD := [⟨1, 1, ⟨#[]⟩, []⟩, ⟨2, 0, ⟨#[120]⟩, []⟩, ⟨3, 1, ⟨#[]⟩, []⟩, ⟨1, 1, ⟨#[]⟩, [(⟨#[105]⟩, ⟨#[49]⟩)]⟩]
def exNow : List RunD := [⟨⟨#[97]⟩, [(⟨#[98]⟩, ⟨#[49]⟩)]⟩, ⟨⟨#[120]⟩, []⟩, ⟨⟨#[99]⟩, [(⟨#[105]⟩, ⟨#[49]⟩)]⟩, ⟨⟨#[100]⟩, []⟩]
theorem ex5_a : appE exDoc 4 exOps5 = 0 := by decide +kernel
theorem ex5_l : appL exDoc 4 exOps5 = exNow := by decide +kernel
theorem ex5_i : invE exDoc 4 exOps5 = 0 ∧ (invL exDoc exOps5).length = 4 := by decide +kernel
theorem ex5_n : lenN exNow = 4 ∧ lenE exNow = 0 := by decide +kernel
theorem ex5_p : plainT exNow = [97, 120, 99, 100] := by decide +kernel

theorem exNow_rs : RSized exNow := by rw [← ex5_l]; exact rsized_app _ _ _ ex5_a
theorem exNow_tx : ∀ r ∈ exNow, r.text.size ≤ 80000 := fun r hr => (okR_size ((docF_of ex5_n.2).oks r hr)).2
theorem runRow_new (w : World) (ps : List RP) (h : ∀ p ∈ ps, AtRow w p.2 p.1.attrs) (hm : ps.length ≤ maxLen) : RunRow (w.alloc (.cells (flatR ps).toArray 54)) (.slice (some ⟨w.heap.size, 0, none⟩) ps.length ps.length) ps := by
  have hx : (w.alloc (.cells (flatR ps).toArray 54)).heap[w.heap.size]? = some (.cells (flatR ps).toArray 54 (0, 0)) := heap_new _ _
  refine ⟨⟨_, _, rfl, Nat.le_refl _, hm, fun i hi => ⟨w.heap.size, 0, rfl, by simp, ?_, ?_⟩⟩, fun p hp => (h p hp).below (below_box _ _)⟩
  · rw [Lib.cell_of_heap hx]
    have := flatR_at hi 0 (by omega)
    rw [Nat.add_zero] at this
    simp only [List.getElem?_toArray, Nat.zero_add]
    exact this.trans rfl
  · rw [Lib.cell_of_heap hx]
    have := flatR_at hi 1 (by omega)
    simp only [List.getElem?_toArray, Nat.zero_add]
    exact this.trans rfl
theorem atRow_one (w : World) (k v : ByteArray) : AtRow (w.alloc (.cells #[.string k, .string v] 52)) (.slice (some ⟨w.heap.size, 0, none⟩) 1 1) [(k, v)] := by
  have hx : (w.alloc (.cells #[.string k, .string v] 52)).heap[w.heap.size]? = some (.cells #[.string k, .string v] 52 (0, 0)) := heap_new _ _
  refine ⟨_, _, rfl, Nat.le_refl _, by simp [maxLen], fun i hi => ⟨w.heap.size, 0, rfl, by simp, ?_, ?_⟩⟩
  · have : i = 0 := by simpa using hi
    subst this
    rw [Lib.cell_of_heap hx]; rfl
  · have : i = 0 := by simpa using hi
    subst this
    rw [Lib.cell_of_heap hx]; rfl
theorem opRow_new5 (w : World) (ps : List (OpD × Value)) (h : ∀ p ∈ ps, AtRow w p.2 p.1.attrs ∧ Proper p.2) (hm : ps.length ≤ maxLen) : OpRow (w.alloc (.cells (flatO ps).toArray 50)) (.slice (some ⟨w.heap.size, 0, none⟩) ps.length ps.length) (ps.map (·.1)) := by
  have hx : (w.alloc (.cells (flatO ps).toArray 50)).heap[w.heap.size]? = some (.cells (flatO ps).toArray 50 (0, 0)) := heap_new _ _
  refine ⟨some ⟨w.heap.size, 0, none⟩, ps.length, by rw [List.length_map], by rw [List.length_map]; exact Nat.le_refl _, hm, fun i hi => ?_⟩
  rw [List.length_map] at hi
  obtain ⟨h1, h2⟩ := h ps[i] (List.getElem_mem hi)
  have e : ∀ j, j < 4 → (w.alloc (.cells (flatO ps).toArray 50)).cell? ⟨w.heap.size, 0 + i * 4 + j, none⟩ = (opCells ps[i])[j]? := fun j hj => by
    rw [Lib.cell_of_heap hx, Nat.zero_add]
    have := flatO_at hi j hj
    simpa using this
  rw [List.getElem_map]
  exact ⟨w.heap.size, 0, rfl, by simp, ps[i].2, h1.below (below_box _ _), h2, e 0 (by omega), e 1 (by omega), e 2 (by omega), e 3 (by omega)⟩

set_option maxRecDepth 100000 in
set_option maxHeartbeats 4000000 in
theorem awake5_any (w : World) (hU : U8s w.heap.size w) : Calls Tryd.prog 8 #[] w fun e w' => e = .returned (.bool true) ∧ Below w.heap.size w w' := by
  have HU := Lib.hid hU
  clear hU
  go_enter Tryd.func8, Tryd.ntmps8
  go_wp2_with fail
  obtain ⟨W1, hW1⟩ : ∃ W, W = (w.alloc (.cells #[.string ⟨#[98]⟩, .string ⟨#[49]⟩] 52)).alloc (.cells #[.string ⟨#[97, 98]⟩, .slice (some ⟨w.heap.size, 0, none⟩) 1 1, .string ⟨#[99, 100]⟩, .slice none 0 0] 54) := ⟨_, rfl⟩
  rw [← hW1]
  have hR : RunRow W1 (.slice (some ⟨w.heap.size + 1, 0, none⟩) 2 2) [(⟨⟨#[97, 98]⟩, [(⟨#[98]⟩, ⟨#[49]⟩)]⟩, .slice (some ⟨w.heap.size, 0, none⟩) 1 1), (⟨⟨#[99, 100]⟩, []⟩, .slice none 0 0)] := by
    rw [hW1]
    have := runRow_new (w.alloc (.cells #[.string ⟨#[98]⟩, .string ⟨#[49]⟩] 52)) [(⟨⟨#[97, 98]⟩, [(⟨#[98]⟩, ⟨#[49]⟩)]⟩, .slice (some ⟨w.heap.size, 0, none⟩) 1 1), (⟨⟨#[99, 100]⟩, []⟩, .slice none 0 0)] (fun p hp => by
      simp only [List.mem_cons, List.not_mem_nil, or_false] at hp
      rcases hp with rfl | rfl
      · exact atRow_one w _ _
      · exact row_nilC _) (by show (2 : Nat) ≤ maxLen; decide)
    rw [World.size_alloc] at this
    exact this
  have BW1 : Below w.heap.size w W1 := by rw [hW1]; exact ((Below.refl _ w).alloc (Nat.le_refl _) _).alloc (by simp) _
  have HR := Lib.hid hR
  have HB1 := Lib.hid BW1
  have s1 : w.heap.size + 1 < W1.heap.size := by rw [hW1]; simp
  clear hW1 hR BW1
  refine (keepV_any 1 none 0 0 _).mono ?_
  rintro e w1 ⟨rfl, b⟩
  have HB2 := Lib.hid (HB1.out.trans (b.mono HB1.out.size))
  have HR2 := Lib.hid (HR.out.below b)
  clear b HR HB1
  go_wp2_with fail
  refine (putV_any ⟨#[120]⟩ _).mono ?_
  rintro e w2 ⟨rfl, b⟩
  have HB3 := Lib.hid (HB2.out.trans (b.mono HB2.out.size))
  have HR3 := Lib.hid (HR2.out.below b)
  clear b HR2 HB2
  go_wp2_with fail
  refine (cutV_any 1 _).mono ?_
  rintro e w3 ⟨rfl, b⟩
  have HB4 := Lib.hid (HB3.out.trans (b.mono HB3.out.size))
  have HR4 := Lib.hid (HR3.out.below b)
  clear b HR3 HB3
  go_wp2_with fail
  refine (keepV_any 1 _ _ _ _).mono ?_
  rintro e w4 ⟨rfl, b⟩
  have hA := (atRow_one w3 ⟨#[105]⟩ ⟨#[49]⟩).below b
  have bx := below_box w3 (.cells #[.string ⟨#[105]⟩, .string ⟨#[49]⟩] 52)
  have HB5 := Lib.hid (HB4.out.trans ((bx.mono HB4.out.size).trans (b.mono (Nat.le_trans HB4.out.size bx.size))))
  have HR5 := Lib.hid ((HR4.out.below bx).below b)
  have HA := Lib.hid hA
  clear b bx hA HR4 HB4
  go_wp2_with fail
  obtain ⟨W5, hW5⟩ : ∃ W, W = (w4.alloc (.cells #[.int .i64 1, .int .i64 1, .string ⟨#[]⟩, .slice none 0 0, .int .i64 2, .int .i64 0, .string ⟨#[120]⟩, .slice none 0 0, .int .i64 3, .int .i64 1, .string ⟨#[]⟩, .slice none 0 0, .int .i64 1, .int .i64 1, .string ⟨#[]⟩, .slice (some ⟨w3.heap.size, 0, none⟩) 1 1] 50)).alloc (.cells #[.int .i64 4, .slice (some ⟨w4.heap.size, 0, none⟩) 4 4] 25) := ⟨_, rfl⟩
  rw [← hW5]
  have hO : OpRow W5 (.slice (some ⟨w4.heap.size, 0, none⟩) 4 4) exOps5 := by
    rw [hW5]
    have := opRow_new5 w4 [(⟨1, 1, ⟨#[]⟩, []⟩, .slice none 0 0), (⟨2, 0, ⟨#[120]⟩, []⟩, .slice none 0 0), (⟨3, 1, ⟨#[]⟩, []⟩, .slice none 0 0), (⟨1, 1, ⟨#[]⟩, [(⟨#[105]⟩, ⟨#[49]⟩)]⟩, .slice (some ⟨w3.heap.size, 0, none⟩) 1 1)] (fun p hp => by
      simp only [List.mem_cons, List.not_mem_nil, or_false] at hp
      have hnp : Proper (.slice none 0 0) := fun n c h => by cases h; exact ⟨rfl, rfl⟩
      rcases hp with rfl | rfl | rfl | rfl
      · exact ⟨row_nil _, hnp⟩
      · exact ⟨row_nil _, hnp⟩
      · exact ⟨row_nil _, hnp⟩
      · exact ⟨HA.out, fun n c h => by cases h⟩) (by show 4 ≤ maxLen; decide)
    exact this.below (below_box _ _)
  have hC : W5.heap[w4.heap.size + 1]? = some (.cells #[.int .i64 4, .slice (some ⟨w4.heap.size, 0, none⟩) 4 4] 25 (0, 0)) := by
    rw [hW5]
    have := heap_new (w4.alloc (.cells #[.int .i64 1, .int .i64 1, .string ⟨#[]⟩, .slice none 0 0, .int .i64 2, .int .i64 0, .string ⟨#[120]⟩, .slice none 0 0, .int .i64 3, .int .i64 1, .string ⟨#[]⟩, .slice none 0 0, .int .i64 1, .int .i64 1, .string ⟨#[]⟩, .slice (some ⟨w3.heap.size, 0, none⟩) 1 1] 50)) (.cells #[.int .i64 4, .slice (some ⟨w4.heap.size, 0, none⟩) 4 4] 25)
    rwa [World.size_alloc] at this
  have bx : Below w4.heap.size w4 W5 := by rw [hW5]; exact ((Below.refl _ w4).alloc (Nat.le_refl _) _).alloc (by simp) _
  have s5 : w4.heap.size + 1 < W5.heap.size := by rw [hW5]; simp
  have HB6 := Lib.hid (HB5.out.trans (bx.mono HB5.out.size))
  have HR6 := Lib.hid (HR5.out.below bx)
  have HO := Lib.hid hO
  have HC := Lib.hid hC
  have HPR := Lib.hid (show Proper (.slice (some ⟨w4.heap.size, 0, none⟩) 4 4) from fun n c h => by cases h)
  have HRS := Lib.hid (show RSized exDoc from fun r hr => by
    simp only [exDoc, List.mem_cons, List.not_mem_nil, or_false] at hr
    rcases hr with rfl | rfl
    · exact ⟨by decide, fun x hx => by rw [List.mem_singleton.1 hx]; exact ⟨by decide, by decide⟩⟩
    · exact ⟨by decide, sized_nil⟩)
  have HOS := Lib.hid (show OSized exOps5 from fun o ho => by
    simp only [exOps5, List.mem_cons, List.not_mem_nil, or_false] at ho
    rcases ho with rfl | rfl | rfl | rfl
    · exact ⟨by decide, sized_nil⟩
    · exact ⟨by decide, sized_nil⟩
    · exact ⟨by decide, sized_nil⟩
    · exact ⟨by decide, fun x hx => by rw [List.mem_singleton.1 hx]; exact ⟨by decide, by decide⟩⟩)
  have hu := fun W (h : Below w.heap.size w W) => (show U8s W.heap.size W from ⟨Nat.lt_of_lt_of_le HU.out.1 h.size, Nat.lt_of_lt_of_le HU.out.2.1 h.size, (HU.out.to h).2.2⟩)
  have HAP := Lib.hid (apply_any _ _ _ 4 exOps5 W5 HR6.out HRS.out HO.out HPR.out HOS.out (hu _ HB6.out))
  have HIN := Lib.hid (fun W (h : Below W5.heap.size W5 W) => show Calls Tryd.prog 14 #[.slice (some ⟨w.heap.size + 1, 0, none⟩) 2 2, chAgg 4 (.slice (some ⟨w4.heap.size, 0, none⟩) 4 4)] W (InvOut W W.heap.size exDoc 4 exOps5) from inverse_any _ _ _ 4 exOps5 W (HR6.out.below h) HRS.out (HO.out.below h) HPR.out HOS.out (hu _ (HB6.out.trans (h.mono HB6.out.size))))
  clear hW5 hO hC bx hu HR5 HB5 HA
  refine HAP.out.mono ?_
  rintro e w6 ⟨xv, rfl, b6, xs, hxs, hxo⟩
  have hxs : xs.map (·.1) = exNow := hxs.trans ex5_l
  have HE : appE (List.map (fun x => x.fst) [((⟨⟨#[97, 98]⟩, [(⟨#[98]⟩, ⟨#[49]⟩)]⟩ : RunD), Value.slice (some ⟨w.heap.size, 0, none⟩) 1 1), (⟨⟨#[99, 100]⟩, []⟩, .slice none 0 0)]) 4 exOps5 = 0 := ex5_a
  rw [HE]
  clear HE
  have hx4 : xs.length = 4 := by have := congrArg List.length hxs; rw [List.length_map] at this; exact this
  have hxr : RunRow w6 xv xs := hxo.row
  obtain ⟨g, cap, rfl⟩ := ownsRow_open hxo.1 (by omega)
  have g2 : w6.cell? ⟨g, 2, none⟩ = some (.string ⟨#[120]⟩) := by
    have h1 : 1 < xs.length := by omega
    have h2 := hxo.1.cellAt 2 (show 2 < xs.length * 2 by omega)
    rw [h2]
    have h3 := flatR_at h1 0 (by omega)
    have h4 : (xs.map (·.1))[1]? = exNow[1]? := by rw [hxs]
    rw [List.getElem?_map, List.getElem?_eq_getElem h1] at h4
    have h5 : xs[1].1 = ⟨⟨#[120]⟩, []⟩ := by simpa [exNow] using h4
    have h6 : (flatR xs)[2]? = (runCells xs[1])[0]? := h3
    rw [h6]
    show some (Value.string xs[1].1.text) = _
    rw [h5]
  have hgl : g < w6.heap.size := by obtain ⟨cs, hcs⟩ := (own_heap hxo.1).2; exact lt_of_heap hcs
  have c0 : w6.cell? ⟨w4.heap.size + 1, 0, none⟩ = some (.int .i64 4) := (b6.cell (by exact s5)).trans ((Lib.cell_of_heap HC.out 0).trans rfl)
  have c1 : w6.cell? ⟨w4.heap.size + 1, 1, none⟩ = some (.slice (some ⟨w4.heap.size, 0, none⟩) 4 4) := (b6.cell (by exact s5)).trans ((Lib.cell_of_heap HC.out 1).trans rfl)
  have HIN6 := Lib.hid (HIN.out w6 b6)
  have HB7 := Lib.hid (HB6.out.trans (b6.mono HB6.out.size))
  have HXR := Lib.hid hxr
  have HXS := Lib.hid hxs
  have HG := Lib.hid g2
  have HPL := Lib.hid (fun W (h : Below w6.heap.size w6 W) => plain_doc _ xs W (hxr.below h) (by rw [hxs]; exact exNow_rs) (by rw [hxs]; exact ex5_n.2) (by omega) (fun p hp => exNow_tx p.1 (by rw [← hxs]; exact List.mem_map.2 ⟨p, hp, rfl⟩)))
  rw [hxs, ex5_p, hx4] at HPL
  rw [hx4] at HXR ⊢
  clear b6 hxr hxs hxo g2 HIN HAP HB6 hx4
  go_wp2_with fail
  refine HIN6.out.mono ?_
  rintro e w7 ⟨yv, rfl, b7, yo⟩
  rw [if_pos ex5_i.1] at yo ⊢
  rw [ex5_l, ex5_n.1, ex5_i.1]
  obtain ⟨yps, hyps, yown⟩ := yo
  have hy4 : yps.length = 4 := by have := congrArg List.length hyps; rw [List.length_map, ex5_i.2] at this; exact this
  obtain ⟨yg, ycap, rfl⟩ := ownsRow_open yown.1 (by omega)
  rw [hy4]
  have bY := below_box w7 (.cells #[.int .i64 4, .slice (some ⟨yg, 0, none⟩) 4 ycap] 25)
  have HP7 := Lib.hid (HPL.out (w7.alloc (.cells #[.int .i64 4, .slice (some ⟨yg, 0, none⟩) 4 ycap] 25)) (b7.trans (bY.mono b7.size)))
  have HBY := Lib.hid bY
  have HY0 := Lib.hid (show (w7.alloc (.cells #[.int .i64 4, .slice (some ⟨yg, 0, none⟩) 4 ycap] 25)).heap[w7.heap.size]? = some (.cells #[.int .i64 4, .slice (some ⟨yg, 0, none⟩) 4 ycap] 25 (0, 0)) from heap_new _ _)
  have HB8 := Lib.hid (HB7.out.trans (b7.mono HB7.out.size))
  have g7 : w7.cell? ⟨g, 2, none⟩ = some (.string ⟨#[120]⟩) := (b7.cell (by exact hgl)).trans HG.out
  have hgl7 : g < w7.heap.size := Nat.lt_of_lt_of_le hgl b7.size
  have HG7 := Lib.hid g7
  clear b7 bY yown hyps g7 HPL HB7 HIN6 c0 c1
  go_wp2_with fail
  refine HP7.out.mono ?_
  rintro e w8 ⟨rfl, b8⟩
  have y8 := (b8.block _ (lt_of_heap HY0.out)).trans HY0.out
  have y0 : w8.cell? ⟨w7.heap.size, 0, none⟩ = some (.int .i64 4) := (Lib.cell_of_heap y8 0).trans rfl
  have y1 : w8.cell? ⟨w7.heap.size, 1, none⟩ = some (.slice (some ⟨yg, 0, none⟩) 4 ycap) := (Lib.cell_of_heap y8 1).trans rfl
  have g8 : w8.cell? ⟨g, 2, none⟩ = some (.string ⟨#[120]⟩) := ((HBY.out.trans (b8.mono HBY.out.size)).cell (by exact hgl7)).trans HG7.out
  have HB9 := Lib.hid (HB8.out.trans ((HBY.out.mono HB8.out.size).trans (b8.mono (Nat.le_trans HB8.out.size HBY.out.size))))
  have hlt7 := lt_of_heap HY0.out
  clear b8 y8 HP7
  go_wp2_with fail
  go_ret
  exact ⟨rfl, HB9.out⟩
end Go.Proofs.YtgalhfnejhboaaaDoor

/- The law ApplyParts, walked. -/
namespace Go.Proofs.YtgalhfnejhboaaaDoor
open Go.RowKit Rn Ch At

theorem U8s.up {w W : World} (h : U8s w.heap.size w) (hb : Below w.heap.size w W) : U8s W.heap.size W := ⟨Nat.lt_of_lt_of_le h.1 hb.size, Nat.lt_of_lt_of_le h.2.1 hb.size, (h.to hb).2.2⟩
theorem rsized_doc {l : List RunD} (h : lenE l = 0) : RSized l := fun r hr => by
  have hd := docF_of h
  have h1 := okR_size (hd.oks r hr)
  exact ⟨by unfold maxLen; omega, sized_rgt (hd.rgt r hr)⟩
theorem doc_tx {l : List RunD} (h : lenE l = 0) : ∀ r ∈ l, r.text.size ≤ 80000 := fun r hr => (okR_size ((docF_of h).oks r hr)).2
theorem runRow_nil (w : World) : RunRow w (.slice none 0 0) [] := ⟨⟨none, 0, rfl, Nat.le_refl _, Nat.zero_le _, fun _ h => absurd h (Nat.not_lt_zero _)⟩, fun p hp => by cases hp⟩
theorem okc_sized {f : Int} {ops : List OpD} (h : OkC f ops) : OSized ops := fun o ho => by
  have hv := vop_of h ho
  exact ⟨by have := hv.text; unfold maxLen; omega, hv.attrs.sized⟩
theorem osized_of {l : List RunD} {f : Int} {ops : List OpD} (h : appE l f ops = 0) : OSized ops := okc_sized (fitG_of (appF_of h).fit).okc
/-- A row of runs that is a document, with its contracts at hand. -/
theorem plain_row (v : Value) (ps : List RP) (l : List RunD) (w : World) (hv : RunRow w v ps) (hl : ps.map (·.1) = l) (h0 : lenE l = 0) :
    Calls Tryd.prog 17 #[v] w fun e w' => e = .returned (.tuple #[.string ⟨(plainT l).toArray⟩, .int .i64 0]) ∧ Below w.heap.size w w' := by
  subst hl
  have hd := docF_of h0
  exact plain_doc v ps w hv (rsized_doc h0) h0 (by have := hd.len; rwa [List.length_map] at this) (fun p hp => doc_tx h0 p.1 (List.mem_map.2 ⟨p, hp, rfl⟩))

set_option maxRecDepth 100000 in
set_option maxHeartbeats 8000000 in
theorem parts_walk5 (v : Value) (ps : List RP) (at_ : Int) (w : World) (hv : RunRow w v ps) (hz : RSized (ps.map (·.1))) (h1 : -9223372036854775808 ≤ at_) (h2 : at_ ≤ 9223372036854775807) (hU : U8s w.heap.size w) :
    Calls Tryd.prog 4 #[v, .int .i64 at_] w (OutB w true) := by
  have HAW := Lib.hid (awake5_any w hU)
  have HLEN := Lib.hid (fun W (h : Below w.heap.size w W) => length_any v ps W (hv.below h) hz)
  obtain ⟨l, hl⟩ : ∃ l, l = ps.map (·.1) := ⟨_, rfl⟩
  have HLL := Lib.hid hl
  simp only [← hl] at HLEN
  have HV := Lib.hid hv
  have HU := Lib.hid hU
  have HZ := Lib.hid hz
  obtain ⟨va, vc, rfl⟩ := hv.shape
  clear hv hz hU hl
  go_enter Tryd.func4, Tryd.ntmps4
  go_wp2_with fail
  refine HAW.out.mono ?_
  rintro e w1 ⟨rfl, b⟩
  have B1 := Lib.hid b
  have HL1 := Lib.hid (HLEN.out w1 b)
  clear b HAW HLEN
  go_wp2_with fail
  refine HL1.out.mono ?_
  rintro e w2 ⟨rfl, b⟩
  have B2 := Lib.hid (B1.out.trans (b.mono B1.out.size))
  clear b HL1
  by_cases hE : lenE l = 0
  · have te : (lenE l != 0) = false := by rw [hE]; rfl
    by_cases h3 : at_ < 0
    · have t3 : decide (at_ < 0) = true := decide_eq_true h3
      clear hE
      go_wp2_with fail
      go_ret
      exact outB_mk rfl B2.out
    · have t3 : decide (at_ < 0) = false := decide_eq_false h3
      by_cases h4 : lenN l < at_
      · have t4 : decide (lenN l < at_) = true := decide_eq_true h4
        clear hE
        go_wp2_with fail
        go_ret
        exact outB_mk rfl B2.out
      · have t4 : decide (lenN l < at_) = false := decide_eq_false h4
        obtain ⟨k, rfl⟩ : ∃ k : Nat, at_ = (k : Int) := ⟨at_.toNat, by omega⟩
        have hN := (docF_of hE).n
        have hkn : k ≤ (cellsD l).length := by omega
        have HE := Lib.hid hE
        have HN := Lib.hid hN
        have HKN := Lib.hid hkn
        have HSL := Lib.hid (fun W (h : Below w.heap.size w W) (a b : Nat) (hab : a ≤ b) (hb : b ≤ (cellsD l).length) => (show Calls Tryd.prog 16 #[.slice va ps.length vc, .int .i64 (a : Int), .int .i64 (b : Int)] W (SliceOut W l a b) by
          have := slice_any (.slice va ps.length vc) ps a b W (HV.out.below h) HZ.out (by rw [← HLL.out]; exact HE.out) hab (by rw [← HLL.out]; exact hb) (HU.out.up h)
          rwa [← HLL.out] at this))
        clear hE h3 h4 hkn hN
        have HS1 := HSL.out w2 B2.out 0 k (Nat.zero_le _) HKN.out
        rw [show ((0 : Nat) : Int) = 0 from rfl] at HS1
        have HS1 := Lib.hid HS1
        go_wp2_with fail
        refine HS1.out.mono ?_
        rintro e w3 ⟨av, rfl, b, ra, has, hao⟩
        have B3 := Lib.hid (B2.out.trans (b.mono B2.out.size))
        obtain ⟨aa, ac, rfl⟩ := own_slice hao.1
        have HAR := Lib.hid hao.row
        have HAS := Lib.hid has
        have HS2 := HSL.out w3 B3.out k (cellsD l).length HKN.out (Nat.le_refl _)
        rw [← HN.out] at HS2
        have HS2 := Lib.hid HS2
        clear b has hao HS1 HSL
        go_wp2_with fail
        refine HS2.out.mono ?_
        rintro e w4 ⟨bv, rfl, b, rb, hbs, hbo⟩
        have B4 := Lib.hid (B3.out.trans (b.mono B3.out.size))
        obtain ⟨ba, bc, rfl⟩ := own_slice hbo.1
        have HA4 := Lib.hid (HAR.out.below b)
        have HB4 := Lib.hid hbo.row
        have HBS := Lib.hid hbs
        have HP1 := Lib.hid (fun W (h : Below w.heap.size w W) => plain_row (.slice va ps.length vc) ps l W (HV.out.below h) HLL.out.symm HE.out)
        have HQ1 := Lib.hid (HP1.out w4 B4.out)
        have pA := part_of HE.out 0 k
        have pB := part_of HE.out k (cellsD l).length
        have hsum := plain_parts HE.out k HKN.out
        have HPA := Lib.hid pA
        have HPB := Lib.hid pB
        obtain ⟨lA, hlA⟩ : ∃ x, x = sliceL l 0 k := ⟨_, rfl⟩
        obtain ⟨lB, hlB⟩ : ∃ x, x = sliceL l k (cellsD l).length := ⟨_, rfl⟩
        obtain ⟨P, hP⟩ : ∃ x : ByteArray, x = ⟨(plainT l).toArray⟩ := ⟨_, rfl⟩
        obtain ⟨PA, hPA⟩ : ∃ x : ByteArray, x = ⟨(plainT lA).toArray⟩ := ⟨_, rfl⟩
        obtain ⟨PB, hPB⟩ : ∃ x : ByteArray, x = ⟨(plainT lB).toArray⟩ := ⟨_, rfl⟩
        have hcat : PA ++ PB = P := by
          rw [cat_eq, hP, hPA, hPB, hlA, hlB, ← hsum]
          exact ba_eq (by rw [cat_data])
        have hrA : ∀ r ∈ lA, r.text.size ≤ 80000 := by rw [hlA]; exact doc_tx pA.right
        have hrB : ∀ r ∈ lB, r.text.size ≤ 80000 := by rw [hlB]; exact doc_tx pB.right
        have hszA : PA.size ≤ 2000 * 80000 := by
          have h1 := plainT_size hrA
          have h2 : PA.size = (plainT lA).length := by rw [hPA]; exact List.size_toArray
          have h3 : lA.length ≤ 2000 := by rw [hlA]; exact (docF_of pA.right).len
          have h4 := Nat.mul_le_mul_right 80000 h3
          omega
        have hszB : PB.size ≤ 2000 * 80000 := by
          have h1 := plainT_size hrB
          have h2 : PB.size = (plainT lB).length := by rw [hPB]; exact List.size_toArray
          have h3 : lB.length ≤ 2000 := by rw [hlB]; exact (docF_of pB.right).len
          have h4 := Nat.mul_le_mul_right 80000 h3
          omega
        have HQ2 := fun W (h : Below w4.heap.size w4 W) => plain_row (.slice aa ra.length ac) ra lA W (HA4.out.below h) (HAS.out.trans hlA.symm) (by rw [hlA]; exact pA.right)
        have HQ3 := fun W (h : Below w4.heap.size w4 W) => plain_row (.slice ba rb.length bc) rb lB W (HB4.out.below h) (HBS.out.trans hlB.symm) (by rw [hlB]; exact pB.right)
        have hnA : lenN (ra.map (·.1)) = (k : Int) := by
          rw [HAS.out, pA.n]
          unfold sliceC
          rw [List.drop_zero, Nat.sub_zero, List.length_take]
          have := HKN.out
          omega
        have heA : lenE (ra.map (·.1)) = 0 := by rw [HAS.out]; exact pA.right
        have HQ4 := fun W (h : Below w4.heap.size w4 W) => (show Calls Tryd.prog 10 #[.slice aa ra.length ac] W fun e w' => e = .returned (.tuple #[.int .i64 (k : Int), .int .i64 0]) ∧ Below W.heap.size W w' from
          (length_any (.slice aa ra.length ac) ra W (HA4.out.below h) (by rw [HAS.out]; exact rsized_doc pA.right)).mono fun e w' h => by unfold LenOut at h; rw [hnA, heA] at h; exact h)
        rw [← hP] at HQ1
        simp only [← hPA] at HQ2
        simp only [← hPB] at HQ3
        have HQ1 := Lib.hid HQ1.out
        have HQ2 := Lib.hid HQ2
        have HQ3 := Lib.hid HQ3
        have HQ4 := Lib.hid HQ4
        have HQ5 := Lib.hid (fun W (h : Below w.heap.size w W) => (show Calls Tryd.prog 18 #[.slice va ps.length vc] W fun e w' => ∃ u, e = .returned (.tuple #[chAgg 0 u, .int .i64 0]) ∧ OwnOps w' W.heap.size u (asL l) ∧ Below W.heap.size W w' by
          have := as_any (.slice va ps.length vc) ps W (HV.out.below h) HZ.out (by rw [← HLL.out]; exact HE.out)
          rwa [← HLL.out] at this))
        have HCAT := Lib.hid hcat
        clear b hbs hbo hP hPA hPB hlA hlB hcat hrA hrB hnA heA pA pB hsum HS2 HAR
        go_wp2_with fail
        refine HQ1.out.mono ?_
        rintro e w5 ⟨rfl, b⟩
        have B5 := Lib.hid (B4.out.trans (b.mono B4.out.size))
        have C5 := Lib.hid b
        clear b HQ1
        go_wp2_with fail
        refine (HQ2.out w5 C5.out).mono ?_
        rintro e w6 ⟨rfl, b⟩
        have B6 := Lib.hid (B5.out.trans (b.mono B5.out.size))
        have C6 := Lib.hid (C5.out.trans (b.mono C5.out.size))
        clear b HQ2
        go_wp2_with fail
        refine (HQ3.out w6 C6.out).mono ?_
        rintro e w7 ⟨rfl, b⟩
        have B7 := Lib.hid (B6.out.trans (b.mono B6.out.size))
        have C7 := Lib.hid (C6.out.trans (b.mono C6.out.size))
        clear b HQ3
        go_wp2_with fail
        refine (HQ4.out w7 C7.out).mono ?_
        rintro e w8 ⟨rfl, b⟩
        have B8 := Lib.hid (B7.out.trans (b.mono B7.out.size))
        clear b HQ4
        have HQ5 := Lib.hid (HQ5.out w8 B8.out)
        go_wp2_with fail
        refine HQ5.out.mono ?_
        rintro e w9 ⟨cv, rfl, hco, b⟩
        have B9 := Lib.hid (B8.out.trans (b.mono B8.out.size))
        have HCR := Lib.hid hco.row
        obtain ⟨cps, hcp, hco2⟩ := hco
        have hcl : cps.length = (asL l).length := by rw [← hcp, List.length_map]
        have HPR := Lib.hid (proper_own hco2.1)
        obtain ⟨ca, cc, rfl⟩ := own_slice hco2.1
        rw [hcl] at HCR HPR ⊢
        clear b hco2 hcp HQ5 hcl
        have hsz1 : (9223372036854775807 < PA.size + PB.size) = False := by simp; omega
        have hss : (P.toList != P.toList) = false := by simp
        have hcat' := HCAT.out
        have HAPW := Lib.hid (fun W (h : Below w9.heap.size w9 W) => apply_any (.slice none 0 0) (.slice ca (asL l).length cc) [] 0 (asL l) W (runRow_nil W) (fun r hr => by cases hr) (HCR.out.below h) HPR.out (osized_of (as_makes HE.out).1) (HU.out.up (B9.out.trans (h.mono B9.out.size))))
        have bx := below_box w9 (.cells #[.int .i64 0, .slice ca (asL l).length cc] 25)
        have HAP1 := Lib.hid (HAPW.out _ bx)
        have HBX := Lib.hid (B9.out.trans (bx.mono B9.out.size))
        clear bx HAPW
        go_wp2_with fail
        refine HAP1.out.mono ?_
        rintro e w10 ⟨mv, rfl, b, ms, hms, hmo⟩
        obtain ⟨hme, hml⟩ := as_makes HE.out
        rw [show (List.map (fun x : RP => x.1) []) = ([] : List RunD) from rfl] at hms ⊢
        rw [hml] at hms
        rw [hme]
        have B10 := Lib.hid (HBX.out.trans (b.mono HBX.out.size))
        have HSM := sameDoc_any mv (.slice va ps.length vc) ms ps w10 hmo.row (HV.out.below B10.out)
        rw [hms, ← HLL.out, show sameRuns l l = true from decide_eq_true rfl] at HSM
        have HSM := Lib.hid HSM
        obtain ⟨ma, mc, rfl⟩ := own_slice hmo.1
        clear b hms hmo hme hml HAP1
        go_wp2_with fail
        refine HSM.out.mono ?_
        rintro e w11 ⟨rfl, b⟩
        have B11 := Lib.hid (B10.out.trans (b.mono B10.out.size))
        clear b
        go_wp2_with fail
        go_ret
        exact outB_mk rfl B11.out
  · have te : (lenE l != 0) = true := by rw [bne_iff_ne]; exact hE
    clear hE
    go_wp2_with fail
    go_ret
    exact outB_mk rfl B2.out
end Go.Proofs.YtgalhfnejhboaaaDoor

/- The law ApplyTwice, walked. -/
namespace Go.Proofs.YtgalhfnejhboaaaDoor
open Go.RowKit Rn Ch At

/-- Operations of one's own, as a changeset's. -/
theorem ownOps_open {w : World} {B : Nat} {v : Value} {ops : List OpD} (h : OwnOps w B v ops) : ∃ a c, v = .slice a ops.length c ∧ OpRow w v ops ∧ Proper v := by
  have hr := h.row
  obtain ⟨ps, h1, h2⟩ := h
  obtain ⟨a, c, h3⟩ := hr.shape
  exact ⟨a, c, h3, hr, proper_own h2.1⟩
/-- Inverse over what Apply made. -/
theorem invE_two {l : List RunD} {f : Int} {ops : List OpD} (h : appE l f ops = 0) : invE l f ops = 0 ∨ invE l f ops = 2 := by
  unfold invE
  rw [if_neg (by rw [h]; simp)]
  split
  · exact .inr rfl
  · exact .inl rfl
theorem invE_len {l : List RunD} {f : Int} {ops : List OpD} (h : invE l f ops = 0) : appE l f ops = 0 ∧ (invL l ops).length ≤ 2000 := by
  unfold invE at h
  split at h
  · exact absurd h (by assumption)
  · rename_i h1
    split at h
    · omega
    · exact ⟨Classical.byContradiction h1, by omega⟩

/-- A changeset and its inverse: what holds of the two. -/
structure WayF (l : List RunD) (X : List RunD) (n : Int) (V : List OpD) : Prop where
  right : lenE X = 0
  sized : OSized V
  app : appE X n V = 0
  val : appL X n V = l
  again : invE X n V = 0 → OSized (invL X V) ∧ appE l (lenN l) (invL X V) = 0 ∧ appL l (lenN l) (invL X V) = X
theorem wayF_of {l : List RunD} {f : Int} {ops : List OpD} (h : invE l f ops = 0) : WayF l (appL l f ops) (lenN (appL l f ops)) (invL l ops) := by
  obtain ⟨h1, h2⟩ := invE_len h
  have hI := invF_of h1 h2
  refine ⟨(appF_of h1).right, okc_sized ((toE_iff _ _).1 hI.tob), hI.back, hI.val, fun h3 => ?_⟩
  obtain ⟨h4, h5⟩ := invE_len h3
  have hJ := invF_of h4 h5
  have e1 := hJ.back
  have e2 := hJ.val
  have e3 := hJ.tob
  rw [hI.val] at e1 e2 e3
  exact ⟨okc_sized ((toE_iff _ _).1 e3), e1, e2⟩

set_option maxRecDepth 100000 in
set_option maxHeartbeats 8000000 in
theorem twice_walk5 (v : Value) (ps : List RP) (f : Int) (ov : Value) (ops : List OpD) (w : World) (hv : RunRow w v ps) (hz : RSized (ps.map (·.1))) (hc : OpRow w ov ops) (hpr : Proper ov) (hy : OSized ops) (hU : U8s w.heap.size w) :
    Calls Tryd.prog 7 #[v, chAgg f ov] w (OutB w true) := by
  have bx0 := below_box w (.cells #[.int .i64 f, ov] 25)
  have HAW := Lib.hid (awake5_any (w.alloc (.cells #[.int .i64 f, ov] 25)) (hU.up bx0))
  have HBX0 := Lib.hid bx0
  have HAP := Lib.hid (fun W (h : Below w.heap.size w W) => apply_any v ov ps f ops W (hv.below h) hz (hc.below h) hpr hy (hU.up h))
  have HIN := Lib.hid (fun W (h : Below w.heap.size w W) => inverse_any v ov ps f ops W (hv.below h) hz (hc.below h) hpr hy (hU.up h))
  obtain ⟨l, hl⟩ : ∃ l, l = ps.map (·.1) := ⟨_, rfl⟩
  have HLL := Lib.hid hl
  simp only [← hl] at HAP HIN
  have HV := Lib.hid hv
  have HU := Lib.hid hU
  have HZ := Lib.hid hz
  obtain ⟨va, vc, rfl⟩ := hv.shape
  obtain ⟨oa, oc, rfl⟩ := hc.shape
  have HC0 := Lib.hid (show (w.alloc (.cells #[.int .i64 f, .slice oa ops.length oc] 25)).heap[w.heap.size]? = some (.cells #[.int .i64 f, .slice oa ops.length oc] 25 (0, 0)) from heap_new _ _)
  clear hv hz hU hl hc hpr hy bx0
  go_enter Tryd.func7, Tryd.ntmps7
  go_wp2_with fail
  refine HAW.out.mono ?_
  rintro e w1 ⟨rfl, b⟩
  have B1 := Lib.hid (HBX0.out.trans (b.mono HBX0.out.size))
  have HC1 := Lib.hid ((b.block _ (lt_of_heap HC0.out)).trans HC0.out)
  have HA1 := Lib.hid (HAP.out w1 B1.out)
  have c0 := (cells2 HC1.out).1
  have c1 := (cells2 HC1.out).2.1
  clear b HAW HAP HC0 HBX0
  go_wp2_with fail
  refine HA1.out.mono ?_
  rintro e w2 ⟨xv, rfl, b, xs, hxs, hxo⟩
  have B2 := Lib.hid (B1.out.trans (b.mono B1.out.size))
  have HX := Lib.hid hxo.row
  have HXS := Lib.hid hxs
  have HI2 := Lib.hid (HIN.out w2 B2.out)
  have HC2 := Lib.hid ((b.block _ (lt_of_heap HC1.out)).trans HC1.out)
  obtain ⟨xa, xc, rfl⟩ := own_slice hxo.1
  clear b hxs hxo HA1 HIN c0 c1 HC1
  have c0 := (cells2 HC2.out).1
  have c1 := (cells2 HC2.out).2.1
  go_wp2_with fail
  refine HI2.out.mono ?_
  rintro e w3 ⟨bv, rfl, b, hbo⟩
  obtain ⟨ba, bc, hbv, hbr, hbp⟩ := ownOps_open hbo
  have B3 := Lib.hid (B2.out.trans (b.mono B2.out.size))
  have HX3 := Lib.hid (HX.out.below b)
  have HC3 := Lib.hid ((b.block _ (lt_of_heap HC2.out)).trans HC2.out)
  clear b hbo HI2 HX c0 c1 HC2
  by_cases hE : appE l f ops = 0
  · have te : (appE l f ops != 0) = false := by rw [hE]; rfl
    by_cases hF : invE l f ops = 0
    · have tf : (invE l f ops != 0) = false := by rw [hF]; rfl
      have hW := wayF_of hF
      rw [if_pos hF] at hbv hbr ⊢
      subst hbv
      have HW := Lib.hid hW
      have HB := Lib.hid (And.intro hbr hbp)
      clear hE hF hW hbr hbp
      generalize appL l f ops = X at HXS HW ⊢
      generalize invL l ops = V at HW HB ⊢
      generalize invE l f ops = z1 at tf ⊢
      generalize appE l f ops = z2 at te ⊢
      generalize lenN X = n at HW ⊢
      have b3 := below_box w3 (.cells #[.int .i64 n, .slice ba V.length bc] 25)
      have HC4 := Lib.hid (show (w3.alloc (.cells #[.int .i64 n, .slice ba V.length bc] 25)).heap[w3.heap.size]? = some (.cells #[.int .i64 n, .slice ba V.length bc] 25 (0, 0)) from heap_new _ _)
      have HX4 := Lib.hid (HX3.out.below b3)
      have B4 := Lib.hid (B3.out.trans (b3.mono B3.out.size))
      have HIN4 := inverse_any (.slice xa xs.length xc) (.slice ba V.length bc) xs n V _ HX4.out (by rw [HXS.out]; exact rsized_doc HW.out.right) (HB.out.1.below b3) HB.out.2 HW.out.sized (HU.out.up B4.out)
      rw [HXS.out] at HIN4
      have HIN4 := Lib.hid HIN4
      have hl3 := lt_of_heap HC4.out
      clear b3
      go_wp2_with fail
      refine HIN4.out.mono ?_
      rintro e w5 ⟨gv, rfl, b, hgo⟩
      obtain ⟨ga, gc, hgv, hgr, hgp⟩ := ownOps_open hgo
      have B5 := Lib.hid (B4.out.trans (b.mono B4.out.size))
      have HX5 := Lib.hid (HX4.out.below b)
      have HI2 := Lib.hid (invE_two HW.out.app)
      clear b hgo HIN4
      by_cases hG : invE X n V = 0
      · have tg : (invE X n V != 0) = false := by rw [hG]; rfl
        obtain ⟨g1, g2, g3⟩ := HW.out.again hG
        have hval := HW.out.val
        rw [if_pos hG] at hgv hgr ⊢
        rw [hval]
        subst hgv
        have HG := Lib.hid (And.intro g1 (And.intro g2 g3))
        have HGR := Lib.hid (And.intro hgr hgp)
        clear hG g1 g2 g3 hgr hgp hval
        generalize invE X n V = z3 at tg ⊢
        generalize invL X V = Z at HG HGR ⊢
        have b5 := below_box w5 (.cells #[.int .i64 (lenN l), .slice ga Z.length gc] 25)
        have B6 := Lib.hid (B5.out.trans (b5.mono B5.out.size))
        have HX6 := Lib.hid (HX5.out.below b5)
        have HAP6 := apply_any (.slice va ps.length vc) (.slice ga Z.length gc) ps (lenN l) Z _ (HV.out.below B6.out) HZ.out (HGR.out.1.below b5) HGR.out.2 HG.out.1 (HU.out.up B6.out)
        rw [← HLL.out] at HAP6
        have HAP6 := Lib.hid HAP6
        clear b5
        go_wp2_with fail
        refine HAP6.out.mono ?_
        rintro e w7 ⟨yv, rfl, b, ys, hys, hyo⟩
        rw [HG.out.2.1]
        rw [HG.out.2.2] at hys
        have B7 := Lib.hid (B6.out.trans (b.mono B6.out.size))
        have HSM := sameDoc_any (.slice xa xs.length xc) yv xs ys w7 (HX6.out.below b) hyo.row
        rw [hys, HXS.out, show sameRuns X X = true from decide_eq_true rfl] at HSM
        have HSM := Lib.hid HSM
        obtain ⟨ya, yc, rfl⟩ := own_slice hyo.1
        clear b hys hyo HAP6
        go_wp2_with fail
        refine HSM.out.mono ?_
        rintro e w8 ⟨rfl, b⟩
        have B8 := Lib.hid (B7.out.trans (b.mono B7.out.size))
        clear b
        go_wp2_with fail
        go_ret
        exact outB_mk rfl B8.out
      · have hG2 : invE X n V = 2 := by have := HI2.out; omega
        rw [if_neg hG] at hgv ⊢
        subst hgv
        rw [hG2]
        clear hG hG2
        go_wp2_with fail
        go_ret
        exact outB_mk rfl (B5.out.alloc B5.out.size _)
    · have tf : (invE l f ops != 0) = true := by rw [bne_iff_ne]; exact hF
      rw [if_neg hF] at hbv ⊢
      subst hbv
      clear hE hF
      go_wp2_with fail
      go_ret
      exact outB_mk rfl (B3.out.alloc B3.out.size _)
  · have te : (appE l f ops != 0) = true := by rw [bne_iff_ne]; exact hE
    have hF : invE l f ops ≠ 0 := fun h => hE (invE_len h).1
    rw [if_neg hF] at hbv ⊢
    subst hbv
    clear hE hF
    go_wp2_with fail
    go_ret
    exact outB_mk rfl (B3.out.alloc B3.out.size _)
end Go.Proofs.YtgalhfnejhboaaaDoor
