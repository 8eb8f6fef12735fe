/- Texts of this seat, put together: Dnt. -/
import Derived.Test.YtgalhfnejhboaaaDoorGQ2
import Derived.Test.YtgalhfnejhboaaaDoorGF4
import Derived.Test.YtgalhfnejhboaaaDoorGF3
import Derived.Test.YtgalhfnejhboaaaDoorGC1
/- The law ApplyNothing, walked. -/
namespace Go.Proofs.YtgalhfnejhboaaaDoor
open Go.RowKit Rn Ch At

theorem nothing_app {l : List RunD} (h : lenE l = 0) : appE l (lenN l) [] = 0 ∧ appL l (lenN l) [] = l := by
  have hd := docF_of h
  have hn := hd.n
  have h1 := hd.n1
  have hto : toE (lenN l) [] = 0 := (toE_iff _ _).2 ⟨by omega, by omega, by simp, fun o ho => (by cases ho), by show (0 : Int) ≤ _; omega, by show lenN l - 0 + 0 ≤ _; omega⟩
  have happ := app_mk (fit_iff.2 ⟨h, hto, rfl⟩) (show actOk [] (cellsD l) from trivial) (by show (docR (cellsD l)).length ≤ _; rw [hd.doc, List.length_reverse]; exact hd.len)
  refine ⟨happ, ?_⟩
  rw [(appF_of happ).val]
  show (docR (cellsD l)).reverse = l
  rw [hd.doc, List.reverse_reverse]
theorem nothing_inv {l : List RunD} (h : lenE l = 0) : invE l (lenN l) [] = 0 ∧ invL l [] = [] := by
  have hd := docF_of h
  have hL : invL l [] = [] := by
    unfold invL
    refine norm_keeps fun o ho => ?_
    obtain ⟨y, hy, rfl⟩ := List.mem_map.1 ho
    have e : metD l [] = ((cellsD l).take (20000 : Int).toNat).map fun x => (restQ.1, x) := by
      unfold metD
      show metC [restQ.1] (cellsD l) = _
      rw [metC, if_neg (by decide), metC, List.append_nil]; rfl
    rw [e] at hy
    obtain ⟨x, hx, rfl⟩ := List.mem_map.1 hy
    have hr := (hd.cell (List.mem_of_mem_take hx)).2
    rw [(back1 (y := (restQ.1, x)) rfl).1]
    exact ⟨rfl, (nothing_l hr).2.2.2⟩
  refine ⟨?_, hL⟩
  unfold invE
  rw [if_neg (by rw [(nothing_app h).1]; simp), hL, if_neg (by simp)]

set_option maxRecDepth 100000 in
set_option maxHeartbeats 1000000 in
theorem nothing_walk5 (v : Value) (ps : List RP) (w : World) (hv : RunRow w v ps) (hz : RSized (ps.map (·.1))) (hU : U8s w.heap.size w) :
    Calls Tryd.prog 5 #[v] w (OutB w true) := by
  have HAW := Lib.hid (awake5_any w hU)
  have HLEN := Lib.hid (fun W (h : Below w.heap.size w W) => length_any v ps W (hv.below h) hz)
  obtain ⟨l, hl⟩ : ∃ l, l = ps.map (·.1) := ⟨_, rfl⟩
  have HLL := Lib.hid hl
  simp only [← hl] at HLEN
  have HV := Lib.hid hv
  have HU := Lib.hid hU
  have HZ := Lib.hid hz
  obtain ⟨va, vc, rfl⟩ := hv.shape
  clear hv hz hU hl
  go_enter Tryd.func5, Tryd.ntmps5
  go_wp2_with fail
  refine HAW.out.mono ?_
  rintro e w1 ⟨rfl, b⟩
  have B1 := Lib.hid b
  have HL1 := Lib.hid (HLEN.out w1 b)
  clear b HAW HLEN
  go_wp2_with fail
  refine HL1.out.mono ?_
  rintro e w2 ⟨rfl, b⟩
  have B2 := Lib.hid (B1.out.trans (b.mono B1.out.size))
  clear b HL1
  by_cases hE : lenE l = 0
  · have te : (lenE l != 0) = false := by rw [hE]; rfl
    have hd := docF_of hE
    have hn := hd.n
    have hn1 := hd.n1
    have HE := Lib.hid hE
    have HA := Lib.hid (nothing_app hE)
    have HI := Lib.hid (nothing_inv hE)
    have HNO := Lib.hid (nothingG_ok (lenN l) w2 (by omega) (by omega))
    have HN := Lib.hid hn
    clear hE hd hn
    generalize hz0 : lenE l = z0 at te ⊢
    clear hz0
    go_wp2_with fail
    refine HNO.out.mono ?_
    rintro e w3 ⟨rfl, b⟩
    have B3 := Lib.hid (B2.out.trans (b.mono B2.out.size))
    obtain ⟨n, hnn⟩ : ∃ n, n = lenN l := ⟨_, rfl⟩
    rw [← hnn] at HA HI HN ⊢
    have HNN := Lib.hid hnn
    clear b HNO hnn
    have b3 := below_box w3 (.cells #[.int .i64 n, .slice none 0 0] 25)
    have HC4 := Lib.hid (show (w3.alloc (.cells #[.int .i64 n, .slice none 0 0] 25)).heap[w3.heap.size]? = some (.cells #[.int .i64 n, .slice none 0 0] 25 (0, 0)) from heap_new _ _)
    have B4 := Lib.hid (B3.out.trans (b3.mono B3.out.size))
    have hpr : Proper (.slice none 0 0) := fun n' c' he => by cases he; exact ⟨rfl, rfl⟩
    have HAP := apply_any (.slice va ps.length vc) (.slice none 0 0) ps n [] _ (HV.out.below B4.out) HZ.out (OpRow.nil _) hpr (fun o ho => by cases ho) (HU.out.up B4.out)
    have HIN := fun W (h : Below w.heap.size w W) => inverse_any (.slice va ps.length vc) (.slice none 0 0) ps n [] W (HV.out.below h) HZ.out (OpRow.nil _) hpr (fun o ho => by cases ho) (HU.out.up h)
    have HBT := fun W (h : Below w.heap.size w W) => between_ok (.slice va ps.length vc) (.slice va ps.length vc) ps ps W (HV.out.below h) (HV.out.below h) HZ.out HZ.out (by rw [← HLL.out]; exact HE.out) (by rw [← HLL.out]; exact HE.out) (HU.out.up h)
    rw [← HLL.out] at HAP
    simp only [← HLL.out] at HIN HBT
    have HAP := Lib.hid HAP
    have HIN := Lib.hid HIN
    have HBT := Lib.hid HBT
    have hl3 := lt_of_heap HC4.out
    clear b3 hpr
    go_wp2_with fail
    refine HAP.out.mono ?_
    rintro e w5 ⟨xv, rfl, b, xs, hxs, hxo⟩
    rw [HA.out.1]
    rw [HA.out.2] at hxs
    have B5 := Lib.hid (B4.out.trans (b.mono B4.out.size))
    have HC5 := Lib.hid ((b.block _ (lt_of_heap HC4.out)).trans HC4.out)
    have HX5 := Lib.hid hxo.row
    have HXS := Lib.hid hxs
    obtain ⟨xa, xc, rfl⟩ := own_slice hxo.1
    have HI5 := Lib.hid (HIN.out w5 B5.out)
    have c0 := (cells2 HC5.out).1
    have c1 := (cells2 HC5.out).2.1
    clear b hxs hxo HAP HIN HC4
    go_wp2_with fail
    refine HI5.out.mono ?_
    rintro e w6 ⟨yv, rfl, b, hyo⟩
    rw [if_pos HI.out.1] at hyo ⊢
    rw [HI.out.1, HA.out.2, ← HNN.out]
    rw [HI.out.2] at hyo
    obtain ⟨ya, yc, hyv, hyr, _⟩ := ownOps_open hyo
    rw [List.length_nil] at hyv
    subst hyv
    have B6 := Lib.hid (B5.out.trans (b.mono B5.out.size))
    have HC6 := Lib.hid ((b.block _ (lt_of_heap HC5.out)).trans HC5.out)
    have HX6 := Lib.hid (HX5.out.below b)
    have HY6 := Lib.hid hyr
    clear b hyo hyr HI5 HC5 HX5 c0 c1
    have b6 := below_box w6 (.cells #[.int .i64 n, .slice ya 0 yc] 25)
    have HB7 := Lib.hid (HBT.out _ (B6.out.trans (b6.mono B6.out.size)))
    have HCY := Lib.hid (show (w6.alloc (.cells #[.int .i64 n, .slice ya 0 yc] 25)).heap[w6.heap.size]? = some (.cells #[.int .i64 n, .slice ya 0 yc] 25 (0, 0)) from heap_new _ _)
    have hl6 := lt_of_heap HCY.out
    clear b6
    have bY := below_box w6 (.cells #[.int .i64 n, .slice ya 0 yc] 25)
    have B7 := Lib.hid (B6.out.trans (bY.mono B6.out.size))
    have HC7 := Lib.hid ((bY.block _ (lt_of_heap HC6.out)).trans HC6.out)
    have HX7 := Lib.hid (HX6.out.below bY)
    have HY7 := Lib.hid (HY6.out.below bY)
    clear bY
    go_wp2_with fail
    refine HB7.out.mono ?_
    rintro e w8 ⟨zv, rfl, hzo, b⟩
    rw [bt_self] at hzo ⊢
    have hno : ¬ 2000 < ([] : List OpD).length := by simp
    rw [if_neg hno] at hzo
    rw [if_neg hno, if_neg hno, ← HN.out]
    obtain ⟨za, zc, hzv, hzr, _⟩ := ownOps_open hzo
    rw [List.length_nil] at hzv
    subst hzv
    have B8 := Lib.hid (B7.out.trans (b.mono B7.out.size))
    have HC8 := Lib.hid ((b.block _ (lt_of_heap HC7.out)).trans HC7.out)
    have HCY8 := Lib.hid ((b.block _ (lt_of_heap HCY.out)).trans HCY.out)
    have HX8 := Lib.hid (HX7.out.below b)
    have HY8 := Lib.hid (HY7.out.below b)
    have HZ8 := Lib.hid hzr
    clear b hzo hzr hno HC6 HC7 HX6 HX7 HY6 HY7 HCY HB7
    have bZ := below_box w8 (.cells #[.int .i64 n, .slice za 0 zc] 25)
    have HSM := sameDoc_any (.slice xa xs.length xc) (.slice va ps.length vc) xs ps (w8.alloc (.cells #[.int .i64 n, .slice za 0 zc] 25)) (HX8.out.below bZ) (HV.out.below (B8.out.trans (bZ.mono B8.out.size)))
    rw [HXS.out, ← HLL.out, show sameRuns l l = true from decide_eq_true rfl] at HSM
    have HSM := Lib.hid HSM
    have HCZ := Lib.hid (show (w8.alloc (.cells #[.int .i64 n, .slice za 0 zc] 25)).heap[w8.heap.size]? = some (.cells #[.int .i64 n, .slice za 0 zc] 25 (0, 0)) from heap_new _ _)
    have B9 := Lib.hid (B8.out.trans (bZ.mono B8.out.size))
    have HBZ := Lib.hid bZ
    have hl8 := lt_of_heap HCY8.out
    clear bZ
    go_wp2_with fail
    refine HSM.out.mono ?_
    rintro e w10 ⟨rfl, b⟩
    have bz := HBZ.out.trans (b.mono HBZ.out.size)
    have B10 := Lib.hid (B9.out.trans (b.mono B9.out.size))
    have HCC := Lib.hid ((bz.block _ (lt_of_heap HC8.out)).trans HC8.out)
    have HCW := Lib.hid ((bz.block _ (lt_of_heap HCY8.out)).trans HCY8.out)
    have HCV := Lib.hid ((b.block _ (lt_of_heap HCZ.out)).trans HCZ.out)
    have c0 := (cells2 HCC.out).1
    have c1 := (cells2 HCC.out).2.1
    have y0 := (cells2 HCW.out).1
    have y1 := (cells2 HCW.out).2.1
    have HS1 := changeSame_any n n (.slice ya 0 yc) (.slice none 0 0) [] [] w10 (HY8.out.below bz) (OpRow.nil _)
    rw [show sameCh n n [] [] = true from decide_eq_true ⟨rfl, rfl⟩] at HS1
    have HS1 := Lib.hid HS1
    have HZ10 := Lib.hid (HZ8.out.below bz)
    clear b bz HSM HC8 HCY8 HCZ HX8 HY8 HZ8
    go_wp2_with fail
    refine HS1.out.mono ?_
    rintro e w11 ⟨rfl, b⟩
    have B11 := Lib.hid (B10.out.trans (b.mono B10.out.size))
    have HCC2 := Lib.hid ((b.block _ (lt_of_heap HCC.out)).trans HCC.out)
    have HCV2 := Lib.hid ((b.block _ (lt_of_heap HCV.out)).trans HCV.out)
    have HS2 := changeSame_any n n (.slice za 0 zc) (.slice none 0 0) [] [] w11 (HZ10.out.below b) (OpRow.nil _)
    rw [show sameCh n n [] [] = true from decide_eq_true ⟨rfl, rfl⟩] at HS2
    have HS2 := Lib.hid HS2
    clear b HS1 HCC HCV HCW HZ10 c0 c1 y0 y1
    have c0 := (cells2 HCC2.out).1
    have c1 := (cells2 HCC2.out).2.1
    have y0 := (cells2 HCV2.out).1
    have y1 := (cells2 HCV2.out).2.1
    go_wp2_with fail
    refine HS2.out.mono ?_
    rintro e w12 ⟨rfl, b⟩
    have B12 := Lib.hid (B11.out.trans (b.mono B11.out.size))
    clear b HS2 c0 c1 y0 y1
    go_wp2_with fail
    go_ret
    exact outB_mk rfl B12.out
  · have te : (lenE l != 0) = true := by rw [bne_iff_ne]; exact hE
    clear hE
    go_wp2_with fail
    go_ret
    exact outB_mk rfl B2.out
end Go.Proofs.YtgalhfnejhboaaaDoor
