/- The law TupleWorks, walked. -/
import Derived.Test.YtpinmkoaihjhfaaTab
import Derived.Test.YtpinmkoaihjhfaaTw
namespace Go.Proofs.Ytpinmkoaihjhfaa
open Go.RowKit Su Tp
attribute [local go_sem] Oper.semAt_some

theorem made_ownT (w : World) (n : Nat) (hn : n * 32 ≤ 140737488355328) : ∃ W', (Instr.makeSlice 22 (.int .i64 0) (.int .i64 (n : Int))).run Try.prog w = .ok (.slice (some ⟨w.heap.size, 0, none⟩) 0 n) W' ∧ OwnT W' w.heap.size (.slice (some ⟨w.heap.size, 0, none⟩) 0 n) [] ∧ Below w.heap.size w W' := by
  obtain ⟨i0, hi, hz0, hz1, hz2⟩ := info_parts infoPart
  obtain ⟨W', a1, a2, a3⟩ := run_make_own (P := Try.prog) (w := w) w.heap.size 22 25 i0 (.agg #[.int .i64 0, .int .i64 0, .string ⟨#[]⟩]) 3 Try.underlying22 hi hz0 hz1 .i64 .i64 n (by rw [hz2]; omega) (by unfold maxLen; omega) (Nat.le_refl _)
  exact ⟨W', a1, ⟨a2, by simp⟩, (Below.refl w.heap.size w).grown a3 (Nat.le_refl _) (fun k hk => by cases hk)⟩
/-- What a key's reading comes to, whoever reads. -/
theorem read_res (K : List UInt8) : ∃ (L : List Pt) (E : Int), L.length ≤ 8 ∧ ∀ (e : Ending) (w w' : World), ReadOut K w e w' → ∃ v, e = .returned (.tuple #[v, .int .i64 E]) ∧ OwnT w' w.heap.size v L ∧ Below w.heap.size w w' := by
  by_cases h100 : 100 < K.length
  · refine ⟨[], 2, by simp, fun e w w' h => ?_⟩
    obtain ⟨hb, h | h | h⟩ := h
    · exact ⟨_, h.2, nilT _ _, hb⟩
    · have := h.1; omega
    · have := h.1; omega
  · by_cases hl : ∃ l, right l ∧ allP l ∧ keyB l = K
    · obtain ⟨l, h1, h2, h3⟩ := hl
      refine ⟨l, 0, h1.2.1, fun e w w' h => ?_⟩
      obtain ⟨hb, v, he, ho⟩ := read_yes h h1 h2 h3 (by omega)
      exact ⟨v, he, ho, hb⟩
    · refine ⟨[], 110, by simp, fun e w w' h => ?_⟩
      obtain ⟨hb, he⟩ := read_no h (fun l h1 h2 h3 => hl ⟨l, h2, h1, h3⟩) (by omega)
      exact ⟨_, he, nilT _ _, hb⟩
theorem cellsT_set (l : List Pt) (k : Nat) (p : Pt) (h : k < l.length) : (((cellsT l).set (k * 3) (.int .i64 p.1)).set (k * 3 + 1) (.int .i64 p.2.1)).set (k * 3 + 2) (.string (txB p.2.2)) = cellsT (l.set k p) := by
  induction l generalizing k with
  | nil => simp at h
  | cons q l ih =>
    cases k with
    | zero => rfl
    | succ k =>
      have e : (k + 1) * 3 = k * 3 + 1 + 1 + 1 := by omega
      rw [e]
      have h1 := ih k (by simpa using h)
      show Value.int .i64 q.1 :: Value.int .i64 q.2.1 :: Value.string (txB q.2.2) :: _ = Value.int .i64 q.1 :: Value.int .i64 q.2.1 :: Value.string (txB q.2.2) :: cellsT (l.set k p)
      rw [← h1]
      rfl
theorem grown_trans {a b c : World} {row : Option Nat} (h : a.grownBy b row) (k : b.grownBy c row) : a.grownBy c row :=
  ⟨k.os.trans h.os, k.tape.trans h.tape, k.output.trans h.output, Nat.le_trans h.size k.size, fun i hi hne => (k.block i (Nat.lt_of_lt_of_le hi h.size) hne).trans (h.block i hi hne)⟩
/-- One part of a row of one's own turned. -/
theorem OwnT.stored {w : World} {B g n cap : Nat} {l : List Pt} (h : OwnT w B (.slice (some ⟨g, 0, none⟩) n cap) l) (hn : n = l.length) (k : Nat) (hk : k < l.length) (p : Pt) (hp : InP p) :
    OwnT (((w.setCell ⟨g, k * 3, none⟩ (.int .i64 p.1)).setCell ⟨g, k * 3 + 1, none⟩ (.int .i64 p.2.1)).setCell ⟨g, k * 3 + 2, none⟩ (.string (txB p.2.2))) B (.slice (some ⟨g, 0, none⟩) n cap) (l.set k p) ∧
      w.grownBy (((w.setCell ⟨g, k * 3, none⟩ (.int .i64 p.1)).setCell ⟨g, k * 3 + 1, none⟩ (.int .i64 p.2.1)).setCell ⟨g, k * 3 + 2, none⟩ (.string (txB p.2.2))) (some g) := by
  subst hn
  obtain ⟨a1, b1⟩ := World.ownsRow.stored h.1 (k * 3) (.int .i64 p.1)
  obtain ⟨a2, b2⟩ := World.ownsRow.stored a1 (k * 3 + 1) (.int .i64 p.2.1)
  obtain ⟨a3, b3⟩ := World.ownsRow.stored a2 (k * 3 + 2) (.string (txB p.2.2))
  rw [cellsT_set l k p hk] at a3
  refine ⟨⟨by rw [List.length_set]; exact a3, fun q hq => ?_⟩, grown_trans (grown_trans b1 b2) b3⟩
  rcases List.mem_or_eq_of_mem_set hq with h1 | h1
  · exact h.2 q h1
  · rw [h1]; exact hp
theorem OwnT.cells {w : World} {B g n cap : Nat} {l : List Pt} (h : OwnT w B (.slice (some ⟨g, 0, none⟩) n cap) l) (hn : n = l.length) (k : Nat) (hk : k < l.length) :
    (∃ x, w.cell? ⟨g, k * 3, none⟩ = some x) ∧ (∃ x, w.cell? ⟨g, k * 3 + 1, none⟩ = some x) ∧ (∃ x, w.cell? ⟨g, k * 3 + 2, none⟩ = some x) ∧ ∀ j, w.frozen? ⟨g, j, none⟩ = false := by
  subst hn
  obtain ⟨d1, d2, d3⟩ := cellsT_at l k hk
  exact ⟨⟨_, by rw [World.ownsRow.cellAt h.1 _ (by omega)]; exact d1⟩, ⟨_, by rw [World.ownsRow.cellAt h.1 _ (by omega)]; exact d2⟩, ⟨_, by rw [World.ownsRow.cellAt h.1 _ (by omega)]; exact d3⟩, fun j => World.ownsRow.frozenAt h.1 j⟩
theorem OwnT.form {w : World} {B n c : Nat} {a : Option Addr} {l : List Pt} (h : OwnT w B (.slice a n c) l) (h0 : 0 < l.length) : ∃ g, a = some ⟨g, 0, none⟩ ∧ n = l.length := by
  rcases h.1.2 with ⟨_, h1⟩ | ⟨g, cap, cur, e, _⟩
  · omega
  · simp only [Value.slice.injEq] at e
    exact ⟨g, e.1, e.2.1⟩
theorem PRow.head {w : World} {a : Option Addr} {n cap : Nat} {l : List Pt} (h : PRow w (.slice a n cap) l) (k : Nat) (hk : k ≤ l.length) : PRow w (.slice a k cap) (l.take k) := by
  obtain ⟨⟨a0, cap0, he, h1, h2, h3, h4⟩, h5⟩ := h
  simp only [Value.slice.injEq] at he
  obtain ⟨rfl, rfl, rfl⟩ := he
  have hl : (l.take k).length = k := by rw [List.length_take]; omega
  refine ⟨⟨a, cap, by rw [hl], by rw [hl]; omega, h2, h3, fun i hi => ?_⟩, fun p hp => h5 p (List.mem_of_mem_take hp)⟩
  rw [hl] at hi
  obtain ⟨b, off, rfl, hb, c1, c2, c3⟩ := h4 i (by omega)
  exact ⟨b, off, rfl, hb, by rw [List.getElem_take]; exact ⟨c1, c2, c3⟩⟩
set_option maxRecDepth 100000 in
set_option maxHeartbeats 8000000 in
theorem tworks_any (v u : Value) (a b : List Pt) (K : List UInt8) (w : World) (hv : PRow w v a) (hu : PRow w u b) (za : SzP a) (_zb : SzP b) (ha : a.length * 32 ≤ 140737488351232) (hK : K.length ≤ 140737488351232) :
    Calls Try.prog 3 #[v, u, .string (txB K)] w fun e w' => e = .returned (.bool true) ∧ Below w.heap.size w w' := by
  obtain ⟨aa, ac, rfl, hac, hac2⟩ := hv.shape
  obtain ⟨ba, bc, rfl, hbc, hbc2⟩ := hu.shape
  have HA := Lib.hid hv
  have HB := Lib.hid hu
  have HZA := Lib.hid za
  have hn : a.length ≤ 9223372036854775807 := Nat.le_trans hac hac2
  have hn' : b.length ≤ 9223372036854775807 := Nat.le_trans hbc hbc2
  have HAW := Lib.hid (awake_any w)
  have hRR := read_res K
  obtain ⟨L, E, hL8, hRR⟩ := hRR
  have HRR := Lib.hid hRR
  have HKL := Lib.hid hK
  clear hv hu hac hac2 hbc hbc2 za hRR
  go_enter Try.func3, Try.ntmps3
  go_wp2_with fail
  refine HAW.out.mono ?_
  rintro e w1 ⟨rfl, hb1⟩
  have hs1 := hb1.size
  obtain ⟨w2, hr2, ho2, hb2⟩ := made_ownT w1 (a.length + 1) (by omega)
  have hr2' : (Instr.makeSlice 22 (.int .i64 0) (.int .i64 ((a.length : Int) + 1))).run Try.prog w1 = .ok (.slice (some ⟨w1.heap.size, 0, none⟩) 0 (a.length + 1)) w2 := hr2
  have hb2' := below_trans hb1 hb2
  obtain ⟨u3, w3, hr3, ho3, hg3⟩ := run_append_parts (w := w2) 22 w1.heap.size (.slice (some ⟨w1.heap.size, 0, none⟩) 0 (a.length + 1)) (.slice aa a.length ac) [] a ho2 (HA.out.below hb2') (by simp; omega) hb2.size
  rw [List.nil_append] at ho3
  have hb3 : Below w1.heap.size w1 w3 := hb2.grown hg3 hb2.size (fun g hg => (ho2.lt g hg).1)
  obtain ⟨u4, w4, hr4, ho4, hg4⟩ := run_append_parts (w := w3.alloc (.cells #[.int .i64 (-7), .int .i64 0, .string ⟨#[]⟩] 25)) 22 w1.heap.size u3 (.slice (some ⟨w3.heap.size, 0, none⟩) 1 1) a [(-7, 0, [])] (ho3.alloc _) (prow_lit (heap_alloc_last w3 _) rfl (by unfold maxLen; simp) rfl (by intro q hq; rw [List.mem_singleton] at hq; rw [hq]; unfold InP inI; simp)) (by simp; omega) (by rw [alloc_size]; have := hb3.size; omega)
  have hb4 : Below w1.heap.size w1 w4 := (hb3.alloc hb3.size _).grown hg4 (by rw [alloc_size]; have := hb3.size; omega) (fun g hg => (ho3.lt g hg).1)
  generalize hI : a ++ [(-7, 0, [])] = I at ho4
  have hIl : I.length = a.length + 1 := by rw [← hI]; simp
  have hIt : I.take a.length = a := by rw [← hI, List.take_left]
  have hIa : ∀ h : a.length < I.length, (I[a.length]'h).1 = -7 := by intro h; subst hI; simp
  obtain ⟨ia, ic, rfl, hic, hic2⟩ := ho4.shape
  have hic3 : ic ≤ 9223372036854775807 := by simpa [maxLen] using hic2
  have hgr : PRow w4 (.slice ia a.length ic) a := by
    have := ho4.row.head a.length (by omega)
    rwa [hIt] at this
  obtain ⟨gb, go, rfl, q1, hgb, c70, q2, q3⟩ := ho4.row.at a.length (by omega)
  rw [hIa (by omega)] at c70
  have HB4 := Lib.hid (below_trans hb1 hb4)
  have HG := Lib.hid hgr
  have HC7 := Lib.hid c70
  have hIlt : (a.length : Int) < (I.length : Int) := by omega
  have hIle : a.length ≤ ic := by omega
  have HK := Lib.hid (key_any _ a w4 hgr HZA.out)
  have hgb4 : gb < w4.heap.size := hgb
  clear q1 q2 q3
  clear ho2 hb2 hb2' ho3 hg3 hb3 ho4 hg4 hb4 hb1 hgr hIa hIt hI hr2 HAW hic c70 hgb
  clear hIl
  go_wp2_with (first
    | (refine wpList_appended rfl _ _ 22 22 rfl (.slice (some ⟨w1.heap.size, 0, none⟩) 0 (a.length + 1)) (.slice aa a.length ac) u3 rfl rfl hr3 ?_; clear hr3)
    | (refine wpList_appended rfl _ _ 22 22 rfl u3 (.slice (some ⟨w3.heap.size, 0, none⟩) 1 1) _ rfl rfl hr4 ?_; clear hr4))
  refine HK.out.mono ?_
  rintro e w5 ⟨rfl, hb5⟩
  have HB5 := Lib.hid (below_trans HB4.out hb5)
  have HG5 := Lib.hid (HG.out.below hb5)
  have c75 := (hb5.cell (p := ⟨gb, go + a.length * 3, none⟩) (by exact hgb4)).trans HC7.out
  have hgb5 : gb < w5.heap.size := Nat.lt_of_lt_of_le hgb4 hb5.size
  have HC75 := Lib.hid c75
  have HO := Lib.hid (order_any _ _ a b w5 HG5.out (HB.out.below HB5.out))
  clear HK hb5 c75
  go_wp2_with fail
  refine HO.out.mono ?_
  rintro e w6 ⟨rfl, hb6⟩
  have HB6 := Lib.hid (below_trans HB5.out hb6)
  have HG6 := Lib.hid (HG5.out.below hb6)
  have c76 := (hb6.cell (p := ⟨gb, go + a.length * 3, none⟩) (by exact hgb5)).trans HC75.out
  have HS := Lib.hid (same_any _ _ a a w6 HG6.out (HA.out.below HB6.out))
  rw [decide_eq_true rfl] at HS
  clear HO hb6
  go_wp2_with fail
  refine HS.out.mono ?_
  rintro e w7 ⟨rfl, hb7⟩
  have HB7 := Lib.hid (below_trans HB6.out hb7)
  have HRD := Lib.hid (read_any K w7 (by have := HKL.out; omega))
  clear HS hb7 c76 HC75 HC7 HG HG5 HG6
  go_wp2_with fail
  refine HRD.out.mono ?_
  intro e w8 ho
  obtain ⟨vl, rfl, hol, hb8⟩ := HRR.out e w7 w8 ho
  have HB8 := Lib.hid (below_trans HB7.out hb8)
  have HL8 := Lib.hid hol
  have hs8 := hb8.size
  have HRD2 := Lib.hid (read_any K w8 (by have := HKL.out; omega))
  clear ho hol hb8 HRD
  go_wp2_with fail
  refine HRD2.out.mono ?_
  intro e w9 ho
  obtain ⟨vm, rfl, hom, hb9⟩ := HRR.out e w8 w9 ho
  have HB9 := Lib.hid (below_trans HB8.out hb9)
  have hsz9 := hb9.size
  have HL9 := Lib.hid (HL8.out.below hb9)
  have HM9 := Lib.hid hom
  have HLT := Lib.hid (show ∀ g, vl.ownBlock = some g → g < w8.heap.size from fun g hg => (HL8.out.lt g hg).2)
  have HAF := Lib.hid (after_any K w9 (by have := HKL.out; omega))
  clear ho hom hb9 HRD2 HL8
  go_wp2_with fail
  refine HAF.out.mono ?_
  rintro e w10 ⟨rfl, hb10⟩
  have HB10 := Lib.hid (below_trans HB9.out hb10)
  have hsz10 := hb10.size
  have HL10 := Lib.hid (HL9.out.below hb10)
  have HM10 := Lib.hid (HM9.out.below hb10)
  have HRK := Lib.hid (refKey_any _ a w10 (HA.out.below HB10.out) HZA.out)
  clear hb10 HAF HL9 HM9
  go_wp2_with fail
  refine HRK.out.mono ?_
  rintro e w11 ⟨rfl, hb11⟩
  have HB11 := Lib.hid (below_trans HB10.out hb11)
  have hsz11 := hb11.size
  have HL11 := Lib.hid (HL10.out.below hb11)
  have HM11 := Lib.hid (HM10.out.below hb11)
  have HRE := Lib.hid (refRead_any K w11 (by have := HKL.out; omega))
  clear hb11 HRK HL10 HM10
  go_wp2_with fail
  refine HRE.out.mono ?_
  intro e w12 ho
  obtain ⟨vr, rfl, hor, hb12⟩ := HRR.out e w11 w12 ho
  have HB12 := Lib.hid (below_trans HB11.out hb12)
  have HL12 := Lib.hid (HL11.out.below hb12)
  have HM12 := Lib.hid (HM11.out.below hb12)
  have HR12 := Lib.hid hor
  have hs12 : w8.heap.size ≤ w11.heap.size := by omega
  have HS1 := Lib.hid (same_any _ _ L L w12 HL12.out.row hor.row)
  rw [decide_eq_true rfl] at HS1
  obtain ⟨la, lc, rfl, _, _⟩ := HL12.out.shape
  obtain ⟨ma, mc, rfl, _, _⟩ := HM12.out.shape
  obtain ⟨ra, rc, rfl, _, _⟩ := HR12.out.shape
  have hsB := hb12.size
  clear ho hor hb12 HRE HL11 HM11 hsz9 hsz10 hsz11
  go_wp2_with fail
  refine HS1.out.mono ?_
  rintro e w13 ⟨rfl, hb13⟩
  have HB13 := Lib.hid (below_trans HB12.out hb13)
  have HL13 := Lib.hid (HL12.out.below hb13)
  have HM13 := Lib.hid (HM12.out.below hb13)
  have HR13 := Lib.hid (HR12.out.below hb13)
  have h7 : w7.heap.size ≤ w13.heap.size := by have := hb13.size; omega
  have hw7 : w.heap.size ≤ w7.heap.size := HB7.out.size
  clear HS1 HL12 HM12 HR12 hb13 hsB
  go_wp2_with fail
  go_loopw [23] (fun iv wr => ∃ (k : Nat) (D : List Pt), iv = .int .i64 (k : Int) ∧ k ≤ L.length ∧ D.length = L.length ∧ OwnT wr w7.heap.size (.slice la L.length lc) D ∧ w13.grownBy wr (Value.slice la L.length lc).ownBlock) (fun iv _ => L.length - (intOf iv).toNat)
  case atStart => exact ⟨0, L, rfl, by omega, rfl, HL13.out, ⟨rfl, rfl, rfl, Nat.le_refl _, fun _ _ _ => rfl⟩⟩
  case round =>
    obtain ⟨k, D, rfl, hk, hD, hoD, hgr⟩ := hrel
    have HOD := Lib.hid hoD
    have HGR := Lib.hid hgr
    have HDL := Lib.hid hD
    by_cases hkl : k < L.length
    · have hkD : k < D.length := by omega
      obtain ⟨g, rfl, _⟩ := hoD.form (by omega)
      have hkL : (k : Int) < (L.length : Int) := by omega
      obtain ⟨⟨x0, e0⟩, ⟨x1, e1⟩, ⟨x2, e2⟩, ef⟩ := hoD.cells hD.symm k hkD
      have f0 := ef (k * 3)
      have f1 := ef (k * 3 + 1)
      have f2 := ef (k * 3 + 2)
      obtain ⟨hs1, hs2⟩ := hoD.stored hD.symm k hkD (-5, 0, []) (by unfold InP inI; simp)
      have HST := Lib.hid hs1
      have HSG := Lib.hid (grown_trans hgr hs2)
      clear hoD hgr hs1 hs2 ef hD
      go_wp2_with fail
      refine ⟨⟨k + 1, _, by rw [Int.natCast_add]; rfl, by omega, by rw [List.length_set]; exact HDL.out, HST.out, HSG.out⟩, ?_⟩
      simp only [intOf]; omega
    · have hkL : decide ((k : Int) < (L.length : Int)) = false := decide_eq_false (by omega)
      have hLb := HLT.out
      have hM := HM13.out.grown hgr (fun g hg e => by have h1 := (HM13.out.lt g hg).1; have h2 := hLb g e; omega)
      have hR := HR13.out.grown hgr (fun g hg e => by have h1 := (HR13.out.lt g hg).1; have h2 := hLb g e; omega)
      have hBr : Below w.heap.size w wr := HB13.out.grown hgr (by omega) (fun g hg => by have := (HL13.out.lt g hg).1; omega)
      have hsr : w13.heap.size ≤ wr.heap.size := hgr.size
      obtain ⟨u5, w14, hr5, ho5, hg5⟩ := run_append_parts (w := wr.alloc (.cells #[.int .i64 (-6), .int .i64 0, .string ⟨#[]⟩] 25)) 22 w7.heap.size (.slice la L.length lc) (.slice (some ⟨wr.heap.size, 0, none⟩) 1 1) D [(-6, 0, [])] (hoD.alloc _) (prow_lit (heap_alloc_last wr _) rfl (by unfold maxLen; simp) rfl (by intro q hq; rw [List.mem_singleton] at hq; rw [hq]; unfold InP inI; simp)) (by simp; omega) (by rw [alloc_size]; omega)
      have hM2 := (hM.alloc (.cells #[.int .i64 (-6), .int .i64 0, .string ⟨#[]⟩] 25)).grown hg5 (fun g hg e => by have h1 := (HM13.out.lt g hg).1; have h2 := hLb g e; omega)
      have hR2 := (hR.alloc (.cells #[.int .i64 (-6), .int .i64 0, .string ⟨#[]⟩] 25)).grown hg5 (fun g hg e => by have h1 := (HR13.out.lt g hg).1; have h2 := hLb g e; omega)
      have HB14 := Lib.hid ((hBr.alloc hBr.size _).grown hg5 (by rw [alloc_size]; have := hBr.size; omega) (fun g hg => by have := (hoD.lt g hg).1; omega))
      have HS2 := Lib.hid (same_any _ _ L L w14 hM2.row hR2.row)
      rw [decide_eq_true rfl] at HS2
      have HROR := Lib.hid (fun W hW => refOrder_any _ _ a b W (HA.out.below (w' := W) hW) (HB.out.below hW))
      have HRAF := Lib.hid (fun W => refAfter_any K W (by have := HKL.out; omega))
      generalize hJ : D ++ [(-6, 0, [])] = J at ho5
      have hJl : J.length = L.length + 1 := by rw [← hJ, List.length_append]; simp [hD]
      obtain ⟨ja, jc, rfl, _, _⟩ := ho5.shape
      have tJ : ((J.length : Int) == (L.length : Int) + 1) = true := by rw [beq_iff_eq]; omega
      clear hoD hgr hD hM hR hBr ho5 hg5 hM2 hR2 hJ hLb
      go_wp2_with (refine wpList_appended rfl _ _ 22 22 rfl (.slice la L.length lc) (.slice (some ⟨wr.heap.size, 0, none⟩) 1 1) (.slice ja J.length jc) rfl rfl hr5 ?_; clear hr5)
      refine HS2.out.mono ?_
      rintro e w15 ⟨rfl, hb15⟩
      have HB15 := Lib.hid (below_trans HB14.out hb15)
      have HOR2 := Lib.hid (HROR.out w15 HB15.out)
      clear HS2 hb15
      go_wp2_with fail
      refine HOR2.out.mono ?_
      rintro e w16 ⟨rfl, hb16⟩
      have HB16 := Lib.hid (below_trans HB15.out hb16)
      have HRA := Lib.hid (HRAF.out w16)
      clear HOR2 hb16
      go_wp2_with fail
      refine HRA.out.mono ?_
      rintro e w17 ⟨rfl, hb17⟩
      have HB17 := Lib.hid (below_trans HB16.out hb17)
      clear HRA hb17
      go_wp2_with fail
      go_ret
      exact ⟨rfl, HB17.out⟩
theorem tworks_walk (v u : Value) (a b : List Pt) (t : ByteArray) (w : World) (hv : PRow w v a) (hu : PRow w u b) (za : SzP a) (zb : SzP b) (ha : a.length * 32 ≤ 140737488351232) (_hb : b.length * 32 ≤ 140737488351232) (ht : t.data.toList.length ≤ 140737488351232) :
    Calls Try.prog 3 #[v, u, .string t] w fun e w' => e = .returned (.bool true) ∧ Below w.heap.size w w' := by
  have := tworks_any v u a b t.data.toList w hv hu za zb ha ht
  rw [← tx_eta t] at this
  exact this
end Go.Proofs.Ytpinmkoaihjhfaa
