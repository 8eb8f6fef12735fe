import Derived.Test.YtadookafnfnaoaaGreatDoorGS29
import Derived.Test.YtadookafnfnaoaaGreatDoorGS14
import Derived.Test.YtadookafnfnaoaaGreatDoorGS20
import Derived.Test.YtadookafnfnaoaaGreatDoorGS23
import Derived.Test.YtadookafnfnaoaaGreatDoorGS15
/- The document's Parse, walked. -/
namespace Go.Proofs.YtadookafnfnaoaaGreatDoor
open Go.RowKit Ch

/-- 'append(own, one)', of however long a row of operations. -/
theorem append_op {w : World} {ops : Array Oper} {rest : List Oper} {o : Oper} {a : Act} {Q : Exit → Act → World → Prop} (hgd : o.guard = none) (s x : Operand)
    (ho : o.op = .call { callee := .builtin .append, args := #[s, x], argTypes := #[22, 22] })
    (base : Nat) (v : Value) (n : Nat) (xs : List Value) (p : OpD × Value) (hs : a.eval s = v) (hx : a.eval x = .slice (some ⟨w.heap.size, 0, none⟩) 1 1) (hown : w.ownsRow base 48 4 v n xs) (hp : p.2.oneCell' = true)
    (N : Nat) (ys : List Value) (hN : n + 1 = N) (hy : xs ++ opCells p = ys) (h63 : N ≤ 1048577) (hbase : base ≤ w.heap.size)
    (h : ∀ u w', w'.ownsRow base 48 4 u N ys → (w.alloc (.cells #[.int .i64 p.1.kind, .int .i64 p.1.n, .string p.1.text, p.2] 48)).grownBy w' v.ownBlock → wpList Tryz.prog ops Q rest (a.put o.dst u) w') :
    wpList Tryz.prog ops Q (o :: rest) a (w.alloc (.cells #[.int .i64 p.1.kind, .int .i64 p.1.n, .string p.1.text, p.2] 48)) := by
  subst hN
  subst hy
  have h63' : n + 1 ≤ maxLen := by unfold maxLen; omega
  obtain ⟨i0, hi, hz0, hz1, hz2⟩ := info_parts infoOp
  refine wpList_append_own _ hgd s x 22 ho base 48 i0 (.agg #[.int .i64 0, .int .i64 0, .string ⟨#[]⟩, .slice none 0 0]) 4 56 Tryz.underlying22 hi hz0 hz1 hz2 rfl (by decide) v n xs hs (hown.alloc _) ⟨w.heap.size, 0, none⟩ 1 1 (opCells p) hx rfl (new_at4 _ _ _ _ _ _) (fun u hu => by
      simp [opCells] at hu
      rcases hu with rfl | rfl | rfl | rfl
      · rfl
      · rfl
      · rfl
      · exact hp) h63' (by omega) (by simp; omega)
    fun u w' h1 h2 _ => h u w' h1 h2

abbrev CX : List TypeId := [QT, 24]

set_option maxRecDepth 100000 in
set_option maxHeartbeats 8000000 in
theorem refParse_any (s : ByteArray) (w : World) (hz : s.size ≤ 1048576) :
    Calls Tryz.prog 20 #[.string s] w (ParseOut w s) := by
  by_cases hbig : (262144 : Int) < (s.size : Int)
  · have HE := Lib.hid (parseF_long hbig)
    go_enter Tryz.func20, Tryz.ntmps20
    go_wp2_with fail
    refine bodyPost_ret (v := .tuple #[chAgg 0 (.slice none 0 0), .agg #[.int .i64 2, .int .i64 (-1)]]) (by simp [results, Tryz.results20, go_sem]) rfl ?_
    rw [ParseOut, HE.out]
    exact ⟨_, rfl, ownOps_nil _ _, below_alloc (below_box _ _) (Nat.le_refl _) _⟩
  by_cases hemp : s.size = 0
  · have HE := Lib.hid (show Sp.parseF s.data.toList = ⟨40, 0, 0, []⟩ by
      rw [parseF_go hbig, show s.data.toList = [] from List.length_eq_zero_iff.1 hemp]; rfl)
    have h0 : ((s.size : Int) == 0) = true := by rw [beq_iff_eq]; omega
    clear hemp
    go_enter Tryz.func20, Tryz.ntmps20
    go_wp2_with fail
    refine bodyPost_ret (v := .tuple #[chAgg 0 (.slice none 0 0), .agg #[.int .i64 40, .int .i64 0]]) (by simp [results, Tryz.results20, go_sem]) rfl ?_
    rw [ParseOut, HE.out]
    exact ⟨_, rfl, ownOps_nil _ _, ((((Below.refl _ _).alloc (Nat.le_refl _) _).alloc (by simp) _).alloc (by simp <;> omega) _).alloc (by simp <;> omega) _⟩
  · have HG := Lib.hid (parseF_go hbig)
    have hsz : s.size ≤ 262144 := by omega
    have h0 : ((s.size : Int) == 0) = false := by rw [beq_eq_false_iff_ne]; omega
    have hml : s.size ≤ maxLen := by unfold maxLen; omega
    obtain ⟨X, hX⟩ : ∃ X, X = (((w.alloc zeroC).alloc zeroF).alloc (.cells #[.string s, .int .i64 0, .int .i64 (-1)] 76)).alloc zeroC := ⟨_, rfl⟩
    have sX : X.heap.size = w.heap.size + 4 := by rw [hX]; simp
    have f0 : X.heap[w.heap.size]? = some zeroC := by
      rw [hX, Lib.alloc_old _ _ _ (by simp <;> omega), Lib.alloc_old _ _ _ (by simp <;> omega), Lib.alloc_old _ _ _ (by simp)]; exact heap_new w _
    have f1 : X.heap[w.heap.size + 1]? = some zeroF := by
      rw [hX, Lib.alloc_old _ _ _ (by simp <;> omega), Lib.alloc_old _ _ _ (by simp)]; have := heap_new (w.alloc zeroC) zeroF; simpa using this
    have f2 : X.heap[w.heap.size + 2]? = some (.cells #[.string s, .int .i64 0, .int .i64 (-1)] 76 (0, 0)) := by
      rw [hX, Lib.alloc_old _ _ _ (by simp)]; have := heap_new ((w.alloc zeroC).alloc zeroF) (.cells #[.string s, .int .i64 0, .int .i64 (-1)] 76); simpa using this
    have f3 : X.heap[w.heap.size + 3]? = some zeroC := by
      rw [hX]; have := heap_new (((w.alloc zeroC).alloc zeroF).alloc (.cells #[.string s, .int .i64 0, .int .i64 (-1)] 76)) zeroC; simpa using this
    have bX : Below w.heap.size w X := by rw [hX]; exact ((((Below.refl _ _).alloc (Nat.le_refl _) _).alloc (by simp) _).alloc (by simp <;> omega) _).alloc (by simp <;> omega) _
    have RX : RxAt X (w.heap.size + 2) s 0 (-1) := ⟨f2, Nat.zero_le _, hml⟩
    have HX := Lib.hid hX
    have BX := Lib.hid bX
    have F0 := Lib.hid f0
    have F1 := Lib.hid f1
    have F3 := Lib.hid f3
    have HN := Lib.hid (numberA_any (w.heap.size + 2) s 0 X RX)
    obtain ⟨Y, hY⟩ : ∃ Y, Y = Sp.change s.data.toList := ⟨_, rfl⟩
    rw [← hY] at HG
    have HY := Lib.hid hY
    have he0 : rst s 0 = s.data.toList := rfl
    have HE0 := Lib.hid he0
    clear hX f0 f1 f2 f3 bX RX hY he0
    go_enter Tryz.func20, Tryz.ntmps20
    go_wp2_with fail
    rw [← HX.out]
    refine HN.out.mono ?_
    rintro e w1 ⟨n, rfl, k1, J1, X1, r1, h1⟩
    rw [HE0.out] at h1
    have t1 := k1.kept _ _ _ _ F3.out (by decide)
    have g0 := Joins.unfrozen_of_block t1 0
    have y0 := (Lib.cell_of_heap t1 0).trans (show _ = some (Value.int .i64 0) from rfl)
    obtain ⟨V, hV⟩ : ∃ V, V = w1.setCell ⟨w.heap.size + 1 + 1 + 1, 0, none⟩ (.int .i64 n) := ⟨_, rfl⟩
    have t2 : V.heap[w.heap.size + 3]? = some (.cells #[.int .i64 n, .slice none 0 0] 24 (0, 0)) := by rw [hV]; exact Joins.block_setCell (i := 0) t1 (.int .i64 n)
    have KV : Keep (w.heap.size + 2) CX X V := by rw [hV]; exact (k1.more (by simp)).trans ((set_keep (b := w.heap.size + 2) (i := 0) t1 (by omega) (.int .i64 n)).more (by simp))
    have RV : RxAt V (w.heap.size + 2) s J1 X1 := ⟨by rw [hV]; exact (Below.heap_setCell _ _ _ _ (show w.heap.size + 2 ≠ w.heap.size + 1 + 1 + 1 by omega)).trans r1.1, r1.2⟩
    have HV := Lib.hid hV
    have HT := Lib.hid t2
    have HKV := Lib.hid KV
    have HRV := Lib.hid RV
    have H1 := Lib.hid h1
    have hsV : X.heap.size ≤ V.heap.size := KV.below.size
    clear r1 k1 t1 h1 hV t2 KV RV
    go_wp2_with fail
    rw [← HV.out]
    clear g0 y0
    go_loopg [6] (s.size + 1 - J1) (fun gk po wr => (∃ (j f : Nat) (ps : List (OpD × Value)) (oa : Option Addr) (oc : Nat), s.size + 1 ≤ gk + j ∧ RxAt wr (w.heap.size + 2) s j (-1) ∧ ps.length ≤ j ∧ s.size - j < f ∧ Hid (Y = Sp.mapn n (Sp.prl (ps.map (·.1)) j (Sp.ops f (rst s j)))) ∧ Keep (w.heap.size + 2) CX X wr ∧ wr.heap[w.heap.size + 3]? = some (.cells #[.int .i64 n, .slice oa ps.length oc] 24 (0, 0)) ∧ OwnP wr X.heap.size (.slice oa ps.length oc) ps) ∨
      (∃ m j : Nat, Y = .bad m ∧ RxAt wr (w.heap.size + 2) s j (m : Int) ∧ Keep (w.heap.size + 2) CX X wr))
    case atStart =>
      rcases H1.out with ⟨hX, i, hn, hJ⟩ | ⟨m, hn, hX⟩
      · have hJs := HRV.out.2.1
        refine .inl ⟨J1, (rst s J1).length + 1, [], none, 0, by omega, by rw [← hX]; exact HRV.out, Nat.zero_le _, by rw [rst_len]; omega, ?_, HKV.out, HT.out, OwnP.empty _ _⟩
        have he : rst s J1 = s.data.toList.drop i := by rw [hJ, Nat.zero_add]; rfl
        rw [HY.out, Sp.change_go hn, ← he, show J1 = i by omega]; rfl
      · exact .inr ⟨m, J1, by rw [HY.out, Sp.change_bad hn], by rw [hX, Nat.zero_add] at HRV; exact HRV.out, HKV.out⟩
    case round =>
      rcases hrel with ⟨j, f, ps, oa, oc, hgk, r, hpj, hf, hYY, kk, hc, hop⟩ | ⟨m, j, hbm, r, kk⟩
      · obtain ⟨d0, d1, d2⟩ := r.at
        have R := Lib.hid r
        have KK := Lib.hid kk
        have HCc := Lib.hid hc
        have HOP := Lib.hid hop
        have hjs := r.2.1
        have hsw := kk.below.size
        have qm : (-1 : Int) < 0 := by omega
        clear r kk hc hop
        cases f with
        | zero => omega
        | succ f =>
        by_cases hlt : j < s.size
        · have hlt' : (j : Int) < (s.size : Int) := by omega
          have HO := Lib.hid (rxOp_any (w.heap.size + 2) s j wr R.out hz)
          go_wp2_with fail
          refine HO.out.mono ?_
          rintro e w5 ⟨_, o, J, X', rfl, ⟨v, rfl, hv⟩, k5, r5, h5⟩
          obtain ⟨va, vc, rfl⟩ := own_slice hv
          have T5 := k5.kept _ _ _ _ HCc.out (by decide)
          have c5 : w5.cell? ⟨w.heap.size + 1 + 1 + 1, 1, none⟩ = some (.slice oa ps.length oc) := (Lib.cell_of_heap T5 1).trans rfl
          have f5 : w5.frozen? ⟨w.heap.size + 1 + 1 + 1, 1, none⟩ = false := Joins.unfrozen_of_block T5 1
          have hs5 : w.heap.size + 1 + 1 + 1 < w5.heap.size := lt_of_heap T5
          have hs5' : w.heap.size + 1 + 1 + 1 ≠ w5.heap.size := by omega
          have hww := k5.below.size
          have OP5 := HOP.out.keep k5 (by decide) (by decide)
          have hv5 := own_base hv (show X.heap.size ≤ wr.heap.size from hsw)
          obtain ⟨W6, hW6⟩ : ∃ W6, W6 = w5.alloc (.cells #[.int .i64 o.kind, .int .i64 o.n, .string o.text, .slice va o.attrs.length vc] 48) := ⟨_, rfl⟩
          have B6 : Below w5.heap.size w5 W6 := by rw [hW6]; exact below_box _ _
          have K6 : Keep w5.heap.size [] w5 W6 := keep_below B6 (Nat.le_refl _)
          have OP6 := Lib.hid (OP5.keep K6 (by simp) (by simp))
          have hv6 := Lib.hid (K6.own hv5 (by simp))
          have T6 := Lib.hid (K6.kept _ _ _ _ T5 (by simp))
          have s6 : W6.heap.size = w5.heap.size + 1 := by rw [hW6]; simp
          have R5 := Lib.hid r5
          have K5 := Lib.hid (KK.out.trans (k5.more (us := CX) (by simp)))
          have H5 := Lib.hid h5
          have HW6 := Lib.hid hW6
          have b6 := Lib.hid B6
          clear r5 h5 k5 T5 hv OP5 hv5 K6 B6 hW6
          have OL := OP6.out.1
          rw [HW6.out] at OL
          have hbase : X.heap.size ≤ (w5.alloc (.cells #[.int .i64 o.kind, .int .i64 o.n, .string o.text, .slice va o.attrs.length vc] 48)).heap.size := by rw [← HW6.out, s6]; omega
          have hpl : ps.length + 1 ≤ 1048577 := by omega
          go_wp2_with (at_builtin; refine append_op rfl (.tmp 43) (.tmp 45) rfl X.heap.size (.slice oa ps.length oc) ps.length (flatO ps) (o, .slice va o.attrs.length vc) rfl (by rw [World.size_alloc]; rfl) OL rfl (ps.length + 1) (flatO (ps ++ [(o, .slice va o.attrs.length vc)])) rfl (flatO_snoc _ _).symm hpl hbase ?_; intro u7 w7 o7 g7; obtain ⟨oa7, oc7, rfl⟩ := own_slice4 o7; rw [← HW6.out] at g7; have K7 := (show Keep X.heap.size [48] (W6.alloc (.cells #[.int .i64 o.kind, .int .i64 o.n, .string o.text, .slice va o.attrs.length vc] 48)) w7 from keep_row (OP6.out.1.alloc _) g7 (by simp) (by simp; omega)); have KB := keep_below (ts := []) (below_box W6 (.cells #[.int .i64 o.kind, .int .i64 o.n, .string o.text, .slice va o.attrs.length vc] 48)) (Nat.le_refl _); have T7 := K7.kept _ _ _ _ (KB.kept _ _ _ _ T6.out (by simp)) (by decide); have c7 := (Lib.cell_of_heap T7 1).trans (show _ = some (Value.slice oa ps.length oc) from rfl); have f7 := Joins.unfrozen_of_block T7 1; have HK7 := Lib.hid K7; have HKB := Lib.hid KB; have HT7 := Lib.hid T7; have HO7 := Lib.hid o7; clear o7 g7 K7 KB T7)
          have BB : Below X.heap.size w5 w7 := ((b6.out.mono (by omega)).trans ((below_box W6 _).mono (by omega))).trans HK7.out.below
          have OP7 : OwnP w7 X.heap.size (.slice oa7 (ps.length + 1) oc7) (ps ++ [(o, .slice va o.attrs.length vc)]) := ownP_mk (HO7.out) (fun q hq => HK7.out.own (HKB.out.own (OP6.out.2 q hq) (by simp)) (by decide)) (HK7.out.own (HKB.out.own hv6.out (by simp)) (by decide))
          have KS := set_keep (b := w.heap.size + 2) (i := 1) HT7.out (by omega) (.slice oa7 (ps.length + 1) oc7)
          have TS := Joins.block_setCell (i := 1) HT7.out (.slice oa7 (ps.length + 1) oc7)
          have RS : RxAt (w7.setCell ⟨w.heap.size + 3, 1, none⟩ (.slice oa7 (ps.length + 1) oc7)) (w.heap.size + 2) s J X' := ⟨(Below.heap_setCell _ _ _ _ (show w.heap.size + 2 ≠ w.heap.size + 3 by omega)).trans ((BB.block _ (by omega)).trans R5.out.1), R5.out.2⟩
          have KF := Lib.hid ((K5.out.later BB (by omega) (Nat.le_refl _)).trans (KS.more (us := CX) (by simp)))
          have OF := Lib.hid (OP7.keep KS (by decide) (by decide))
          have HTS := Lib.hid TS
          have HRS := Lib.hid RS
          have el : (ps ++ [(o, Value.slice va o.attrs.length vc)]).length = ps.length + 1 := by simp
          clear BB OP7 KS TS RS
          go_roundg (gk - 1)
          case measure => omega
          case rel =>
            rcases H5.out with ⟨rfl, h32, n', hop', rfl⟩ | ⟨h32, m, hop', rfl⟩ | ⟨h32, rfl⟩
            · refine .inl ⟨_, f, ps ++ [(o, .slice va o.attrs.length vc)], oa7, oc7, by omega, HRS.out, by rw [el]; omega, by have := R5.out.2.1; omega, ?_, KF.out, by rw [el]; exact HTS.out, by rw [el]; exact OF.out⟩
              refine hYY.out.trans ?_
              rw [Sp.ops_go f h32 (by rw [rst_drop]; exact hop'), Sp.prl_prl, rst_drop, List.map_append, show j + (1 + n') = j + 1 + n' by omega]; rfl
            · refine .inr ⟨j + 1 + m, _, ?_, HRS.out, KF.out⟩
              refine hYY.out.trans ?_
              rw [Sp.ops_bad1 f h32 (by rw [rst_drop]; exact hop')]
              simp only [Sp.prl, Sp.mapn]; congr 1; omega
            · refine .inr ⟨j, _, ?_, HRS.out, KF.out⟩
              refine hYY.out.trans ?_
              rw [Sp.ops_bad0 f (by rw [rst_cons hlt]; simp) h32]
              simp only [Sp.prl, Sp.mapn]; rfl
        · have hlt' : ¬ (j : Int) < (s.size : Int) := by omega
          have hL := Lib.hid (show Y = .ok (n, ps.map (·.1)) j by
            refine hYY.out.trans ?_
            rw [rst_nil (by omega), Sp.ops_nil]
            simp [Sp.prl, Sp.mapn])
          have hps : ps.length = (ps.map (·.1)).length := by simp
          have OV := Lib.hid (show OwnOps wr X.heap.size (.slice oa (ps.map (·.1)).length oc) (ps.map (·.1)) from ⟨ps, rfl, by rw [← hps]; exact HOP.out⟩)
          rw [hps] at HCc
          clear hYY HOP
          generalize ps.map (·.1) = L at *
          have HPt := Lib.hid (Sp.change_parts (HY.out.symm.trans hL.out))
          have hoz : OSized L := fun o ho => by
            obtain ⟨h1, h2⟩ := HPt.out.2 o ho
            have hl : s.data.toList.length = s.size := rfl
            refine ⟨by unfold maxLen; omega, fun y hy => ?_⟩
            have := h2 y hy
            unfold maxLen; omega
          have hts : TSmall L := fun o ho => by
            have := (HPt.out.2 o ho).1
            have hl : s.data.toList.length = s.size := rfl
            omega
          have HOZ := Lib.hid hoz
          have HTS := Lib.hid hts
          have HR := Lib.hid (refRight_any n (.slice oa L.length oc) L wr OV.out.row hoz hts)
          have c0 := (Lib.cell_of_heap HCc.out 0).trans (show _ = some (Value.int .i64 n) from rfl)
          have c1 := (Lib.cell_of_heap HCc.out 1).trans (show _ = some (Value.slice oa L.length oc) from rfl)
          have hlc := lt_of_heap HCc.out
          have HE1 := Lib.hid (show Sp.parseF s.data.toList = Sp.parseR (.ok (n, L) j) by rw [HG.out, hL.out])
          have Bw := Lib.hid (BX.out.trans (KK.out.below.mono (by omega)))
          clear hoz hts
          by_cases he : toE n L = 0
          · rw [he] at HR
            have HE := Lib.hid he
            clear he
            go_wp2_with fail
            refine HR.out.mono ?_
            rintro e w2 ⟨rfl, b2⟩
            have T2 := (b2.block _ hlc).trans HCc.out
            have c0' := (Lib.cell_of_heap T2 0).trans (show _ = some (Value.int .i64 n) from rfl)
            have c1' := (Lib.cell_of_heap T2 1).trans (show _ = some (Value.slice oa L.length oc) from rfl)
            have OV2 := Lib.hid (OV.out.below b2)
            have HI := Lib.hid (refIs_any n (.slice oa L.length oc) L w2 (OV.out.row.below b2) HOZ.out HTS.out)
            have HCc2 := Lib.hid T2
            have B2 := Lib.hid b2
            have hs2 := b2.size
            clear T2 b2 c0 c1
            by_cases hn : L = norm L
            · have hib : isB n L = true := decide_eq_true ⟨HE.out, hn⟩
              rw [hib] at HI
              have HE2 := Lib.hid (HE1.out.trans (parseR_ok HE.out hn))
              clear hib hn
              go_wp2_with fail
              refine HI.out.mono ?_
              rintro e w3 ⟨rfl, b3⟩
              have hlc2 := lt_of_heap HCc2.out
              have T3 := (b3.block _ hlc2).trans HCc2.out
              have c0 := (Lib.cell_of_heap T3 0).trans (show _ = some (Value.int .i64 n) from rfl)
              have c1 := (Lib.cell_of_heap T3 1).trans (show _ = some (Value.slice oa L.length oc) from rfl)
              have b23 := B2.out.trans (b3.mono hs2)
              have f0 := (b23.block _ (by omega)).trans ((KK.out.below.block _ (by omega)).trans F0.out)
              have f1 := (b23.block _ (by omega)).trans ((KK.out.below.block _ (by omega)).trans F1.out)
              have e0 := (Lib.cell_of_heap f0 0).trans (show _ = some (Value.int .i64 0) from rfl)
              have e1 := (Lib.cell_of_heap f0 1).trans (show _ = some (Value.slice none 0 0) from rfl)
              have g0 := Joins.unfrozen_of_block f0 0
              have g1 := Joins.unfrozen_of_block f0 1
              have e2 := (Lib.cell_of_heap f1 0).trans (show _ = some (Value.int .i64 0) from rfl)
              have e3 := (Lib.cell_of_heap f1 1).trans (show _ = some (Value.int .i64 0) from rfl)
              have g2 := Joins.unfrozen_of_block f1 0
              have g3 := Joins.unfrozen_of_block f1 1
              have hl0 := lt_of_heap f0
              have hl1 := lt_of_heap f1
              have KZ := Lib.hid (((set_keep (b := w.heap.size) (i := 0) f0 (Nat.le_refl _) (.int .i64 n)).trans (set_keep (b := w.heap.size) (i := 1) (Joins.block_setCell (i := 0) f0 (.int .i64 n)) (Nat.le_refl _) (.slice oa L.length oc))))
              have f1' : ((w3.setCell ⟨w.heap.size, 0, none⟩ (.int .i64 n)).setCell ⟨w.heap.size, 1, none⟩ (.slice oa L.length oc)).heap[w.heap.size + 1]? = some zeroF := by rw [Below.heap_setCell _ _ _ _ (by simp), Below.heap_setCell _ _ _ _ (by simp)]; exact f1
              have KZ2 := Lib.hid (((set_keep (b := w.heap.size) (i := 0) f1' (Nat.le_succ _) (.int .i64 0)).trans (set_keep (b := w.heap.size) (i := 1) (Joins.block_setCell (i := 0) f1' (.int .i64 0)) (Nat.le_succ _) (.int .i64 0))))
              have O3 := Lib.hid (OV2.out.below b3)
              have B3 := Lib.hid (Bw.out.trans (b23.mono (by omega)))
              clear T3 b3 b23 f0 f1 f1' c0' c1'
              go_wp2_with fail
              refine bodyPost_ret (v := .tuple #[chAgg n (.slice oa L.length oc), .agg #[.int .i64 0, .int .i64 0]]) (by simp [results, Tryz.results20, go_sem, e0, e1, e2, e3]) rfl ?_
              rw [ParseOut, HE2.out]
              obtain ⟨ps', hps', hp'⟩ := O3.out
              exact ⟨_, rfl, ⟨ps', hps', ((hp'.keep KZ.out (by decide) (by decide)).keep KZ2.out (by decide) (by decide)).base (by omega)⟩, set2_below (set2_below B3.out (Nat.le_refl _) _ _) (Nat.le_succ _) _ _⟩
            · have hib : isB n L = false := decide_eq_false fun h => hn h.2
              rw [hib] at HI
              have HE2 := Lib.hid (HE1.out.trans (parseR_odd HE.out hn))
              clear hib hn
              go_wp2_with fail
              refine HI.out.mono ?_
              rintro e w3 ⟨rfl, b3⟩
              have b23 := B2.out.trans (b3.mono hs2)
              have f0 := (b23.block _ (by omega)).trans ((KK.out.below.block _ (by omega)).trans F0.out)
              have f1 := (b23.block _ (by omega)).trans ((KK.out.below.block _ (by omega)).trans F1.out)
              have e0 := (Lib.cell_of_heap f0 0).trans (show _ = some (Value.int .i64 0) from rfl)
              have e1 := (Lib.cell_of_heap f0 1).trans (show _ = some (Value.slice none 0 0) from rfl)
              have g0 := Joins.unfrozen_of_block f0 0
              have g1 := Joins.unfrozen_of_block f0 1
              have e2 := (Lib.cell_of_heap f1 0).trans (show _ = some (Value.int .i64 0) from rfl)
              have e3 := (Lib.cell_of_heap f1 1).trans (show _ = some (Value.int .i64 0) from rfl)
              have g2 := Joins.unfrozen_of_block f1 0
              have g3 := Joins.unfrozen_of_block f1 1
              have hl0 := lt_of_heap f0
              have hl1 := lt_of_heap f1
              have B3 := Lib.hid (Bw.out.trans (b23.mono (by omega)))
              clear b3 b23 f0 f1 c0' c1'
              go_wp2_with fail
              refine bodyPost_ret (v := .tuple #[chAgg 0 (.slice none 0 0), .agg #[.int .i64 40, .int .i64 (-1)]]) (by simp [results, Tryz.results20, go_sem, e0, e1, e2, e3]) rfl ?_
              rw [ParseOut, HE2.out]
              exact ⟨_, rfl, ownOps_nil _ _, set2_below (set2_below B3.out (Nat.le_refl _) _ _) (Nat.le_succ _) _ _⟩
          · have HE2 := Lib.hid (HE1.out.trans (parseR_err he))
            have hb : (toE n L == 0) = false := by rw [beq_eq_false_iff_ne]; exact he
            clear he
            go_wp2_with fail
            refine HR.out.mono ?_
            rintro e w2 ⟨rfl, b2⟩
            have f0 := (b2.block _ (by omega)).trans ((KK.out.below.block _ (by omega)).trans F0.out)
            have f1 := (b2.block _ (by omega)).trans ((KK.out.below.block _ (by omega)).trans F1.out)
            have e0 := (Lib.cell_of_heap f0 0).trans (show _ = some (Value.int .i64 0) from rfl)
            have e1 := (Lib.cell_of_heap f0 1).trans (show _ = some (Value.slice none 0 0) from rfl)
            have g0 := Joins.unfrozen_of_block f0 0
            have g1 := Joins.unfrozen_of_block f0 1
            have e2 := (Lib.cell_of_heap f1 0).trans (show _ = some (Value.int .i64 0) from rfl)
            have e3 := (Lib.cell_of_heap f1 1).trans (show _ = some (Value.int .i64 0) from rfl)
            have g2 := Joins.unfrozen_of_block f1 0
            have g3 := Joins.unfrozen_of_block f1 1
            have hl0 := lt_of_heap f0
            have hl1 := lt_of_heap f1
            have B3 := Lib.hid (Bw.out.trans (b2.mono (by omega)))
            clear b2 f0 f1 c0 c1
            go_wp2_with fail
            refine bodyPost_ret (v := .tuple #[chAgg 0 (.slice none 0 0), .agg #[.int .i64 (toE n L), .int .i64 (-1)]]) (by simp [results, Tryz.results20, go_sem, e0, e1, e2, e3]) rfl ?_
            rw [ParseOut, HE2.out]
            exact ⟨_, rfl, ownOps_nil _ _, set2_below (set2_below B3.out (Nat.le_refl _) _ _) (Nat.le_succ _) _ _⟩
      · obtain ⟨d0, d1, d2⟩ := r.at
        have HE := Lib.hid (show Sp.parseF s.data.toList = ⟨40, m, 0, []⟩ by rw [HG.out, hbm]; rfl)
        have q0 : ¬ (m : Int) < 0 := by omega
        have q1 : (0 : Int) ≤ (m : Int) := by omega
        have f0 := (kk.below.block _ (by omega)).trans F0.out
        have f1 := (kk.below.block _ (by omega)).trans F1.out
        have e0 := (Lib.cell_of_heap f0 0).trans (show _ = some (Value.int .i64 0) from rfl)
        have e1 := (Lib.cell_of_heap f0 1).trans (show _ = some (Value.slice none 0 0) from rfl)
        have g0 := Joins.unfrozen_of_block f0 0
        have g1 := Joins.unfrozen_of_block f0 1
        have e2 := (Lib.cell_of_heap f1 0).trans (show _ = some (Value.int .i64 0) from rfl)
        have e3 := (Lib.cell_of_heap f1 1).trans (show _ = some (Value.int .i64 0) from rfl)
        have g2 := Joins.unfrozen_of_block f1 0
        have g3 := Joins.unfrozen_of_block f1 1
        have hl0 := lt_of_heap f0
        have hl1 := lt_of_heap f1
        have B1 := Lib.hid (BX.out.trans (kk.below.mono (by omega)))
        generalize (m : Int) = xx at *
        clear r kk hbm f0 f1
        go_wp2_with fail
        go_region
        go_wp2_with fail
        refine bodyPost_ret (v := .tuple #[chAgg 0 (.slice none 0 0), .agg #[.int .i64 40, .int .i64 xx]]) (by simp [results, Tryz.results20, go_sem, e0, e1, e2, e3]) rfl ?_
        rw [ParseOut, HE.out]
        exact ⟨_, rfl, ownOps_nil _ _, set2_below (set2_below B1.out.drew (Nat.le_refl _) _ _) (Nat.le_succ _) _ _⟩
end Go.Proofs.YtadookafnfnaoaaGreatDoor
/- The law SpellParses, walked. -/
namespace Go.Proofs.YtadookafnfnaoaaGreatDoor
open Go.RowKit Ch

/-- Boxes of whatever type. -/
def BoxT (w : World) (L : List (Nat × Array Value × TypeId)) : Prop := ∀ x ∈ L, w.heap[x.1]? = some (.cells x.2.1 x.2.2 (0, 0))
theorem BoxT.below {w w' : World} {L : List (Nat × Array Value × TypeId)} (h : BoxT w L) (hb : Below w.heap.size w w') : BoxT w' L := fun x hx => (hb.block _ (lt_of_heap (h x hx))).trans (h x hx)
theorem BoxT.span {w w' : World} {lo hi : Nat} {L : List (Nat × Array Value × TypeId)} (h : BoxT w L) (hb : Span lo hi w w') (ho : ∀ x ∈ L, x.1 < lo ∨ hi ≤ x.1) : BoxT w' L := fun x hx => by
  have hl := lt_of_heap (h x hx)
  rcases ho x hx with h1 | h1
  · exact (hb.below.block _ h1).trans (h x hx)
  · exact (hb.block _ hl h1).trans (h x hx)
theorem BoxT.more {w : World} {L : List (Nat × Array Value × TypeId)} (h : BoxT w L) (cs : Array Value) (t : TypeId) : BoxT (w.alloc (.cells cs t)) (L ++ [(w.heap.size, cs, t)]) := fun x hx => by
  rcases List.mem_append.1 hx with hx | hx
  · exact (h.below (below_box w _)) x hx
  · rw [List.mem_singleton.1 hx]; exact heap_new _ _
theorem BoxT.nil (w : World) : BoxT w [] := fun x hx => by cases hx
theorem BoxT.at {w : World} {L : List (Nat × Array Value × TypeId)} (h : BoxT w L) {b : Nat} {u v : Value} {t : TypeId} (hx : (b, #[u, v], t) ∈ L) : w.cell? ⟨b, 0, none⟩ = some u ∧ w.cell? ⟨b, 1, none⟩ = some v ∧ b < w.heap.size :=
  ⟨(Lib.cell_of_heap (h _ hx) 0).trans rfl, (Lib.cell_of_heap (h _ hx) 1).trans rfl, lt_of_heap (h _ hx)⟩

theorem smallO_nil : SmallO [] := ⟨Nat.zero_le _, fun o ho => by cases ho⟩
theorem parse_small2 (l : List UInt8) : SmallO (Sp.parseF l).ops := by
  unfold Sp.parseF
  split
  · exact smallO_nil
  · cases h : Sp.change l with
    | bad k => exact smallO_nil
    | ok c n =>
      by_cases he : toE c.1 c.2 = 0
      · by_cases hn : c.2 = norm c.2
        · rw [parseR_ok he hn]; exact smallO_ok ((toE_iff _ _).1 he)
        · rw [parseR_odd he hn]; exact smallO_nil
      · rw [parseR_err he]; exact smallO_nil

set_option maxRecDepth 100000 in
set_option maxHeartbeats 8000000 in
theorem parses_walk4 (s : ByteArray) (p : Int) (w : World) (hz : s.size ≤ 1048576) (hp0 : -9223372036854775808 ≤ p) (hp1 : p ≤ 9223372036854775807) (hs : Std w) :
    Calls Tryz.prog 4 #[.string s, .int .i64 p] w (OutB w true) := by
  have HS := Lib.hid hs
  have HAW := Lib.hid (awake4_any w hs.pow hs.syn hs.pl hs.sl)
  have hml : s.size ≤ maxLen := by unfold maxLen; omega
  have hz2 : s.size ≤ 140737488355327 := by omega
  have HR := Lib.hid (show ∀ W, Calls Tryz.prog 17 #[.string s, .int .i64 p] W (SpReadOut W s p) from fun W => spRead_any s p W hz2 hp0 hp1)
  have HQ := Lib.hid (show ∀ W, Calls Tryz.prog 18 #[.string s, .int .i64 p] W (SpReadOut W s p) from fun W => refRead_any s p W hz)
  have HP := Lib.hid (show ∀ W, Std W → Calls Tryz.prog 19 #[.string s] W (ParseOut W s) from fun W h => parse_any s W hml h.syn h.sl)
  have HPr := Lib.hid (show ∀ W, Calls Tryz.prog 20 #[.string s] W (ParseOut W s) from fun W => refParse_any s W hz)
  have HSM := Lib.hid (parse_small2 s.data.toList)
  unfold SpReadOut at HR HQ
  unfold ParseOut at HP HPr
  generalize Sp.readF s.data.toList p = RR at *
  generalize Sp.parseF s.data.toList = PP at *
  obtain ⟨rc, ra, rt, re⟩ := RR
  obtain ⟨pc, pa, pf, L⟩ := PP
  simp only at HR HQ HP HPr HSM
  clear hs hml hz2
  go_enter Tryz.func4, Tryz.ntmps4
  go_wp2_with fail
  refine HAW.out.mono ?_
  rintro e w1 ⟨rfl, h⟩
  have B1 := Lib.hid h
  clear h
  go_wp2_with fail
  refine (HR.out _).mono ?_
  rintro e w2 ⟨rfl, h⟩
  have B2 := Lib.hid (B1.out.trans (h.mono B1.out.size))
  clear h
  have K2 := Lib.hid ((BoxT.nil w2).more #[.int .i64 rc, .int .i64 ra] 34)
  obtain ⟨X2, hX2⟩ : ∃ X, X = w2.alloc (.cells #[.int .i64 rc, .int .i64 ra] 34) := ⟨_, rfl⟩
  rw [← hX2] at K2
  have BX2 := Lib.hid (B2.out.trans ((show Below w2.heap.size w2 X2 by rw [hX2]; exact below_box _ _).mono B2.out.size))
  have HX2 := Lib.hid hX2
  clear hX2
  go_wp2_with fail
  rw [← HX2.out]
  refine (HQ.out _).mono ?_
  rintro e w3 ⟨rfl, h⟩
  have B3 := Lib.hid (BX2.out.trans (h.mono BX2.out.size))
  have K3 := Lib.hid ((K2.out.below h).more #[.int .i64 rc, .int .i64 ra] 34)
  obtain ⟨X3, hX3⟩ : ∃ X, X = w3.alloc (.cells #[.int .i64 rc, .int .i64 ra] 34) := ⟨_, rfl⟩
  have hs23 := h.size
  have sX2 : X2.heap.size = w2.heap.size + 1 := by rw [HX2.out]; simp
  have KC := K3.out
  obtain ⟨a0, a1, a2⟩ := KC.at (b := w2.heap.size) (u := .int .i64 rc) (v := .int .i64 ra) (t := 34) (by simp)
  obtain ⟨b0, b1, b2⟩ := KC.at (b := w3.heap.size) (u := .int .i64 rc) (v := .int .i64 ra) (t := 34) (by simp)
  rw [← hX3] at K3
  have BX3 := Lib.hid (B3.out.trans ((show Below w3.heap.size w3 X3 by rw [hX3]; exact below_box _ _).mono B3.out.size))
  have HX3 := Lib.hid hX3
  have t1 : ((Sp.ba rt).toList == (Sp.ba rt).toList) = true := by simp
  have t2 : (re == re) = true := by simp
  have t3 : (rc == rc) = true := by simp
  have t4 : (ra == ra) = true := by simp
  clear h hX3 KC
  go_wp2_with fail
  clear a0 a1 a2 b0 b1 b2
  have sX3 : X3.heap.size = w3.heap.size + 1 := by rw [HX3.out]; simp
  rw [← HX3.out]
  refine (HP.out _ (HS.out.keep BX3.out)).mono ?_
  rintro e w4 ⟨v4, rfl, ⟨ps4, hps, hop⟩, h⟩
  obtain ⟨va4, vc4, rfl⟩ := own_slice4 hop.1
  have HPS4 := Lib.hid hps
  have HOP4 := Lib.hid hop
  have BW4 := Lib.hid h
  have B4 := Lib.hid (BX3.out.trans (h.mono BX3.out.size))
  have K4 := Lib.hid (((K3.out.below h).more #[.int .i64 pf, .slice va4 ps4.length vc4] 24).more #[.int .i64 pc, .int .i64 pa] 34)
  obtain ⟨X4, hX4⟩ : ∃ X, X = (w4.alloc (.cells #[.int .i64 pf, .slice va4 ps4.length vc4] 24)).alloc (.cells #[.int .i64 pc, .int .i64 pa] 34) := ⟨_, rfl⟩
  rw [← hX4] at K4
  have hs34 := h.size
  have sX4 : X4.heap.size = w4.heap.size + 2 := by rw [hX4]; simp
  have bX4 : Below w4.heap.size w4 X4 := by rw [hX4]; exact ((Below.refl _ _).alloc (Nat.le_refl _) _).alloc (by simp) _
  have HBX4 := Lib.hid bX4
  have BX4 := Lib.hid (B4.out.trans (bX4.mono B4.out.size))
  have HX4 := Lib.hid hX4
  clear h hX4 bX4 hps hop
  go_wp2_with fail
  rw [← HX4.out]
  refine (HP.out _ (HS.out.keep BX4.out)).mono ?_
  rintro e w5 ⟨v5, rfl, ⟨ps5, hps, hop⟩, h⟩
  obtain ⟨va5, vc5, rfl⟩ := own_slice4 hop.1
  have HPS5 := Lib.hid hps
  have HOP5 := Lib.hid hop
  have BW5 := Lib.hid h
  have B5 := Lib.hid (BX4.out.trans (h.mono BX4.out.size))
  have K5 := Lib.hid (((K4.out.below h).more #[.int .i64 pf, .slice va5 ps5.length vc5] 24).more #[.int .i64 pc, .int .i64 pa] 34)
  obtain ⟨X5, hX5⟩ : ∃ X, X = (w5.alloc (.cells #[.int .i64 pf, .slice va5 ps5.length vc5] 24)).alloc (.cells #[.int .i64 pc, .int .i64 pa] 34) := ⟨_, rfl⟩
  rw [← hX5] at K5
  have hs45 := h.size
  have sX5 : X5.heap.size = w5.heap.size + 2 := by rw [hX5]; simp
  have bX5 : Below w5.heap.size w5 X5 := by rw [hX5]; exact ((Below.refl _ _).alloc (Nat.le_refl _) _).alloc (by simp) _
  have HBX5 := Lib.hid bX5
  have BX5 := Lib.hid (B5.out.trans (bX5.mono B5.out.size))
  have HX5 := Lib.hid hX5
  clear h hX5 bX5 hps hop
  go_wp2_with fail
  rw [← HX5.out]
  refine (HPr.out _).mono ?_
  rintro e w6 ⟨v6, rfl, ⟨ps6, hps, hop⟩, h⟩
  obtain ⟨va6, vc6, rfl⟩ := own_slice4 hop.1
  have HPS6 := Lib.hid hps
  have HOP6 := Lib.hid hop
  have BW6 := Lib.hid h
  have B6 := Lib.hid (BX5.out.trans (h.mono BX5.out.size))
  have K6 := Lib.hid (((K5.out.below h).more #[.int .i64 pf, .slice va6 ps6.length vc6] 24).more #[.int .i64 pc, .int .i64 pa] 34)
  obtain ⟨X6, hX6⟩ : ∃ X, X = (w6.alloc (.cells #[.int .i64 pf, .slice va6 ps6.length vc6] 24)).alloc (.cells #[.int .i64 pc, .int .i64 pa] 34) := ⟨_, rfl⟩
  rw [← hX6] at K6
  have hs56 := h.size
  have sX6 : X6.heap.size = w6.heap.size + 2 := by rw [hX6]; simp
  have bX6 : Below w6.heap.size w6 X6 := by rw [hX6]; exact ((Below.refl _ _).alloc (Nat.le_refl _) _).alloc (by simp) _
  have HBX6 := Lib.hid bX6
  have BX6 := Lib.hid (B6.out.trans (bX6.mono B6.out.size))
  have HX6 := Lib.hid hX6
  clear h hX6 bX6 hps hop
  have KC6 := K5.out.below BW6.out
  obtain ⟨a0, a1, a2⟩ := KC6.at (b := w4.heap.size) (u := .int .i64 pf) (v := .slice va4 ps4.length vc4) (t := 24) (by simp)
  have hnn1 : w4.heap.size ≠ w6.heap.size := by omega
  have hnn2 : w4.heap.size ≠ w6.heap.size + 1 := by omega
  clear KC6
  have O4 : OwnP X6 X3.heap.size (.slice va4 ps4.length vc4) ps4 := by
    have o1 := HOP4.out.keep (keep_below (ts := []) HBX4.out (Nat.le_refl _)) (by simp) (by simp)
    have o2 := o1.keep (keep_below (ts := []) BW5.out (Nat.le_refl _)) (by simp) (by simp)
    have o3 := o2.keep (keep_below (ts := []) HBX5.out (Nat.le_refl _)) (by simp) (by simp)
    have o4 := o3.keep (keep_below (ts := []) BW6.out (Nat.le_refl _)) (by simp) (by simp)
    exact o4.keep (keep_below (ts := []) HBX6.out (Nat.le_refl _)) (by simp) (by simp)
  have O5 : OwnP X6 X4.heap.size (.slice va5 ps5.length vc5) ps5 := by
    have o3 := HOP5.out.keep (keep_below (ts := []) HBX5.out (Nat.le_refl _)) (by simp) (by simp)
    have o4 := o3.keep (keep_below (ts := []) BW6.out (Nat.le_refl _)) (by simp) (by simp)
    exact o4.keep (keep_below (ts := []) HBX6.out (Nat.le_refl _)) (by simp) (by simp)
  have O6 : OwnP X6 X5.heap.size (.slice va6 ps6.length vc6) ps6 := HOP6.out.keep (keep_below (ts := []) HBX6.out (Nat.le_refl _)) (by simp) (by simp)
  have HS1 := Lib.hid (refSameCh_any pf pf _ _ _ _ X6 O4.row O6.row)
  rw [HPS4.out, HPS6.out, show sameCh pf pf L L = true from decide_eq_true ⟨rfl, rfl⟩] at HS1
  have HO4 := Lib.hid O4
  have HO5 := Lib.hid O5
  have HO6 := Lib.hid O6
  clear O4 O5 O6
  go_wp2_with fail
  rw [← HX6.out]
  refine HS1.out.mono ?_
  rintro e w7 ⟨rfl, h⟩
  have B7 := Lib.hid (BX6.out.trans (h.mono BX6.out.size))
  have K7 := Lib.hid (K6.out.below h)
  have hs67 := h.size
  obtain ⟨c0, c1, c2⟩ := K7.out.at (b := w4.heap.size) (u := .int .i64 pf) (v := .slice va4 ps4.length vc4) (t := 24) (by simp)
  have O4 := HO4.out.keep (keep_below (ts := []) h (Nat.le_refl _)) (by simp) (by simp)
  have O5 := Lib.hid (HO5.out.keep (keep_below (ts := []) h (Nat.le_refl _)) (by simp) (by simp))
  have O6 := Lib.hid (HO6.out.keep (keep_below (ts := []) h (Nat.le_refl _)) (by simp) (by simp))
  have HSp := Lib.hid (spoilC_any pf (.slice va4 ps4.length vc4) X3.heap.size w4.heap.size ps4 w7 O4 (by rw [HPS4.out]; exact HSM.out) (fun j hj => (HOP4.out.1.lt j hj).2) (fun q hq j hj => ((HOP4.out.2 q hq).lt j hj).2) (by omega) (by omega))
  clear O4 h a0 a1 a2
  go_wp2_with fail
  refine HSp.out.mono ?_
  rintro e w8 ⟨N, rfl, hN1, hN2, hsp⟩
  have B8 := Lib.hid (B7.out.trans (hsp.below.mono (by have := BX3.out.size; omega)))
  have K8 := Lib.hid (K7.out.span hsp (by
    intro x hx
    simp only [List.mem_append, List.mem_cons, List.not_mem_nil, or_false, false_or] at hx
    rcases hx with ((((((((rfl | rfl) | rfl) | rfl) | rfl) | rfl) | rfl) | rfl)) <;> (simp only [World.size_alloc]; omega)))
  have hs78 := hsp.below.size
  obtain ⟨d0, d1, d2⟩ := K8.out.at (b := w5.heap.size) (u := .int .i64 pf) (v := .slice va5 ps5.length vc5) (t := 24) (by simp)
  obtain ⟨e0, e1, e2⟩ := K8.out.at (b := w6.heap.size) (u := .int .i64 pf) (v := .slice va6 ps6.length vc6) (t := 24) (by simp)
  have HS2 := Lib.hid (refSameCh_any pf pf _ _ _ _ w8 (O5.out.span hsp (by omega)).row (O6.out.span hsp (by omega)).row)
  rw [HPS5.out, HPS6.out, show sameCh pf pf L L = true from decide_eq_true ⟨rfl, rfl⟩] at HS2
  clear hsp c0 c1 c2
  go_wp2_with fail
  refine HS2.out.mono ?_
  rintro e w9 ⟨rfl, h⟩
  have B9 := Lib.hid (B8.out.trans (h.mono B8.out.size))
  have K9 := Lib.hid (K8.out.below h)
  obtain ⟨f0, f1, f2⟩ := K9.out.at (b := w4.heap.size + 1) (u := .int .i64 pc) (v := .int .i64 pa) (t := 34) (by simp)
  obtain ⟨g0, g1, g2⟩ := K9.out.at (b := w5.heap.size + 1) (u := .int .i64 pc) (v := .int .i64 pa) (t := 34) (by simp)
  obtain ⟨h0, h1, h2⟩ := K9.out.at (b := w6.heap.size + 1) (u := .int .i64 pc) (v := .int .i64 pa) (t := 34) (by simp)
  have u1 : (pc == pc) = true := by simp
  have u2 : (pa == pa) = true := by simp
  clear h d0 d1 d2 e0 e1 e2
  go_wp2_with fail
  go_ret
  exact ⟨rfl, B9.out⟩
end Go.Proofs.YtadookafnfnaoaaGreatDoor
