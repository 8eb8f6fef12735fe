import Derived.Test.YtadookafnfnaoaaGreatDoorGS24
import Derived.Test.YtadookafnfnaoaaGreatDoorGS11
import Derived.Test.YtadookafnfnaoaaGreatDoorGS20
import Derived.Test.YtadookafnfnaoaaGreatDoorGS14
import Derived.Lib.AppendStr
/- The document's Print. -/
namespace Go.Proofs.YtadookafnfnaoaaGreatDoor
open Go.RowKit Ch

/-- 'append' of a text's bytes, as a step of a region that draws. -/
theorem step_append_str {P : Program} {ops : Array Oper} {o : Oper} {a : Act} {w : World} {K : Act → World → Prop} {Q : Exit → Act → World → Prop} {E : Prop}
    (hg : o.guard = none) (s x : Operand) (t u : TypeId) (hop : o.op = Op.call { callee := Callee.builtin Builtin.append, args := #[s, x], argTypes := #[t, u] })
    (e : TypeId) (i : TypeInfo) (h1 : P.underlying t = some (.slice e)) (h1u : P.underlying u = some .string) (h2 : P.info? e = some i) (h3 : i.zero = some (.int .u8 0)) (h4 : i.size = 1) (h5 : i.bytes = 1)
    (base : Nat) (v : Value) (n : Nat) (xs : List Value) (hs : a.eval s = v) (hown : w.ownsRow base e 1 v n xs) (str : ByteArray) (hx : a.eval x = .string str)
    (b1 : n + str.size ≤ maxLen) (b2 : n + str.size ≤ 140737488355328) (hbase : base ≤ w.heap.size)
    (hK : ∀ v' w', w'.ownsRow base e 1 v' (n + str.size) (xs ++ Lib.strCells str) → w.grownBy w' v.ownBlock → K (a.put o.dst v') w') :
    if Region.wanted o (yielded ops a.tmps) = true then Oper.wp P o a w K Q else E := by
  have hw : Region.wanted o (yielded ops a.tmps) = true := by simp [Region.wanted, hg]
  rw [if_pos hw]
  obtain ⟨v', w', hrun, r1, r2, _⟩ := Lib.run_append_own_string (P := P) w base t u o.type e i h1 h1u h2 h3 h4 h5 v n xs hown str b1 b2 hbase
  unfold Oper.wp
  simp [execOp, hop, resolve, invoke, builtin, hs, hx, hrun, Result.andThen]
  exact hK v' w' r1 r2

theorem OwnB.str {w wr w' : World} {B : Nat} {v v' : Value} {l : List UInt8} {s : ByteArray} (hown : OwnB wr B v l) (hbw : Below B w wr) (hB : B ≤ w.heap.size)
    (ho : w'.ownsRow B 5 1 v' (l.length + s.size) (Lib.byteCells l ++ Lib.strCells s)) (hg : wr.grownBy w' v.ownBlock) : OwnB w' B v' (l ++ s.data.toList) ∧ Below B w w' := by
  refine ⟨?_, hbw.grown hg (Nat.le_trans hB hbw.size) (fun j hj => (hown.lt j hj).1)⟩
  unfold OwnB
  rw [Lib.byteCells_append, List.length_append]
  exact ho
theorem OwnOps.keepC {w w' : World} {B C : Nat} {ts : List TypeId} {v : Value} {l : List OpD} (h : OwnOps w B v l) (hk : Keep C ts w w') (h1 : 48 ∉ ts) (h2 : 53 ∉ ts) : OwnOps w' B v l := by
  obtain ⟨ps, e, h⟩ := h
  exact ⟨ps, e, h.keep hk h1 h2⟩
theorem ownOps_row {w : World} {B : Nat} {v : Value} {l : List OpD} (h : OwnOps w B v l) : OpRow w v l := by
  obtain ⟨ps, e, h⟩ := h
  rw [← e]
  exact h.row

set_option maxRecDepth 100000 in
set_option maxHeartbeats 8000000 in
theorem refPrint_any (f : Int) (v : Value) (ops : List OpD) (w : World) (hv : OpRow w v ops) (hz : OSized ops) (hts : TSmall ops) :
    Calls Tryz.prog 15 #[chAgg f v] w (PrintOut w f ops) := by
  obtain ⟨i0, hi, hz0, hz1, hz2⟩ := info_parts infoU8
  have Hi := Lib.hid (show _ ∧ _ ∧ _ ∧ _ from ⟨hi, hz0, hz1, hz2⟩)
  clear hi hz0 hz1 hz2
  obtain ⟨aa, acap, rfl⟩ := hv.shape
  obtain ⟨W, hW⟩ : ∃ W, W = w.alloc (.cells #[.int .i64 f, .slice aa ops.length acap] 24) := ⟨_, rfl⟩
  have bw := show Below w.heap.size w W by rw [hW]; exact below_box _ _
  have BW := Lib.hid bw
  have HW := Lib.hid hW
  have hvW := hv.below bw
  have wh := Lib.hid (show W.heap[w.heap.size]? = some (.cells #[.int .i64 f, .slice aa ops.length acap] 24 (0, 0)) by rw [hW]; exact heap_new _ _)
  have sW : w.heap.size < W.heap.size := by rw [hW]; simp
  clear hW bw hv
  by_cases he : toE f ops = 0
  · have HN := Lib.hid (refNormal_ok f _ ops W hvW hz hts he)
    have hok := (toE_iff f ops).1 he
    have HOK := Lib.hid (norm_ok hok).1
    have HE1 := Lib.hid (printF_ok he)
    have HE2 := Lib.hid (printF_big he)
    have hf0 := hok.1
    have hf1 := hok.2.1
    have hn2000 := (norm_ok hok).1.2.2.1
    clear hvW hz hts he hok
    generalize norm ops = ns at *
    go_enter Tryz.func15, Tryz.ntmps15
    go_wp2_with fail
    rw [← HW.out]
    refine HN.out.mono ?_
    rintro e w1 ⟨v1, rfl, o1, b1⟩
    have O1 := Lib.hid o1
    have B1 := Lib.hid (BW.out.trans (b1.mono (Nat.le_of_lt sW)))
    have wh1 := (b1.block _ (lt_of_heap wh.out)).trans wh.out
    have WH1 := Lib.hid wh1
    have g0 := Joins.unfrozen_of_block wh1 0
    have g1 := Joins.unfrozen_of_block wh1 1
    have y0 := (Lib.cell_of_heap wh1 0).trans (show _ = some _ from rfl)
    have y1 := (Lib.cell_of_heap wh1 1).trans (show _ = some _ from rfl)
    obtain ⟨na, ncap, rfl⟩ := o1.row.shape
    have HR := Lib.hid o1.row
    clear o1 b1 wh1
    obtain ⟨nf, rfl⟩ : ∃ nf : Nat, f = nf := ⟨f.toNat, (Int.toNat_of_nonneg hf0).symm⟩
    obtain ⟨X, hX⟩ : ∃ X, X = (w1.setCell ⟨w.heap.size, 0, none⟩ (.int .i64 nf)).setCell ⟨w.heap.size, 1, none⟩ (.slice na ns.length ncap) := ⟨_, rfl⟩
    have x2 : X.heap[w.heap.size]? = some (.cells #[.int .i64 nf, .slice na ns.length ncap] 24 (0, 0)) := by rw [hX]; exact Joins.block_setCell (i := 1) (Joins.block_setCell (i := 0) WH1.out (.int .i64 nf)) (.slice na ns.length ncap)
    have kX : Keep w.heap.size [24] w1 X := by rw [hX]; exact (set_keep (i := 0) WH1.out (Nat.le_refl _) (.int .i64 nf)).trans (set_keep (i := 1) (Joins.block_setCell (i := 0) WH1.out (.int .i64 nf)) (Nat.le_refl _) (.slice na ns.length ncap))
    have HRX := Lib.hid (ownOps_row (OwnOps.keepC O1.out kX (by decide) (by decide)))
    have sX : X.heap.size = w1.heap.size := by rw [hX]; simp
    have BX := Lib.hid (B1.out.trans kX.below)
    have HX := Lib.hid hX
    have HXB := Lib.hid x2
    have HNf := Lib.hid fun w => refNumber_any nf w hf1
    have HIt := Lib.hid (show Lib.itoa (nf : Int) = Lib.decDigits nf by rw [Sp.itoa_n (by omega)]; simp)
    have hlen := Lib.hid (Sp.pCh_le HOK.out)
    clear hX x2 kX sX
    go_wp2_with fail
    rw [← HX.out]
    refine (HNf.out X).mono ?_
    rintro e w2 ⟨rfl, b2⟩
    rw [HIt.out] at hlen
    have hl0 := hlen.out.1
    have B2 := Lib.hid b2
    have O2 := Lib.hid (World.ownsRow_nil w2 X.heap.size 5 1)
    clear b2 y0 y1 g0 g1
    go_wp2_with (at_builtin; refine Lib.wpList_append_own_string _ rfl (.tmp 18) (.tmp 21) 57 9 rfl X.heap.size 5 i0 Tryz.underlying57 Tryz.underlying9 Hi.out.1 Hi.out.2.1 Hi.out.2.2.1 Hi.out.2.2.2 (.slice none 0 0) 0 [] rfl O2.out (Sp.ba (Lib.decDigits nf)) rfl (by rw [size_data, Sp.data_ba]; unfold maxLen; omega) (by rw [size_data, Sp.data_ba]; omega) B2.out.size ?_; intro v3 w3 o3 g3 _; have H3 := Lib.hid (OwnB.str (l := []) O2.out B2.out (Nat.le_refl _) o3 g3); clear o3 g3; obtain ⟨va, vc, rfl⟩ := owns_shape H3.out.1)
    go_loopg [5, 6] ns.length (fun gk v i wr => ∃ k : Nat, ns.length ≤ gk + k ∧ i = .int .i64 (k : Int) ∧ k ≤ ns.length ∧ OwnB wr X.heap.size v (Lib.decDigits nf ++ (ns.take k).flatMap Sp.pOp) ∧ Below X.heap.size X wr)
    case atStart => exact ⟨0, by omega, rfl, Nat.zero_le _, by have := H3.out.1; rw [Sp.data_ba] at this; simpa [Sp.data_ba, size_data] using this, H3.out.2⟩
    case round =>
      obtain ⟨k, hgk, rfl, hk, hown, hbw⟩ := hrel
      have hpre : ((ns.take k).flatMap Sp.pOp).length ≤ 800000000 := by
        have h1 := hlen.out.2
        have h2 : (ns.flatMap Sp.pOp).length = ((ns.take k).flatMap Sp.pOp).length + ((ns.drop k).flatMap Sp.pOp).length := by rw [← List.length_append, ← List.flatMap_append, List.take_append_drop]
        omega
      obtain ⟨L, hL⟩ : ∃ L, L = Lib.decDigits nf ++ (ns.take k).flatMap Sp.pOp := ⟨_, rfl⟩
      have hLl : L.length + 400000 ≤ 140737488355328 := by rw [hL, List.length_append]; omega
      rw [← hL] at hown
      obtain ⟨oa, oc, rfl⟩ := owns_shape hown
      have Hown := Lib.hid hown
      have HL := Lib.hid hL
      have bwr := Lib.hid hbw
      have hcx := (hbw.block _ (lt_of_heap HXB.out)).trans HXB.out
      have y1 : wr.cell? ⟨w.heap.size, 1, none⟩ = some (.slice na ns.length ncap) := (Lib.cell_of_heap hcx 1).trans rfl
      clear hown hbw hL hcx
      by_cases hlt : k < ns.length
      · have hlt' : (k : Int) < (ns.length : Int) := by omega
        have HT := Lib.hid (pOps_take ns k hlt)
        obtain ⟨_, _, he, g1, g2, g3⟩ := HRX.out
        simp only [Value.slice.injEq, true_and] at he
        obtain ⟨rfl, rfl⟩ := he
        obtain ⟨b, off, rfl, hbl, av, hav, hpr, x0', x1', x2', x3'⟩ := g3 k hlt
        have hvo := vop_of HOK.out (List.getElem_mem hlt)
        have hao := Sp.attrs_of (HOK.out.2.2.2.1 _ (List.getElem_mem hlt))
        obtain ⟨o, ho⟩ : ∃ o, o = ns[k] := ⟨_, rfl⟩
        rw [← ho] at hav x0' x1' x2' HT hvo hao
        have z0 : wr.cell? ⟨b, off + k * 4, none⟩ = some (.int .i64 o.kind) := by rw [bwr.out.cell (by exact hbl)]; exact x0'
        have z1 : wr.cell? ⟨b, off + k * 4 + 1, none⟩ = some (.int .i64 o.n) := by rw [bwr.out.cell (by exact hbl)]; exact x1'
        have z2 : wr.cell? ⟨b, off + k * 4 + 2, none⟩ = some (.string o.text) := by rw [bwr.out.cell (by exact hbl)]; exact x2'
        have z3 : wr.cell? ⟨b, off + k * 4 + 3, none⟩ = some av := by rw [bwr.out.cell (by exact hbl)]; exact x3'
        obtain ⟨va, vc, rfl⟩ := hav.shape
        have Hav := Lib.hid hav
        have hao1 := hao.1
        have HAZ := Lib.hid hao.2
        have hkd := hvo.kind
        obtain ⟨nn, hnn⟩ : ∃ nn : Nat, o.n = nn := ⟨o.n.toNat, (Int.toNat_of_nonneg hvo.n0).symm⟩
        have HNm := Lib.hid fun w => refNumber_any nn w (by rw [← hnn]; exact hvo.n1)
        have hdl : (Lib.decDigits nn).length ≤ 5 := Sp.dec_len 4 nn (by have := hvo.n1; omega)
        have HIn := Lib.hid (show Lib.itoa o.n = Lib.decDigits nn by rw [hnn, Sp.itoa_n (by omega)]; simp)
        have htx := hvo.text
        have HQm := Lib.hid fun w => refQuote_any o.text w (by omega)
        have hql := Sp.qt_len o.text.data.toList
        rw [← size_data] at hql
        rw [← hnn] at HNm
        obtain ⟨Y, hY⟩ : ∃ Y, Y = wr.alloc (.cells #[.int .i64 o.kind, .int .i64 o.n, .string o.text, .slice va o.attrs.length vc] 48) := ⟨_, rfl⟩
        have bY := show Below wr.heap.size wr Y by rw [hY]; exact below_box _ _
        have sXr : X.heap.size ≤ wr.heap.size := bwr.out.size
        have HY := Lib.hid hY
        have KY := Lib.hid (bwr.out.trans (bY.mono sXr))
        have OY := Lib.hid (show OwnB Y X.heap.size (.slice oa L.length oc) L from (keep_below (ts := []) bY sXr).own Hown.out (by simp))
        have b0 := Lib.hid (show Y.heap[wr.heap.size]? = some (.cells #[.int .i64 o.kind, .int .i64 o.n, .string o.text, .slice va o.attrs.length vc] 48 (0, 0)) by rw [hY]; exact heap_new _ _)
        have c0 : Y.cell? ⟨wr.heap.size, 0, none⟩ = some (.int .i64 o.kind) := (Lib.cell_of_heap b0.out 0).trans rfl
        have c1 : Y.cell? ⟨wr.heap.size, 1, none⟩ = some (.int .i64 o.n) := (Lib.cell_of_heap b0.out 1).trans rfl
        have c2 : Y.cell? ⟨wr.heap.size, 2, none⟩ = some (.string o.text) := (Lib.cell_of_heap b0.out 2).trans rfl
        clear hav hY bY x0' x1' x2' x3' g1 g2 g3 ho hvo hao hpr hnn
        rcases hkd with hk1 | hk1 | hk1
        · have q1 : (o.kind == 1) = true := beq_iff_eq.2 hk1
          have HP := Lib.hid (show Sp.pKind o = 61 :: Lib.decDigits nn by unfold Sp.pKind; rw [if_pos hk1, HIn.out])
          clear hk1
          go_wp2_with fail
          rw [← HY.out]
          go_wp2_with fail
          refine (HNm.out Y).mono ?_
          rintro e w4 ⟨rfl, b4⟩
          have B4 := Lib.hid (KY.out.trans (b4.mono KY.out.size))
          have O4 := Lib.hid ((keep_below (ts := []) b4 KY.out.size).own OY.out (by simp))
          have D4 := Lib.hid ((b4.block _ (lt_of_heap b0.out)).trans b0.out)
          have hsz : (Sp.ba (Lib.decDigits nn)).size = (Lib.decDigits nn).length := by rw [size_data, Sp.data_ba]
          have hs2 : (⟨#[32, 61]⟩ : ByteArray).size = 2 := rfl
          clear b4 c0 c1 c2
          go_wp2_with (at_builtin; refine Lib.wpList_append_own_string _ rfl (.tmp 45) (.tmp 49) 57 9 rfl X.heap.size 5 i0 Tryz.underlying57 Tryz.underlying9 Hi.out.1 Hi.out.2.1 Hi.out.2.2.1 Hi.out.2.2.2 (.slice oa L.length oc) L.length (Lib.byteCells L) rfl O4.out _ rfl (by unfold maxLen; simp; omega) (by simp; omega) B4.out.size ?_; intro v5 w5 o5 g5 _; have H5 := Lib.hid (OwnB.str O4.out B4.out (Nat.le_refl _) o5 g5); have D5 := Lib.hid ((g5.block _ (lt_of_heap D4.out) (fun e => own_ne O4.out D4.out (by decide) e.symm)).trans D4.out); clear o5 g5; obtain ⟨a5, n5, c5, rfl⟩ : ∃ a n c, v5 = Value.slice a n c := (owns_shape H5.out.1).elim fun a ha => ha.elim fun c hc => ⟨a, _, c, hc⟩)
          have hE : L ++ ((⟨#[32, 61]⟩ : ByteArray) ++ Sp.ba (Lib.decDigits nn)).data.toList = L ++ 32 :: Sp.pKind o := by rw [HP.out, cat_eq, cat_data, Sp.data_ba]; rfl
          have hL2l : (L ++ ((⟨#[32, 61]⟩ : ByteArray) ++ Sp.ba (Lib.decDigits nn)).data.toList).length ≤ L.length + 330000 := by rw [cat_eq, cat_data, Sp.data_ba, List.length_append, List.length_append]; simp; omega
          rw [hE] at H5 hL2l
          have HLL := Lib.hid (show L ++ Sp.pOp o = (L ++ 32 :: Sp.pKind o) ++ Sp.pAttrs o.attrs by simp [Sp.pOp])
          clear hE HP Hown OY b0 D4 O4 B4 KY HY
          generalize wr.heap.size = ob at *
          generalize gk = gO at *
          generalize (L ++ 32 :: Sp.pKind o) = L2 at *
          go_loopg [5, 8] o.attrs.length (fun gj v j wr => ∃ m : Nat, o.attrs.length ≤ gj + m ∧ j = .int .i64 (m : Int) ∧ m ≤ o.attrs.length ∧ OwnB wr X.heap.size v (L2 ++ Sp.pL (o.attrs.take m)) ∧ Below X.heap.size X wr ∧ wr.heap[ob]? = some (.cells #[.int .i64 o.kind, .int .i64 o.n, .string o.text, .slice va o.attrs.length vc] 48 (0, 0)))
          case atStart => exact ⟨0, by omega, rfl, Nat.zero_le _, by simpa [Sp.pL] using H5.out.1, H5.out.2, D5.out⟩
          case round =>
            obtain ⟨m, hgj, rfl, hm, hox, hbx, hdx⟩ := hrel
            have hM := Sp.pL_le (o.attrs.take m) fun y hy => (HAZ.out y (List.mem_of_mem_take hy)).2
            rw [List.length_take, Nat.min_eq_left hm] at hM
            obtain ⟨M, hMe⟩ : ∃ M, M = L2 ++ Sp.pL (o.attrs.take m) := ⟨_, rfl⟩
            have hMl : M.length + 1000 ≤ 140737488355328 := by rw [hMe, List.length_append]; omega
            rw [← hMe] at hox
            obtain ⟨ma, mc, rfl⟩ := owns_shape hox
            have Hox := Lib.hid hox
            have Hbx := Lib.hid hbx
            have Hdx := Lib.hid hdx
            have HM := Lib.hid hMe
            have e3 : wr.cell? ⟨ob, 3, none⟩ = some (.slice va o.attrs.length vc) := (Lib.cell_of_heap hdx 3).trans rfl
            clear hox hbx hdx hMe hM
            by_cases hmt : m < o.attrs.length
            · have hmt' : (m : Int) < (o.attrs.length : Int) := by omega
              have HMT := Lib.hid (Sp.pL_take hmt)
              obtain ⟨_, _, he, h1, h2, h3⟩ := Hav.out
              simp only [Value.slice.injEq, true_and] at he
              obtain ⟨rfl, rfl⟩ := he
              obtain ⟨ab, aoff, rfl, habl, u1, u2⟩ := h3 m hmt
              obtain ⟨z1, z2⟩ := (HAZ.out _ (List.getElem_mem hmt)).2
              obtain ⟨x, hx⟩ : ∃ x, x = o.attrs[m] := ⟨_, rfl⟩
              rw [← hx] at u1 u2 HMT z1 z2
              rw [← Hbx.out.cell (by exact habl)] at u1 u2
              have HQ := Lib.hid fun w => refQuote_any x.2 w (by omega)
              have hqx := Sp.qt_len x.2.data.toList
              rw [← size_data] at hqx
              clear h1 h2 h3 hx
              have la : ab < wr.heap.size := Nat.lt_of_lt_of_le habl Hbx.out.size
              have lo : ob < wr.heap.size := lt_of_heap Hdx.out
              have hq1 : (Sp.ba (Sp.qt x.2.data.toList)).size = (Sp.qt x.2.data.toList).length := by rw [size_data, Sp.data_ba]
              have hq2 : (⟨#[58]⟩ : ByteArray).size = 1 := rfl
              by_cases hm0 : m = 0
              · have q0 : ((m : Int) == 0) = true := by rw [hm0]; rfl
                have hsp := Lib.hid (show Sp.sepOf m = 123 by rw [hm0]; rfl)
                have hq3 : (⟨#[123]⟩ : ByteArray).size = 1 := rfl
                have hs1 : (9223372036854775807 < 1 + x.1.size) = False := eq_false (by omega)
                have hs2 : (9223372036854775807 < 1 + x.1.size + 1) = False := eq_false (by omega)
                have hs3 : (9223372036854775807 < 1 + x.1.size + 1 + (Sp.qt x.2.data.toList).length) = False := eq_false (by omega)
                clear hm0
                go_wp2_with fail
                go_region_held3 (fun w' => w'.cell? ⟨ob, 3, none⟩ = some (.slice (some ⟨ab, aoff, none⟩) o.attrs.length vc) ∧ w'.cell? ⟨ab, aoff + m * 2, none⟩ = some (.string x.1) ∧ w'.cell? ⟨ab, aoff + m * 2 + 1, none⟩ = some (.string x.2))
                  (first
                    | exact ⟨e3, u1, u2⟩
                    | exact S6
                    | exact S7)
                  (first
                    | (go_at_call_of 40 (Value.string x.2); refine (HQ.out _).mono ?_; rintro e w6 ⟨rfl, b6⟩; have B6 := Lib.hid (of_drew b6); have S6 := And.intro ((B6.out.cell (by exact lo)).trans e3) (And.intro ((B6.out.cell (by exact la)).trans u1) ((B6.out.cell (by exact la)).trans u2)); have O6 := Lib.hid ((keep_below (ts := []) B6.out Hbx.out.size).own Hox.out (by simp)); have D6 := Lib.hid ((B6.out.block _ lo).trans Hdx.out); clear b6)
                    | (refine step_append_str rfl (.tmp 68) (.tmp 85) 57 9 rfl 5 i0 Tryz.underlying57 Tryz.underlying9 Hi.out.1 Hi.out.2.1 Hi.out.2.2.1 Hi.out.2.2.2 X.heap.size (.slice ma M.length mc) M.length (Lib.byteCells M) rfl O6.out _ rfl (by unfold maxLen; simp; omega) (by simp; omega) (Nat.le_trans Hbx.out.size B6.out.size) ?_; intro v7 w7 o7 g7; have D7 := Lib.hid ((g7.block _ (lt_of_heap D6.out) (fun e => own_ne O6.out D6.out (by decide) e.symm)).trans D6.out); have H7 := Lib.hid (OwnB.str O6.out (Hbx.out.trans (B6.out.mono Hbx.out.size)) (Nat.le_refl _) o7 g7); have B67 := (Below.refl X.heap.size w6).grown g7 (Nat.le_trans Hbx.out.size B6.out.size) (fun j hj => (O6.out.lt j hj).1); have S7 := And.intro ((Lib.cell_of_heap D7.out 3).trans (show _ = some (Value.slice (some ⟨ab, aoff, none⟩) o.attrs.length vc) from rfl)) (And.intro ((B67.cell (by exact habl)).trans S6.2.1) ((B67.cell (by exact habl)).trans S6.2.2)); clear o7 g7 B67))
                go_wp2_with fail
                go_roundg (gk - 1)
                case measure => omega
                case rel =>
                  refine ⟨m + 1, by omega, by go_num, hmt, ?_, H7.out.2, D7.out⟩
                  rw [HMT.out, ← List.append_assoc, ← HM.out, hsp.out]
                  have := H7.out.1
                  simpa [cat_eq, cat_data, Sp.pAttr, Sp.data_ba] using this
              · have q0 : ((m : Int) == 0) = false := by rw [beq_eq_false_iff_ne]; omega
                have hsp := Lib.hid (show Sp.sepOf m = 44 by cases m with
                  | zero => exact absurd rfl hm0
                  | succ _ => rfl)
                have hq3 : (⟨#[44]⟩ : ByteArray).size = 1 := rfl
                have hs1 : (9223372036854775807 < 1 + x.1.size) = False := eq_false (by omega)
                have hs2 : (9223372036854775807 < 1 + x.1.size + 1) = False := eq_false (by omega)
                have hs3 : (9223372036854775807 < 1 + x.1.size + 1 + (Sp.qt x.2.data.toList).length) = False := eq_false (by omega)
                clear hm0
                go_wp2_with fail
                go_region_held3 (fun w' => w'.cell? ⟨ob, 3, none⟩ = some (.slice (some ⟨ab, aoff, none⟩) o.attrs.length vc) ∧ w'.cell? ⟨ab, aoff + m * 2, none⟩ = some (.string x.1) ∧ w'.cell? ⟨ab, aoff + m * 2 + 1, none⟩ = some (.string x.2))
                  (first
                    | exact ⟨e3, u1, u2⟩
                    | exact S6
                    | exact S7)
                  (first
                    | (go_at_call_of 40 (Value.string x.2); refine (HQ.out _).mono ?_; rintro e w6 ⟨rfl, b6⟩; have B6 := Lib.hid (of_drew b6); have S6 := And.intro ((B6.out.cell (by exact lo)).trans e3) (And.intro ((B6.out.cell (by exact la)).trans u1) ((B6.out.cell (by exact la)).trans u2)); have O6 := Lib.hid ((keep_below (ts := []) B6.out Hbx.out.size).own Hox.out (by simp)); have D6 := Lib.hid ((B6.out.block _ lo).trans Hdx.out); clear b6)
                    | (refine step_append_str rfl (.tmp 68) (.tmp 85) 57 9 rfl 5 i0 Tryz.underlying57 Tryz.underlying9 Hi.out.1 Hi.out.2.1 Hi.out.2.2.1 Hi.out.2.2.2 X.heap.size (.slice ma M.length mc) M.length (Lib.byteCells M) rfl O6.out _ rfl (by unfold maxLen; simp; omega) (by simp; omega) (Nat.le_trans Hbx.out.size B6.out.size) ?_; intro v7 w7 o7 g7; have D7 := Lib.hid ((g7.block _ (lt_of_heap D6.out) (fun e => own_ne O6.out D6.out (by decide) e.symm)).trans D6.out); have H7 := Lib.hid (OwnB.str O6.out (Hbx.out.trans (B6.out.mono Hbx.out.size)) (Nat.le_refl _) o7 g7); have B67 := (Below.refl X.heap.size w6).grown g7 (Nat.le_trans Hbx.out.size B6.out.size) (fun j hj => (O6.out.lt j hj).1); have S7 := And.intro ((Lib.cell_of_heap D7.out 3).trans (show _ = some (Value.slice (some ⟨ab, aoff, none⟩) o.attrs.length vc) from rfl)) (And.intro ((B67.cell (by exact habl)).trans S6.2.1) ((B67.cell (by exact habl)).trans S6.2.2)); clear o7 g7 B67))
                go_wp2_with fail
                go_roundg (gk - 1)
                case measure => omega
                case rel =>
                  refine ⟨m + 1, by omega, by go_num, hmt, ?_, H7.out.2, D7.out⟩
                  rw [HMT.out, ← List.append_assoc, ← HM.out, hsp.out]
                  have := H7.out.1
                  simpa [cat_eq, cat_data, Sp.pAttr, Sp.data_ba] using this
            · have hmt' : decide ((m : Int) < (o.attrs.length : Int)) = false := decide_eq_false (by omega)
              have hme : m = o.attrs.length := by omega
              rw [hme, List.take_length] at HM
              clear hme
              by_cases ha0 : o.attrs.length = 0
              · have q0 : ¬ (0 : Int) < (o.attrs.length : Int) := by omega
                have q0' : ¬ 0 < o.attrs.length := by omega
                have e0 := List.length_eq_zero_iff.1 ha0
                have HM0 := Lib.hid (show L ++ Sp.pOp o = M by rw [HLL.out, HM.out, e0]; rfl)
                clear ha0 e0
                go_wp2_with fail
                go_roundg (gO - 1)
                case measure => omega
                case rel =>
                  refine ⟨k + 1, by omega, by go_num, hlt, ?_, Hbx.out⟩
                  rw [HT.out, ← List.append_assoc, ← HL.out, HM0.out]
                  exact Hox.out
              · have q0 : (0 : Int) < (o.attrs.length : Int) := by omega
                have q0' : 0 < o.attrs.length := by omega
                have HM0 := Lib.hid (show L ++ Sp.pOp o = M ++ [125] by rw [HLL.out, HM.out, Sp.pAttrs_pL (fun e => ha0 (by rw [e]; rfl)), List.append_assoc])
                have HV := Lib.hid (show Lib.byteCells [125] = [.int .u8 125] by rfl)
                have hown := Hox.out
                have hi := Hi.out.1
                have hz0 := Hi.out.2.1
                have hz1 := Hi.out.2.2.1
                have hz2 := Hi.out.2.2.2
                clear ha0
                go_wp2_with (first | (at_builtin; refine wpList_append_own _ rfl _ _ 57 rfl X.heap.size 5 i0 (.int .u8 0) 1 1 Tryz.underlying57 hi hz0 hz1 hz2 rfl (by decide) _ _ _ rfl (World.ownsRow.alloc hown _) ⟨wr.heap.size, 0, none⟩ 1 1 [.int .u8 125] rfl rfl ?_ ?_ ?_ ?_ ?_ ?_))
                all_goals
                  first
                    | rfl
                    | (intro u hu; simp at hu; subst hu; rfl)
                    | (unfold maxLen; omega)
                    | omega
                    | (have := Hbx.out.size; simp; omega)
                    | exact fun j u hj => newU8 _ _ _ j u hj
                    | (intro v' w8 hown' hgrow _
                       clear hown hi hz0 hz1 hz2
                       have hst := Lib.hid (OwnB.step Hox.out Hbx.out (Nat.le_refl _) HV.out hown' hgrow)
                       clear hown' hgrow
                       go_wp2_with fail
                       go_roundg (gO - 1)
                       case measure => omega
                       case rel =>
                         refine ⟨k + 1, by omega, by go_num, hlt, ?_, hst.out.2⟩
                         rw [HT.out, ← List.append_assoc, ← HL.out, HM0.out]
                         exact hst.out.1)
        · have q1 : (o.kind == 1) = false := by rw [beq_eq_false_iff_ne]; omega
          have q3 : (o.kind == 3) = false := by rw [beq_eq_false_iff_ne]; omega
          have HP := Lib.hid (show Sp.pKind o = 43 :: Sp.qt o.text.data.toList by unfold Sp.pKind; rw [if_neg (by omega), if_neg (by omega), if_pos hk1])
          clear hk1
          go_wp2_with fail
          rw [← HY.out]
          go_wp2_with fail
          refine (HQm.out Y).mono ?_
          rintro e w4 ⟨rfl, b4⟩
          have B4 := Lib.hid (KY.out.trans (b4.mono KY.out.size))
          have O4 := Lib.hid ((keep_below (ts := []) b4 KY.out.size).own OY.out (by simp))
          have D4 := Lib.hid ((b4.block _ (lt_of_heap b0.out)).trans b0.out)
          have hsz : (Sp.ba (Sp.qt o.text.data.toList)).size = (Sp.qt o.text.data.toList).length := by rw [size_data, Sp.data_ba]
          have hs2 : (⟨#[32, 43]⟩ : ByteArray).size = 2 := rfl
          clear b4 c0 c1 c2
          go_wp2_with (at_builtin; refine Lib.wpList_append_own_string _ rfl (.tmp 37) (.tmp 41) 57 9 rfl X.heap.size 5 i0 Tryz.underlying57 Tryz.underlying9 Hi.out.1 Hi.out.2.1 Hi.out.2.2.1 Hi.out.2.2.2 (.slice oa L.length oc) L.length (Lib.byteCells L) rfl O4.out _ rfl (by unfold maxLen; simp; omega) (by simp; omega) B4.out.size ?_; intro v5 w5 o5 g5 _; have H5 := Lib.hid (OwnB.str O4.out B4.out (Nat.le_refl _) o5 g5); have D5 := Lib.hid ((g5.block _ (lt_of_heap D4.out) (fun e => own_ne O4.out D4.out (by decide) e.symm)).trans D4.out); clear o5 g5; obtain ⟨a5, n5, c5, rfl⟩ : ∃ a n c, v5 = Value.slice a n c := (owns_shape H5.out.1).elim fun a ha => ha.elim fun c hc => ⟨a, _, c, hc⟩)
          have hE : L ++ ((⟨#[32, 43]⟩ : ByteArray) ++ Sp.ba (Sp.qt o.text.data.toList)).data.toList = L ++ 32 :: Sp.pKind o := by rw [HP.out, cat_eq, cat_data, Sp.data_ba]; rfl
          have hL2l : (L ++ ((⟨#[32, 43]⟩ : ByteArray) ++ Sp.ba (Sp.qt o.text.data.toList)).data.toList).length ≤ L.length + 330000 := by rw [cat_eq, cat_data, Sp.data_ba, List.length_append, List.length_append]; simp; omega
          rw [hE] at H5 hL2l
          have HLL := Lib.hid (show L ++ Sp.pOp o = (L ++ 32 :: Sp.pKind o) ++ Sp.pAttrs o.attrs by simp [Sp.pOp])
          clear hE HP Hown OY b0 D4 O4 B4 KY HY
          generalize wr.heap.size = ob at *
          generalize gk = gO at *
          generalize (L ++ 32 :: Sp.pKind o) = L2 at *
          go_loopg [5, 8] o.attrs.length (fun gj v j wr => ∃ m : Nat, o.attrs.length ≤ gj + m ∧ j = .int .i64 (m : Int) ∧ m ≤ o.attrs.length ∧ OwnB wr X.heap.size v (L2 ++ Sp.pL (o.attrs.take m)) ∧ Below X.heap.size X wr ∧ wr.heap[ob]? = some (.cells #[.int .i64 o.kind, .int .i64 o.n, .string o.text, .slice va o.attrs.length vc] 48 (0, 0)))
          case atStart => exact ⟨0, by omega, rfl, Nat.zero_le _, by simpa [Sp.pL] using H5.out.1, H5.out.2, D5.out⟩
          case round =>
            obtain ⟨m, hgj, rfl, hm, hox, hbx, hdx⟩ := hrel
            have hM := Sp.pL_le (o.attrs.take m) fun y hy => (HAZ.out y (List.mem_of_mem_take hy)).2
            rw [List.length_take, Nat.min_eq_left hm] at hM
            obtain ⟨M, hMe⟩ : ∃ M, M = L2 ++ Sp.pL (o.attrs.take m) := ⟨_, rfl⟩
            have hMl : M.length + 1000 ≤ 140737488355328 := by rw [hMe, List.length_append]; omega
            rw [← hMe] at hox
            obtain ⟨ma, mc, rfl⟩ := owns_shape hox
            have Hox := Lib.hid hox
            have Hbx := Lib.hid hbx
            have Hdx := Lib.hid hdx
            have HM := Lib.hid hMe
            have e3 : wr.cell? ⟨ob, 3, none⟩ = some (.slice va o.attrs.length vc) := (Lib.cell_of_heap hdx 3).trans rfl
            clear hox hbx hdx hMe hM
            by_cases hmt : m < o.attrs.length
            · have hmt' : (m : Int) < (o.attrs.length : Int) := by omega
              have HMT := Lib.hid (Sp.pL_take hmt)
              obtain ⟨_, _, he, h1, h2, h3⟩ := Hav.out
              simp only [Value.slice.injEq, true_and] at he
              obtain ⟨rfl, rfl⟩ := he
              obtain ⟨ab, aoff, rfl, habl, u1, u2⟩ := h3 m hmt
              obtain ⟨z1, z2⟩ := (HAZ.out _ (List.getElem_mem hmt)).2
              obtain ⟨x, hx⟩ : ∃ x, x = o.attrs[m] := ⟨_, rfl⟩
              rw [← hx] at u1 u2 HMT z1 z2
              rw [← Hbx.out.cell (by exact habl)] at u1 u2
              have HQ := Lib.hid fun w => refQuote_any x.2 w (by omega)
              have hqx := Sp.qt_len x.2.data.toList
              rw [← size_data] at hqx
              clear h1 h2 h3 hx
              have la : ab < wr.heap.size := Nat.lt_of_lt_of_le habl Hbx.out.size
              have lo : ob < wr.heap.size := lt_of_heap Hdx.out
              have hq1 : (Sp.ba (Sp.qt x.2.data.toList)).size = (Sp.qt x.2.data.toList).length := by rw [size_data, Sp.data_ba]
              have hq2 : (⟨#[58]⟩ : ByteArray).size = 1 := rfl
              by_cases hm0 : m = 0
              · have q0 : ((m : Int) == 0) = true := by rw [hm0]; rfl
                have hsp := Lib.hid (show Sp.sepOf m = 123 by rw [hm0]; rfl)
                have hq3 : (⟨#[123]⟩ : ByteArray).size = 1 := rfl
                have hs1 : (9223372036854775807 < 1 + x.1.size) = False := eq_false (by omega)
                have hs2 : (9223372036854775807 < 1 + x.1.size + 1) = False := eq_false (by omega)
                have hs3 : (9223372036854775807 < 1 + x.1.size + 1 + (Sp.qt x.2.data.toList).length) = False := eq_false (by omega)
                clear hm0
                go_wp2_with fail
                go_region_held3 (fun w' => w'.cell? ⟨ob, 3, none⟩ = some (.slice (some ⟨ab, aoff, none⟩) o.attrs.length vc) ∧ w'.cell? ⟨ab, aoff + m * 2, none⟩ = some (.string x.1) ∧ w'.cell? ⟨ab, aoff + m * 2 + 1, none⟩ = some (.string x.2))
                  (first
                    | exact ⟨e3, u1, u2⟩
                    | exact S6
                    | exact S7)
                  (first
                    | (go_at_call_of 40 (Value.string x.2); refine (HQ.out _).mono ?_; rintro e w6 ⟨rfl, b6⟩; have B6 := Lib.hid (of_drew b6); have S6 := And.intro ((B6.out.cell (by exact lo)).trans e3) (And.intro ((B6.out.cell (by exact la)).trans u1) ((B6.out.cell (by exact la)).trans u2)); have O6 := Lib.hid ((keep_below (ts := []) B6.out Hbx.out.size).own Hox.out (by simp)); have D6 := Lib.hid ((B6.out.block _ lo).trans Hdx.out); clear b6)
                    | (refine step_append_str rfl (.tmp 68) (.tmp 85) 57 9 rfl 5 i0 Tryz.underlying57 Tryz.underlying9 Hi.out.1 Hi.out.2.1 Hi.out.2.2.1 Hi.out.2.2.2 X.heap.size (.slice ma M.length mc) M.length (Lib.byteCells M) rfl O6.out _ rfl (by unfold maxLen; simp; omega) (by simp; omega) (Nat.le_trans Hbx.out.size B6.out.size) ?_; intro v7 w7 o7 g7; have D7 := Lib.hid ((g7.block _ (lt_of_heap D6.out) (fun e => own_ne O6.out D6.out (by decide) e.symm)).trans D6.out); have H7 := Lib.hid (OwnB.str O6.out (Hbx.out.trans (B6.out.mono Hbx.out.size)) (Nat.le_refl _) o7 g7); have B67 := (Below.refl X.heap.size w6).grown g7 (Nat.le_trans Hbx.out.size B6.out.size) (fun j hj => (O6.out.lt j hj).1); have S7 := And.intro ((Lib.cell_of_heap D7.out 3).trans (show _ = some (Value.slice (some ⟨ab, aoff, none⟩) o.attrs.length vc) from rfl)) (And.intro ((B67.cell (by exact habl)).trans S6.2.1) ((B67.cell (by exact habl)).trans S6.2.2)); clear o7 g7 B67))
                go_wp2_with fail
                go_roundg (gk - 1)
                case measure => omega
                case rel =>
                  refine ⟨m + 1, by omega, by go_num, hmt, ?_, H7.out.2, D7.out⟩
                  rw [HMT.out, ← List.append_assoc, ← HM.out, hsp.out]
                  have := H7.out.1
                  simpa [cat_eq, cat_data, Sp.pAttr, Sp.data_ba] using this
              · have q0 : ((m : Int) == 0) = false := by rw [beq_eq_false_iff_ne]; omega
                have hsp := Lib.hid (show Sp.sepOf m = 44 by cases m with
                  | zero => exact absurd rfl hm0
                  | succ _ => rfl)
                have hq3 : (⟨#[44]⟩ : ByteArray).size = 1 := rfl
                have hs1 : (9223372036854775807 < 1 + x.1.size) = False := eq_false (by omega)
                have hs2 : (9223372036854775807 < 1 + x.1.size + 1) = False := eq_false (by omega)
                have hs3 : (9223372036854775807 < 1 + x.1.size + 1 + (Sp.qt x.2.data.toList).length) = False := eq_false (by omega)
                clear hm0
                go_wp2_with fail
                go_region_held3 (fun w' => w'.cell? ⟨ob, 3, none⟩ = some (.slice (some ⟨ab, aoff, none⟩) o.attrs.length vc) ∧ w'.cell? ⟨ab, aoff + m * 2, none⟩ = some (.string x.1) ∧ w'.cell? ⟨ab, aoff + m * 2 + 1, none⟩ = some (.string x.2))
                  (first
                    | exact ⟨e3, u1, u2⟩
                    | exact S6
                    | exact S7)
                  (first
                    | (go_at_call_of 40 (Value.string x.2); refine (HQ.out _).mono ?_; rintro e w6 ⟨rfl, b6⟩; have B6 := Lib.hid (of_drew b6); have S6 := And.intro ((B6.out.cell (by exact lo)).trans e3) (And.intro ((B6.out.cell (by exact la)).trans u1) ((B6.out.cell (by exact la)).trans u2)); have O6 := Lib.hid ((keep_below (ts := []) B6.out Hbx.out.size).own Hox.out (by simp)); have D6 := Lib.hid ((B6.out.block _ lo).trans Hdx.out); clear b6)
                    | (refine step_append_str rfl (.tmp 68) (.tmp 85) 57 9 rfl 5 i0 Tryz.underlying57 Tryz.underlying9 Hi.out.1 Hi.out.2.1 Hi.out.2.2.1 Hi.out.2.2.2 X.heap.size (.slice ma M.length mc) M.length (Lib.byteCells M) rfl O6.out _ rfl (by unfold maxLen; simp; omega) (by simp; omega) (Nat.le_trans Hbx.out.size B6.out.size) ?_; intro v7 w7 o7 g7; have D7 := Lib.hid ((g7.block _ (lt_of_heap D6.out) (fun e => own_ne O6.out D6.out (by decide) e.symm)).trans D6.out); have H7 := Lib.hid (OwnB.str O6.out (Hbx.out.trans (B6.out.mono Hbx.out.size)) (Nat.le_refl _) o7 g7); have B67 := (Below.refl X.heap.size w6).grown g7 (Nat.le_trans Hbx.out.size B6.out.size) (fun j hj => (O6.out.lt j hj).1); have S7 := And.intro ((Lib.cell_of_heap D7.out 3).trans (show _ = some (Value.slice (some ⟨ab, aoff, none⟩) o.attrs.length vc) from rfl)) (And.intro ((B67.cell (by exact habl)).trans S6.2.1) ((B67.cell (by exact habl)).trans S6.2.2)); clear o7 g7 B67))
                go_wp2_with fail
                go_roundg (gk - 1)
                case measure => omega
                case rel =>
                  refine ⟨m + 1, by omega, by go_num, hmt, ?_, H7.out.2, D7.out⟩
                  rw [HMT.out, ← List.append_assoc, ← HM.out, hsp.out]
                  have := H7.out.1
                  simpa [cat_eq, cat_data, Sp.pAttr, Sp.data_ba] using this
            · have hmt' : decide ((m : Int) < (o.attrs.length : Int)) = false := decide_eq_false (by omega)
              have hme : m = o.attrs.length := by omega
              rw [hme, List.take_length] at HM
              clear hme
              by_cases ha0 : o.attrs.length = 0
              · have q0 : ¬ (0 : Int) < (o.attrs.length : Int) := by omega
                have q0' : ¬ 0 < o.attrs.length := by omega
                have e0 := List.length_eq_zero_iff.1 ha0
                have HM0 := Lib.hid (show L ++ Sp.pOp o = M by rw [HLL.out, HM.out, e0]; rfl)
                clear ha0 e0
                go_wp2_with fail
                go_roundg (gO - 1)
                case measure => omega
                case rel =>
                  refine ⟨k + 1, by omega, by go_num, hlt, ?_, Hbx.out⟩
                  rw [HT.out, ← List.append_assoc, ← HL.out, HM0.out]
                  exact Hox.out
              · have q0 : (0 : Int) < (o.attrs.length : Int) := by omega
                have q0' : 0 < o.attrs.length := by omega
                have HM0 := Lib.hid (show L ++ Sp.pOp o = M ++ [125] by rw [HLL.out, HM.out, Sp.pAttrs_pL (fun e => ha0 (by rw [e]; rfl)), List.append_assoc])
                have HV := Lib.hid (show Lib.byteCells [125] = [.int .u8 125] by rfl)
                have hown := Hox.out
                have hi := Hi.out.1
                have hz0 := Hi.out.2.1
                have hz1 := Hi.out.2.2.1
                have hz2 := Hi.out.2.2.2
                clear ha0
                go_wp2_with (first | (at_builtin; refine wpList_append_own _ rfl _ _ 57 rfl X.heap.size 5 i0 (.int .u8 0) 1 1 Tryz.underlying57 hi hz0 hz1 hz2 rfl (by decide) _ _ _ rfl (World.ownsRow.alloc hown _) ⟨wr.heap.size, 0, none⟩ 1 1 [.int .u8 125] rfl rfl ?_ ?_ ?_ ?_ ?_ ?_))
                all_goals
                  first
                    | rfl
                    | (intro u hu; simp at hu; subst hu; rfl)
                    | (unfold maxLen; omega)
                    | omega
                    | (have := Hbx.out.size; simp; omega)
                    | exact fun j u hj => newU8 _ _ _ j u hj
                    | (intro v' w8 hown' hgrow _
                       clear hown hi hz0 hz1 hz2
                       have hst := Lib.hid (OwnB.step Hox.out Hbx.out (Nat.le_refl _) HV.out hown' hgrow)
                       clear hown' hgrow
                       go_wp2_with fail
                       go_roundg (gO - 1)
                       case measure => omega
                       case rel =>
                         refine ⟨k + 1, by omega, by go_num, hlt, ?_, hst.out.2⟩
                         rw [HT.out, ← List.append_assoc, ← HL.out, HM0.out]
                         exact hst.out.1)
        · have q1 : (o.kind == 1) = false := by rw [beq_eq_false_iff_ne]; omega
          have q3 : (o.kind == 3) = true := by rw [beq_iff_eq]; omega
          have HP := Lib.hid (show Sp.pKind o = 45 :: Lib.decDigits nn by unfold Sp.pKind; rw [if_neg (by omega), if_pos hk1, HIn.out])
          clear hk1
          go_wp2_with fail
          rw [← HY.out]
          go_wp2_with fail
          refine (HNm.out Y).mono ?_
          rintro e w4 ⟨rfl, b4⟩
          have B4 := Lib.hid (KY.out.trans (b4.mono KY.out.size))
          have O4 := Lib.hid ((keep_below (ts := []) b4 KY.out.size).own OY.out (by simp))
          have D4 := Lib.hid ((b4.block _ (lt_of_heap b0.out)).trans b0.out)
          have hsz : (Sp.ba (Lib.decDigits nn)).size = (Lib.decDigits nn).length := by rw [size_data, Sp.data_ba]
          have hs2 : (⟨#[32, 45]⟩ : ByteArray).size = 2 := rfl
          clear b4 c0 c1 c2
          go_wp2_with (at_builtin; refine Lib.wpList_append_own_string _ rfl (.tmp 53) (.tmp 57) 57 9 rfl X.heap.size 5 i0 Tryz.underlying57 Tryz.underlying9 Hi.out.1 Hi.out.2.1 Hi.out.2.2.1 Hi.out.2.2.2 (.slice oa L.length oc) L.length (Lib.byteCells L) rfl O4.out _ rfl (by unfold maxLen; simp; omega) (by simp; omega) B4.out.size ?_; intro v5 w5 o5 g5 _; have H5 := Lib.hid (OwnB.str O4.out B4.out (Nat.le_refl _) o5 g5); have D5 := Lib.hid ((g5.block _ (lt_of_heap D4.out) (fun e => own_ne O4.out D4.out (by decide) e.symm)).trans D4.out); clear o5 g5; obtain ⟨a5, n5, c5, rfl⟩ : ∃ a n c, v5 = Value.slice a n c := (owns_shape H5.out.1).elim fun a ha => ha.elim fun c hc => ⟨a, _, c, hc⟩)
          have hE : L ++ ((⟨#[32, 45]⟩ : ByteArray) ++ Sp.ba (Lib.decDigits nn)).data.toList = L ++ 32 :: Sp.pKind o := by rw [HP.out, cat_eq, cat_data, Sp.data_ba]; rfl
          have hL2l : (L ++ ((⟨#[32, 45]⟩ : ByteArray) ++ Sp.ba (Lib.decDigits nn)).data.toList).length ≤ L.length + 330000 := by rw [cat_eq, cat_data, Sp.data_ba, List.length_append, List.length_append]; simp; omega
          rw [hE] at H5 hL2l
          have HLL := Lib.hid (show L ++ Sp.pOp o = (L ++ 32 :: Sp.pKind o) ++ Sp.pAttrs o.attrs by simp [Sp.pOp])
          clear hE HP Hown OY b0 D4 O4 B4 KY HY
          generalize wr.heap.size = ob at *
          generalize gk = gO at *
          generalize (L ++ 32 :: Sp.pKind o) = L2 at *
          go_loopg [5, 8] o.attrs.length (fun gj v j wr => ∃ m : Nat, o.attrs.length ≤ gj + m ∧ j = .int .i64 (m : Int) ∧ m ≤ o.attrs.length ∧ OwnB wr X.heap.size v (L2 ++ Sp.pL (o.attrs.take m)) ∧ Below X.heap.size X wr ∧ wr.heap[ob]? = some (.cells #[.int .i64 o.kind, .int .i64 o.n, .string o.text, .slice va o.attrs.length vc] 48 (0, 0)))
          case atStart => exact ⟨0, by omega, rfl, Nat.zero_le _, by simpa [Sp.pL] using H5.out.1, H5.out.2, D5.out⟩
          case round =>
            obtain ⟨m, hgj, rfl, hm, hox, hbx, hdx⟩ := hrel
            have hM := Sp.pL_le (o.attrs.take m) fun y hy => (HAZ.out y (List.mem_of_mem_take hy)).2
            rw [List.length_take, Nat.min_eq_left hm] at hM
            obtain ⟨M, hMe⟩ : ∃ M, M = L2 ++ Sp.pL (o.attrs.take m) := ⟨_, rfl⟩
            have hMl : M.length + 1000 ≤ 140737488355328 := by rw [hMe, List.length_append]; omega
            rw [← hMe] at hox
            obtain ⟨ma, mc, rfl⟩ := owns_shape hox
            have Hox := Lib.hid hox
            have Hbx := Lib.hid hbx
            have Hdx := Lib.hid hdx
            have HM := Lib.hid hMe
            have e3 : wr.cell? ⟨ob, 3, none⟩ = some (.slice va o.attrs.length vc) := (Lib.cell_of_heap hdx 3).trans rfl
            clear hox hbx hdx hMe hM
            by_cases hmt : m < o.attrs.length
            · have hmt' : (m : Int) < (o.attrs.length : Int) := by omega
              have HMT := Lib.hid (Sp.pL_take hmt)
              obtain ⟨_, _, he, h1, h2, h3⟩ := Hav.out
              simp only [Value.slice.injEq, true_and] at he
              obtain ⟨rfl, rfl⟩ := he
              obtain ⟨ab, aoff, rfl, habl, u1, u2⟩ := h3 m hmt
              obtain ⟨z1, z2⟩ := (HAZ.out _ (List.getElem_mem hmt)).2
              obtain ⟨x, hx⟩ : ∃ x, x = o.attrs[m] := ⟨_, rfl⟩
              rw [← hx] at u1 u2 HMT z1 z2
              rw [← Hbx.out.cell (by exact habl)] at u1 u2
              have HQ := Lib.hid fun w => refQuote_any x.2 w (by omega)
              have hqx := Sp.qt_len x.2.data.toList
              rw [← size_data] at hqx
              clear h1 h2 h3 hx
              have la : ab < wr.heap.size := Nat.lt_of_lt_of_le habl Hbx.out.size
              have lo : ob < wr.heap.size := lt_of_heap Hdx.out
              have hq1 : (Sp.ba (Sp.qt x.2.data.toList)).size = (Sp.qt x.2.data.toList).length := by rw [size_data, Sp.data_ba]
              have hq2 : (⟨#[58]⟩ : ByteArray).size = 1 := rfl
              by_cases hm0 : m = 0
              · have q0 : ((m : Int) == 0) = true := by rw [hm0]; rfl
                have hsp := Lib.hid (show Sp.sepOf m = 123 by rw [hm0]; rfl)
                have hq3 : (⟨#[123]⟩ : ByteArray).size = 1 := rfl
                have hs1 : (9223372036854775807 < 1 + x.1.size) = False := eq_false (by omega)
                have hs2 : (9223372036854775807 < 1 + x.1.size + 1) = False := eq_false (by omega)
                have hs3 : (9223372036854775807 < 1 + x.1.size + 1 + (Sp.qt x.2.data.toList).length) = False := eq_false (by omega)
                clear hm0
                go_wp2_with fail
                go_region_held3 (fun w' => w'.cell? ⟨ob, 3, none⟩ = some (.slice (some ⟨ab, aoff, none⟩) o.attrs.length vc) ∧ w'.cell? ⟨ab, aoff + m * 2, none⟩ = some (.string x.1) ∧ w'.cell? ⟨ab, aoff + m * 2 + 1, none⟩ = some (.string x.2))
                  (first
                    | exact ⟨e3, u1, u2⟩
                    | exact S6
                    | exact S7)
                  (first
                    | (go_at_call_of 40 (Value.string x.2); refine (HQ.out _).mono ?_; rintro e w6 ⟨rfl, b6⟩; have B6 := Lib.hid (of_drew b6); have S6 := And.intro ((B6.out.cell (by exact lo)).trans e3) (And.intro ((B6.out.cell (by exact la)).trans u1) ((B6.out.cell (by exact la)).trans u2)); have O6 := Lib.hid ((keep_below (ts := []) B6.out Hbx.out.size).own Hox.out (by simp)); have D6 := Lib.hid ((B6.out.block _ lo).trans Hdx.out); clear b6)
                    | (refine step_append_str rfl (.tmp 68) (.tmp 85) 57 9 rfl 5 i0 Tryz.underlying57 Tryz.underlying9 Hi.out.1 Hi.out.2.1 Hi.out.2.2.1 Hi.out.2.2.2 X.heap.size (.slice ma M.length mc) M.length (Lib.byteCells M) rfl O6.out _ rfl (by unfold maxLen; simp; omega) (by simp; omega) (Nat.le_trans Hbx.out.size B6.out.size) ?_; intro v7 w7 o7 g7; have D7 := Lib.hid ((g7.block _ (lt_of_heap D6.out) (fun e => own_ne O6.out D6.out (by decide) e.symm)).trans D6.out); have H7 := Lib.hid (OwnB.str O6.out (Hbx.out.trans (B6.out.mono Hbx.out.size)) (Nat.le_refl _) o7 g7); have B67 := (Below.refl X.heap.size w6).grown g7 (Nat.le_trans Hbx.out.size B6.out.size) (fun j hj => (O6.out.lt j hj).1); have S7 := And.intro ((Lib.cell_of_heap D7.out 3).trans (show _ = some (Value.slice (some ⟨ab, aoff, none⟩) o.attrs.length vc) from rfl)) (And.intro ((B67.cell (by exact habl)).trans S6.2.1) ((B67.cell (by exact habl)).trans S6.2.2)); clear o7 g7 B67))
                go_wp2_with fail
                go_roundg (gk - 1)
                case measure => omega
                case rel =>
                  refine ⟨m + 1, by omega, by go_num, hmt, ?_, H7.out.2, D7.out⟩
                  rw [HMT.out, ← List.append_assoc, ← HM.out, hsp.out]
                  have := H7.out.1
                  simpa [cat_eq, cat_data, Sp.pAttr, Sp.data_ba] using this
              · have q0 : ((m : Int) == 0) = false := by rw [beq_eq_false_iff_ne]; omega
                have hsp := Lib.hid (show Sp.sepOf m = 44 by cases m with
                  | zero => exact absurd rfl hm0
                  | succ _ => rfl)
                have hq3 : (⟨#[44]⟩ : ByteArray).size = 1 := rfl
                have hs1 : (9223372036854775807 < 1 + x.1.size) = False := eq_false (by omega)
                have hs2 : (9223372036854775807 < 1 + x.1.size + 1) = False := eq_false (by omega)
                have hs3 : (9223372036854775807 < 1 + x.1.size + 1 + (Sp.qt x.2.data.toList).length) = False := eq_false (by omega)
                clear hm0
                go_wp2_with fail
                go_region_held3 (fun w' => w'.cell? ⟨ob, 3, none⟩ = some (.slice (some ⟨ab, aoff, none⟩) o.attrs.length vc) ∧ w'.cell? ⟨ab, aoff + m * 2, none⟩ = some (.string x.1) ∧ w'.cell? ⟨ab, aoff + m * 2 + 1, none⟩ = some (.string x.2))
                  (first
                    | exact ⟨e3, u1, u2⟩
                    | exact S6
                    | exact S7)
                  (first
                    | (go_at_call_of 40 (Value.string x.2); refine (HQ.out _).mono ?_; rintro e w6 ⟨rfl, b6⟩; have B6 := Lib.hid (of_drew b6); have S6 := And.intro ((B6.out.cell (by exact lo)).trans e3) (And.intro ((B6.out.cell (by exact la)).trans u1) ((B6.out.cell (by exact la)).trans u2)); have O6 := Lib.hid ((keep_below (ts := []) B6.out Hbx.out.size).own Hox.out (by simp)); have D6 := Lib.hid ((B6.out.block _ lo).trans Hdx.out); clear b6)
                    | (refine step_append_str rfl (.tmp 68) (.tmp 85) 57 9 rfl 5 i0 Tryz.underlying57 Tryz.underlying9 Hi.out.1 Hi.out.2.1 Hi.out.2.2.1 Hi.out.2.2.2 X.heap.size (.slice ma M.length mc) M.length (Lib.byteCells M) rfl O6.out _ rfl (by unfold maxLen; simp; omega) (by simp; omega) (Nat.le_trans Hbx.out.size B6.out.size) ?_; intro v7 w7 o7 g7; have D7 := Lib.hid ((g7.block _ (lt_of_heap D6.out) (fun e => own_ne O6.out D6.out (by decide) e.symm)).trans D6.out); have H7 := Lib.hid (OwnB.str O6.out (Hbx.out.trans (B6.out.mono Hbx.out.size)) (Nat.le_refl _) o7 g7); have B67 := (Below.refl X.heap.size w6).grown g7 (Nat.le_trans Hbx.out.size B6.out.size) (fun j hj => (O6.out.lt j hj).1); have S7 := And.intro ((Lib.cell_of_heap D7.out 3).trans (show _ = some (Value.slice (some ⟨ab, aoff, none⟩) o.attrs.length vc) from rfl)) (And.intro ((B67.cell (by exact habl)).trans S6.2.1) ((B67.cell (by exact habl)).trans S6.2.2)); clear o7 g7 B67))
                go_wp2_with fail
                go_roundg (gk - 1)
                case measure => omega
                case rel =>
                  refine ⟨m + 1, by omega, by go_num, hmt, ?_, H7.out.2, D7.out⟩
                  rw [HMT.out, ← List.append_assoc, ← HM.out, hsp.out]
                  have := H7.out.1
                  simpa [cat_eq, cat_data, Sp.pAttr, Sp.data_ba] using this
            · have hmt' : decide ((m : Int) < (o.attrs.length : Int)) = false := decide_eq_false (by omega)
              have hme : m = o.attrs.length := by omega
              rw [hme, List.take_length] at HM
              clear hme
              by_cases ha0 : o.attrs.length = 0
              · have q0 : ¬ (0 : Int) < (o.attrs.length : Int) := by omega
                have q0' : ¬ 0 < o.attrs.length := by omega
                have e0 := List.length_eq_zero_iff.1 ha0
                have HM0 := Lib.hid (show L ++ Sp.pOp o = M by rw [HLL.out, HM.out, e0]; rfl)
                clear ha0 e0
                go_wp2_with fail
                go_roundg (gO - 1)
                case measure => omega
                case rel =>
                  refine ⟨k + 1, by omega, by go_num, hlt, ?_, Hbx.out⟩
                  rw [HT.out, ← List.append_assoc, ← HL.out, HM0.out]
                  exact Hox.out
              · have q0 : (0 : Int) < (o.attrs.length : Int) := by omega
                have q0' : 0 < o.attrs.length := by omega
                have HM0 := Lib.hid (show L ++ Sp.pOp o = M ++ [125] by rw [HLL.out, HM.out, Sp.pAttrs_pL (fun e => ha0 (by rw [e]; rfl)), List.append_assoc])
                have HV := Lib.hid (show Lib.byteCells [125] = [.int .u8 125] by rfl)
                have hown := Hox.out
                have hi := Hi.out.1
                have hz0 := Hi.out.2.1
                have hz1 := Hi.out.2.2.1
                have hz2 := Hi.out.2.2.2
                clear ha0
                go_wp2_with (first | (at_builtin; refine wpList_append_own _ rfl _ _ 57 rfl X.heap.size 5 i0 (.int .u8 0) 1 1 Tryz.underlying57 hi hz0 hz1 hz2 rfl (by decide) _ _ _ rfl (World.ownsRow.alloc hown _) ⟨wr.heap.size, 0, none⟩ 1 1 [.int .u8 125] rfl rfl ?_ ?_ ?_ ?_ ?_ ?_))
                all_goals
                  first
                    | rfl
                    | (intro u hu; simp at hu; subst hu; rfl)
                    | (unfold maxLen; omega)
                    | omega
                    | (have := Hbx.out.size; simp; omega)
                    | exact fun j u hj => newU8 _ _ _ j u hj
                    | (intro v' w8 hown' hgrow _
                       clear hown hi hz0 hz1 hz2
                       have hst := Lib.hid (OwnB.step Hox.out Hbx.out (Nat.le_refl _) HV.out hown' hgrow)
                       clear hown' hgrow
                       go_wp2_with fail
                       go_roundg (gO - 1)
                       case measure => omega
                       case rel =>
                         refine ⟨k + 1, by omega, by go_num, hlt, ?_, hst.out.2⟩
                         rw [HT.out, ← List.append_assoc, ← HL.out, HM0.out]
                         exact hst.out.1)
      · have hlt' : decide ((k : Int) < (ns.length : Int)) = false := decide_eq_false (by omega)
        have hks : k = ns.length := by omega
        have HC := Lib.hid (show Sp.pCh (nf : Int) ns = L by rw [HL.out, hks, List.take_length, ← HIt.out]; rfl)
        rw [HC.out] at HE1 HE2
        have hpos : 0 < L.length := by rw [HL.out, List.length_append]; have := Sp.dec_ne nf; have := List.length_pos_iff.2 this; omega
        by_cases hbig : 262144 < L.length
        · have HE := Lib.hid (HE2.out hbig)
          have hb : (262144 : Int) < (L.length : Int) := by omega
          clear hbig
          go_wp2_with fail
          refine bodyPost_ret (v := .tuple #[.string ⟨#[]⟩, .int .i64 3]) (by simp [results, Tryz.results15, go_sem]) rfl ?_
          rw [PrintOut, HE.out]
          exact ⟨rfl, BX.out.trans (bwr.out.mono (by have := BX.out.size; omega))⟩
        · have HE := Lib.hid (HE1.out hbig)
          have hb : ¬ (262144 : Int) < (L.length : Int) := by omega
          obtain ⟨g, cap', hv'⟩ := ownsRow_open Hown.out hpos
          have hcv2 := run_convert_bytes_back (P := Tryz.prog) wr 57 9 5 ⟨g, 0, none⟩ cap' L Tryz.underlying57 Tryz.underlying5 Tryz.underlying9 (fun j hj => World.ownsRow.cells Hown.out (by rw [hv']; rfl) j _ (by rw [Lib.byteCells, List.getElem?_map, List.getElem?_eq_getElem hj]; rfl))
          rw [← hv'] at hcv2
          clear hbig hv'
          go_wp2_with fail
          refine bodyPost_ret (v := .tuple #[.string (Sp.ba L), .int .i64 0]) (by simp [results, Tryz.results15, go_sem, Sp.ba]) rfl ?_
          rw [PrintOut, HE.out]
          exact ⟨rfl, BX.out.trans (bwr.out.mono (by have := BX.out.size; omega))⟩
  · have HN := Lib.hid (refNormal_bad f _ ops W hvW hz hts he)
    have HE := Lib.hid (printF_bad he)
    have hb : (toE f ops == 0) = false := by rw [beq_eq_false_iff_ne]; exact he
    generalize toE f ops = t at *
    clear hvW hz he hts
    go_enter Tryz.func15, Tryz.ntmps15
    go_wp2_with fail
    rw [← HW.out]
    refine HN.out.mono ?_
    rintro e w1 ⟨rfl, b1⟩
    have B1 := Lib.hid (BW.out.trans (b1.mono (Nat.le_of_lt sW)))
    have wh1 := (b1.block _ (lt_of_heap wh.out)).trans wh.out
    have g0 := Joins.unfrozen_of_block wh1 0
    have g1 := Joins.unfrozen_of_block wh1 1
    have y0 := (Lib.cell_of_heap wh1 0).trans (show _ = some _ from rfl)
    have y1 := (Lib.cell_of_heap wh1 1).trans (show _ = some _ from rfl)
    clear b1 wh1
    go_wp2_with fail
    refine bodyPost_ret (v := .tuple #[.string ⟨#[]⟩, .int .i64 t]) (by simp [results, Tryz.results15, go_sem]) rfl ?_
    rw [PrintOut, HE.out]
    exact ⟨rfl, (B1.out.setCell (p := ⟨w.heap.size, 0, none⟩) (Nat.le_refl w.heap.size) _).setCell (p := ⟨w.heap.size, 1, none⟩) (Nat.le_refl w.heap.size) _⟩
end Go.Proofs.YtadookafnfnaoaaGreatDoor
