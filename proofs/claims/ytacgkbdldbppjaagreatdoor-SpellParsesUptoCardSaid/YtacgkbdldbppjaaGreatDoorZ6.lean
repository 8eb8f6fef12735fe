/- Texts of this seat, put together in build order: SpPl, OpenChA, OpenChB. -/
import Derived.Test.YtacgkbdldbppjaaGreatDoorZ5
import Derived.Deep.SlicePairs
import Derived.Deep.Slices
import Derived.Deep.Fields
import Derived.Lib.SmallJoins
import Derived.ChangeArms
import Derived.ChangeSlices
import Derived.Carry
import Derived.Test.YtacgkbdldbppjaaGreatDoorRows
/- The law SpellPlain, walked. -/
namespace Go.Proofs.YtacgkbdldbppjaaGreatDoor
open Go.RowKit Ch

theorem U8.keep {w w' : World} (h : U8 w) (hb : Below w.heap.size w w') (h1 : 0 < w.heap.size) (h2 : 1 < w.heap.size) : U8 w' := h.below hb h1 h2
theorem ctl_int {x : UInt8} (h : Sp.ctl x = false) : ¬ ((x.toNat : Int) < 32) ∧ ((x.toNat : Int) == 127) = false := by
  unfold Sp.ctl at h
  have := of_decide_eq_false h
  refine ⟨by omega, ?_⟩
  rw [beq_eq_false_iff_ne]; omega

theorem read_whole (s : ByteArray) : Sp.readF (Sp.ba (Sp.qt s.data.toList)).data.toList 0 = ⟨0, 0, s.data.toList, ((Sp.qt s.data.toList).length : Int)⟩ := by
  have := Sp.read_qt [] s.data.toList []
  simpa [Sp.data_ba] using this
theorem ba_app (l m : List UInt8) : Sp.ba l ++ Sp.ba m = Sp.ba (l ++ m) := ba_eq (by rw [cat_eq, cat_data]; rfl)

set_option maxRecDepth 100000 in
set_option maxHeartbeats 8000000 in
theorem plain_walk4 (s : ByteArray) (w : World) (hsz : s.size ≤ 1048576) (hs : Std w) (hu : U8 w) (hg1 : 0 < w.heap.size) (hg2 : 1 < w.heap.size) :
    Calls Tryz.prog 7 #[.string s] w (OutB w true) := by
  have HS := Lib.hid hs
  have HU := Lib.hid hu
  have HAW := Lib.hid (awake4_any w hs.pow hs.syn hs.pl hs.sl)
  clear hs hu
  go_enter Tryz.func7, Tryz.ntmps7
  go_wp2_with fail
  refine HAW.out.mono ?_
  rintro e w1 ⟨rfl, b⟩
  have B1 := Lib.hid b
  have HQ := Lib.hid (quoteT_any s w1 (by omega) (HU.out.keep b hg1 hg2))
  clear b
  go_wp2_with fail
  refine HQ.out.mono ?_
  rintro e w2 ⟨rfl, b⟩
  have B2 := Lib.hid (B1.out.trans (b.mono B1.out.size))
  clear b HQ
  cases hv : Lib.validD s.data.toList with
  | false =>
    have he : quoteF s = ([], 10) := by unfold quoteF; rw [if_neg (by rw [hv]; decide)]
    have hem := ba_nil
    rw [he]
    clear he hv
    go_wp2_with fail
    go_ret
    exact ⟨rfl, B2.out⟩
  | true =>
    have he : quoteF s = (Sp.qt s.data.toList, 0) := by unfold quoteF; rw [if_pos hv]
    have hqs : (Sp.ba (Sp.qt s.data.toList)).size = (Sp.qt s.data.toList).length := by rw [size_data, Sp.data_ba]
    have hql := Sp.qt_len s.data.toList
    have hss : s.data.toList.length = s.size := rfl
    have HPl := Lib.hid (Sp.qt_plain s.data.toList)
    rw [he]
    clear he hv
    have HR := Lib.hid (spRead_any (Sp.ba (Sp.qt s.data.toList)) 0 w2 (by omega) (by omega) (by omega))
    rw [show SpReadOut w2 (Sp.ba (Sp.qt s.data.toList)) 0 = fun e w' => e = .returned (.tuple #[.string s, .int .i64 (Sp.qt s.data.toList).length, .agg #[.int .i64 0, .int .i64 0]]) ∧ Below w2.heap.size w2 w' by unfold SpReadOut; rw [read_whole, Sp.ba_data]] at HR
    have HPC := Lib.hid (Sp.parse_one s.data.toList)
    rw [Sp.ba_data] at HPC
    obtain ⟨qb, hqb⟩ : ∃ q, q = Sp.ba (Sp.qt s.data.toList) := ⟨_, rfl⟩
    rw [← hqb] at hqs HR ⊢
    have hN : (Sp.qt s.data.toList).length = qb.size := hqs.symm
    rw [hN] at hql HR HPC
    have HB := Lib.hid (show ∀ k (h : k < qb.size), Sp.ctl qb[k] = false by
      rw [hqb]
      exact fun k h => HPl.out _ (List.getElem_mem (l := Sp.qt s.data.toList) (n := k) h))
    have HQB := Lib.hid hqb
    clear HPl hqs hqb hN
    go_wp2_with fail
    go_loopw [6] (fun i wr => ∃ k : Nat, i = .int .i64 (k : Int) ∧ k ≤ qb.size ∧ wr = w2) (fun i _ => qb.size - (intOf i).toNat)
    case atStart => exact ⟨0, rfl, Nat.zero_le _, rfl⟩
    case round =>
      obtain ⟨k, rfl, hk, rfl⟩ := hrel
      by_cases hlt : k < qb.size
      · have hlt' : (k : Int) < (qb.size : Int) := by omega
        obtain ⟨j1, j2⟩ := ctl_int (HB.out k hlt)
        go_wp2_with fail
        go_roundw
        case measure => simp only [intOf]; omega
        case rel => exact ⟨k + 1, rfl, hlt, by trivial⟩
      · have hlt' : decide ((k : Int) < (qb.size : Int)) = false := decide_eq_false (by omega)
        have hss1 : (s.toList == s.toList) = true := by simp
        have hqq : ((qb.size : Int) == (qb.size : Int)) = true := by simp
        clear hk
        go_wp2_with fail
        refine HR.out.mono ?_
        rintro e w3 ⟨rfl, b⟩
        have B3 := Lib.hid (B2.out.trans (b.mono B2.out.size))
        obtain ⟨X, hX⟩ : ∃ X, X = w3.alloc zeroF := ⟨_, rfl⟩
        have bX := show Below w3.heap.size w3 X by rw [hX]; exact below_box _ _
        have HX := Lib.hid hX
        have BX := Lib.hid (B3.out.trans (bX.mono B3.out.size))
        have SX := HS.out.keep BX.out
        have hap : (⟨#[48, 32, 43]⟩ ++ qb : ByteArray).data.toList = 48 :: 32 :: 43 :: Sp.qt s.data.toList := by rw [HQB.out, cat_eq, cat_data, Sp.data_ba]; rfl
        have hsz3 : (⟨#[48, 32, 43]⟩ ++ qb : ByteArray).size ≤ maxLen := by
          rw [size_data, hap]
          have : (Sp.qt s.data.toList).length = qb.size := by rw [HQB.out]; rfl
          simp only [List.length_cons]; unfold maxLen; omega
        have HPa := parse_any (⟨#[48, 32, 43]⟩ ++ qb) X hsz3 SX.syn SX.sl
        unfold ParseOut at HPa
        rw [hap] at HPa
        have HPL := Lib.hid (show 262141 < qb.size → Sp.parseF (48 :: 32 :: 43 :: Sp.qt s.data.toList) = ⟨2, -1, 0, []⟩ from fun h => by
          unfold Sp.parseF
          exact if_pos (by have : (Sp.qt s.data.toList).length = qb.size := by rw [HQB.out]; rfl
                           simp only [List.length_cons]; omega))
        have HPa := Lib.hid HPa
        have HEm := Lib.hid (show s.size = 0 → (qb.toList == [34, 34]) = true ∧ qb.size = 2 from fun h => by
          have h0 := List.length_eq_zero_iff.1 (show s.data.toList.length = 0 from h)
          rw [HQB.out, h0]
          exact ⟨by rw [ba_beq]; rfl, rfl⟩)
        generalize Sp.parseF (48 :: 32 :: 43 :: Sp.qt s.data.toList) = P at *
        clear b hX bX SX hap hsz3
        go_wp2_with fail
        rw [← HX.out]
        refine HPa.out.mono ?_
        rintro e w4 ⟨v4, rfl, o4, b⟩
        obtain ⟨na, nc, rfl⟩ := o4.row.shape
        have B4 := Lib.hid (BX.out.trans (b.mono BX.out.size))
        have O4 := Lib.hid o4
        clear b o4
        by_cases h0 : s.size = 0
        · obtain ⟨t1, t2⟩ := HEm.out h0
          have em := (text_empty h0).1
          have hP := HPC.out (by omega)
          have he0 : s = Sp.ba [] := ba_eq (List.length_eq_zero_iff.1 (show s.data.toList.length = 0 from h0))
          rw [he0, Sp.toE_empty, if_neg (by decide)] at hP
          subst hP
          clear h0 he0
          go_wp2_with fail
          go_ret
          exact ⟨rfl, below_alloc (below_alloc B4.out (Nat.le_refl _) _) (Nat.le_refl _) _⟩
        · have em := text_full h0
          obtain ⟨Y, hY⟩ : ∃ Y, Y = (w4.alloc (.cells #[.int .i64 P.fr, .slice na P.ops.length nc] 24)).alloc (.cells #[.int .i64 P.code, .int .i64 P.at_] 34) := ⟨_, rfl⟩
          have bY := show Below w4.heap.size w4 Y by rw [hY]; exact below_alloc (below_box _ _) (Nat.le_refl _) _
          have HY := Lib.hid hY
          have y0 := Lib.hid (show Y.heap[w4.heap.size]? = some (.cells #[.int .i64 P.fr, .slice na P.ops.length nc] 24 (0, 0)) by rw [hY, Lib.alloc_old _ _ _ (by simp)]; exact heap_new w4 _)
          have y1 := Lib.hid (show Y.heap[w4.heap.size + 1]? = some (.cells #[.int .i64 P.code, .int .i64 P.at_] 34 (0, 0)) by rw [hY]; have := heap_new (w4.alloc (.cells #[.int .i64 P.fr, .slice na P.ops.length nc] 24)) (.cells #[.int .i64 P.code, .int .i64 P.at_] 34); simpa using this)
          have BY := Lib.hid (B4.out.trans (bY.mono B4.out.size))
          have OY := Lib.hid (O4.out.below bY)
          clear hY bY
          go_wp2_with fail
          rw [← HY.out]
          refine (lawPut_any s Y).mono ?_
          rintro e w5 ⟨rfl, b⟩
          have B5 := Lib.hid (BY.out.trans (b.mono BY.out.size))
          have O5 := Lib.hid (OY.out.below b)
          have y05 := Lib.hid ((b.block _ (lt_of_heap y0.out)).trans y0.out)
          have y15 := Lib.hid ((b.block _ (lt_of_heap y1.out)).trans y1.out)
          clear b
          obtain ⟨Z, hZ⟩ : ∃ Z, Z = w5.alloc (.cells #[.int .i64 2, .int .i64 0, .string s, .slice none 0 0] 48) := ⟨_, rfl⟩
          have bZ := show Below w5.heap.size w5 Z by rw [hZ]; exact below_box _ _
          have HZ := Lib.hid hZ
          have hrow : OpRow Z (.slice (some ⟨w5.heap.size, 0, none⟩) 1 1) [⟨2, 0, s, []⟩] := by
            rw [hZ]
            exact opRow_new w5 [(⟨2, 0, s, []⟩, .slice none 0 0)] (fun p hp => by rw [List.mem_singleton.1 hp]; exact ⟨rfl, rfl⟩) (show 1 ≤ maxLen by decide)
          have BZ := Lib.hid (B5.out.trans (bZ.mono B5.out.size))
          have OZ := Lib.hid (O5.out.below bZ)
          have z0 := Lib.hid ((bZ.block _ (lt_of_heap y05.out)).trans y05.out)
          have z1 := Lib.hid ((bZ.block _ (lt_of_heap y15.out)).trans y15.out)
          have HRt := Lib.hid (refRight_any 0 _ [⟨2, 0, s, []⟩] Z hrow (fun o ho => by rw [List.mem_singleton.1 ho]; exact ⟨by show s.size ≤ maxLen; unfold maxLen; omega, fun x hx => by cases hx⟩) (fun o ho => by rw [List.mem_singleton.1 ho]; exact hsz))
          clear hZ bZ hrow
          go_wp2_with fail
          rw [← HZ.out]
          refine HRt.out.mono ?_
          rintro e w6 ⟨rfl, b⟩
          have B6 := Lib.hid (BZ.out.trans (b.mono BZ.out.size))
          have q0 := (b.block _ (lt_of_heap z0.out)).trans z0.out
          have q1 := (b.block _ (lt_of_heap z1.out)).trans z1.out
          have c1 : w6.cell? ⟨w4.heap.size, 1, none⟩ = some (.slice na P.ops.length nc) := (Lib.cell_of_heap q0 1).trans rfl
          have d0 : w6.cell? ⟨w4.heap.size + 1, 0, none⟩ = some (.int .i64 P.code) := (Lib.cell_of_heap q1 0).trans rfl
          have d1 : w6.cell? ⟨w4.heap.size + 1, 1, none⟩ = some (.int .i64 P.at_) := (Lib.cell_of_heap q1 1).trans rfl
          have O6 := Lib.hid (OZ.out.below b)
          have hp1 := HPC.out
          have hp2 := HPL.out
          clear b q0 q1 HRt
          by_cases ht : toE 0 [⟨2, 0, s, []⟩] = 0
          · rw [if_pos ht] at hp1
            rw [ht]
            by_cases hq : (200000 : Int) < (qb.size : Int)
            · by_cases hc : P.code = 0
              · have hcb : (P.code == 0) = true := by rw [hc]; rfl
                clear hp1 hp2
                go_wp2_with fail
                go_ret
                exact ⟨rfl, B6.out⟩
              · have hcb : (P.code == 0) = false := by rw [beq_eq_false_iff_ne]; exact hc
                clear hp1 hp2
                go_wp2_with fail
                go_ret
                exact ⟨rfl, B6.out⟩
            · have hP := hp1 (by omega)
              have hss2 : (s.toList == s.toList) = true := by simp
              subst hP
              obtain ⟨_, _, he, g1, g2, g3⟩ := O6.out.row
              simp only [Value.slice.injEq, true_and] at he
              obtain ⟨rfl, rfl⟩ := he
              obtain ⟨gb, off, rfl, hgl, av, _, _, _, _, gt, _⟩ := g3 0 (show 0 < 1 by decide)
              have gt' : w6.cell? ⟨gb, off + 2, none⟩ = some (.string s) := by simpa using gt
              clear hp1 hp2 g1 g2 g3 gt
              go_wp2_with fail
              go_ret
              exact ⟨rfl, B6.out⟩
          · rw [if_neg ht] at hp1
            have htb : (toE 0 [⟨2, 0, s, []⟩] == 0) = false := by rw [beq_eq_false_iff_ne]; exact ht
            have hc : (P.code == 0) = false := by
              rw [beq_eq_false_iff_ne]
              rcases Nat.lt_or_ge 262141 qb.size with h | h
              · rw [hp2 h]; show (2 : Int) ≠ 0; decide
              · rw [hp1 h]; exact ht
            have hc2 : ¬ P.code = 0 := by rw [beq_eq_false_iff_ne] at hc; exact hc
            have hte := ht
            clear hp1 hp2 ht
            generalize toE 0 [⟨2, 0, s, []⟩] = te at *
            clear HPC HPL
            by_cases hq : (200000 : Int) < (qb.size : Int)
            · go_wp2_with fail
              go_ret
              exact ⟨rfl, B6.out⟩
            · go_wp2_with fail
              go_ret
              exact ⟨rfl, B6.out⟩
end Go.Proofs.YtacgkbdldbppjaaGreatDoor

/- Arguments opened: a changeset, its operations and their attributes. -/
namespace Go.Proofs.YtacgkbdldbppjaaGreatDoor
open Go.RowKit Go.ChangeShapes Go.WideShapes Go.Deep Go.Joins Ch

instance : Inhabited OpD := ⟨⟨0, 0, ⟨#[]⟩, []⟩⟩
theorem laidOutC : laidOutB Tryz.prog = true := by kernel_rfl
theorem structAttrC : ∃ f0 f1 : Field, Tryz.prog.underlying 52 = some (.struct #[f0, f1]) ∧ f0.offset = 0 ∧ f1.offset = 1 ∧ f0.type = 9 ∧ f1.type = 9 :=
  ⟨_, _, Tryz.underlying52, rfl, rfl, rfl, rfl⟩
theorem structOp : ∃ f0 f1 f2 f3 : Field, Tryz.prog.underlying 48 = some (.struct #[f0, f1, f2, f3]) ∧ (f0.offset = 0 ∧ f1.offset = 1 ∧ f2.offset = 2 ∧ f3.offset = 3) ∧ f0.type = 3 ∧ f1.type = 3 ∧ f2.type = 9 ∧ f3.type = 46 :=
  ⟨_, _, _, _, Tryz.underlying48, ⟨rfl, rfl, rfl, rfl⟩, rfl, rfl, rfl, rfl⟩
theorem structChange : ∃ f0 f1 : Field, Tryz.prog.underlying 24 = some (.struct #[f0, f1]) ∧ oneCellFields Tryz.prog #[f0, f1] = true ∧ f0.type = 3 ∧ f1.type = 22 :=
  ⟨_, _, Tryz.underlying24, by kernel_rfl, rfl, rfl⟩

set_option maxRecDepth 100000 in
theorem open_attrs_cell {H : Type} {enc : TypeId × Value → H} {W : World} {fuel : Nat} {c : Value} {y : DataW H × List MemPlace}
    (h : DataW.trod enc Tryz.prog W 0 (fun _ => true) true fuel 46 [c] = some y) : ∃ l, AtRow W c l ∧ Sized l ∧ Proper c := by
  obtain ⟨f0, f1, hs, o0, o1, t0, t1⟩ := structAttrC
  rcases open_slice_pairs Tryz.underlying46 hs (by kernel_rfl) o0 o1 (by rw [t0]; kernel_rfl) (by rw [t1]; kernel_rfl) h with ⟨h0, _⟩ | ⟨a', len, cap, m, k, V0, V1, D0, D1, P0, P1, hcs, _, hl, hm, hmm, _, hi⟩
  · obtain rfl : c = .slice none 0 0 := by simpa using h0
    exact ⟨[], ⟨none, 0, rfl, Nat.le_refl _, by simp [maxLen], fun i hi => by simp at hi⟩, (fun x hx => by cases hx), fun n' c' he => by simp at he; omega⟩
  · obtain rfl : c = .slice (some a') len cap := by simpa using hcs
    have hm' : m = cap := by rw [hmm]; rfl
    subst hm'
    have each : ∀ i, i < len → ∃ q : ByteArray × ByteArray, V0 i = .string q.1 ∧ V1 i = .string q.2 ∧ q.1.size ≤ maxLen ∧ q.2.size ≤ maxLen := fun i hin => by
      obtain ⟨_, _, g0, g1⟩ := hi i (Nat.lt_of_lt_of_le hin hl)
      rw [t0] at g0
      rw [t1] at g1
      obtain ⟨s0, e0, _, z0⟩ := DataW.trod_string Tryz.underlying9 g0
      obtain ⟨s1, e1, _, z1⟩ := DataW.trod_string Tryz.underlying9 g1
      exact ⟨(s0, s1), by simpa using e0, by simpa using e1, z0, z1⟩
    obtain ⟨q, hq⟩ := choose_lt each
    have hlen : ((List.range len).map q).length = len := by simp
    refine ⟨(List.range len).map q, ⟨some a', m, by rw [hlen], by rw [hlen]; exact hl, hm, fun i hin => ?_⟩, fun x hx => ?_, fun n' c' he => by simp at he⟩
    · have hin' : i < len := by simpa using hin
      obtain ⟨c0, c1, _, _⟩ := hi i (Nat.lt_of_lt_of_le hin' hl)
      obtain ⟨e0, e1, _, _⟩ := hq i hin'
      rw [e0] at c0
      rw [e1] at c1
      obtain ⟨b, off, spot⟩ := a'
      have hspot : spot = none := by
        have h0 := (hi 0 (by omega)).1
        simpa [Addr.add] using World.cell?_spot h0
      subst hspot
      rw [add_plain] at c0 c1
      have hb := World.block_lt_of_cell? _ _ c0
      exact ⟨b, off, rfl, hb, by simpa using c0, by simpa [Nat.add_assoc] using c1⟩
    · obtain ⟨i, hin, rfl⟩ := List.mem_map.1 hx
      obtain ⟨_, _, z0, z1⟩ := hq i (by simpa using hin)
      exact ⟨z0, z1⟩

set_option maxRecDepth 100000 in
/-- One operation, read. -/
theorem open_op {H : Type} {enc : TypeId × Value → H} {W : World} {fuel : Nat} {cs : List Value} {y : DataW H × List MemPlace} (h : DataW.trod enc Tryz.prog W 0 (fun _ => true) true fuel 48 cs = some y) :
    ∃ (o : OpD) (av : Value), cs = [.int .i64 o.kind, .int .i64 o.n, .string o.text, av] ∧ AtRow W av o.attrs ∧ Proper av ∧ o.text.size ≤ maxLen ∧ Sized o.attrs := by
  obtain ⟨f0, f1, f2, f3, hs, ⟨o0, o1, o2, o3⟩, t0, t1, t2, t3⟩ := structOp
  obtain ⟨xs, n, _, _, hlen, hxl, hf⟩ := DataW.trod_struct hs h
  have hC : Tryz.prog.cellsOf 48 = 4 := by kernel_rfl
  rw [hC] at hlen
  obtain ⟨c0, c1, c2, c3, rfl⟩ : ∃ c0 c1 c2 c3, cs = [c0, c1, c2, c3] := by
    match cs, hlen with
    | [c0, c1, c2, c3], _ => exact ⟨c0, c1, c2, c3, rfl⟩
  have g : ∀ (i : Nat) (hi : i < xs.length), xs[i]? = some xs[i] := fun i hi => List.getElem?_eq_getElem hi
  have hx : xs.length = 4 := hxl
  have k1 : Tryz.prog.cellsOf 3 = 1 := by kernel_rfl
  have k2 : Tryz.prog.cellsOf 9 = 1 := by kernel_rfl
  have k3 : Tryz.prog.cellsOf 46 = 1 := by kernel_rfl
  have g0 := (hf 0 f0 rfl).trans (g 0 (by omega))
  have g1 := (hf 1 f1 rfl).trans (g 1 (by omega))
  have g2 := (hf 2 f2 rfl).trans (g 2 (by omega))
  have g3 := (hf 3 f3 rfl).trans (g 3 (by omega))
  rw [o0, t0, k1] at g0
  rw [o1, t1, k1] at g1
  rw [o2, t2, k2] at g2
  rw [o3, t3, k3] at g3
  obtain ⟨n0, e0, _, _⟩ := DataW.trod_int Tryz.underlying3 g0
  obtain ⟨n1, e1, _, _⟩ := DataW.trod_int Tryz.underlying3 g1
  obtain ⟨s2, e2, _, z2⟩ := DataW.trod_string Tryz.underlying9 g2
  obtain ⟨l, r1, r2, r3⟩ := open_attrs_cell (c := c3) g3
  obtain rfl : c0 = .int .i64 n0 := by simpa using e0
  obtain rfl : c1 = .int .i64 n1 := by simpa using e1
  obtain rfl : c2 = .string s2 := by simpa using e2
  exact ⟨⟨n0, n1, s2, l⟩, c3, rfl, r1, r3, z2, r2⟩

set_option maxRecDepth 100000 in
theorem open_ops {H : Type} {enc : TypeId × Value → H} {W : World} {fuel : Nat} {c : Value} {y : DataW H × List MemPlace}
    (h : DataW.trod enc Tryz.prog W 0 (fun _ => true) true fuel 22 [c] = some y) : ∃ ops, OpRow W c ops ∧ OSized ops := by
  rcases open_slice Tryz.underlying22 h with ⟨h0, _⟩ | ⟨a, len, cap, m, n, D, Pl, hcs, _, hl, hm, hmm, _, hi⟩
  · obtain rfl : c = .slice none 0 0 := by simpa using h0
    exact ⟨[], OpRow.nil W, fun o ho => by cases ho⟩
  · obtain rfl : c = .slice (some a) len cap := by simpa using hcs
    have hm' : m = cap := by rw [hmm]; rfl
    subst hm'
    have hC : Tryz.prog.cellsOf 48 = 4 := by kernel_rfl
    rw [hC] at hi
    have each : ∀ i, i < len → ∃ q : OpD × Value, W.cells? 0 (a.add (i * 4)) 4 = some [.int .i64 q.1.kind, .int .i64 q.1.n, .string q.1.text, q.2] ∧ AtRow W q.2 q.1.attrs ∧ Proper q.2 ∧ q.1.text.size ≤ maxLen ∧ Sized q.1.attrs := fun i hin => by
      obtain ⟨cs', h1, h2⟩ := hi i (Nat.lt_of_lt_of_le hin hl)
      obtain ⟨o, av, rfl, r⟩ := open_op h2
      exact ⟨(o, av), h1, r⟩
    obtain ⟨q, hq⟩ := choose_lt each
    have hlen : ((List.range len).map fun i => (q i).1).length = len := by simp
    refine ⟨(List.range len).map fun i => (q i).1, ⟨some a, m, by rw [hlen], by rw [hlen]; exact hl, hm, fun i hin => ?_⟩, fun x hx => ?_⟩
    · have hin' : i < len := by simpa using hin
      obtain ⟨h1, h2, h3, _⟩ := hq i hin'
      obtain ⟨_, _, hat⟩ := World.cells?_some h1
      obtain ⟨b, off, spot⟩ := a
      have hspot : spot = none := by
        have h0 := (World.cells?_some (hq 0 (by omega)).1).2.2 0 (by omega)
        have h0' : W.cell? ⟨b, off, spot⟩ = some (.int .i64 (q 0).1.kind) := by simpa [Addr.add] using h0
        exact World.cell?_spot h0'
      subst hspot
      have hc : ∀ j, j < 4 → W.cell? ⟨b, off + i * 4 + j, none⟩ = ([.int .i64 (q i).1.kind, .int .i64 (q i).1.n, .string (q i).1.text, (q i).2] : List Value)[j]? := fun j hj => by
        have := hat j hj
        rw [add_plain, add_plain] at this
        exact this
      have hb := World.block_lt_of_cell? _ _ (hc 0 (by omega))
      refine ⟨b, off, rfl, hb, ?_⟩
      rw [List.getElem_map, List.getElem_range]
      exact ⟨(q i).2, h2, h3, hc 0 (by omega), hc 1 (by omega), hc 2 (by omega), hc 3 (by omega)⟩
    · obtain ⟨i, hin, rfl⟩ := List.mem_map.1 hx
      obtain ⟨_, _, _, z0, z1⟩ := hq i (by simpa using hin)
      exact ⟨z0, z1⟩

set_option maxRecDepth 100000 in
theorem open_change {H : Type} {enc : TypeId × Value → H} {W : World} {base : Nat} {v : Value} {d : DataW H} {p : List MemPlace} (hv : Value.okWide Tryz.prog W .any base 24 v)
    (h : DataW.Trod enc Tryz.prog W 0 (fun _ => true) true 24 v d p) : ∃ (f : Int) (x : Value) (ops : List OpD), v = chAgg f x ∧ OpRow W x ops ∧ OSized ops := by
  obtain ⟨f0, f1, hs, hone, t0, t1⟩ := structChange
  obtain ⟨v0, v1, y0, y1, n, rfl, _, _, g0, g1⟩ := open_agg2 hs hone (by kernel_rfl) hv h
  rw [t0] at g0
  rw [t1] at g1
  obtain ⟨n0, e0, _, _⟩ := DataW.trod_int Tryz.underlying3 g0
  obtain rfl : v0 = .int .i64 n0 := by simpa using e0
  obtain ⟨ops, r1, r2⟩ := open_ops g1
  exact ⟨n0, v1, ops, rfl, r1, r2⟩
end Go.Proofs.YtacgkbdldbppjaaGreatDoor

/- A changeset opened, of a bound on its bulk: its operations are few and short. -/
namespace Go.Proofs.YtacgkbdldbppjaaGreatDoor
open Go.RowKit Go.ChangeShapes Go.WideShapes Go.Deep Go.Joins Ch

theorem bulk_pos {H : Type} (d : DataW H) : 1 ≤ Rows.uptoBulk d := by
  cases d with
  | lit l => cases l <;> simp [Rows.uptoBulk]
  | nil => simp [Rows.uptoBulk]
  | ptr d => simp [Rows.uptoBulk]
  | slice a b => simp [Rows.uptoBulk]
  | agg p => simp [Rows.uptoBulk]
  | iface _ d => simp [Rows.uptoBulk]
  | map e => simp [Rows.uptoBulk]
  | held _ => simp [Rows.uptoBulk]
theorem bulk_mem {H : Type} {l : List (DataW H)} {d : DataW H} (h : d ∈ l) : Rows.uptoBulk d ≤ Rows.uptoBulkAll l := by
  induction l with
  | nil => cases h
  | cons x r ih =>
    rw [Rows.uptoBulkAll]
    rcases List.mem_cons.1 h with rfl | h
    · omega
    · have := ih h; omega
theorem bulk_len {H : Type} (l : List (DataW H)) : l.length ≤ Rows.uptoBulkAll l := by
  induction l with
  | nil => simp [Rows.uptoBulkAll]
  | cons x r ih =>
    rw [Rows.uptoBulkAll, List.length_cons]
    have := bulk_pos x
    omega
theorem bulk_slice {H : Type} {es sp : List (DataW H)} {N : Nat} (h : Rows.uptoBulk (.slice es sp) ≤ N) : es.length ≤ N ∧ ∀ d ∈ es, Rows.uptoBulk d ≤ N := by
  rw [Rows.uptoBulk] at h
  have h1 := bulk_len es
  exact ⟨by omega, fun d hd => by have := bulk_mem hd; omega⟩
theorem bulk_agg {H : Type} {es : List (DataW H)} {N : Nat} (h : Rows.uptoBulk (.agg es) ≤ N) : ∀ d ∈ es, Rows.uptoBulk d ≤ N := fun d hd => by
  rw [Rows.uptoBulk] at h
  have := bulk_mem hd
  omega
theorem bulk_text {H : Type} {s : ByteArray} {N : Nat} (h : Rows.uptoBulk (.lit (.string s.data.toList) : DataW H) ≤ N) : s.size ≤ N := by
  rw [Rows.uptoBulk] at h
  have e : s.data.toList.length = s.size := by simp
  omega

set_option maxRecDepth 100000 in
theorem open_attrs_cellB {H : Type} {enc : TypeId × Value → H} {W : World} {fuel : Nat} {c : Value} {y : DataW H × List MemPlace} (hb : Rows.uptoBulk y.1 ≤ 1048576)
    (h : DataW.trod enc Tryz.prog W 0 (fun _ => true) true fuel 46 [c] = some y) : ∃ l, AtRow W c l ∧ SmallA l ∧ Proper c := by
  obtain ⟨f0, f1, hs, o0, o1, t0, t1⟩ := structAttrC
  rcases open_slice_pairs Tryz.underlying46 hs (by kernel_rfl) o0 o1 (by rw [t0]; kernel_rfl) (by rw [t1]; kernel_rfl) h with ⟨h0, _⟩ | ⟨a', len, cap, m, k, V0, V1, D0, D1, P0, P1, hcs, _, hl, hm, hmm, hx, hi⟩
  · obtain rfl : c = .slice none 0 0 := by simpa using h0
    exact ⟨[], ⟨none, 0, rfl, Nat.le_refl _, by simp [maxLen], fun i hi => by simp at hi⟩, ⟨by simp, fun x hx => by cases hx⟩, fun n' c' he => by simp at he; omega⟩
  · obtain rfl : c = .slice (some a') len cap := by simpa using hcs
    have hm' : m = cap := by rw [hmm]; rfl
    subst hm'
    rw [hx] at hb
    obtain ⟨hb1, hb2⟩ := bulk_slice hb
    rw [List.length_map, List.length_range] at hb1
    have each : ∀ i, i < len → ∃ q : ByteArray × ByteArray, V0 i = .string q.1 ∧ V1 i = .string q.2 ∧ q.1.size ≤ 1048576 ∧ q.2.size ≤ 1048576 := fun i hin => by
      obtain ⟨_, _, g0, g1⟩ := hi i (Nat.lt_of_lt_of_le hin hl)
      rw [t0] at g0
      rw [t1] at g1
      obtain ⟨s0, e0, d0, _⟩ := DataW.trod_string Tryz.underlying9 g0
      obtain ⟨s1, e1, d1, _⟩ := DataW.trod_string Tryz.underlying9 g1
      have hba := bulk_agg (hb2 (.agg [D0 i, D1 i]) (List.mem_map.2 ⟨i, List.mem_range.2 hin, rfl⟩))
      simp only [Prod.mk.injEq] at d0 d1
      have z0 := hba (D0 i) (by simp)
      have z1 := hba (D1 i) (by simp)
      rw [d0.1] at z0
      rw [d1.1] at z1
      exact ⟨(s0, s1), by simpa using e0, by simpa using e1, bulk_text z0, bulk_text z1⟩
    obtain ⟨q, hq⟩ := choose_lt each
    have hlen : ((List.range len).map q).length = len := by simp
    refine ⟨(List.range len).map q, ⟨some a', m, by rw [hlen], by rw [hlen]; exact hl, hm, fun i hin => ?_⟩, ⟨by rw [hlen]; exact hb1, fun x hx => ?_⟩, fun n' c' he => by simp at he⟩
    · have hin' : i < len := by simpa using hin
      obtain ⟨c0, c1, _, _⟩ := hi i (Nat.lt_of_lt_of_le hin' hl)
      obtain ⟨e0, e1, _, _⟩ := hq i hin'
      rw [e0] at c0
      rw [e1] at c1
      obtain ⟨b, off, spot⟩ := a'
      have hspot : spot = none := by
        have h0 := (hi 0 (by omega)).1
        simpa [Addr.add] using World.cell?_spot h0
      subst hspot
      rw [add_plain] at c0 c1
      have hb := World.block_lt_of_cell? _ _ c0
      exact ⟨b, off, rfl, hb, by simpa using c0, by simpa [Nat.add_assoc] using c1⟩
    · obtain ⟨i, hin, rfl⟩ := List.mem_map.1 hx
      obtain ⟨_, _, z0, z1⟩ := hq i (by simpa using hin)
      exact ⟨z0, z1⟩

set_option maxRecDepth 100000 in
theorem open_opB {H : Type} {enc : TypeId × Value → H} {W : World} {fuel : Nat} {cs : List Value} {y : DataW H × List MemPlace} (hb : Rows.uptoBulk y.1 ≤ 1048576) (h : DataW.trod enc Tryz.prog W 0 (fun _ => true) true fuel 48 cs = some y) :
    ∃ (o : OpD) (av : Value), cs = [.int .i64 o.kind, .int .i64 o.n, .string o.text, av] ∧ AtRow W av o.attrs ∧ Proper av ∧ o.text.size ≤ 1048576 ∧ SmallA o.attrs := by
  obtain ⟨f0, f1, f2, f3, hs, ⟨o0, o1, o2, o3⟩, t0, t1, t2, t3⟩ := structOp
  obtain ⟨xs, n, _, hy, hlen, hxl, hf⟩ := DataW.trod_struct hs h
  rw [hy] at hb
  have hba := bulk_agg hb
  have hC : Tryz.prog.cellsOf 48 = 4 := by kernel_rfl
  rw [hC] at hlen
  obtain ⟨c0, c1, c2, c3, rfl⟩ : ∃ c0 c1 c2 c3, cs = [c0, c1, c2, c3] := by
    match cs, hlen with
    | [c0, c1, c2, c3], _ => exact ⟨c0, c1, c2, c3, rfl⟩
  have g : ∀ (i : Nat) (hi : i < xs.length), xs[i]? = some xs[i] := fun i hi => List.getElem?_eq_getElem hi
  have hx : xs.length = 4 := hxl
  have k1 : Tryz.prog.cellsOf 3 = 1 := by kernel_rfl
  have k2 : Tryz.prog.cellsOf 9 = 1 := by kernel_rfl
  have k3 : Tryz.prog.cellsOf 46 = 1 := by kernel_rfl
  have g0 := (hf 0 f0 rfl).trans (g 0 (by omega))
  have g1 := (hf 1 f1 rfl).trans (g 1 (by omega))
  have g2 := (hf 2 f2 rfl).trans (g 2 (by omega))
  have g3 := (hf 3 f3 rfl).trans (g 3 (by omega))
  rw [o0, t0, k1] at g0
  rw [o1, t1, k1] at g1
  rw [o2, t2, k2] at g2
  rw [o3, t3, k3] at g3
  have m2 := hba xs[2].1 (List.mem_map.2 ⟨_, List.getElem_mem (by omega), rfl⟩)
  have m3 := hba xs[3].1 (List.mem_map.2 ⟨_, List.getElem_mem (by omega), rfl⟩)
  obtain ⟨n0, e0, _, _⟩ := DataW.trod_int Tryz.underlying3 g0
  obtain ⟨n1, e1, _, _⟩ := DataW.trod_int Tryz.underlying3 g1
  obtain ⟨s2, e2, d2, _⟩ := DataW.trod_string Tryz.underlying9 g2
  obtain ⟨l, r1, r2, r3⟩ := open_attrs_cellB (c := c3) m3 g3
  rw [d2] at m2
  obtain rfl : c0 = .int .i64 n0 := by simpa using e0
  obtain rfl : c1 = .int .i64 n1 := by simpa using e1
  obtain rfl : c2 = .string s2 := by simpa using e2
  exact ⟨⟨n0, n1, s2, l⟩, c3, rfl, r1, r3, bulk_text m2, r2⟩

set_option maxRecDepth 100000 in
theorem open_opsB {H : Type} {enc : TypeId × Value → H} {W : World} {fuel : Nat} {c : Value} {y : DataW H × List MemPlace} (hb : Rows.uptoBulk y.1 ≤ 1048576)
    (h : DataW.trod enc Tryz.prog W 0 (fun _ => true) true fuel 22 [c] = some y) : ∃ ops, OpRow W c ops ∧ SmallO ops := by
  rcases open_slice Tryz.underlying22 h with ⟨h0, _⟩ | ⟨a, len, cap, m, n, D, Pl, hcs, _, hl, hm, hmm, hx, hi⟩
  · obtain rfl : c = .slice none 0 0 := by simpa using h0
    exact ⟨[], OpRow.nil W, by simp, fun o ho => by cases ho⟩
  · obtain rfl : c = .slice (some a) len cap := by simpa using hcs
    have hm' : m = cap := by rw [hmm]; rfl
    subst hm'
    rw [hx] at hb
    obtain ⟨hb1, hb2⟩ := bulk_slice hb
    rw [List.length_map, List.length_range] at hb1
    have hC : Tryz.prog.cellsOf 48 = 4 := by kernel_rfl
    rw [hC] at hi
    have each : ∀ i, i < len → ∃ q : OpD × Value, W.cells? 0 (a.add (i * 4)) 4 = some [.int .i64 q.1.kind, .int .i64 q.1.n, .string q.1.text, q.2] ∧ AtRow W q.2 q.1.attrs ∧ Proper q.2 ∧ q.1.text.size ≤ 1048576 ∧ SmallA q.1.attrs := fun i hin => by
      obtain ⟨cs', h1, h2⟩ := hi i (Nat.lt_of_lt_of_le hin hl)
      obtain ⟨o, av, rfl, r⟩ := open_opB (hb2 (D i) (List.mem_map.2 ⟨i, List.mem_range.2 hin, rfl⟩)) h2
      exact ⟨(o, av), h1, r⟩
    obtain ⟨q, hq⟩ := choose_lt each
    have hlen : ((List.range len).map fun i => (q i).1).length = len := by simp
    refine ⟨(List.range len).map fun i => (q i).1, ⟨some a, m, by rw [hlen], by rw [hlen]; exact hl, hm, fun i hin => ?_⟩, by rw [hlen]; exact hb1, fun x hx => ?_⟩
    · have hin' : i < len := by simpa using hin
      obtain ⟨h1, h2, h3, _⟩ := hq i hin'
      obtain ⟨_, _, hat⟩ := World.cells?_some h1
      obtain ⟨b, off, spot⟩ := a
      have hspot : spot = none := by
        have h0 := (World.cells?_some (hq 0 (by omega)).1).2.2 0 (by omega)
        have h0' : W.cell? ⟨b, off, spot⟩ = some (.int .i64 (q 0).1.kind) := by simpa [Addr.add] using h0
        exact World.cell?_spot h0'
      subst hspot
      have hc : ∀ j, j < 4 → W.cell? ⟨b, off + i * 4 + j, none⟩ = ([.int .i64 (q i).1.kind, .int .i64 (q i).1.n, .string (q i).1.text, (q i).2] : List Value)[j]? := fun j hj => by
        have := hat j hj
        rw [add_plain, add_plain] at this
        exact this
      have hb := World.block_lt_of_cell? _ _ (hc 0 (by omega))
      refine ⟨b, off, rfl, hb, ?_⟩
      rw [List.getElem_map, List.getElem_range]
      exact ⟨(q i).2, h2, h3, hc 0 (by omega), hc 1 (by omega), hc 2 (by omega), hc 3 (by omega)⟩
    · obtain ⟨i, hin, rfl⟩ := List.mem_map.1 hx
      obtain ⟨_, _, _, z0, z1⟩ := hq i (by simpa using hin)
      exact ⟨z0, z1⟩

set_option maxRecDepth 100000 in
theorem open_changeB {H : Type} {enc : TypeId × Value → H} {W : World} {base : Nat} {v : Value} {d : DataW H} {p : List MemPlace} (hb : Rows.uptoBulk d ≤ 1048576) (hv : Value.okWide Tryz.prog W .any base 24 v)
    (h : DataW.Trod enc Tryz.prog W 0 (fun _ => true) true 24 v d p) : ∃ (f : Int) (x : Value) (ops : List OpD), v = chAgg f x ∧ OpRow W x ops ∧ SmallO ops := by
  obtain ⟨f0, f1, hs, hone, t0, t1⟩ := structChange
  obtain ⟨v0, v1, y0, y1, n, rfl, hd, _, g0, g1⟩ := open_agg2 hs hone (by kernel_rfl) hv h
  rw [t0] at g0
  rw [t1] at g1
  rw [hd] at hb
  obtain ⟨n0, e0, _, _⟩ := DataW.trod_int Tryz.underlying3 g0
  obtain rfl : v0 = .int .i64 n0 := by simpa using e0
  obtain ⟨ops, r1, r2⟩ := open_opsB (bulk_agg hb y1.1 (by simp)) g1
  exact ⟨n0, v1, ops, rfl, r1, r2⟩
end Go.Proofs.YtacgkbdldbppjaaGreatDoor
