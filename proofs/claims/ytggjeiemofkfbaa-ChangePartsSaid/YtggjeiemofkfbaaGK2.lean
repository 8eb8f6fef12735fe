/- Texts of this seat, put together: ChNothWalk. -/
import Derived.Test.YtggjeiemofkfbaaGK0
import Derived.Laws.BitsLemmas
/- The law ChangeNothing, walked. -/
namespace Go.Proofs.Ytggjeiemofkfbaa
open Go.RowKit Ch

/-- A row of whole numbers, nil or not. -/
def IntRow (w : World) (v : Value) (zs : List Int) : Prop :=
  ∃ a cap, v = .slice a zs.length cap ∧ zs.length ≤ cap ∧ cap ≤ maxLen ∧ ∀ i (h : i < zs.length), ∃ b off, a = some ⟨b, off, none⟩ ∧ b < w.heap.size ∧ w.cell? ⟨b, off + i, none⟩ = some (.int .i64 zs[i])
def bareP (l : List OpD) : List (OpD × Value) := l.map fun o => (o, nilV)
theorem bareP_len (l : List OpD) : (bareP l).length = l.length := by simp [bareP]
theorem bareP_map (l : List OpD) : (bareP l).map (·.1) = l := by
  induction l with
  | nil => rfl
  | cons x r ih => exact congrArg (x :: ·) ih
theorem bareP_own {w : World} {B : Nat} {v : Value} {l : List OpD} (h : w.ownsRow B 40 4 v l.length (flatO (bareP l))) (ha : ∀ o ∈ l, o.attrs = []) : OwnOps w B v l :=
  ⟨bareP l, bareP_map l, by rw [bareP_len]; exact h, fun p hp => by
    obtain ⟨o, ho, rfl⟩ := List.mem_map.1 hp
    show World.ownsRow _ _ _ _ nilV o.attrs.length (flat o.attrs)
    rw [ha o ho]
    exact World.ownsRow_nil _ _ _ _⟩
theorem and127 (z : Int) : 0 ≤ bits .and .i64 z 127 ∧ bits .and .i64 z 127 ≤ 127 := by
  have e : bits .and .i64 z 127 = IntKind.i64.wrap ((BitVec.ofInt 64 z &&& BitVec.ofInt 64 127).toNat : Int) := by simp only [bits]; rfl
  have h : (BitVec.ofInt 64 z &&& BitVec.ofInt 64 127).toNat ≤ 127 := by
    rw [BitVec.toNat_and]
    exact Nat.and_le_right
  rw [e, IntKind.wrap_i64]
  omega
def Keeps (l : List OpD) : Prop := ∀ o ∈ l, ∃ n, o = bareO 1 n ∧ 1 ≤ n ∧ n ≤ 128
theorem chgE_nil : chgE [] = 0 := by decide +kernel
theorem keeps_all {l : List OpD} (h : Keeps l) : allE l ∧ OSized l ∧ dl l = 0 ∧ ins l = 0 ∧ 0 ≤ kd l ∧ kd l ≤ 128 * l.length ∧ ∀ o ∈ l, o.kind = 1 ∧ o.attrs = [] := by
  induction l with
  | nil => exact ⟨(fun o ho => by cases ho), (fun o ho => by cases ho), rfl, rfl, Int.le_refl _, Int.le_refl _, fun o ho => by cases ho⟩
  | cons x r ih =>
    obtain ⟨n, rfl, h1, h2⟩ := h x (List.mem_cons_self ..)
    obtain ⟨a1, a2, a3, a4, a5, a6, a7⟩ := ih fun o ho => h o (List.mem_cons_of_mem _ ho)
    refine ⟨?_, ?_, ?_, ?_, ?_, ?_, ?_⟩
    · intro o ho
      rcases List.mem_cons.1 ho with rfl | ho
      · exact (opE_keep rfl).2 ⟨h1, rfl, chgE_nil⟩
      · exact a1 o ho
    · intro o ho
      rcases List.mem_cons.1 ho with rfl | ho
      · exact ⟨by show (0 : Nat) ≤ _; omega, fun y hy => by cases hy⟩
      · exact a2 o ho
    · simp only [dl, a3]; rfl
    · simp only [ins, a4]; rfl
    · simp only [kd]; rw [if_neg (by decide)]; show 0 ≤ n + kd r; omega
    · simp only [kd]; rw [if_neg (by decide), List.length_cons]; show n + kd r ≤ _; omega
    · intro o ho
      rcases List.mem_cons.1 ho with rfl | ho
      · exact ⟨rfl, rfl⟩
      · exact a7 o ho
theorem keeps_ok {l : List OpD} (h : Keeps l) (hl : l.length ≤ 100) : toE (kd l) l = 0 ∧ toN (kd l) l = kd l ∧ norm l = [] ∧ OSized l ∧ 0 ≤ kd l ∧ kd l ≤ 20000 := by
  obtain ⟨a1, a2, a3, a4, a5, a6, a7⟩ := keeps_all h
  have he : toE (kd l) l = 0 := (toE_iff _ _).2 ⟨a5, by omega, by omega, a1, Int.le_refl _, by omega⟩
  exact ⟨he, by rw [toN_ok he]; omega, norm_keeps a7, a2, a5, by omega⟩
theorem keeps_snoc {l : List OpD} (h : Keeps l) {n : Int} (h1 : 1 ≤ n) (h2 : n ≤ 128) : Keeps (l ++ [bareO 1 n]) := fun o ho => by
  rcases List.mem_append.1 ho with ho | ho
  · exact h o ho
  · rw [List.mem_singleton.1 ho]; exact ⟨n, rfl, h1, h2⟩

theorem nothing_ok (n : Int) (w : World) (h0 : 0 ≤ n) (h1 : n ≤ 20000) : Calls Try.prog 23 #[.int .i64 n] w fun e w' => e = .returned (.tuple #[chAgg n (.slice none 0 0), .int .i64 0]) ∧ Below w.heap.size w w' :=
  (nothing_any n w).mono fun e w' ⟨h, hb⟩ => by
    rcases h with ⟨h, _⟩ | ⟨_, h⟩
    · omega
    · exact ⟨h, hb⟩
theorem to_ok (f n : Int) (v : Value) (ops : List OpD) (w : World) (hv : OpRow w v ops) (hz : OSized ops) (he : toE f ops = 0) (hn : toN f ops = n) :
    Calls Try.prog 18 #[chAgg f v] w fun e w' => e = .returned (.tuple #[.int .i64 n, .int .i64 0]) ∧ Below w.heap.size w w' :=
  (to_any f v ops w hv hz).mono fun e w' ⟨h1, h2⟩ => ⟨by rw [h1, he, hn], h2⟩
theorem same_ok (f : Int) (v u : Value) (ops : List OpD) (w : World) (hv : OpRow w v ops) (hu : OpRow w u ops) : Calls Try.prog 20 #[chAgg f v, chAgg f u] w (OutB w true) := by
  have := changeSame_any f f v u ops ops w hv hu
  rwa [show sameCh f f ops ops = true from decide_eq_true ⟨rfl, rfl⟩] at this
theorem isB_nil {n : Int} (h0 : 0 ≤ n) (h1 : n ≤ 20000) : isB n [] = true := decide_eq_true ⟨by rw [toE_nil, if_neg (by omega)], rfl⟩
theorem heap_of {w w' : World} {i : Nat} {o : Obj} (h : w.heap[i]? = some o) (hb : Below w.heap.size w w') : w'.heap[i]? = some o := (hb.block i (lt_of_heap h)).trans h

set_option maxRecDepth 100000 in
set_option maxHeartbeats 4000000 in
theorem nothing_walk (v : Value) (zs : List Int) (w : World) (hv : IntRow w v zs) :
    Calls Try.prog 7 #[v] w (OutB w true) := by
  obtain ⟨a, cap, rfl, v1, v2, v3⟩ := hv
  have hn : zs.length ≤ 9223372036854775807 := Nat.le_trans v1 v2
  have V3 := Lib.hid v3
  clear v1 v2 v3
  go_enter Try.func7, Try.ntmps7
  go_wp2_with fail
  refine (awake_any _).mono ?_
  rintro e w1 ⟨rfl, b⟩
  have B1 := Lib.hid b
  clear b
  go_wp2_with fail
  go_loopw [5] (fun i wr => ∃ (k : Nat) (l : List OpD) (oa : Option Addr) (oc : Nat), i = .int .i64 (k : Int) ∧ k ≤ zs.length ∧ k ≤ 100 ∧ l.length = k ∧ Keeps l ∧ wr.heap[w1.heap.size]? = some (.cells #[.int .i64 (kd l), .slice oa k oc] 24 (0, 0)) ∧ wr.ownsRow w.heap.size 40 4 (.slice oa k oc) k (flatO (bareP l)) ∧ Below w.heap.size w wr) (fun i _ => zs.length - (intOf i).toNat)
  case atStart => exact ⟨0, [], none, 0, rfl, Nat.zero_le _, Nat.zero_le _, rfl, (fun o ho => by cases ho), heap_new _ _, World.ownsRow_nil _ _ _ _, B1.out.alloc B1.out.size _⟩
  case round =>
    obtain ⟨k, l, oa, oc, rfl, hk, hk2, hl, hkp, hblk, hown, hb⟩ := hrel
    by_cases hlt : k < zs.length ∧ k < 100
    · obtain ⟨hlt, hlt2⟩ := hlt
      have hlt' : (k : Int) < (zs.length : Int) := by omega
      have hlt2' : (k : Int) < 100 := by omega
      obtain ⟨b, off, rfl, hbl, x0⟩ := V3.out k hlt
      have y0 : wr.cell? ⟨b, off + k, none⟩ = some (.int .i64 zs[k]) := (hb.cell (by exact hbl)).trans x0
      have c0 : wr.cell? ⟨w1.heap.size, 0, none⟩ = some (.int .i64 (kd l)) := (Lib.cell_of_heap hblk 0).trans rfl
      have c1 : wr.cell? ⟨w1.heap.size, 1, none⟩ = some (.slice oa k oc) := (Lib.cell_of_heap hblk 1).trans rfl
      have f0 : wr.frozen? ⟨w1.heap.size, 0, none⟩ = false := Lib.frozen_of_heap hblk 0
      have f1 : wr.frozen? ⟨w1.heap.size, 1, none⟩ = false := Lib.frozen_of_heap hblk 1
      have hq := and127 zs[k]
      obtain ⟨r, hr⟩ : ∃ r, bits BinOp.and IntKind.i64 zs[k] 127 = r := ⟨_, rfl⟩
      rw [hr] at hq
      obtain ⟨r0, r1⟩ := hq
      have hkk := keeps_all hkp
      have hF0 : 0 ≤ kd l := hkk.2.2.2.2.1
      have hF1 : kd l ≤ 12800 := by have := hkk.2.2.2.2.2.1; omega
      have HSN := Lib.hid (keeps_snoc hkp (n := 1 + r) (by omega) (by omega))
      have hkd : kd (l ++ [bareO 1 (1 + r)]) = kd l + (1 + r) := by rw [kd_append]; simp only [kd]; rw [if_neg (by decide)]; show kd l + (1 + r + 0) = _; omega
      have HKD := Lib.hid hkd
      have hfl : flatO (bareP l) ++ [.int .i64 1, .int .i64 (1 + r), .string ⟨#[]⟩, .slice none 0 0] = flatO (bareP (l ++ [bareO 1 (1 + r)])) := by
        unfold bareP
        rw [List.map_append, List.map_singleton, flatO_snoc]; rfl
      have HFL := Lib.hid hfl
      have hls : (l ++ [bareO 1 (1 + r)]).length = k + 1 := by rw [List.length_append, hl]; rfl
      have HLS := Lib.hid hls
      have hs1 : w.heap.size ≤ w1.heap.size := B1.out.size
      have KS : Keep w.heap.size [24] wr (wr.setCell ⟨w1.heap.size, 0, none⟩ (.int .i64 (kd l + (1 + r)))) := keep_set hblk (by simp) hs1 _ rfl _
      have BS := nblk_set (j := 0) (u := .int .i64 (kd l + (1 + r))) hblk
      have HO := Lib.hid (KS.own hown (by decide))
      have HB := Lib.hid (hb.trans KS.below)
      have HBS := Lib.hid BS
      have hbase := Lib.hid (show w.heap.size ≤ wr.heap.size from hb.size)
      have hszS : (wr.setCell ⟨w1.heap.size, 0, none⟩ (.int .i64 (kd l + (1 + r)))).heap.size = wr.heap.size := by simp [World.setCell]
      have HSZ := Lib.hid hszS
      obtain ⟨i0, hi, hz0, hz1, hz2⟩ := info_parts infoOp
      have Hi := Lib.hid (And.intro hi (And.intro hz0 (And.intro hz1 hz2)))
      generalize hFF : kd l = F at *
      have HFF := Lib.hid hFF
      clear x0 hblk hown hb hkp hl hkk hkd hfl hls KS BS hi hz0 hz1 hz2 hszS hFF
      go_wp2_with (at_builtin; refine wpList_append_new rfl (.tmp 37) (.tmp 40) 22 rfl 40 i0 (.agg #[.int .i64 0, .int .i64 0, .string ⟨#[]⟩, .slice none 0 0]) 4 56 Try.underlying22 Hi.out.1 Hi.out.2.1 Hi.out.2.2.1 Hi.out.2.2.2 rfl (by decide) w.heap.size (.slice oa k oc) k (flatO (bareP l)) rfl (HO.out.alloc _) ⟨wr.heap.size, 0, none⟩ 1 1 [.int .i64 1, .int .i64 (1 + r), .string ⟨#[]⟩, .slice none 0 0] rfl rfl (by have := new_at4 (wr.setCell ⟨w1.heap.size, 0, none⟩ (.int .i64 (F + (1 + r)))) (.int .i64 1) (.int .i64 (1 + r)) (.string ⟨#[]⟩) (.slice none 0 0) 40; rw [HSZ.out] at this; exact this) (fun u hu => by simp at hu; rcases hu with rfl | rfl | rfl | rfl <;> rfl) (by unfold maxLen; omega) (by omega) (by have := hbase.out; have := HSZ.out; simp at this ⊢; omega) ?_; intro v' w2 oC gC _; obtain ⟨oa', oc', rfl⟩ := own_slice oC; have blk2 := (gC.block w1.heap.size (by have := lt_of_heap HBS.out; simp at this ⊢; omega) (fun e => own_ne HO.out HBS.out (by decide) e.symm)).trans ((Below.heap_alloc _ _ _ (lt_of_heap HBS.out)).trans HBS.out); have e1 : w2.cell? ⟨w1.heap.size, 1, none⟩ = some (.slice oa k oc) := (Lib.cell_of_heap blk2 1).trans rfl; have e2 : w2.frozen? ⟨w1.heap.size, 1, none⟩ = false := Lib.frozen_of_heap blk2 1; have HBK2 := Lib.hid blk2; rw [HFL.out] at oC; have HOC := Lib.hid oC; have HB2 := Lib.hid (((HB.out.alloc (by have := hbase.out; have := HSZ.out; simp at this ⊢; omega) _).grown gC (by have := hbase.out; have := HSZ.out; simp at this ⊢; omega) (fun j hj => (HO.out.lt j hj).1))); clear oC gC blk2)
      have KT : Keep w.heap.size [24] w2 (w2.setCell ⟨w1.heap.size, 1, none⟩ (.slice oa' (k + 1) oc')) := keep_set HBK2.out (by simp) hs1 _ rfl _
      have FB := nblk_set (j := 1) (u := .slice oa' (k + 1) oc') HBK2.out
      have FO := KT.own HOC.out (by decide)
      have FBel := HB2.out.trans KT.below
      have HFin := Lib.hid (And.intro FB (And.intro FO FBel))
      clear KT FB FO FBel
      go_roundw
      case rel => exact ⟨k + 1, l ++ [bareO 1 (1 + r)], oa', oc', by go_num, by omega, by omega, HLS.out, HSN.out, by rw [HKD.out]; exact HFin.out.1, HFin.out.2.1, HFin.out.2.2⟩
      case measure => simp [intOf]; omega
    · by_cases hlt : k < zs.length
      · have hk100 : k = 100 := by omega
        have hkz := Lib.hid hk100
        have hlt' : (k : Int) < (zs.length : Int) := by omega
        have t2 : decide ((k : Int) < 100) = false := decide_eq_false (by omega)
        have t3 : decide (k < 100) = false := decide_eq_false (by omega)
        clear hk100
        have HKK := keeps_ok hkp (by rw [hl]; exact hk2)
        have hown' : wr.ownsRow w.heap.size 40 4 (.slice oa l.length oc) l.length (flatO (bareP l)) := by rw [hl]; exact hown
        have RO := (bareP_own hown' fun o ho => ((keeps_all hkp).2.2.2.2.2.2 o ho).2).row
        rw [hl] at RO
        obtain ⟨q1, q2, q3, q4, q5, q6⟩ := HKK
        have HN := normal_ok (kd l) _ l wr RO q4 q1
        rw [q3] at HN
        have HN := Lib.hid HN
        have HTO := Lib.hid (fun W hW => to_ok (kd l) (kd l) (.slice oa k oc) l W (RO.below hW) q4 q1 q2)
        have HB := Lib.hid hb
        have HBLK := Lib.hid hblk
        generalize kd l = F at *
        have Q := Lib.hid (And.intro q5 q6)
        have c0 : wr.cell? ⟨w1.heap.size, 0, none⟩ = some (.int .i64 F) := (Lib.cell_of_heap hblk 0).trans rfl
        have c1 : wr.cell? ⟨w1.heap.size, 1, none⟩ = some (.slice oa k oc) := (Lib.cell_of_heap hblk 1).trans rfl
        clear hown hown' hb hblk hkp q1 q2 q3 q4 q5 q6 RO hl
        go_wp2_with fail
        refine HN.out.mono ?_
        rintro e w3 ⟨v3, rfl, O3, b3⟩
        obtain ⟨a3, k3, rfl⟩ := O3.row.shape
        have x3 := heap_of HBLK.out b3
        have B3 := Lib.hid (HB.out.trans (b3.mono HB.out.size))
        have d0 : w3.cell? ⟨w1.heap.size, 0, none⟩ = some (.int .i64 F) := (Lib.cell_of_heap x3 0).trans rfl
        have d1 : w3.cell? ⟨w1.heap.size, 1, none⟩ = some (.slice oa k oc) := (Lib.cell_of_heap x3 1).trans rfl
        have lt3 : w1.heap.size < w3.heap.size := lt_of_heap x3
        obtain ⟨Y, hY⟩ : ∃ Y, Y = w3.alloc (.cells #[.int .i64 F, .slice a3 ([] : List OpD).length k3] 24) := ⟨_, rfl⟩
        have BY := Lib.hid (show Below w3.heap.size w3 Y by rw [hY]; exact below_box _ _)
        have yA : Y.heap[w3.heap.size]? = some (.cells #[.int .i64 F, .slice a3 ([] : List OpD).length k3] 24 (0, 0)) := by rw [hY]; exact heap_new _ _
        have yC := heap_of x3 BY.out
        have HO3 := Lib.hid (O3.row.below BY.out)
        have HYA := Lib.hid yA
        have HYC := Lib.hid yC
        have HY := Lib.hid hY
        have BWY := Lib.hid (b3.trans (BY.out.mono b3.size))
        clear O3 b3 x3 hY yA yC c0 c1
        go_wp2_with fail
        rw [show w3.alloc (.cells #[.int .i64 F, .slice a3 0 k3] 24) = Y from HY.out.symm]
        go_wp2_with fail
        refine (nothing_ok F _ Q.out.1 Q.out.2).mono ?_
        rintro e w4 ⟨rfl, b4⟩
        have x4 := heap_of HYC.out b4
        have x4a := heap_of HYA.out b4
        have B4 := Lib.hid (B3.out.trans ((BY.out.trans (b4.mono BY.out.size)).mono B3.out.size))
        have f0 : w4.cell? ⟨w1.heap.size, 0, none⟩ = some (.int .i64 F) := (Lib.cell_of_heap x4 0).trans rfl
        have f1 : w4.cell? ⟨w1.heap.size, 1, none⟩ = some (.slice oa k oc) := (Lib.cell_of_heap x4 1).trans rfl
        have lt4 : w1.heap.size < w4.heap.size := lt_of_heap x4
        obtain ⟨Z, hZ⟩ : ∃ Z, Z = w4.alloc (.cells #[.int .i64 F, .slice none 0 0] 24) := ⟨_, rfl⟩
        have BZ := Lib.hid (show Below w4.heap.size w4 Z by rw [hZ]; exact below_box _ _)
        have zA : Z.heap[w4.heap.size]? = some (.cells #[.int .i64 F, .slice none 0 0] 24 (0, 0)) := by rw [hZ]; exact heap_new _ _
        have HZA := Lib.hid zA
        have HZC := Lib.hid (heap_of x4 BZ.out)
        have HZY := Lib.hid (heap_of x4a BZ.out)
        have HO4 := Lib.hid ((HO3.out.below b4).below BZ.out)
        have HZ := Lib.hid hZ
        have BWZ := Lib.hid (BWY.out.trans ((b4.trans (BZ.out.mono b4.size)).mono BWY.out.size))
        clear b4 x4 x4a hZ zA d0 d1
        go_wp2_with fail
        rw [← HZ.out]
        go_wp2_with fail
        refine (HTO.out Z BWZ.out).mono ?_
        rintro e w5 ⟨rfl, b5⟩
        have x5c := heap_of HZC.out b5
        have x5a := heap_of HZA.out b5
        have x5y := heap_of HZY.out b5
        have g0 : w5.cell? ⟨w1.heap.size, 0, none⟩ = some (.int .i64 F) := (Lib.cell_of_heap x5c 0).trans rfl
        have g1 : w5.cell? ⟨w4.heap.size, 0, none⟩ = some (.int .i64 F) := (Lib.cell_of_heap x5a 0).trans rfl
        have g2 : w5.cell? ⟨w4.heap.size, 1, none⟩ = some (.slice none 0 0) := (Lib.cell_of_heap x5a 1).trans rfl
        have g3 : w5.cell? ⟨w3.heap.size, 0, none⟩ = some (.int .i64 F) := (Lib.cell_of_heap x5y 0).trans rfl
        have g4 : w5.cell? ⟨w3.heap.size, 1, none⟩ = some (.slice a3 0 k3) := (Lib.cell_of_heap x5y 1).trans rfl
        have B5 := Lib.hid (B4.out.trans ((BZ.out.trans (b5.mono BZ.out.size)).mono B4.out.size))
        have HSM := Lib.hid (same_ok F (.slice a3 0 k3) (.slice none 0 0) [] w5 (HO4.out.below b5) (OpRow.nil _))
        have HX5 := Lib.hid x5a
        clear b5 x5c x5y x5a f0 f1
        go_wp2_with fail
        refine HSM.out.mono ?_
        rintro e w6 ⟨rfl, b6⟩
        have x6 := heap_of HX5.out b6
        have h1 : w6.cell? ⟨w4.heap.size, 0, none⟩ = some (.int .i64 F) := (Lib.cell_of_heap x6 0).trans rfl
        have h2 : w6.cell? ⟨w4.heap.size, 1, none⟩ = some (.slice none 0 0) := (Lib.cell_of_heap x6 1).trans rfl
        have B6 := Lib.hid (B5.out.trans (b6.mono B5.out.size))
        clear b6 x6 g0 g1 g2 g3 g4
        have HIS := is_any F (.slice none 0 0) [] w6 (OpRow.nil _) (fun o ho => by cases ho)
        rw [isB_nil Q.out.1 Q.out.2] at HIS
        have HIS := Lib.hid HIS
        go_wp2_with fail
        refine HIS.out.mono ?_
        rintro e w7 ⟨rfl, b7⟩
        have B7 := Lib.hid (B6.out.trans (b7.mono B6.out.size))
        clear b7
        go_wp2_with fail
        go_ret
        exact ⟨rfl, B7.out⟩
      · have t1 : decide ((k : Int) < (zs.length : Int)) = false := decide_eq_false (by omega)
        have t2 : decide (k < zs.length) = false := decide_eq_false (by omega)
        have HKK := keeps_ok hkp (by rw [hl]; exact hk2)
        have hown' : wr.ownsRow w.heap.size 40 4 (.slice oa l.length oc) l.length (flatO (bareP l)) := by rw [hl]; exact hown
        have RO := (bareP_own hown' fun o ho => ((keeps_all hkp).2.2.2.2.2.2 o ho).2).row
        rw [hl] at RO
        obtain ⟨q1, q2, q3, q4, q5, q6⟩ := HKK
        have HN := normal_ok (kd l) _ l wr RO q4 q1
        rw [q3] at HN
        have HN := Lib.hid HN
        have HTO := Lib.hid (fun W hW => to_ok (kd l) (kd l) (.slice oa k oc) l W (RO.below hW) q4 q1 q2)
        have HB := Lib.hid hb
        have HBLK := Lib.hid hblk
        generalize kd l = F at *
        have Q := Lib.hid (And.intro q5 q6)
        have c0 : wr.cell? ⟨w1.heap.size, 0, none⟩ = some (.int .i64 F) := (Lib.cell_of_heap hblk 0).trans rfl
        have c1 : wr.cell? ⟨w1.heap.size, 1, none⟩ = some (.slice oa k oc) := (Lib.cell_of_heap hblk 1).trans rfl
        clear hown hown' hb hblk hkp q1 q2 q3 q4 q5 q6 RO hl
        go_wp2_with fail
        refine HN.out.mono ?_
        rintro e w3 ⟨v3, rfl, O3, b3⟩
        obtain ⟨a3, k3, rfl⟩ := O3.row.shape
        have x3 := heap_of HBLK.out b3
        have B3 := Lib.hid (HB.out.trans (b3.mono HB.out.size))
        have d0 : w3.cell? ⟨w1.heap.size, 0, none⟩ = some (.int .i64 F) := (Lib.cell_of_heap x3 0).trans rfl
        have d1 : w3.cell? ⟨w1.heap.size, 1, none⟩ = some (.slice oa k oc) := (Lib.cell_of_heap x3 1).trans rfl
        have lt3 : w1.heap.size < w3.heap.size := lt_of_heap x3
        obtain ⟨Y, hY⟩ : ∃ Y, Y = w3.alloc (.cells #[.int .i64 F, .slice a3 ([] : List OpD).length k3] 24) := ⟨_, rfl⟩
        have BY := Lib.hid (show Below w3.heap.size w3 Y by rw [hY]; exact below_box _ _)
        have yA : Y.heap[w3.heap.size]? = some (.cells #[.int .i64 F, .slice a3 ([] : List OpD).length k3] 24 (0, 0)) := by rw [hY]; exact heap_new _ _
        have yC := heap_of x3 BY.out
        have HO3 := Lib.hid (O3.row.below BY.out)
        have HYA := Lib.hid yA
        have HYC := Lib.hid yC
        have HY := Lib.hid hY
        have BWY := Lib.hid (b3.trans (BY.out.mono b3.size))
        clear O3 b3 x3 hY yA yC c0 c1
        go_wp2_with fail
        rw [show w3.alloc (.cells #[.int .i64 F, .slice a3 0 k3] 24) = Y from HY.out.symm]
        go_wp2_with fail
        refine (nothing_ok F _ Q.out.1 Q.out.2).mono ?_
        rintro e w4 ⟨rfl, b4⟩
        have x4 := heap_of HYC.out b4
        have x4a := heap_of HYA.out b4
        have B4 := Lib.hid (B3.out.trans ((BY.out.trans (b4.mono BY.out.size)).mono B3.out.size))
        have f0 : w4.cell? ⟨w1.heap.size, 0, none⟩ = some (.int .i64 F) := (Lib.cell_of_heap x4 0).trans rfl
        have f1 : w4.cell? ⟨w1.heap.size, 1, none⟩ = some (.slice oa k oc) := (Lib.cell_of_heap x4 1).trans rfl
        have lt4 : w1.heap.size < w4.heap.size := lt_of_heap x4
        obtain ⟨Z, hZ⟩ : ∃ Z, Z = w4.alloc (.cells #[.int .i64 F, .slice none 0 0] 24) := ⟨_, rfl⟩
        have BZ := Lib.hid (show Below w4.heap.size w4 Z by rw [hZ]; exact below_box _ _)
        have zA : Z.heap[w4.heap.size]? = some (.cells #[.int .i64 F, .slice none 0 0] 24 (0, 0)) := by rw [hZ]; exact heap_new _ _
        have HZA := Lib.hid zA
        have HZC := Lib.hid (heap_of x4 BZ.out)
        have HZY := Lib.hid (heap_of x4a BZ.out)
        have HO4 := Lib.hid ((HO3.out.below b4).below BZ.out)
        have HZ := Lib.hid hZ
        have BWZ := Lib.hid (BWY.out.trans ((b4.trans (BZ.out.mono b4.size)).mono BWY.out.size))
        clear b4 x4 x4a hZ zA d0 d1
        go_wp2_with fail
        rw [← HZ.out]
        go_wp2_with fail
        refine (HTO.out Z BWZ.out).mono ?_
        rintro e w5 ⟨rfl, b5⟩
        have x5c := heap_of HZC.out b5
        have x5a := heap_of HZA.out b5
        have x5y := heap_of HZY.out b5
        have g0 : w5.cell? ⟨w1.heap.size, 0, none⟩ = some (.int .i64 F) := (Lib.cell_of_heap x5c 0).trans rfl
        have g1 : w5.cell? ⟨w4.heap.size, 0, none⟩ = some (.int .i64 F) := (Lib.cell_of_heap x5a 0).trans rfl
        have g2 : w5.cell? ⟨w4.heap.size, 1, none⟩ = some (.slice none 0 0) := (Lib.cell_of_heap x5a 1).trans rfl
        have g3 : w5.cell? ⟨w3.heap.size, 0, none⟩ = some (.int .i64 F) := (Lib.cell_of_heap x5y 0).trans rfl
        have g4 : w5.cell? ⟨w3.heap.size, 1, none⟩ = some (.slice a3 0 k3) := (Lib.cell_of_heap x5y 1).trans rfl
        have B5 := Lib.hid (B4.out.trans ((BZ.out.trans (b5.mono BZ.out.size)).mono B4.out.size))
        have HSM := Lib.hid (same_ok F (.slice a3 0 k3) (.slice none 0 0) [] w5 (HO4.out.below b5) (OpRow.nil _))
        have HX5 := Lib.hid x5a
        clear b5 x5c x5y x5a f0 f1
        go_wp2_with fail
        refine HSM.out.mono ?_
        rintro e w6 ⟨rfl, b6⟩
        have x6 := heap_of HX5.out b6
        have h1 : w6.cell? ⟨w4.heap.size, 0, none⟩ = some (.int .i64 F) := (Lib.cell_of_heap x6 0).trans rfl
        have h2 : w6.cell? ⟨w4.heap.size, 1, none⟩ = some (.slice none 0 0) := (Lib.cell_of_heap x6 1).trans rfl
        have B6 := Lib.hid (B5.out.trans (b6.mono B5.out.size))
        clear b6 x6 g0 g1 g2 g3 g4
        have HIS := is_any F (.slice none 0 0) [] w6 (OpRow.nil _) (fun o ho => by cases ho)
        rw [isB_nil Q.out.1 Q.out.2] at HIS
        have HIS := Lib.hid HIS
        go_wp2_with fail
        refine HIS.out.mono ?_
        rintro e w7 ⟨rfl, b7⟩
        have B7 := Lib.hid (B6.out.trans (b7.mono B6.out.size))
        clear b7
        go_wp2_with fail
        go_ret
        exact ⟨rfl, B7.out⟩
end Go.Proofs.Ytggjeiemofkfbaa
