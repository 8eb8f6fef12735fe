/- Sums, numbers, seals, twice: the law's walk. -/
import Derived.Test.YtbnkpbphahjomaaDoorSa
import Derived.Test.YtbnkpbphahjomaaDoorSw
namespace Go.Proofs.YtbnkpbphahjomaaDoor
open Go.RowKit Su

theorem OwnU.shapeW {w : World} {B : Nat} {v : Value} {l : List UInt8} (h : OwnU w B v l) : ∃ a n cap, v = .slice a n cap := by
  obtain ⟨a, cap, e⟩ := h.shape
  exact ⟨a, _, cap, e⟩
theorem nil_own (w : World) (B : Nat) : OwnU w B (.slice none 0 0) [] := ⟨rfl, .inl ⟨rfl, rfl⟩⟩
open Classical in
noncomputable def numE (n s : Int) : Int := if fitsN n s then 0 else 1
open Classical in
noncomputable def numL (n s : Int) : List UInt8 := if fitsN n s then be s.toNat n.toNat else []
def openT (l : List UInt8) : Bool := (openB l).isSome
def openL (l : List UInt8) : List UInt8 := (openB l).getD []
theorem num_all {n s : Int} {w : World} {e : Ending} {w' : World} (h : NumOut n s w e w') : ∃ v, e = .returned (.tuple #[v, .int .i64 (numE n s)]) ∧ OwnU w' w.heap.size v (numL n s) ∧ Below w.heap.size w w' := by
  obtain ⟨v, h | h, hb⟩ := h
  · obtain ⟨f, rfl, ho⟩ := h
    refine ⟨v, ?_, ?_, hb⟩
    · unfold numE; rw [if_pos f]
    · unfold numL; rw [if_pos f]; exact ho
  · obtain ⟨f, rfl, rfl⟩ := h
    refine ⟨.slice none 0 0, ?_, ?_, hb⟩
    · unfold numE; rw [if_neg f]
    · unfold numL; rw [if_neg f]; exact nil_own _ _
theorem open_all {l : List UInt8} {w : World} {e : Ending} {w' : World} (h : OpenOut l w e w') : ∃ v, e = .returned (.tuple #[v, .bool (openT l)]) ∧ OwnU w' w.heap.size v (openL l) ∧ Below w.heap.size w w' := by
  obtain ⟨v, ⟨m, hm, rfl, ho⟩ | ⟨hm, rfl, rfl⟩, hb⟩ := h
  · refine ⟨v, ?_, ?_, hb⟩
    · unfold openT; rw [hm]; rfl
    · unfold openL; rw [hm]; exact ho
  · refine ⟨.slice none 0 0, ?_, ?_, hb⟩
    · unfold openT; rw [hm]; rfl
    · unfold openL; rw [hm]; exact nil_own _ _
theorem openL_len (l : List UInt8) : (openL l).length ≤ l.length := by
  unfold openL
  cases h : openB l with
  | none => simp
  | some m => have := seal_len m; rw [seal_open h] at this; simp; omega
theorem numL_len (n s : Int) : (numL n s).length ≤ 8 := by
  unfold numL
  split
  · rename_i f; rw [be_len]; have := f.2.1; omega
  · simp
/-- A row's block lies between. -/
def InU (v : Value) (lo hi : Nat) : Prop := ∀ g, v.ownBlock = some g → lo ≤ g ∧ g < hi
theorem OwnU.inU {w : World} {B : Nat} {v : Value} {l : List UInt8} (h : OwnU w B v l) : InU v B w.heap.size := fun g hg => h.lt g hg
theorem apart4 {r0 r1 r2 r3 : VB} {a0 b0 a1 b1 a2 b2 a3 b3 : Nat} (h0 : InU r0.1 a0 b0) (h1 : InU r1.1 a1 b1) (h2 : InU r2.1 a2 b2) (h3 : InU r3.1 a3 b3) (q0 : b0 ≤ a1) (q1 : b1 ≤ a2) (q2 : b2 ≤ a3) (p1 : a1 ≤ b1) (p2 : a2 ≤ b2) : ApartU [r0, r1, r2, r3] := by
  intro i j hi hj hne g hg hg2
  have key : ∀ k (hk : k < [r0, r1, r2, r3].length), [r0, r1, r2, r3][k].1.ownBlock = some g → (k = 0 ∧ a0 ≤ g ∧ g < b0) ∨ (k = 1 ∧ a1 ≤ g ∧ g < b1) ∨ (k = 2 ∧ a2 ≤ g ∧ g < b2) ∨ (k = 3 ∧ a3 ≤ g ∧ g < b3) := by
    intro k hk h
    match k, hk, h with
    | 0, _, h => exact .inl ⟨rfl, h0 g h⟩
    | 1, _, h => exact .inr (.inl ⟨rfl, h1 g h⟩)
    | 2, _, h => exact .inr (.inr (.inl ⟨rfl, h2 g h⟩))
    | 3, _, h => exact .inr (.inr (.inr ⟨rfl, h3 g h⟩))
  have k1 := key i hi hg
  have k2 := key j hj hg2
  omega
theorem rows4 {w : World} {B : Nat} {r0 r1 r2 r3 : VB} (h0 : OwnU w B r0.1 r0.2) (h1 : OwnU w B r1.1 r1.2) (h2 : OwnU w B r2.1 r2.2) (h3 : OwnU w B r3.1 r3.2) : RowsU w B [r0, r1, r2, r3] 0 := by
  intro j hj _
  match j, hj with
  | 0, _ => exact h0
  | 1, _ => exact h1
  | 2, _ => exact h2
  | 3, _ => exact h3

set_option maxRecDepth 100000 in
set_option maxHeartbeats 8000000 in
theorem works_walk (v : Value) (l : List UInt8) (n s a : Int) (w : World) (hf : Fo w) (hv : BRow w v l) (hl : l.length + 8 ≤ 140737488355328) (hn : -9223372036854775808 ≤ n) (hn' : n ≤ 9223372036854775807) (hs : -9223372036854775808 ≤ s) (hs' : s ≤ 9223372036854775807) (ha : -9223372036854775808 ≤ a) (ha' : a ≤ 9223372036854775807) :
    Calls Tryd.prog 3 #[v, .int .i64 n, .int .i64 s, .int .i64 a] w fun e w' => e = .returned (.bool true) ∧ Below w.heap.size w w' := by
  have HA := Lib.hid (awake_any w hf)
  have HV := Lib.hid hv
  have HF := Lib.hid hf
  have CSame := Lib.hid (fun (W : World) (x y : Value) (m : List UInt8) (h : BRow W x m) (h' : BRow W y m) => (same_any x y m m W h h'))
  simp only [decide_true] at CSame
  have CRead := Lib.hid (fun (W : World) (x : Value) (h : BRow W x l) => read_any x l a s W h ha ha' hs hs')
  have CRefRead := Lib.hid (fun (W : World) (x : Value) (h : BRow W x l) => refRead_any x l a s W h ha ha' hs hs')
  have CNum := Lib.hid (fun W : World => (number_any n s W hn hn' hs hs').mono fun _ _ => num_all)
  have CRefNum := Lib.hid (fun W : World => (refNumber_any n s W hn').mono fun _ _ => num_all)
  have COpen := Lib.hid (fun (W : World) (x : Value) (h : BRow W x l) (h2 : Fo W) => (open_any x l W h h2 (by omega)).mono fun _ _ => open_all)
  have CRefOpen := Lib.hid (fun (W : World) (x : Value) (h : BRow W x l) => (refOpen_any x l W h (by omega)).mono fun _ _ => open_all)
  have CSeal := Lib.hid (fun (W : World) (x : Value) (h : BRow W x l) (h2 : Fo W) => seal_any x l W h h2 (by omega))
  have CRefSeal := Lib.hid (fun (W : World) (x : Value) (h : BRow W x l) => refSeal_any x l W h (by omega))
  have CSum := Lib.hid (fun (W : World) (x : Value) (h : BRow W x l) (h2 : Fo W) => sum_any x l W h h2)
  have CRefSum := Lib.hid (fun (W : World) (x : Value) (h : BRow W x l) => refSum_any x l W h)
  have CLent := Lib.hid (fun (W : World) (x : Value) (h : BRow W x l) => lent_any x l W h (by omega))
  have CKept := Lib.hid (fun (W : World) (B : Nat) (x y : Value) (h : LentU W B x l) (h' : BRow W y l) => kept_any x y B l W h h' (by omega))
  have HN1 := Lib.hid (show (sealed l).length + 2 ≤ 140737488355328 by rw [seal_len]; omega)
  have HN2 := Lib.hid (show (openL l).length + 2 ≤ 140737488355328 by have := openL_len l; omega)
  have HN3 := Lib.hid (show (numL n s).length + 2 ≤ 140737488355328 by have := numL_len n s; omega)
  obtain ⟨rv, hrv⟩ : ∃ r, r = readV l a s := ⟨_, rfl⟩
  obtain ⟨re, hre⟩ : ∃ r, r = readE l a s := ⟨_, rfl⟩
  obtain ⟨ne, hne⟩ : ∃ r, r = numE n s := ⟨_, rfl⟩
  obtain ⟨nl, hnl⟩ : ∃ r, r = numL n s := ⟨_, rfl⟩
  obtain ⟨ot, hot⟩ : ∃ r, r = openT l := ⟨_, rfl⟩
  obtain ⟨ol, hol⟩ : ∃ r, r = openL l := ⟨_, rfl⟩
  obtain ⟨sl, hsl⟩ : ∃ r, r = sealed l := ⟨_, rfl⟩
  obtain ⟨sm, hsm⟩ : ∃ r, r = sum l := ⟨_, rfl⟩
  rw [← hrv, ← hre] at CRead CRefRead
  rw [← hne, ← hnl] at CNum CRefNum
  rw [← hot, ← hol] at COpen CRefOpen
  rw [← hsl] at CSeal CRefSeal HN1
  rw [← hol] at HN2
  rw [← hnl] at HN3
  rw [← hsm] at CSum CRefSum
  obtain ⟨va, vc, rfl⟩ : ∃ x k, v = .slice x l.length k := by obtain ⟨x, c, h, _⟩ := hv; exact ⟨x, c, h⟩
  clear hrv hre hne hnl hot hol hsl hsm hv hf hl hn hn' hs hs' ha ha'
  obtain ⟨vn, hvn⟩ : ∃ k, k = l.length := ⟨_, rfl⟩
  have HVN := Lib.hid hvn
  rw [← hvn] at HV ⊢
  clear hvn
  go_enter Tryd.func3, Tryd.ntmps3
  go_wp2_with fail
  refine HA.out.mono ?_
  rintro e w1 ⟨rfl, hb1⟩
  have HB1 := Lib.hid hb1
  clear hb1
  go_wp2_with fail
  refine (CLent.out w1 _ (HV.out.below HB1.out)).mono ?_
  rintro e w2 ⟨vi, rfl, hL, hb⟩
  have HL2 := Lib.hid hL
  have HB2 := Lib.hid (HB1.out.trans (hb.mono HB1.out.size))
  have hz2 : w1.heap.size ≤ w2.heap.size := hb.size
  have HLB := Lib.hid (show InU vi w1.heap.size w2.heap.size from by obtain ⟨g, c, e, h⟩ := hL; rw [e]; exact h.inU)
  have HLow := Lib.hid (show ∀ g, vi.ownBlock = some g → w.heap.size ≤ g from fun g hg => Nat.le_trans HB1.out.size (HLB.out g hg).1)
  obtain ⟨ia, inn, ic, rfl⟩ : ∃ x k c, vi = .slice x k c := by obtain ⟨g, c, e, h⟩ := hL; exact ⟨_, _, _, e⟩
  clear hL hb
  go_wp2_with fail
  refine (CSum.out w2 _ HL2.out.row (HF.out.below HB2.out)).mono ?_
  rintro e w3 ⟨rfl, hb⟩
  have HB3 := Lib.hid (HB2.out.trans (hb.mono HB2.out.size))
  have HL3 := Lib.hid (HL2.out.below hb)
  have hz3 : w2.heap.size ≤ w3.heap.size := hb.size
  clear hb
  clear HL2
  go_wp2_with fail
  refine (CRead.out w3 _ HL3.out.row).mono ?_
  rintro e w4 ⟨rfl, rfl⟩
  go_wp2_with fail
  refine (CSeal.out w3 _ HL3.out.row (HF.out.below HB3.out)).mono ?_
  rintro e w4 ⟨vx, rfl, ho, hb⟩
  have HB4 := Lib.hid (HB3.out.trans (hb.mono HB3.out.size))
  have HL4 := Lib.hid (HL3.out.below hb)
  have hz4 : w3.heap.size ≤ w4.heap.size := hb.size
  have HIx := Lib.hid ho.inU
  have HOx4 := Lib.hid (own_low ho HB3.out.size)
  obtain ⟨xa, xn, xc, rfl⟩ := ho.shapeW
  clear ho
  clear hb
  clear HL3
  go_wp2_with fail
  refine (COpen.out w4 _ HL4.out.row (HF.out.below HB4.out)).mono ?_
  rintro e w5 ⟨vy, rfl, ho, hb⟩
  have HB5 := Lib.hid (HB4.out.trans (hb.mono HB4.out.size))
  have HOx5 := Lib.hid (HOx4.out.below hb)
  have HL5 := Lib.hid (HL4.out.below hb)
  have hz5 : w4.heap.size ≤ w5.heap.size := hb.size
  have HIy := Lib.hid ho.inU
  have HOy5 := Lib.hid (own_low ho HB4.out.size)
  obtain ⟨ya, yn, yc, rfl⟩ := ho.shapeW
  clear ho
  clear hb
  clear HOx4
  clear HL4
  go_wp2_with fail
  refine (CKept.out w5 w1.heap.size _ _ HL5.out (HV.out.below HB5.out)).mono ?_
  rintro e w6 ⟨rfl, g, hg, hgr⟩
  have HG := Lib.hid (HLB.out g hg)
  have HB6 := Lib.hid (HB5.out.grown hgr HB5.out.size (fun k hk => by cases hk; exact HLow.out g hg))
  have HOx6 := Lib.hid (HOx5.out.grown hgr (fun k hk e => by cases e; have h1 := (HIx.out g hk).1; have h2 := HG.out.2; omega))
  have HOy6 := Lib.hid (HOy5.out.grown hgr (fun k hk e => by cases e; have h1 := (HIy.out g hk).1; have h2 := HG.out.2; omega))
  have hz6 : w5.heap.size ≤ w6.heap.size := hgr.size
  clear hg hgr HL5 HOx5 HOy5
  go_wp2_with fail
  refine (CNum.out w6).mono ?_
  rintro e w7 ⟨vz, rfl, ho, hb⟩
  have HB7 := Lib.hid (HB6.out.trans (hb.mono HB6.out.size))
  have HOx7 := Lib.hid (HOx6.out.below hb)
  have HOy7 := Lib.hid (HOy6.out.below hb)
  have hz7 : w6.heap.size ≤ w7.heap.size := hb.size
  have HIz := Lib.hid ho.inU
  have HOz7 := Lib.hid (own_low ho HB6.out.size)
  obtain ⟨za, zn, zc, rfl⟩ := ho.shapeW
  clear ho
  clear hb
  clear HOx6
  clear HOy6
  go_wp2_with fail
  refine (CRefRead.out w7 _ (HV.out.below HB7.out)).mono ?_
  rintro e w8 ⟨rfl, rfl⟩
  go_wp2_with fail
  refine (CRefOpen.out w7 _ (HV.out.below HB7.out)).mono ?_
  rintro e w8 ⟨vp, rfl, ho, hb⟩
  have HB8 := Lib.hid (HB7.out.trans (hb.mono HB7.out.size))
  have HOx8 := Lib.hid (HOx7.out.below hb)
  have HOy8 := Lib.hid (HOy7.out.below hb)
  have HOz8 := Lib.hid (HOz7.out.below hb)
  have hz8 : w7.heap.size ≤ w8.heap.size := hb.size
  have HIp := Lib.hid ho.inU
  have HOp8 := Lib.hid (own_low ho HB7.out.size)
  obtain ⟨pa, pn, pc, rfl⟩ := ho.shapeW
  clear ho
  clear hb
  clear HOx7
  clear HOy7
  clear HOz7
  go_wp2_with fail
  refine (CRefNum.out w8).mono ?_
  rintro e w9 ⟨vq, rfl, ho, hb⟩
  have HB9 := Lib.hid (HB8.out.trans (hb.mono HB8.out.size))
  have HOx9 := Lib.hid (HOx8.out.below hb)
  have HOy9 := Lib.hid (HOy8.out.below hb)
  have HOz9 := Lib.hid (HOz8.out.below hb)
  have HOp9 := Lib.hid (HOp8.out.below hb)
  have hz9 : w8.heap.size ≤ w9.heap.size := hb.size
  have HIq := Lib.hid ho.inU
  have HOq9 := Lib.hid (own_low ho HB8.out.size)
  obtain ⟨qa, qn, qc, rfl⟩ := ho.shapeW
  clear ho
  clear hb
  clear HOx8
  clear HOy8
  clear HOz8
  clear HOp8
  go_wp2_with fail
  refine (CRefSeal.out w9 _ (HV.out.below HB9.out)).mono ?_
  rintro e w10 ⟨vr, rfl, ho, hb⟩
  have HB10 := Lib.hid (HB9.out.trans (hb.mono HB9.out.size))
  have HOx10 := Lib.hid (HOx9.out.below hb)
  have HOy10 := Lib.hid (HOy9.out.below hb)
  have HOz10 := Lib.hid (HOz9.out.below hb)
  have HOp10 := Lib.hid (HOp9.out.below hb)
  have HOq10 := Lib.hid (HOq9.out.below hb)
  have hz10 : w9.heap.size ≤ w10.heap.size := hb.size
  have HIr := Lib.hid ho.inU
  have HOr10 := Lib.hid (own_low ho HB9.out.size)
  obtain ⟨ra, rn, rc, rfl⟩ := ho.shapeW
  clear ho
  clear hb
  clear HOx9
  clear HOy9
  clear HOz9
  clear HOp9
  clear HOq9
  go_wp2_with fail
  refine (CSame.out w10 _ _ sl HOx10.out.row HOr10.out.row).mono ?_
  rintro e w11 ⟨rfl, rfl⟩
  go_wp2_with fail
  refine (CSame.out w10 _ _ ol HOy10.out.row HOp10.out.row).mono ?_
  rintro e w11 ⟨rfl, rfl⟩
  go_wp2_with fail
  refine (CSame.out w10 _ _ nl HOz10.out.row HOq10.out.row).mono ?_
  rintro e w11 ⟨rfl, rfl⟩
  go_wp2_with fail
  refine (CSeal.out w10 _ (HV.out.below HB10.out) (HF.out.below HB10.out)).mono ?_
  rintro e w11 ⟨vs, rfl, ho, hb⟩
  have HB11 := Lib.hid (HB10.out.trans (hb.mono HB10.out.size))
  have HOx11 := Lib.hid (HOx10.out.below hb)
  have HOy11 := Lib.hid (HOy10.out.below hb)
  have HOz11 := Lib.hid (HOz10.out.below hb)
  have HOp11 := Lib.hid (HOp10.out.below hb)
  have HOq11 := Lib.hid (HOq10.out.below hb)
  have HOr11 := Lib.hid (HOr10.out.below hb)
  have hz11 : w10.heap.size ≤ w11.heap.size := hb.size
  have HIs := Lib.hid ho.inU
  have HOs11 := Lib.hid (own_low ho HB10.out.size)
  obtain ⟨sa, sn, sc, rfl⟩ := ho.shapeW
  clear ho
  clear hb
  clear HOx10
  clear HOy10
  clear HOz10
  clear HOp10
  clear HOq10
  clear HOr10
  have hAP := apart4 (r0 := ((.slice xa xn xc), sl)) (r1 := ((.slice ya yn yc), ol)) (r2 := ((.slice za zn zc), nl)) (r3 := ((.slice sa sn sc), sl)) HIx.out HIy.out HIz.out HIs.out (by omega) (by omega) (by omega) (by omega) (by omega)
  have hRW := rows4 (r0 := ((.slice xa xn xc), sl)) (r1 := ((.slice ya yn yc), ol)) (r2 := ((.slice za zn zc), nl)) (r3 := ((.slice sa sn sc), sl)) (OwnU.alloc HOx11.out (.cells (rowArr [((.slice xa xn xc), sl), ((.slice ya yn yc), ol), ((.slice za zn zc), nl), ((.slice sa sn sc), sl)]) 22)) (OwnU.alloc HOy11.out _) (OwnU.alloc HOz11.out _) (OwnU.alloc HOs11.out _)
  have HOWN := Lib.hid (owned_any w11.heap.size w.heap.size [((.slice xa xn xc), sl), ((.slice ya yn yc), ol), ((.slice za zn zc), nl), ((.slice sa sn sc), sl)] _ (heap_alloc_last w11 (.cells (rowArr [((.slice xa xn xc), sl), ((.slice ya yn yc), ol), ((.slice za zn zc), nl), ((.slice sa sn sc), sl)]) 22)) hRW hAP (by have := HB11.out.size; simp; omega) (by simp) (by intro j hj; match j, hj with | 0, _ => exact HN1.out | 1, _ => exact HN2.out | 2, _ => exact HN3.out | 3, _ => exact HN1.out))
  clear hAP hRW
  have HOWN2 := Lib.hid (show Calls Tryd.prog 20 #[.slice (some ⟨w11.heap.size, 0, none⟩) 4 4] (w11.alloc (.cells #[(.slice xa xn xc), (.slice ya yn yc), (.slice za zn zc), (.slice sa sn sc)] 22)) (fun e w' => e = .returned (.bool true) ∧ Below w.heap.size (w11.alloc (.cells #[(.slice xa xn xc), (.slice ya yn yc), (.slice za zn zc), (.slice sa sn sc)] 22)) w') from HOWN.out)
  clear HOWN HOx11 HOy11 HOz11 HOp11 HOq11 HOr11 HOs11
  go_wp2_with fail
  refine HOWN2.out.mono ?_
  rintro e w12 ⟨rfl, hb⟩
  have HB12 := Lib.hid ((HB11.out.alloc HB11.out.size _).trans hb)
  clear hb
  go_wp2_with fail
  refine (CSeal.out w12 _ (HV.out.below HB12.out) (HF.out.below HB12.out)).mono ?_
  rintro e w13 ⟨vt, rfl, ho, hb⟩
  have HB13 := Lib.hid (HB12.out.trans (hb.mono HB12.out.size))
  have hz13 : w12.heap.size ≤ w13.heap.size := hb.size
  have HIt := Lib.hid ho.inU
  have HOt13 := Lib.hid (own_low ho HB12.out.size)
  obtain ⟨ta, tn, tc, rfl⟩ := ho.shapeW
  clear ho
  clear hb
  go_wp2_with fail
  refine (CRefSeal.out w13 _ (HV.out.below HB13.out)).mono ?_
  rintro e w14 ⟨vu, rfl, ho, hb⟩
  have HB14 := Lib.hid (HB13.out.trans (hb.mono HB13.out.size))
  have HOt14 := Lib.hid (HOt13.out.below hb)
  have hz14 : w13.heap.size ≤ w14.heap.size := hb.size
  have HIu := Lib.hid ho.inU
  have HOu14 := Lib.hid (own_low ho HB13.out.size)
  obtain ⟨ua, un, uc, rfl⟩ := ho.shapeW
  clear ho
  clear hb
  clear HOt13
  go_wp2_with fail
  refine (CSame.out w14 _ _ sl HOt14.out.row HOu14.out.row).mono ?_
  rintro e w15 ⟨rfl, rfl⟩
  go_wp2_with fail
  refine (CRefSum.out w14 _ (HV.out.below HB14.out)).mono ?_
  rintro e w15 ⟨rfl, rfl⟩
  go_wp2_with fail
  go_ret
  exact ⟨rfl, HB14.out⟩
end Go.Proofs.YtbnkpbphahjomaaDoor
