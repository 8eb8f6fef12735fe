/- The law TupleOrder, walked. -/
import Derived.Test.YtpinmkoaihjhfaaTv
namespace Go.Proofs.Ytpinmkoaihjhfaa
open Go.RowKit Su Tp
attribute [local go_sem] Oper.semAt_some

theorem ord_three : ∀ a b : List Pt, -1 ≤ ord a b ∧ ord a b ≤ 1
  | [], [] => by simp [ord]
  | [], _ :: _ => by simp [ord]
  | _ :: _, [] => by simp [ord]
  | p :: a, q :: b => by
    rw [ord]
    split
    · exact ord_three a b
    · unfold opP
      have hc : ∀ x y : Int, -1 ≤ ci x y ∧ ci x y ≤ 1 := fun x y => by
        unfold ci
        repeat' split <;> omega
      have h2 := cm_three p.2.2 q.2.2
      have h0 := hc p.1 q.1
      have h1 := hc p.2.1 q.2.1
      split
      · split
        · omega
        · exact h1
      · exact h0
theorem run_headP (w : World) (a : Option Addr) (n cap k : Nat) (l : List Pt) (h : PRow w (.slice a n cap) l) (hk : k ≤ l.length) : ∃ a' c', (∀ W, (Instr.sliceAt 22 (.slice a n cap) none (some (.int .i64 (k : Int))) none).run Try.prog W = .ok (.slice a' k c') W) ∧ PRow w (.slice a' k c') (l.take k) := by
  obtain ⟨⟨a0, cap0, he, h1, h2, h3, h4⟩, h5⟩ := h
  simp only [Value.slice.injEq] at he
  obtain ⟨rfl, rfl, rfl⟩ := he
  have hs : sliced a 0 k cap 3 = .slice (if cap = 0 then a else a.map (·.add (0 * 3))) k (cap - 0) := rfl
  have hl : (l.take k).length = k := by rw [List.length_take]; omega
  refine ⟨if cap = 0 then a else a.map (·.add (0 * 3)), cap - 0, fun W => ?_, ⟨if cap = 0 then a else a.map (·.add (0 * 3)), cap - 0, by rw [hl], by rw [hl]; omega, by omega, fun e => ?_, fun i hi => ?_⟩, fun p hp => h5 p (List.mem_of_mem_take hp)⟩
  · rw [run_sliceAt_slice W _ _ _ _ _ underP, run_slice_h W _ _ _ _ underP .i64 _ (by omega) (by omega), elemP, Try.sizeOf25]
    rfl
  · split at e
    · have := h3 e; omega
    · cases a with
      | none => have := h3 rfl; omega
      | some _ => cases e
  · rw [hl] at hi
    obtain ⟨b, off, rfl, hb, c1, c2, c3⟩ := h4 i (by omega)
    refine ⟨b, off, ?_, hb, ?_⟩
    · rw [if_neg (by omega)]
      show some ((⟨b, off, none⟩ : Addr).add (0 * 3)) = _
      rw [add_at]; rfl
    · rw [List.getElem_take]
      exact ⟨c1, c2, c3⟩
theorem goes_iff {a b : List Pt} (ha : allP a) (hb : allP b) : keyB a <+: keyB b ↔ a.length ≤ b.length ∧ b.take a.length = a := by
  constructor
  · rintro ⟨x, hx⟩
    obtain ⟨c, rfl, _⟩ := key_cut a b x ha hb hx.symm
    exact ⟨by simp, by simp⟩
  · rintro ⟨h1, h2⟩
    refine ⟨keyB (b.drop a.length), ?_⟩
    rw [← keyB_append]
    conv => lhs; rw [← h2]
    rw [h2]
    conv => rhs; rw [← List.take_append_drop a.length b, h2]
theorem key_all {a : List Pt} (h : keyE a = 0) (hi : ∀ p ∈ a, InP p) : allP a ∧ keyT a = keyB a ∧ (keyB a).length ≤ 100 ∧ right a := by
  obtain ⟨h1, h2⟩ := keyE_zero.1 h
  exact ⟨fun p hp => ⟨h1.2.2 p hp, hi p hp⟩, keyT_ok h1 h2, h2, h1⟩
theorem key_head {a : List Pt} (hr : right a) (ha : allP a) : aft (keyB a) ≠ [] := by
  cases a with
  | nil => have := hr.1; simp at this
  | cons p a =>
    rw [keyB_cons]
    obtain ⟨⟨h1, _⟩ | ⟨h1, _⟩, _⟩ := ha p (by simp)
    · unfold partK; rw [if_pos h1]; exact aft_head _ _ (by decide)
    · unfold partK; rw [if_neg (by omega)]; exact aft_head _ _ (by decide)
set_option maxRecDepth 100000 in
set_option maxHeartbeats 8000000 in
theorem torder_any (v u : Value) (a b : List Pt) (w : World) (hv : PRow w v a) (hu : PRow w u b) (za : SzP a) (zb : SzP b) :
    Calls Try.prog 4 #[v, u] w fun e w' => e = .returned (.bool true) ∧ Below w.heap.size w w' := by
  obtain ⟨aa, ac, rfl, hac, hac2⟩ := hv.shape
  obtain ⟨ba, bc, rfl, hbc, hbc2⟩ := hu.shape
  have HA := Lib.hid hv
  have HB := Lib.hid hu
  have HZA := Lib.hid za
  have HZB := Lib.hid zb
  have hn : a.length ≤ 9223372036854775807 := Nat.le_trans hac hac2
  have hn' : b.length ≤ 9223372036854775807 := Nat.le_trans hbc hbc2
  have hbc3 : b.length ≤ bc := hbc
  have HAW := Lib.hid (awake_any w)
  clear hv hu hac hac2 hbc hbc2 za zb
  go_enter Try.func4, Try.ntmps4
  go_wp2_with fail
  refine HAW.out.mono ?_
  rintro e w1 ⟨rfl, hb1⟩
  have HB1 := Lib.hid hb1
  have HKA := Lib.hid (key_any _ a w1 (HA.out.below hb1) HZA.out)
  clear hb1 HAW
  go_wp2_with fail
  refine HKA.out.mono ?_
  rintro e w2 ⟨rfl, hb2⟩
  have HB2 := Lib.hid (below_trans HB1.out hb2)
  have HKB := Lib.hid (key_any _ b w2 (HB.out.below HB2.out) HZB.out)
  clear hb2 HKA HB1
  go_wp2_with fail
  refine HKB.out.mono ?_
  rintro e w3 ⟨rfl, hb3⟩
  have HB3 := Lib.hid (below_trans HB2.out hb3)
  have HO1 := Lib.hid (order_any _ _ a b w3 (HA.out.below HB3.out) (HB.out.below HB3.out))
  clear hb3 HKB HB2
  go_wp2_with fail
  refine HO1.out.mono ?_
  rintro e w4 ⟨rfl, hb4⟩
  have HB4 := Lib.hid (below_trans HB3.out hb4)
  have HO2 := Lib.hid (order_any _ _ b a w4 (HB.out.below HB4.out) (HA.out.below HB4.out))
  clear hb4 HO1 HB3
  go_wp2_with fail
  refine HO2.out.mono ?_
  rintro e w5 ⟨rfl, hb5⟩
  have HB5 := Lib.hid (below_trans HB4.out hb5)
  clear hb5 HO2 HB4
  have hd3 := ord_three b a
  have hcd := ord_neg a b
  have HC := Lib.hid (cm_key a b)
  have HOZ := Lib.hid (ord_zero a b)
  obtain ⟨c, hc⟩ : ∃ c, c = ord a b := ⟨_, rfl⟩
  rw [← hc] at hcd HC HOZ
  have tcd : (c != -(ord b a)) = false := by rw [hcd]; simp
  obtain ⟨d, hd⟩ : ∃ d, d = ord b a := ⟨_, rfl⟩
  rw [← hd] at hd3 tcd hcd
  obtain ⟨hd1, hd2⟩ := hd3
  rw [← hc, ← hd]
  by_cases hka : keyE a = 0
  · by_cases hkb : keyE b = 0
    · skip
      obtain ⟨pa, ka, la, ra⟩ := key_all hka HA.out.2
      obtain ⟨pb, kb, lb, rb⟩ := key_all hkb HB.out.2
      have hG1 := goes_iff pa pb
      have hG2 := prefix_take (x := keyB a) (y := keyB b)
      have hG3 := aft_range (keyB a) (keyB b) (key_head ra pa)
      have hG4 := (aft_range (keyB a) (keyB a) (key_head ra pa)).2 (List.prefix_refl _)
      have hcm := HC.out pa pb
      have hOT := ord_zero (b.take a.length) a
      rw [ka, kb, hka, hkb]
      clear ka kb pa pb ra rb hka hkb HC
      generalize keyB a = X at *
      generalize keyB b = Y at *
      have tL : Op.bytesLess (txB X).toList (txB Y).toList = decide (c < 0) := by rw [less_tx, hcm]
      have tE : ((txB X).toList == (txB Y).toList) = (c == 0) := by
        rw [tx_beqS, ← hcm]
        by_cases h : X = Y
        · rw [decide_eq_true h, (cm_zero X Y).2 h]; rfl
        · rw [decide_eq_false h]
          symm
          rw [beq_eq_false_iff_ne]
          exact fun e => h ((cm_zero X Y).1 e)
      have HZX := Lib.hid (show Op.bytesLess (txB X).toList (txB (aft X)).toList = true by rw [less_tx]; exact decide_eq_true hG4.2)
      obtain ⟨Q1, hQ1⟩ : ∃ q : Bool, q = Op.bytesLess (txB Y).toList (txB X).toList := ⟨_, rfl⟩
      obtain ⟨Q2, hQ2⟩ : ∃ q : Bool, q = Op.bytesLess (txB Y).toList (txB (aft X)).toList := ⟨_, rfl⟩
      obtain ⟨G, hG⟩ : ∃ g : Bool, g = decide (X <+: Y) := ⟨_, rfl⟩
      have hGQ : G = (!Q1 && Q2) := by
        rw [hG, hQ1, hQ2, less_tx, less_tx, Bool.eq_iff_iff, decide_eq_true_eq, ← hG3]
        simp only [Bool.and_eq_true, Bool.not_eq_true', decide_eq_false_iff_not, decide_eq_true_eq]
        exact and_congr_left' (by omega)
      have HQ1 := Lib.hid hQ1
      have HQ2 := Lib.hid hQ2
      have HGQ := Lib.hid hGQ
      have hzX := tx_size X
      have hzY := tx_size Y
      have HAF := Lib.hid (fun W => after_any X W (by omega))
      clear hQ1 hQ2 hGQ hG3 hG4 hcm
      by_cases hlen : a.length ≤ b.length
      · have t1 : decide ((a.length : Int) ≤ (b.length : Int)) = true := decide_eq_true (by omega)
        obtain ⟨sa, sc, hsl, hsr⟩ := run_headP w _ _ _ a.length b HB.out hlen
        have hsl5 := hsl w5
        have HO := Lib.hid (order_any _ _ (b.take a.length) a w5 (hsr.below HB5.out) (HA.out.below HB5.out))
        have tG : (ord (b.take a.length) a == 0) = G := by
          rw [hG]
          by_cases h : b.take a.length = a
          · rw [hOT.2 h, decide_eq_true (hG1.2 ⟨hlen, h⟩)]; rfl
          · rw [decide_eq_false (fun e => h (hG1.1 e).2), beq_eq_false_iff_ne]
            exact fun e => h (hOT.1 e)
        clear hsl hsr hG1 hOT
        generalize ord (b.take a.length) a = o at *
        by_cases hxy : X.length ≤ Y.length
        · have t2 : decide ((X.length : Int) ≤ (Y.length : Int)) = true := decide_eq_true (by omega)
          have hle : X.length ≤ Y.length := hxy
          have hex : (txB Y).extract 0 X.length = txB (Y.take X.length) := tx_extract Y _
          have tB : ((txB (Y.take X.length)).toList == (txB X).toList) = G := by
            rw [tx_beqS, hG]
            exact decide_eq_decide.2 ⟨fun h => hG2.2 ⟨hxy, h⟩, fun h => (hG2.1 h).2⟩
          clear hG hG2
          go_wp2_with fail
          refine HO.out.mono ?_
          rintro e w6 ⟨rfl, hb6⟩
          have HB6 := Lib.hid (below_trans HB5.out hb6)
          clear hb6
          go_wp2_with fail
          refine (HAF.out w6).mono ?_
          rintro e w8 ⟨rfl, hb8⟩
          have HB8 := Lib.hid (below_trans HB6.out hb8)
          clear hb8
          have q1 := HQ1.out.symm
          have q2 := HQ2.out.symm
          have q3 := HZX.out
          obtain rfl := HGQ.out
          cases Q1 <;> cases Q2 <;> first
            | (go_wp2_with fail; go_ret; exact ⟨rfl, HB8.out⟩)
            | (exfalso; revert hgf; decide)
        · have t2 : decide ((X.length : Int) ≤ (Y.length : Int)) = false := decide_eq_false (by omega)
          have HGF2 := Lib.hid (show G = false by rw [hG]; exact decide_eq_false fun e => hxy (hG2.1 e).1)
          clear hG hG2
          go_wp2_with fail
          refine HO.out.mono ?_
          rintro e w6 ⟨rfl, hb6⟩
          have HB6 := Lib.hid (below_trans HB5.out hb6)
          clear hb6
          go_wp2_with fail
          refine (HAF.out w6).mono ?_
          rintro e w8 ⟨rfl, hb8⟩
          have HB8 := Lib.hid (below_trans HB6.out hb8)
          clear hb8
          have q1 := HQ1.out.symm
          have q2 := HQ2.out.symm
          have q3 := HZX.out
          have hgf := HGF2.out
          obtain rfl := HGQ.out
          cases Q1 <;> cases Q2 <;> first
            | (go_wp2_with fail; go_ret; exact ⟨rfl, HB8.out⟩)
            | (exfalso; revert hgf; decide)
      · have t1 : decide ((a.length : Int) ≤ (b.length : Int)) = false := decide_eq_false (by omega)
        have HGF := Lib.hid (show G = false by rw [hG]; exact decide_eq_false fun e => hlen (hG1.1 e).1)
        clear hG1 hOT
        by_cases hxy : X.length ≤ Y.length
        · have t2 : decide ((X.length : Int) ≤ (Y.length : Int)) = true := decide_eq_true (by omega)
          have hle : X.length ≤ Y.length := hxy
          have hex : (txB Y).extract 0 X.length = txB (Y.take X.length) := tx_extract Y _
          have tB : ((txB (Y.take X.length)).toList == (txB X).toList) = G := by
            rw [tx_beqS, hG]
            exact decide_eq_decide.2 ⟨fun h => hG2.2 ⟨hxy, h⟩, fun h => (hG2.1 h).2⟩
          clear hG hG2
          go_wp2_with fail
          refine (HAF.out w5).mono ?_
          rintro e w8 ⟨rfl, hb8⟩
          have HB8 := Lib.hid (below_trans HB5.out hb8)
          clear hb8
          have q1 := HQ1.out.symm
          have q2 := HQ2.out.symm
          have q3 := HZX.out
          have hgf := HGF.out
          obtain rfl := HGQ.out
          cases Q1 <;> cases Q2 <;> first
            | (go_wp2_with fail; go_ret; exact ⟨rfl, HB8.out⟩)
            | (exfalso; revert hgf; decide)
        · have t2 : decide ((X.length : Int) ≤ (Y.length : Int)) = false := decide_eq_false (by omega)
          have HGF2 := Lib.hid (show G = false by rw [hG]; exact decide_eq_false fun e => hxy (hG2.1 e).1)
          clear hG hG2
          go_wp2_with fail
          refine (HAF.out w5).mono ?_
          rintro e w8 ⟨rfl, hb8⟩
          have HB8 := Lib.hid (below_trans HB5.out hb8)
          clear hb8
          have q1 := HQ1.out.symm
          have q2 := HQ2.out.symm
          have q3 := HZX.out
          have hgf := HGF.out
          obtain rfl := HGQ.out
          cases Q1 <;> cases Q2 <;> first
            | (go_wp2_with fail; go_ret; exact ⟨rfl, HB8.out⟩)
            | (exfalso; revert hgf; decide)
    · have te : (keyE b != 0) = true := by simp [hkb]
      generalize keyE b = eb at *
      rw [hka]
      go_wp2_with fail
      go_ret
      exact ⟨rfl, HB5.out⟩
  · have te : (keyE a != 0) = true := by simp [hka]
    generalize keyE a = ea at *
    go_wp2_with fail
    go_ret
    exact ⟨rfl, HB5.out⟩
end Go.Proofs.Ytpinmkoaihjhfaa
