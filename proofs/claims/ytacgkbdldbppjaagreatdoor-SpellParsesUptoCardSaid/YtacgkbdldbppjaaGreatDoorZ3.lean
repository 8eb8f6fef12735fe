/- Texts of this seat, put together in build order: SpIn, SpAll, ShelfW, ShelfB, SpB, SpW, SpP, SpO, ChEnd, ChSize, ChTo, ChNormal, ChNormOk, SpPr, SpC, SpQ, SpNum, SpRe, SpAttr, SpAs. -/
import Derived.Test.YtacgkbdldbppjaaGreatDoorZ2
import Derived.LoopTactic
import Derived.Deep.LoopGhost
import Derived.Shelf.Strings.BuilderK
import Derived.StillTailTactics
import Derived.Lib.AppendIntMem
import Derived.Deep.RegionHeld3
import Derived.Defers
import Derived.Recover
/- The reader's digit16, inside. -/
namespace Go.Proofs.YtacgkbdldbppjaaGreatDoor
open Go.RowKit Ch

theorem rdgo_ok {α : Type} {b : Nat} {s : ByteArray} {a : Nat} {x : Sp.R α} {val : α → World → Value → Prop} {w w' : World} {v : α} {n : Nat} {u : Value} {e : Ending} (hx : x = .ok v n) (he : e = .returned u) (hv : val v w' u) (h1 : RdAt w' b s (a + n)) (h2 : Keep b [RT] w w') :
    RdGo b s a x val w e w' := by
  rw [hx]; exact ⟨u, he, hv, h1, h2⟩
theorem rdgo_bad {α : Type} {b : Nat} {s : ByteArray} {a : Nat} {x : Sp.R α} {val : α → World → Value → Prop} {w w' : World} {k : Nat} {e : Ending} (hx : x = .bad k) (he : e = thrown (a + k)) (h2 : Keep b [RT] w w') :
    RdGo b s a x val w e w' := by
  rw [hx]; exact ⟨he, h2⟩
theorem RdGo.ok {α : Type} {b : Nat} {s : ByteArray} {a : Nat} {x : Sp.R α} {val : α → World → Value → Prop} {w w' : World} {v : α} {n : Nat} {e : Ending} (h : RdGo b s a x val w e w') (hx : x = .ok v n) : ∃ u, e = .returned u ∧ val v w' u ∧ RdAt w' b s (a + n) ∧ Keep b [RT] w w' := by
  rw [hx] at h
  obtain ⟨u, h1, h2, h3, h4⟩ := h
  exact ⟨u, h1, h2, h3, h4⟩
theorem RdGo.bad {α : Type} {b : Nat} {s : ByteArray} {a : Nat} {x : Sp.R α} {val : α → World → Value → Prop} {w w' : World} {k : Nat} {e : Ending} (h : RdGo b s a x val w e w') (hx : x = .bad k) : e = thrown (a + k) ∧ Keep b [RT] w w' := by
  rw [hx] at h
  exact h

theorem dig16_cases (l : List UInt8) : (l = [] ∧ Sp.digit16 l = .bad 0) ∨ (∃ x t, l = x :: t ∧ Sp.hexv x = none ∧ Sp.digit16 l = .bad 0) ∨ ∃ x t n, l = x :: t ∧ Sp.hexv x = some n ∧ Sp.digit16 l = .ok n 1 := by
  cases l with
  | nil => exact .inl ⟨rfl, rfl⟩
  | cons x t =>
    cases h : Sp.hexv x with
    | none => exact .inr (.inl ⟨x, t, rfl, h, Sp.digit16_bad h t⟩)
    | some n => exact .inr (.inr ⟨x, t, n, rfl, h, Sp.digit16_ok h t⟩)
theorem hexv_hi {x : UInt8} (h1 : (97 : Int) ≤ x.toNat) (h2 : (x.toNat : Int) ≤ 102) : Sp.hexv x = some (x.toNat - 87) := by
  unfold Sp.hexv; rw [if_neg (by omega), if_pos (by omega)]
theorem hexv_lo {x : UInt8} (h1 : (48 : Int) ≤ x.toNat) (h2 : (x.toNat : Int) ≤ 57) : Sp.hexv x = some (x.toNat - 48) := by
  unfold Sp.hexv; rw [if_pos (by omega)]
theorem hexv_no {x : UInt8} (h1 : ¬ ((48 : Int) ≤ x.toNat ∧ (x.toNat : Int) ≤ 57)) (h2 : ¬ ((97 : Int) ≤ x.toNat ∧ (x.toNat : Int) ≤ 102)) : Sp.hexv x = none := by
  unfold Sp.hexv; rw [if_neg (by omega), if_neg (by omega)]

abbrev valN : Nat → World → Value → Prop := fun n _ u => u = .int .u8 (n : Int)
abbrev valC : UInt8 → World → Value → Prop := fun n _ u => u = .int .u8 (n.toNat : Int)

theorem inside_ctl {x : UInt8} (h : Sp.ctl x = true) (t : List UInt8) : Sp.inside (x :: t) = .bad 0 := by simp [Sp.inside, h]
theorem inside_plain {x : UInt8} (h : Sp.ctl x = false) (h9 : x ≠ 92) (t : List UInt8) : Sp.inside (x :: t) = .ok x 1 := by simp [Sp.inside, h, h9]
theorem inside_end : Sp.inside [92] = .bad 1 := rfl
theorem inside_same {c : UInt8} (h : c = 34 ∨ c = 92) (t : List UInt8) : Sp.inside (92 :: c :: t) = .ok c 2 := by rcases h with rfl | rfl <;> rfl
theorem inside_line (t : List UInt8) : Sp.inside (92 :: 110 :: t) = .ok 10 2 := rfl
theorem inside_hex (t : List UInt8) : Sp.inside (92 :: 120 :: t) = Sp.hexes t := rfl
theorem inside_else {c : UInt8} (h1 : c ≠ 34) (h2 : c ≠ 92) (h3 : c ≠ 110) (h4 : c ≠ 120) (t : List UInt8) : Sp.inside (92 :: c :: t) = .bad 1 := by
  have e : Sp.ctl 92 = false := rfl
  simp [Sp.inside, e, h1, h2, h3, h4]
theorem b_is {x c : UInt8} {n : Int} (hc : (c.toNat : Int) = n) (h : x = c) : ((x.toNat : Int) == n) = true := by subst h; rw [hc]; exact beq_self_eq_true n
theorem b_not {x c : UInt8} {n : Int} (hc : (c.toNat : Int) = n) (h : x ≠ c) : ((x.toNat : Int) == n) = false := by
  rw [beq_eq_false_iff_ne, ← hc]; exact fun e => h (Sp.b_eq.2 (by omega))

theorem or_hex : ∀ n < 16, ∀ m < 16, bits BinOp.or IntKind.u8 ((n : Nat) * 16 : Int) ((m : Nat) : Int) = ((UInt8.ofNat (n * 16 + m)).toNat : Int) := by decide +kernel
theorem hexes_in (x y : UInt8) (t : List UInt8) {n m : Nat} (h1 : Sp.digit16 (x :: y :: t) = .ok n 1) (h2 : Sp.digit16 (y :: t) = .ok m 1) (hc : Sp.ctl (UInt8.ofNat (n * 16 + m)) = true) (h10 : UInt8.ofNat (n * 16 + m) ≠ 10) : Sp.hexes (x :: y :: t) = .ok (UInt8.ofNat (n * 16 + m)) 4 := by
  unfold Sp.hexes
  rw [h1]
  simp only [List.drop_succ_cons, List.drop_zero]
  rw [h2]
  simp only
  rw [if_pos ⟨hc, h10⟩]
theorem hexes_out (x y : UInt8) (t : List UInt8) {n m : Nat} (h1 : Sp.digit16 (x :: y :: t) = .ok n 1) (h2 : Sp.digit16 (y :: t) = .ok m 1) (hc : ¬ (Sp.ctl (UInt8.ofNat (n * 16 + m)) = true ∧ UInt8.ofNat (n * 16 + m) ≠ 10)) : Sp.hexes (x :: y :: t) = .bad 0 := by
  unfold Sp.hexes
  rw [h1]
  simp only [List.drop_succ_cons, List.drop_zero]
  rw [h2]
  simp only
  rw [if_neg hc]

set_option maxHeartbeats 1000000 in
theorem digit16_any (b : Nat) (s : ByteArray) (a : Nat) (w : World) (h : RdAt w b s a) :
    Calls Tryz.prog 90 #[.pointer (some ⟨b, 0, none⟩)] w (RdGo b s a (Sp.digit16 (rst s a)) valN w) := by
  have c1 := h.c1
  cases hd : rst s a with
  | nil =>
    have HT := Lib.hid (take_bad b s a w h hd)
    clear h hd
    go_enter Tryz.func90, Tryz.ntmps90
    go_wp2_with fail
    refine HT.out.mono ?_
    rintro e w1 ⟨rfl, hk⟩
    exact ⟨rfl, rdgo_bad (k := 0) rfl rfl hk⟩
  | cons x t =>
    have HT := Lib.hid (take_ok b s a x t w h hd)
    have hx := Sp.b_lt x
    clear h hd
    obtain ⟨X, hX⟩ : ∃ X, X = Sp.digit16 (x :: t) := ⟨_, rfl⟩
    rw [← hX]
    have HX := Lib.hid hX
    clear hX
    go_enter Tryz.func90, Tryz.ntmps90
    go_wp2_with fail
    refine HT.out.mono ?_
    rintro e w1 ⟨rfl, hat, hk⟩
    have Hat := Lib.hid hat
    have Hk := Lib.hid hk
    clear hat hk
    by_cases h1 : (97 : Int) ≤ (x.toNat : Int)
    · by_cases h2 : (x.toNat : Int) ≤ 102
      · have HV := Lib.hid (HX.out.trans (Sp.digit16_ok (hexv_hi h1 h2) t))
        go_wp2
        go_ret
        refine rdgo_ok HV.out rfl ?_ Hat.out Hk.out
        show Value.int IntKind.u8 _ = _
        congr 1
        omega
      · have HV := Lib.hid (HX.out.trans (Sp.digit16_bad (hexv_no (by omega) (by omega)) t))
        go_wp2
        exact ⟨rfl, rdgo_bad HV.out rfl Hk.out⟩
    · by_cases h2 : (48 : Int) ≤ (x.toNat : Int)
      · by_cases h3 : (x.toNat : Int) ≤ 57
        · have HV := Lib.hid (HX.out.trans (Sp.digit16_ok (hexv_lo h2 h3) t))
          go_wp2
          go_ret
          refine rdgo_ok HV.out rfl ?_ Hat.out Hk.out
          show Value.int IntKind.u8 _ = _
          congr 1
          omega
        · have HV := Lib.hid (HX.out.trans (Sp.digit16_bad (hexv_no (by omega) (by omega)) t))
          go_wp2
          exact ⟨rfl, rdgo_bad HV.out rfl Hk.out⟩
      · have HV := Lib.hid (HX.out.trans (Sp.digit16_bad (hexv_no (by omega) (by omega)) t))
        go_wp2
        exact ⟨rfl, rdgo_bad HV.out rfl Hk.out⟩

set_option maxHeartbeats 2000000 in
theorem inside_any (b : Nat) (s : ByteArray) (a : Nat) (w : World) (h : RdAt w b s a) :
    Calls Tryz.prog 68 #[.pointer (some ⟨b, 0, none⟩)] w (RdGo b s a (Sp.inside (rst s a)) valC w) := by
  have c1 := h.c1
  have h2' : s.size ≤ 9223372036854775807 := h.2.2
  have hab : a ≤ s.size := h.2.1
  cases hd : rst s a with
  | nil =>
    have HT := Lib.hid (take_bad b s a w h hd)
    clear h hd
    go_enter Tryz.func68, Tryz.ntmps68
    go_wp2_with fail
    refine HT.out.mono ?_
    rintro e w1 ⟨rfl, hk⟩
    exact ⟨rfl, rdgo_bad (k := 0) rfl rfl hk⟩
  | cons x t =>
    obtain ⟨hlt, _, ht⟩ := rst_head hd
    have HT := Lib.hid (take_ok b s a x t w h hd)
    have hx := Sp.b_lt x
    clear h hd
    obtain ⟨X, hX⟩ : ∃ X, X = Sp.inside (x :: t) := ⟨_, rfl⟩
    rw [← hX]
    have HX := Lib.hid hX
    clear hX
    have HC := Lib.hid fun w => control_any x w
    by_cases hc : Sp.ctl x = true
    · have HV := Lib.hid (HX.out.trans (inside_ctl hc t))
      go_enter Tryz.func68, Tryz.ntmps68
      go_wp2_with fail
      refine HT.out.mono ?_
      rintro e w1 ⟨rfl, hat, hk⟩
      have Hk := Lib.hid hk
      clear hat hk
      go_wp2_with fail
      refine (HC.out _).mono ?_
      rintro e w2 ⟨rfl, rfl⟩
      rw [hc]
      go_wp2_with fail
      exact ⟨rfl, rdgo_bad HV.out rfl Hk.out⟩
    have hc' : Sp.ctl x = false := Bool.eq_false_iff.2 hc
    by_cases h92 : x = 92
    · subst h92
      have hne : (((92 : UInt8).toNat : Int) != 92) = false := rfl
      have e92 : ((92 : UInt8).toNat : Int) = 92 := rfl
      go_enter Tryz.func68, Tryz.ntmps68
      go_wp2_with fail
      refine HT.out.mono ?_
      rintro e w1 ⟨rfl, hat, hk⟩
      have Hk := Lib.hid hk
      go_wp2_with fail
      refine (HC.out _).mono ?_
      rintro e w2 ⟨rfl, rfl⟩
      rw [hc']
      have hd2 := ht
      cases t with
      | nil =>
        have HT2 := Lib.hid (take_bad b s (a + 1) w2 hat hd2.symm)
        have HV := Lib.hid (HX.out.trans inside_end)
        clear hat hk hd2
        go_wp2_with fail
        refine HT2.out.mono ?_
        rintro e w3 ⟨rfl, hk2⟩
        exact ⟨rfl, rdgo_bad HV.out rfl (Hk.out.trans hk2)⟩
      | cons c u =>
        have HT2 := Lib.hid (take_ok b s (a + 1) c u w2 hat hd2.symm)
        have Hu := Lib.hid (rst_head hd2.symm)
        have hcc := Sp.b_lt c
        clear hat hk hd2 ht
        by_cases h3 : c = 34
        · have HV := Lib.hid (HX.out.trans (inside_same (.inl h3) u))
          have k1 := b_is (n := 34) rfl h3
          clear h3
          go_wp2_with fail
          refine HT2.out.mono ?_
          rintro e w3 ⟨rfl, hat2, hk2⟩
          have Hat2 := Lib.hid hat2
          have Hk2 := Lib.hid (Hk.out.trans hk2)
          clear hat2 hk2
          go_wp2_with fail
          go_ret
          exact rdgo_ok HV.out rfl rfl Hat2.out Hk2.out
        have k1 := b_not (n := 34) rfl h3
        by_cases h4 : c = 92
        · have HV := Lib.hid (HX.out.trans (inside_same (.inr h4) u))
          have k2 := b_is (n := 92) rfl h4
          clear h3 h4
          go_wp2_with fail
          refine HT2.out.mono ?_
          rintro e w3 ⟨rfl, hat2, hk2⟩
          have Hat2 := Lib.hid hat2
          have Hk2 := Lib.hid (Hk.out.trans hk2)
          clear hat2 hk2
          go_wp2_with fail
          go_ret
          exact rdgo_ok HV.out rfl rfl Hat2.out Hk2.out
        have k2 := b_not (n := 92) rfl h4
        by_cases h5 : c = 110
        · have HV := Lib.hid (HX.out.trans (h5 ▸ inside_line u))
          have k3 := b_is (n := 110) rfl h5
          clear h3 h4 h5
          go_wp2_with fail
          refine HT2.out.mono ?_
          rintro e w3 ⟨rfl, hat2, hk2⟩
          have Hat2 := Lib.hid hat2
          have Hk2 := Lib.hid (Hk.out.trans hk2)
          clear hat2 hk2
          go_wp2_with fail
          go_ret
          exact rdgo_ok HV.out rfl rfl Hat2.out Hk2.out
        have k3 := b_not (n := 110) rfl h5
        by_cases h6 : c = 120
        · have HV := Lib.hid (HX.out.trans (h6 ▸ inside_hex u))
          have k4 := b_is (n := 120) rfl h6
          clear h3 h4 h5 h6
          go_wp2_with fail
          refine HT2.out.mono ?_
          rintro e w3 ⟨rfl, hat2, hk2⟩
          have HD1 := Lib.hid (digit16_any b s (a + 1 + 1) w3 hat2)
          have Hat2 := Lib.hid hat2
          have Hk2 := Lib.hid (Hk.out.trans hk2)
          clear hat2 hk2
          go_wp2_with fail
          refine HD1.out.mono ?_
          obtain ⟨hl2, _, hu2⟩ := Hu.out
          rw [← hu2]
          rcases dig16_cases u with ⟨rfl, hq⟩ | ⟨x1, t1, rfl, hq1, hq⟩ | ⟨x1, t1, n1, rfl, hq1, hq⟩
          · intro e w4 hgo
            obtain ⟨rfl, hk4⟩ := hgo.bad hq
            exact ⟨rfl, rdgo_bad (k := 2) (by rw [HV.out]; unfold Sp.hexes; rw [hq]) rfl (Hk2.out.trans hk4)⟩
          · intro e w4 hgo
            obtain ⟨rfl, hk4⟩ := hgo.bad hq
            exact ⟨rfl, rdgo_bad (k := 2) (by rw [HV.out]; unfold Sp.hexes; rw [hq]) rfl (Hk2.out.trans hk4)⟩
          · have HQ := Lib.hid hq
            have hn1 := (Sp.hexd_hexv hq1).2
            clear hq hq1
            intro e w4 hgo
            obtain ⟨_, rfl, rfl, hat4, hk4⟩ := hgo.ok HQ.out
            have HD2 := Lib.hid (digit16_any b s (a + 1 + 1 + 1) w4 hat4)
            have Hk4 := Lib.hid (Hk2.out.trans hk4)
            obtain ⟨hl3, _, ht1⟩ := rst_head hu2.symm
            clear hgo hat4 hk4
            go_wp2_with fail
            refine HD2.out.mono ?_
            rw [← ht1]
            rcases dig16_cases t1 with ⟨rfl, hq⟩ | ⟨x2, t2, rfl, hq2, hq⟩ | ⟨x2, t2, n2, rfl, hq2, hq⟩
            · intro e w5 hgo
              obtain ⟨rfl, hk5⟩ := hgo.bad hq
              exact ⟨rfl, rdgo_bad (k := 3) (by rw [HV.out]; unfold Sp.hexes; rw [HQ.out]; rfl) rfl (Hk4.out.trans hk5)⟩
            · intro e w5 hgo
              obtain ⟨rfl, hk5⟩ := hgo.bad hq
              exact ⟨rfl, rdgo_bad (k := 3) (by rw [HV.out]; unfold Sp.hexes; rw [HQ.out]; simp only [List.drop_succ_cons, List.drop_zero]; rw [hq]) rfl (Hk4.out.trans hk5)⟩
            · have HQ2 := Lib.hid hq
              have hn2 := (Sp.hexd_hexv hq2).2
              clear hq hq2
              intro e w5 hgo
              obtain ⟨_, rfl, rfl, hat5, hk5⟩ := hgo.ok HQ2.out
              have Hk5 := Lib.hid (Hk4.out.trans hk5)
              have Hat5 := Lib.hid hat5
              clear hgo hat5 hk5
              have HB := Lib.hid fun hc h10 => HV.out.trans (hexes_in x1 x2 t2 HQ.out HQ2.out hc h10)
              have HN := Lib.hid fun hc => HV.out.trans (hexes_out x1 x2 t2 HQ.out HQ2.out hc)
              have HO := Lib.hid (or_hex n1 hn1 n2 hn2)
              obtain ⟨y, hy⟩ : ∃ y, y = UInt8.ofNat (n1 * 16 + n2) := ⟨_, rfl⟩
              rw [← hy] at HB HN HO
              have HC2 := Lib.hid fun w => control_any y w
              clear hy
              go_wp2_with fail
              rw [HO.out]
              refine (HC2.out _).mono ?_
              rintro e w6 ⟨rfl, rfl⟩
              cases hcy : Sp.ctl y with
              | false =>
                have HE := Lib.hid (HN.out fun h => by rw [hcy] at h; cases h.1)
                go_wp2_with fail
                exact ⟨rfl, rdgo_bad HE.out rfl Hk5.out⟩
              | true =>
                by_cases hy10 : y = 10
                · have HE := Lib.hid (HN.out fun h => h.2 hy10)
                  have k5 : ((y.toNat : Int) != 10) = false := by rw [bne_eq_false_iff_eq, hy10]; rfl
                  clear hy10
                  go_wp2_with fail
                  exact ⟨rfl, rdgo_bad HE.out rfl Hk5.out⟩
                · have HE := Lib.hid (HB.out hcy hy10)
                  have k5 : ((y.toNat : Int) != 10) = true := by rw [bne_iff_ne]; exact fun h => hy10 (Sp.b_eq.2 (by show y.toNat = 10; omega))
                  clear hy10
                  go_wp2_with fail
                  go_ret
                  exact rdgo_ok HE.out rfl rfl Hat5.out Hk5.out
        · have HV := Lib.hid (HX.out.trans (inside_else h3 h4 h5 h6 u))
          have k4 := b_not (n := 120) rfl h6
          clear h3 h4 h5 h6
          go_wp2_with fail
          refine HT2.out.mono ?_
          rintro e w3 ⟨rfl, hat2, hk2⟩
          have Hat2 := Lib.hid hat2
          have Hk2 := Lib.hid (Hk.out.trans hk2)
          clear hat2 hk2
          go_wp2_with fail
          exact ⟨rfl, rdgo_bad HV.out rfl Hk2.out⟩
    · have HV := Lib.hid (HX.out.trans (inside_plain hc' h92 t))
      have hne : ((x.toNat : Int) != 92) = true := by rw [bne_iff_ne]; exact fun h => h92 (Sp.b_eq.2 (by show x.toNat = 92; omega))
      go_enter Tryz.func68, Tryz.ntmps68
      go_wp2_with fail
      refine HT.out.mono ?_
      rintro e w1 ⟨rfl, hat, hk⟩
      have Hk := Lib.hid hk
      have Hat := Lib.hid hat
      clear hat hk
      go_wp2_with fail
      refine (HC.out _).mono ?_
      rintro e w2 ⟨rfl, rfl⟩
      rw [hc']
      go_wp2_with fail
      go_ret
      exact rdgo_ok HV.out rfl rfl Hat.out Hk.out

end Go.Proofs.YtacgkbdldbppjaaGreatDoor

/- The reader's all: as many bytes of a kind as there are. -/
namespace Go.Proofs.YtacgkbdldbppjaaGreatDoor
open Go.RowKit Ch

theorem tw_step {q : UInt8 → Bool} {s : ByteArray} {a k : Nat} (hak : a ≤ k) (hk : k < s.size) (hq : q s[k] = true) (h : (rst s a).takeWhile q = (rst s a).take (k - a) ++ (rst s k).takeWhile q) :
    (rst s a).takeWhile q = (rst s a).take (k + 1 - a) ++ (rst s (k + 1)).takeWhile q := by
  rw [h, rst_cons hk, List.takeWhile_cons, if_pos hq]
  have e : (rst s a).take (k + 1 - a) = (rst s a).take (k - a) ++ [s[k]] := by
    have hl : k - a < (rst s a).length := by unfold rst; rw [List.length_drop]; have : s.data.toList.length = s.size := rfl; omega
    rw [show k + 1 - a = k - a + 1 by omega, List.take_succ_eq_append_getElem hl]
    congr 2
    have h2 := rst_drop s a (k - a)
    rw [show a + (k - a) = k by omega, rst_cons hk] at h2
    rw [List.drop_eq_getElem_cons hl] at h2
    simp only [List.cons.injEq] at h2
    exact h2.1
  rw [e]
  simp
theorem tw_end {q : UInt8 → Bool} {s : ByteArray} {a k : Nat} (hak : a ≤ k) (hk : k ≤ s.size) (hq : ∀ h : k < s.size, q s[k] = false) (h : (rst s a).takeWhile q = (rst s a).take (k - a) ++ (rst s k).takeWhile q) :
    (rst s a).takeWhile q = (s.extract a k).data.toList ∧ a + ((rst s a).takeWhile q).length = k := by
  have e : (rst s k).takeWhile q = [] := by
    rcases Nat.lt_or_ge k s.size with hlt | hge
    · rw [rst_cons hlt, List.takeWhile_cons, hq hlt]; rfl
    · rw [rst_nil hge]; rfl
  rw [h, e, List.append_nil]
  have hs : s.data.toList.length = s.size := rfl
  refine ⟨?_, ?_⟩
  · unfold rst
    simp [ByteArray.data_extract]
  · unfold rst
    rw [List.length_take, List.length_drop]
    omega

set_option maxHeartbeats 2000000 in
theorem all_any (F : Nat) (q : UInt8 → Bool) (hE : ∀ args W, (callFunc F args).run Tryz.prog W = .ok (.enter F args) W) (hF : ∀ (x : UInt8) (w : World), Calls Tryz.prog F #[.int .u8 x.toNat] w fun e w' => e = .returned (.bool (q x)) ∧ w' = w)
    (b : Nat) (s : ByteArray) (a : Nat) (w : World) (h : RdAt w b s a) :
    Calls Tryz.prog 92 #[.pointer (some ⟨b, 0, none⟩), .func (.func F) #[] #[]] w fun e w' => e = .returned (.string (Sp.ba ((rst s a).takeWhile q))) ∧ RdAt w' b s (a + ((rst s a).takeWhile q).length) ∧ Keep b [RT] w w' := by
  have H := Lib.hid h
  have HF := Lib.hid hF
  have c0 := h.c0
  have c1 := h.c1
  have h2' : s.size ≤ 9223372036854775807 := h.2.2
  have hab : a ≤ s.size := h.2.1
  clear h hF
  go_enter Tryz.func92, Tryz.ntmps92
  go_wp2_with fail
  go_loopg [] (s.size - a) (fun gk wr => ∃ k : Nat, gk = s.size - k ∧ RdAt wr b s k ∧ a ≤ k ∧ (rst s a).takeWhile q = (rst s a).take (k - a) ++ (rst s k).takeWhile q ∧ Keep b [RT] w wr)
  case atStart => exact ⟨a, rfl, H.out, Nat.le_refl _, by rw [Nat.sub_self]; rfl, Keep.refl _ _ _⟩
  case round =>
    obtain ⟨k, rfl, hat, hak, htw, hkp⟩ := hrel
    have d0 := hat.c0
    have d1 := hat.c1
    have f1 := hat.free 1
    have hks : k ≤ s.size := hat.2.1
    have Hat := Lib.hid hat
    have Hkp := Lib.hid hkp
    have Htw := Lib.hid htw
    clear hat hkp htw c0 c1
    have fin : (∀ h : k < s.size, q s[k] = false) → (rst s a).takeWhile q = (s.extract a k).data.toList ∧ a + ((rst s a).takeWhile q).length = k := fun h => tw_end hak hks h Htw.out
    have Fin := Lib.hid fin
    clear fin
    by_cases hlt : k < s.size
    · have hlt' : (k : Int) < (s.size : Int) := by omega
      cases hq : q s[k] with
      | true =>
        have Hs := Lib.hid (tw_step hak hlt hq Htw.out)
        have HC := Lib.hid fun w => HF.out s[k] w
        rw [hq] at HC
        go_wp2_with fail
        go_quiet (exact Calls.quiet_of_same (HC.out _))
        go_wp2_with fail
        go_roundg (s.size - (k + 1))
        case measure => omega
        case rel =>
          have st := (Hat.out.drewN nq).step (k + 1) hlt
          exact ⟨k + 1, rfl, st.1, by omega, Hs.out, Hkp.out.trans ((keep_drewN (Keep.refl _ _ _) nq).trans st.2)⟩
      | false =>
        have HC := Lib.hid fun w => HF.out s[k] w
        rw [hq] at HC
        have HE := Lib.hid (Fin.out fun _ => hq)
        go_wp2_with fail
        go_quiet (exact Calls.quiet_of_same (HC.out _))
        go_wp2_with fail
        go_quiet (fail)
        go_wp2_with fail
        go_ret
        refine ⟨congrArg (fun l => Ending.returned (Value.string l)) (ba_eq HE.out.1.symm), ?_, keep_drewN (keep_drewN Hkp.out _) _⟩
        rw [HE.out.2]
        exact Hat.out
    · have hlt' : decide ((k : Int) < (s.size : Int)) = false := decide_eq_false (by omega)
      have HE := Lib.hid (Fin.out fun h => absurd h hlt)
      go_wp2_with fail
      go_quiet (fail)
      go_wp2_with fail
      go_quiet (fail)
      go_wp2_with fail
      go_ret
      refine ⟨congrArg (fun l => Ending.returned (Value.string l)) (ba_eq HE.out.1.symm), ?_, keep_drewN (keep_drewN Hkp.out _) _⟩
      rw [HE.out.2]
      exact Hat.out

end Go.Proofs.YtacgkbdldbppjaaGreatDoor

/- strings.Builder's WriteString at this dump: the library's contract, laid by hand (the laying command does not find the number of the empty interface, which no body of its closure names). -/
namespace Go.Proofs
open Go.Shelf
def Tryz.lays166_ren : Go.Shelf.Ren := ⟨fun | 166 => 30 | 240 => 58 | 276 => 87 | n => n, fun | 0 => 0 | 3 => 3 | 4 => 4 | 5 => 5 | 9 => 9 | 20 => 20 | 37 => 56 | 70 => 55 | 72 => 58 | 75 => 60 | 80 => 66 | 164 => 117 | n => n, fun | n => n⟩
theorem Tryz.lays166 : Go.Proofs.Lays.n166 Tryz.prog Tryz.lays166_ren := {
  mixed := by kernel_rfl
  f166 := Tryz.func30.trans (congrArg some (by kernel_rfl))
  f240 := Tryz.func58.trans (congrArg some (by kernel_rfl))
  f276 := Tryz.func87.trans (congrArg some (by kernel_rfl))
  t0 := Tryz.underlying0
  a0 := Tryz.isAgg0
  z0 := Tryz.sizeOf0
  v0 := Tryz.zeroValue0
  t3 := Tryz.underlying3
  a3 := Tryz.isAgg3
  z3 := Tryz.sizeOf3
  v3 := Tryz.zeroValue3
  t4 := Tryz.underlying4
  a4 := Tryz.isAgg4
  z4 := Tryz.sizeOf4
  v4 := Tryz.zeroValue4
  t9 := Tryz.underlying9
  a9 := Tryz.isAgg9
  z9 := Tryz.sizeOf9
  v9 := Tryz.zeroValue9
  t20 := Tryz.underlying20
  a20 := Tryz.isAgg20
  z20 := Tryz.sizeOf20
  v20 := Tryz.zeroValue20
  t37 := Tryz.underlying56
  a37 := Tryz.isAgg56
  z37 := Tryz.sizeOf56
  v37 := Tryz.zeroValue56
  t70 := Tryz.underlying55
  a70 := Tryz.isAgg55
  z70 := Tryz.sizeOf55
  v70 := Tryz.zeroValue55
  t72 := Tryz.underlying58
  a72 := Tryz.isAgg58
  z72 := Tryz.sizeOf58
  v72 := Tryz.zeroValue58
  t75 := Tryz.underlying60
  a75 := Tryz.isAgg60
  z75 := Tryz.sizeOf60
  v75 := Tryz.zeroValue60
  t164 := Tryz.underlying117
  a164 := Tryz.isAgg117
  z164 := Tryz.sizeOf117
  v164 := Tryz.zeroValue117 }
theorem Tryz.Builder_Extra_166 : Builder.Extra Tryz.prog Tryz.lays166_ren := {
  sizeBuilder := by kernel_rfl
  liesBuilder := by kernel_rfl
  t5 := Tryz.underlying5
  a5 := Tryz.isAgg5
  z5 := Tryz.sizeOf5
  v5 := Tryz.zeroValue5
  infoByte := by kernel_rfl
  cellsByte := by kernel_rfl
  sizeByte := by kernel_rfl
  neB5 := by decide }
open Go.RowKit in
/-- (*strings.Builder).WriteString: it appends the contents of s; it hands back the length of s and a nil error. -/
theorem Tryz.Builder_WriteString (B b : Nat) (bs : List Value) (s : ByteArray) (w : World) (h : Lib.IsBuilder 58 5 B b bs w) (hlen : bs.length + s.size ≤ 140737488355328) (hBw : B ≤ w.heap.size) :
    Calls Tryz.prog 30 #[.pointer (some ⟨b, 0, none⟩), .string s] w fun e w' => e = .returned (.tuple #[.int .i64 s.size, .nilIface]) ∧ (Lib.BuilderAt 58 5 B b (.pointer (some ⟨b, 0, none⟩)) (bs ++ Lib.strCells s) w' ∧ Below B w w') := Any.Builder_WriteString Tryz.lays166 Tryz.Builder_Extra_166 B b bs s w h hlen hBw
end Go.Proofs

/- strings.Builder's WriteByte and WriteString at this dump, in the forms that say what else they keep: the library's contracts, laid by hand (see XShelfW). -/
namespace Go.Proofs
open Go.Shelf
def Tryz.lays167_ren : Go.Shelf.Ren := ⟨fun | 167 => 60 | 240 => 58 | 276 => 87 | n => n, fun | 0 => 0 | 3 => 3 | 4 => 4 | 5 => 5 | 9 => 9 | 20 => 20 | 37 => 56 | 70 => 55 | 72 => 58 | 75 => 60 | 80 => 66 | 164 => 117 | n => n, fun | n => n⟩
theorem Tryz.lays167 : Go.Proofs.Lays.n167 Tryz.prog Tryz.lays167_ren := {
  mixed := by kernel_rfl
  f167 := Tryz.func60.trans (congrArg some (by kernel_rfl))
  f240 := Tryz.func58.trans (congrArg some (by kernel_rfl))
  f276 := Tryz.func87.trans (congrArg some (by kernel_rfl))
  t0 := Tryz.underlying0
  a0 := Tryz.isAgg0
  z0 := Tryz.sizeOf0
  v0 := Tryz.zeroValue0
  t4 := Tryz.underlying4
  a4 := Tryz.isAgg4
  z4 := Tryz.sizeOf4
  v4 := Tryz.zeroValue4
  t5 := Tryz.underlying5
  a5 := Tryz.isAgg5
  z5 := Tryz.sizeOf5
  v5 := Tryz.zeroValue5
  t9 := Tryz.underlying9
  a9 := Tryz.isAgg9
  z9 := Tryz.sizeOf9
  v9 := Tryz.zeroValue9
  t20 := Tryz.underlying20
  a20 := Tryz.isAgg20
  z20 := Tryz.sizeOf20
  v20 := Tryz.zeroValue20
  t37 := Tryz.underlying56
  a37 := Tryz.isAgg56
  z37 := Tryz.sizeOf56
  v37 := Tryz.zeroValue56
  t70 := Tryz.underlying55
  a70 := Tryz.isAgg55
  z70 := Tryz.sizeOf55
  v70 := Tryz.zeroValue55
  t72 := Tryz.underlying58
  a72 := Tryz.isAgg58
  z72 := Tryz.sizeOf58
  v72 := Tryz.zeroValue58
  t75 := Tryz.underlying60
  a75 := Tryz.isAgg60
  z75 := Tryz.sizeOf60
  v75 := Tryz.zeroValue60
  t164 := Tryz.underlying117
  a164 := Tryz.isAgg117
  z164 := Tryz.sizeOf117
  v164 := Tryz.zeroValue117 }
theorem Tryz.Builder_Extra_167 : Builder.Extra Tryz.prog Tryz.lays167_ren := {
  sizeBuilder := by kernel_rfl
  liesBuilder := by kernel_rfl
  t5 := Tryz.underlying5
  a5 := Tryz.isAgg5
  z5 := Tryz.sizeOf5
  v5 := Tryz.zeroValue5
  infoByte := by kernel_rfl
  cellsByte := by kernel_rfl
  sizeByte := by kernel_rfl
  neB5 := by decide }
open Go.RowKit in
/-- (*strings.Builder).WriteByte: it appends the byte; it hands back no error. -/
theorem Tryz.Builder_WriteByte_k (B b : Nat) (bs : List Value) (c : Int) (w : World) (h : Lib.IsBuilderF 58 5 B b bs w) (hlen : bs.length + 1 ≤ 140737488355328) (hBw : B ≤ w.heap.size) :
    Calls Tryz.prog 60 #[.pointer (some ⟨b, 0, none⟩), .int .u8 c] w fun e w' => e = .returned .nilIface ∧ (Lib.BuilderAtF 58 5 B b (.pointer (some ⟨b, 0, none⟩)) (bs ++ [.int .u8 c]) w' ∧ Below B w w' ∧ Lib.OthersKept 5 (some b) w w') := Any.Builder_WriteByte_k Tryz.lays167 Tryz.Builder_Extra_167 B b bs c w h hlen hBw
open Go.RowKit in
/-- (*strings.Builder).WriteString: it appends the contents of s; it hands back the length of s and no error. -/
theorem Tryz.Builder_WriteString_k (B b : Nat) (bs : List Value) (s : ByteArray) (w : World) (h : Lib.IsBuilderF 58 5 B b bs w) (hlen : bs.length + s.size ≤ 140737488355328) (hBw : B ≤ w.heap.size) :
    Calls Tryz.prog 30 #[.pointer (some ⟨b, 0, none⟩), .string s] w fun e w' => e = .returned (.tuple #[.int .i64 s.size, .nilIface]) ∧ (Lib.BuilderAtF 58 5 B b (.pointer (some ⟨b, 0, none⟩)) (bs ++ Lib.strCells s) w' ∧ Below B w w' ∧ Lib.OthersKept 5 (some b) w w') := Any.Builder_WriteString_k Tryz.lays166 Tryz.Builder_Extra_166 B b bs s w h hlen hBw
end Go.Proofs

/- strings.Builder by the bytes that it holds; frames of calls that write into it. -/
namespace Go.Proofs.YtacgkbdldbppjaaGreatDoor
open Go.RowKit Ch

/-- The builder of block c holds these bytes; all its memory lies from B on. -/
def IsB (w : World) (B c : Nat) (l : List UInt8) : Prop := Lib.IsBuilderF 58 5 B c (Lib.byteCells l) w
theorem IsB.fresh (w : World) : IsB (w.alloc (.cells #[.pointer none, .slice none 0 0] 58)) w.heap.size w.heap.size [] := Lib.IsBuilderF.of (Lib.fresh_isBuilder _ _ w)
theorem ownsF_keep {w w' : World} {B C k n : Nat} {ts : List TypeId} {e : TypeId} {v : Value} {xs : List Value} (h : w.ownsRowF C e k v n xs) (hk : Keep B ts w w') (he : e ∉ ts) : w'.ownsRowF C e k v n xs := by
  obtain ⟨h1, h2⟩ := h
  refine ⟨h1, h2.imp id ?_⟩
  rintro ⟨g, cap, cur, fz, a1, a2, a3, a4⟩
  exact ⟨g, cap, cur, fz, a1, a2, hk.kept g cur e fz a3 he, a4⟩
theorem bAtF_keep {w w' : World} {T e : TypeId} {B C c : Nat} {ts : List TypeId} {p : Value} {xs : List Value} (h : Lib.BuilderAtF T e C c p xs w) (hk : Keep B ts w w') (h1 : T ∉ ts) (h2 : e ∉ ts) : Lib.BuilderAtF T e C c p xs w' := by
  obtain ⟨a1, v, a2, a3, a4⟩ := h
  exact ⟨a1, v, hk.kept _ _ _ _ a2 h1, ownsF_keep a3 hk h2, a4⟩
theorem IsB.keep {w w' : World} {B C c : Nat} {ts : List TypeId} {l : List UInt8} (h : IsB w C c l) (hk : Keep B ts w w') (h1 : 58 ∉ ts) (h2 : 5 ∉ ts) : IsB w' C c l :=
  h.imp (fun x => bAtF_keep x hk h1 h2) fun x => bAtF_keep x hk h1 h2
theorem IsB.base {w : World} {B c : Nat} {l : List UInt8} (h : IsB w B c l) : B ≤ c ∧ c < w.heap.size := by
  rcases h with h | h <;> exact ⟨h.1, h.lt⟩
theorem IsB.below {w w' : World} {B c : Nat} {l : List UInt8} (h : IsB w B c l) (hb : Below w.heap.size w w') : IsB w' B c l :=
  h.keep (B := w.heap.size) (ts := []) (keep_below hb (Nat.le_refl _)) (by simp) (by simp)

/-- Written in, all else stays. -/
structure Wrote (B c : Nat) (l : List UInt8) (w w' : World) : Prop where
  is : IsB w' B c l
  below : Below B w w'
  oth : Lib.OthersKept 5 (some c) w w'
theorem writeByte_l (B c : Nat) (l : List UInt8) (x : UInt8) (w : World) (h : IsB w B c l) (hl : l.length + 1 ≤ 140737488355328) :
    Calls Tryz.prog 60 #[.pointer (some ⟨c, 0, none⟩), .int .u8 x.toNat] w fun e w' => e = .returned .nilIface ∧ Wrote B c (l ++ [x]) w w' := by
  have hlt : B ≤ w.heap.size := Nat.le_of_lt (Nat.lt_of_le_of_lt h.base.1 h.base.2)
  refine (Tryz.Builder_WriteByte_k B c (Lib.byteCells l) x.toNat w h (by simpa [Lib.byteCells] using hl) hlt).mono ?_
  rintro e w' ⟨rfl, h1, h2, h3⟩
  refine ⟨rfl, .inr ?_, h2, h3⟩
  have e : Lib.byteCells (l ++ [x]) = Lib.byteCells l ++ [.int .u8 (x.toNat : Int)] := by simp [Lib.byteCells]
  rw [e]
  exact h1
theorem writeString_l (B c : Nat) (l : List UInt8) (s : ByteArray) (w : World) (h : IsB w B c l) (hl : l.length + s.size ≤ 140737488355328) :
    Calls Tryz.prog 30 #[.pointer (some ⟨c, 0, none⟩), .string s] w fun e w' => e = .returned (.tuple #[.int .i64 s.size, .nilIface]) ∧ Wrote B c (l ++ s.data.toList) w w' := by
  have hlt : B ≤ w.heap.size := Nat.le_of_lt (Nat.lt_of_le_of_lt h.base.1 h.base.2)
  refine (Tryz.Builder_WriteString_k B c (Lib.byteCells l) s w h (by simpa [Lib.byteCells] using hl) hlt).mono ?_
  rintro e w' ⟨rfl, h1, h2, h3⟩
  refine ⟨rfl, .inr ?_, h2, h3⟩
  have e : Lib.byteCells (l ++ s.data.toList) = Lib.byteCells l ++ Lib.strCells s := by simp [Lib.byteCells, Lib.strCells]
  rw [e]
  exact h1
/-- What a call keeps, a later one that writes from C on keeps too. -/
theorem Keep.later {B C : Nat} {ts : List TypeId} {a w w' : World} (h : Keep B ts a w) (hb : Below C w w') (h1 : B ≤ C) (h2 : a.heap.size ≤ C) : Keep B ts a w' :=
  ⟨h.below.trans (hb.mono h1), fun i cs e fr hi he => (hb.block i (Nat.lt_of_lt_of_le (lt_of_heap hi) h2)).trans (h.kept i cs e fr hi he)⟩
theorem RdAt.later {C : Nat} {w w' : World} {b : Nat} {s : ByteArray} {a : Nat} (h : RdAt w b s a) (hb : Below C w w') (h1 : b < C) : RdAt w' b s a := h.keep (hb.block b h1)

end Go.Proofs.YtacgkbdldbppjaaGreatDoor

/- What writes: a text in quotes. -/
namespace Go.Proofs.YtacgkbdldbppjaaGreatDoor
open Go.RowKit Ch

abbrev BT : List TypeId := [58, 5]
/-- The builder of block c holds l; all else stays. -/
structure Wr (B c : Nat) (l : List UInt8) (w w' : World) : Prop where
  is : IsB w' B c l
  keep : Keep B BT w w'
theorem IsB.block {w : World} {B c : Nat} {l : List UInt8} (h : IsB w B c l) : ∃ cs fr, w.heap[c]? = some (.cells cs 58 fr) := by
  rcases h with h | h <;> exact ⟨_, _, h.2.choose_spec.1⟩
theorem Wrote.wr {B c : Nat} {l0 l : List UInt8} {w w' : World} (h0 : IsB w B c l0) (h : Wrote B c l w w') : Wr B c l w w' :=
  ⟨h.is, h.below, fun i cs e fr hi he => h.oth i _ hi (fun hb => by
    obtain ⟨cs', fr', h2⟩ := h0.block
    obtain rfl := Option.some.inj hb
    rw [h2] at hi
    simp only [Option.some.injEq, Obj.cells.injEq] at hi
    exact he (by rw [← hi.2.1]; exact List.mem_cons_self ..)) (fun c' fz h2 => by
    simp only [Obj.cells.injEq] at h2
    exact he (by rw [h2.2.1]; exact List.mem_cons_of_mem _ (List.mem_cons_self ..)))⟩
theorem Wr.trans {B c : Nat} {l m : List UInt8} {a b d : World} (h : Wr B c l a b) (k : Wr B c m b d) : Wr B c m a d := ⟨k.is, h.keep.trans k.keep⟩
theorem Wr.refl {B c : Nat} {l : List UInt8} {w : World} (h : IsB w B c l) : Wr B c l w w := ⟨h, Keep.refl _ _ _⟩
theorem wB (B c : Nat) (l : List UInt8) (x : UInt8) (w : World) (h : IsB w B c l) (hl : l.length + 1 ≤ 140737488355328) :
    Calls Tryz.prog 60 #[.pointer (some ⟨c, 0, none⟩), .int .u8 x.toNat] w fun e w' => e = .returned .nilIface ∧ Wr B c (l ++ [x]) w w' :=
  (writeByte_l B c l x w h hl).mono fun _ _ ⟨h1, h2⟩ => ⟨h1, h2.wr h⟩
theorem wS (B c : Nat) (l : List UInt8) (s : ByteArray) (w : World) (h : IsB w B c l) (hl : l.length + s.size ≤ 140737488355328) :
    Calls Tryz.prog 30 #[.pointer (some ⟨c, 0, none⟩), .string s] w fun e w' => e = .returned (.tuple #[.int .i64 s.size, .nilIface]) ∧ Wr B c (l ++ s.data.toList) w w' :=
  (writeString_l B c l s w h hl).mono fun _ _ ⟨h1, h2⟩ => ⟨h1, h2.wr h⟩
theorem wr_step {B c : Nat} {l m k : List UInt8} {a b d : World} (h : Wr B c l a b) (g : Wr B c m b d) (e : m = k) : Wr B c k a d := e ▸ h.trans g

theorem qb_take (s : ByteArray) (k : Nat) (h : k < s.size) : (s.data.toList.take (k + 1)).flatMap Sp.qb = (s.data.toList.take k).flatMap Sp.qb ++ Sp.qb s[k] := by
  have hl : k < s.data.toList.length := h
  rw [List.take_succ_eq_append_getElem hl, List.flatMap_append]
  simp
  rfl
theorem qb_le (l : List UInt8) : (l.flatMap Sp.qb).length ≤ 4 * l.length := by
  have := Sp.qt_len l
  simp only [Sp.qt, List.length_cons, List.length_append, List.length_nil] at this
  omega

theorem dg_at : ∀ n (h : n < 16), (⟨#[48, 49, 50, 51, 52, 53, 54, 55, 56, 57, 97, 98, 99, 100, 101, 102]⟩ : ByteArray)[n]'h = Sp.hexd n := by decide
set_option maxHeartbeats 4000000 in
theorem quote_any (B c : Nat) (l : List UInt8) (s : ByteArray) (w : World) (h : IsB w B c l) (hl : l.length + 4 * s.size + 2 ≤ 140737488355328) :
    Calls Tryz.prog 37 #[.pointer (some ⟨c, 0, none⟩), .string s] w fun e w' => e = .returned (.tuple #[]) ∧ Wr B c (l ++ Sp.qt s.data.toList) w w' := by
  have HA := Lib.hid (wB B c l 34 w h (by omega))
  clear h
  go_enter Tryz.func37, Tryz.ntmps37
  go_wp2_with fail
  refine HA.out.mono ?_
  rintro e w1 ⟨rfl, h1⟩
  have H1 := Lib.hid h1
  clear h1
  go_wp2_with fail
  go_loopw [10] (fun i wr => ∃ k : Nat, i = .int .i64 (k : Int) ∧ k ≤ s.size ∧ Wr B c (l ++ [34] ++ (s.data.toList.take k).flatMap Sp.qb) w wr) (fun i _ => s.size - (intOf i).toNat)
  case atStart => exact ⟨0, rfl, Nat.zero_le _, by simpa using H1.out⟩
  case round =>
    obtain ⟨k, rfl, hk, hwr⟩ := hrel
    have Hwr := Lib.hid hwr
    have hlen := qb_le (s.data.toList.take k)
    rw [List.length_take, show s.data.toList.length = s.size from rfl, Nat.min_eq_left hk] at hlen
    clear hwr
    by_cases hlt : k < s.size
    · have hlt' : (k : Int) < (s.size : Int) := by omega
      have HT := Lib.hid (qb_take s k hlt)
      obtain ⟨L, hL⟩ : ∃ L, L = l ++ [34] ++ (s.data.toList.take k).flatMap Sp.qb := ⟨_, rfl⟩
      have hLl : L.length + 5 ≤ 140737488355328 := by rw [hL]; simp only [List.length_append, List.length_cons, List.length_nil]; omega
      rw [← hL] at Hwr
      have HL := Lib.hid hL
      clear hL hlen
      have HG := Lib.hid (show ∀ M wz, Wr B c M wr wz → M = L ++ Sp.qb s[k] → Wr B c (l ++ [34] ++ (s.data.toList.take (k + 1)).flatMap Sp.qb) w wz from fun M wz hw hM => by
        rw [HT.out, ← List.append_assoc, ← HL.out, ← hM]; exact Hwr.out.trans hw)
      by_cases h10 : s[k] = 10
      · have k1 := b_is (n := 10) rfl h10
        have HQ := Lib.hid (show Sp.qb s[k] = [92, 110] by rw [h10]; rfl)
        have HS := Lib.hid (wS B c L ⟨#[92, 110]⟩ wr Hwr.out.is (by simp [ByteArray.size]; omega))
        clear h10
        go_wp2_with fail
        refine HS.out.mono ?_
        rintro e w2 ⟨rfl, h2⟩
        have H2 := Lib.hid (HG.out _ _ h2 (by rw [HQ.out]))
        clear h2
        go_wp2_with fail
        go_roundw
        case measure => simp only [intOf]; omega
        case rel => exact ⟨k + 1, rfl, hlt, H2.out⟩
      have k1 := b_not (n := 10) rfl h10
      have HC := Lib.hid fun w => control_any s[k] w
      cases hc : Sp.ctl s[k] with
      | true =>
        have HQ := Lib.hid (show Sp.qb s[k] = [92, 120, Sp.hexd (s[k].toNat / 16), Sp.hexd (s[k].toNat % 16)] by unfold Sp.qb; rw [if_neg h10, if_pos hc])
        rw [hc] at HC
        have HS := Lib.hid (wS B c L ⟨#[92, 120]⟩ wr Hwr.out.is (by simp [ByteArray.size]; omega))
        have hb := Sp.b_lt s[k]
        have j1 : 0 ≤ (s[k].toNat : Int) / 16 ∧ (s[k].toNat : Int) / 16 < 16 := by omega
        have j2 : 0 ≤ (s[k].toNat : Int) % 16 ∧ (s[k].toNat : Int) % 16 < 16 := by omega
        clear h10 hc hb
        go_wp2_with fail
        refine (HC.out _).mono ?_
        rintro e w2 ⟨rfl, rfl⟩
        go_wp2_with fail
        refine HS.out.mono ?_
        rintro e w3 ⟨rfl, h3⟩
        have H3 := Lib.hid h3
        have HB := Lib.hid fun x => wB B c (L ++ [92, 120]) x w3 h3.is (by simp only [List.length_append, List.length_cons, List.length_nil]; omega)
        clear h3
        go_wp2_with fail
        refine (HB.out _).mono ?_
        rintro e w4 ⟨rfl, h4⟩
        have H4 := Lib.hid h4
        have HB2 := Lib.hid fun x => wB B c _ x w4 h4.is (by simp only [List.length_append, List.length_cons, List.length_nil]; omega)
        clear h4
        go_wp2_with fail
        refine (HB2.out _).mono ?_
        rintro e w5 ⟨rfl, h5⟩
        have H5 := Lib.hid (HG.out _ _ ((H3.out.trans H4.out).trans h5) (by rw [HQ.out, dg_at _ (by omega), dg_at _ (by omega)]; simp))
        clear h5
        go_wp2_with fail
        go_roundw
        case measure => simp only [intOf]; omega
        case rel => exact ⟨k + 1, rfl, hlt, H5.out⟩
      | false =>
        have hc' : Sp.ctl s[k] ≠ true := by rw [hc]; decide
        rw [hc] at HC
        by_cases h9 : s[k] = 34 ∨ s[k] = 92
        · have HQ := Lib.hid (show Sp.qb s[k] = [92, s[k]] by unfold Sp.qb; rw [if_neg h10, if_neg hc', if_pos h9])
          have HB := Lib.hid (wB B c L 92 wr Hwr.out.is (by omega))
          by_cases h34 : s[k] = 34
          · have k2 := b_is (n := 34) rfl h34
            clear h10 hc hc' h9 h34
            go_wp2_with fail
            refine (HC.out _).mono ?_
            rintro e w2 ⟨rfl, rfl⟩
            go_wp2_with fail
            refine HB.out.mono ?_
            rintro e w3 ⟨rfl, h3⟩
            have H3 := Lib.hid h3
            have HB2 := Lib.hid (wB B c (L ++ [92]) s[k] w3 h3.is (by simp; omega))
            clear h3
            go_wp2_with fail
            refine HB2.out.mono ?_
            rintro e w4 ⟨rfl, h4⟩
            have H4 := Lib.hid (HG.out _ _ (H3.out.trans h4) (by rw [HQ.out]; simp))
            clear h4
            go_wp2_with fail
            go_roundw
            case measure => simp only [intOf]; omega
            case rel => exact ⟨k + 1, rfl, hlt, H4.out⟩
          · have k2 := b_not (n := 34) rfl h34
            have k3 := b_is (n := 92) rfl (h9.resolve_left h34)
            clear h10 hc hc' h9 h34
            go_wp2_with fail
            refine (HC.out _).mono ?_
            rintro e w2 ⟨rfl, rfl⟩
            go_wp2_with fail
            refine HB.out.mono ?_
            rintro e w3 ⟨rfl, h3⟩
            have H3 := Lib.hid h3
            have HB2 := Lib.hid (wB B c (L ++ [92]) s[k] w3 h3.is (by simp; omega))
            clear h3
            go_wp2_with fail
            refine HB2.out.mono ?_
            rintro e w4 ⟨rfl, h4⟩
            have H4 := Lib.hid (HG.out _ _ (H3.out.trans h4) (by rw [HQ.out]; simp))
            clear h4
            go_wp2_with fail
            go_roundw
            case measure => simp only [intOf]; omega
            case rel => exact ⟨k + 1, rfl, hlt, H4.out⟩
        · have HQ := Lib.hid (show Sp.qb s[k] = [s[k]] by unfold Sp.qb; rw [if_neg h10, if_neg hc', if_neg h9])
          have k2 := b_not (n := 34) rfl (fun h => h9 (.inl h))
          have k3 := b_not (n := 92) rfl (fun h => h9 (.inr h))
          have HB := Lib.hid (wB B c L s[k] wr Hwr.out.is (by omega))
          clear h10 hc hc' h9
          go_wp2_with fail
          refine (HC.out _).mono ?_
          rintro e w2 ⟨rfl, rfl⟩
          go_wp2_with fail
          refine HB.out.mono ?_
          rintro e w3 ⟨rfl, h3⟩
          have H3 := Lib.hid (HG.out _ _ h3 (by rw [HQ.out]))
          clear h3
          go_wp2_with fail
          go_roundw
          case measure => simp only [intOf]; omega
          case rel => exact ⟨k + 1, rfl, hlt, H3.out⟩
    · have hlt' : decide ((k : Int) < (s.size : Int)) = false := decide_eq_false (by omega)
      have hks : k = s.size := by omega
      have HB := Lib.hid (wB B c _ 34 wr Hwr.out.is (by simp only [List.length_append, List.length_cons, List.length_nil]; omega))
      go_wp2_with fail
      refine HB.out.mono ?_
      rintro e w3 ⟨rfl, h3⟩
      have H3 := Lib.hid (Hwr.out.trans h3)
      clear h3
      go_wp2_with fail
      go_end0
      refine ⟨rfl, ?_⟩
      have := H3.out
      rw [hks, show s.data.toList.take s.size = s.data.toList from List.take_of_length_le (Nat.le_refl _)] at this
      simpa [Sp.qt] using this
end Go.Proofs.YtacgkbdldbppjaaGreatDoor

/- What writes attributes, an operation. -/
namespace Go.Proofs.YtacgkbdldbppjaaGreatDoor
open Go.RowKit Ch

namespace Sp
def pL : List A → List UInt8
  | [] => []
  | x :: r => 123 :: (pAttr x ++ r.flatMap fun y => 44 :: pAttr y)
theorem pL_snoc (l : List A) (x : A) : pL (l ++ [x]) = pL l ++ (if l = [] then 123 else 44) :: pAttr x := by
  cases l with
  | nil => simp [pL]
  | cons y r => simp [pL]
theorem pAttrs_pL {l : List A} (h : l ≠ []) : pAttrs l = pL l ++ [125] := by
  cases l with
  | nil => exact absurd rfl h
  | cons y r => simp [pL, pAttrs, pMore]
theorem pL_le (l : List A) (h : ∀ y ∈ l, y.1.size ≤ 32 ∧ y.2.size ≤ 64) : (pL l).length ≤ 292 * l.length := by
  cases l with
  | nil => simp [pL]
  | cons x r =>
    have h1 := pMore_le (l := r) fun y hy => h y (List.mem_cons_of_mem _ hy)
    have h2 := pAttr_len (h x (List.mem_cons_self ..)).1 (h x (List.mem_cons_self ..)).2
    simp only [pMore, List.length_append, List.length_cons, List.length_nil] at h1
    simp only [pL, List.length_append, List.length_cons]
    omega
def sepOf : Nat → UInt8
  | 0 => 123
  | _ + 1 => 44
theorem pL_take {l : List A} {k : Nat} (h : k < l.length) : pL (l.take (k + 1)) = pL (l.take k) ++ sepOf k :: pAttr l[k] := by
  rw [List.take_succ_eq_append_getElem h, pL_snoc]
  cases k with
  | zero => rfl
  | succ k => rw [if_neg (by intro e; have := congrArg List.length e; rw [List.length_take, List.length_nil] at this; omega)]; rfl
end Sp

set_option maxHeartbeats 4000000 in
theorem printAttrs_any (B c : Nat) (l : List UInt8) (al : List Sp.A) (v : Value) (w : World) (h : IsB w B c l) (hv : ∀ W, Keep B BT w W → AtRow W v al) (h8 : al.length ≤ 8) (hz : ∀ y ∈ al, y.1.size ≤ 32 ∧ y.2.size ≤ 64) (hl : l.length + 2400 ≤ 140737488355328) :
    Calls Tryz.prog 61 #[.pointer (some ⟨c, 0, none⟩), v] w fun e w' => e = .returned (.tuple #[]) ∧ Wr B c (l ++ Sp.pAttrs al) w w' := by
  have Hv := Lib.hid hv
  have H := Lib.hid h
  have Hz := Lib.hid hz
  obtain ⟨a, cap, rfl⟩ := (hv w (Keep.refl _ _ _)).shape
  clear hv h hz
  by_cases h0 : al.length = 0
  · have e0 := List.length_eq_zero_iff.1 h0
    have hb : ((al.length : Int) == 0) = true := by rw [h0]; rfl
    go_enter Tryz.func61, Tryz.ntmps61
    go_wp2_with fail
    refine bodyPost_ret (results_none rfl _ _ _) rfl ⟨rfl, ?_⟩
    rw [e0]
    simpa [Sp.pAttrs] using Wr.refl H.out
  · have hb : ((al.length : Int) == 0) = false := by rw [beq_eq_false_iff_ne]; omega
    go_enter Tryz.func61, Tryz.ntmps61
    go_wp2_with fail
    go_loopw [4, 12] (fun sp i wr => ∃ k : Nat, sp = .int .u8 ((Sp.sepOf k).toNat : Int) ∧ i = .int .i64 (k : Int) ∧ k ≤ al.length ∧ Wr B c (l ++ Sp.pL (al.take k)) w wr) (fun _ i _ => al.length - (intOf i).toNat)
    case atStart => exact ⟨0, rfl, rfl, Nat.zero_le _, by simpa [Sp.pL] using Wr.refl H.out⟩
    case round =>
      obtain ⟨k, rfl, rfl, hk, hwr⟩ := hrel
      have hlen := Sp.pL_le (al.take k) fun y hy => Hz.out y (List.mem_of_mem_take hy)
      rw [List.length_take, Nat.min_eq_left hk] at hlen
      have Hwr := Lib.hid hwr
      clear hwr
      by_cases hlt : k < al.length
      · have hlt' : (k : Int) < (al.length : Int) := by omega
        have HT := Lib.hid (Sp.pL_take hlt)
        obtain ⟨L, hL⟩ : ∃ L, L = l ++ Sp.pL (al.take k) := ⟨_, rfl⟩
        have hLl : L.length + 292 ≤ 140737488355328 := by rw [hL]; simp only [List.length_append]; omega
        rw [← hL] at Hwr
        have HL := Lib.hid hL
        obtain ⟨z1, z2⟩ := Hz.out _ (List.getElem_mem hlt)
        obtain ⟨_, _, he, h1, h2, h3⟩ := Hv.out wr Hwr.out.keep
        simp only [Value.slice.injEq, true_and] at he
        obtain ⟨rfl, rfl⟩ := he
        obtain ⟨b, off, rfl, hbl, x1, x2⟩ := h3 k hlt
        obtain ⟨x, hx⟩ : ∃ x, x = al[k] := ⟨_, rfl⟩
        rw [← hx] at x1 x2 HT z1 z2
        obtain ⟨W, hW⟩ : ∃ W, W = wr.alloc (.cells #[.string x.1, .string x.2] 52) := ⟨_, rfl⟩
        have BW := Lib.hid (show Below wr.heap.size wr W by rw [hW]; exact below_box _ _)
        have b0 := show W.heap[wr.heap.size]? = some (.cells #[.string x.1, .string x.2] 52 (0, 0)) by rw [hW]; exact heap_new _ _
        have HB0 := Lib.hid b0
        have HW := Lib.hid hW
        have isW : IsB W B c L := Hwr.out.is.below BW.out
        have HA := Lib.hid (wB B c L (Sp.sepOf k) W isW (by omega))
        have BB : B ≤ wr.heap.size := Nat.le_of_lt (Nat.lt_of_le_of_lt Hwr.out.is.base.1 Hwr.out.is.base.2)
        have KW := Lib.hid (Hwr.out.keep.trans (keep_below (ts := BT) BW.out BB))
        clear hL hlen hx hW b0 isW BB h1 h2 h3
        go_wp2_with fail
        rw [← HW.out]
        refine HA.out.mono ?_
        rintro e w2 ⟨rfl, h2⟩
        have H2 := Lib.hid h2
        have HB2 := Lib.hid (h2.keep.kept _ _ _ _ HB0.out (by decide))
        have y0 : w2.cell? ⟨wr.heap.size, 0, none⟩ = some (.string x.1) := (Lib.cell_of_heap HB2.out 0).trans rfl
        have HS := Lib.hid (wS B c _ x.1 w2 h2.is (by simp only [List.length_append, List.length_cons, List.length_nil]; omega))
        clear h2
        go_wp2_with fail
        refine HS.out.mono ?_
        rintro e w3 ⟨rfl, h3⟩
        have H3 := Lib.hid (H2.out.trans h3)
        have HB3 := Lib.hid (h3.keep.kept _ _ _ _ HB2.out (by decide))
        have HC := Lib.hid (wB B c _ 58 w3 h3.is (by simp only [List.length_append, List.length_cons, List.length_nil, ← size_data]; omega))
        clear h3 y0
        go_wp2_with fail
        refine HC.out.mono ?_
        rintro e w4 ⟨rfl, h4⟩
        have H4 := Lib.hid (H3.out.trans h4)
        have HB4 := Lib.hid (h4.keep.kept _ _ _ _ HB3.out (by decide))
        have y1 : w4.cell? ⟨wr.heap.size, 1, none⟩ = some (.string x.2) := (Lib.cell_of_heap HB4.out 1).trans rfl
        have HQ := Lib.hid (quote_any B c _ x.2 w4 h4.is (by simp only [List.length_append, List.length_cons, List.length_nil, ← size_data]; omega))
        clear h4
        go_wp2_with fail
        refine HQ.out.mono ?_
        rintro e w5 ⟨rfl, h5⟩
        have H5 := Lib.hid (H4.out.trans h5)
        clear h5 y1
        go_wp2_with fail
        go_roundw
        case measure => simp only [intOf]; omega
        case rel =>
          refine ⟨k + 1, rfl, rfl, hlt, ?_, KW.out.trans H5.out.keep⟩
          have := H5.out.is
          rw [HT.out, ← List.append_assoc, ← HL.out]
          simpa [Sp.pAttr] using this
      · have hlt' : decide ((k : Int) < (al.length : Int)) = false := decide_eq_false (by omega)
        have hks : k = al.length := by omega
        have HB := Lib.hid (wB B c _ 125 wr Hwr.out.is (by simp only [List.length_append]; omega))
        go_wp2_with fail
        refine HB.out.mono ?_
        rintro e w3 ⟨rfl, h3⟩
        have H3 := Lib.hid (Hwr.out.trans h3)
        clear h3
        go_wp2_with fail
        first | go_end0 | refine bodyPost_ret (results_none rfl _ _ _) rfl ?_
        refine ⟨rfl, ?_⟩
        have := H3.out
        rw [hks, List.take_length, List.append_assoc, ← Sp.pAttrs_pL (fun e => h0 (by rw [e]; rfl))] at this
        exact this
end Go.Proofs.YtacgkbdldbppjaaGreatDoor

/- What writes an operation. -/
namespace Go.Proofs.YtacgkbdldbppjaaGreatDoor
open Go.RowKit Ch

/-- The powers of ten stand in their table. -/
def Pow (w : World) : Prop := Lib.TabIs Tryz.prog w "internal/strconv.uint64pow10" .u64 Lib.pow10Tab
theorem Pow.below {B : Nat} {w w' : World} (h : Pow w) (hb : Below B w w') (hB : 2 < B) : Pow w' := by
  have hg : Tryz.prog.globalNamed "internal/strconv.uint64pow10" = some 2 := by kernel_rfl
  unfold Pow Lib.TabIs World.var? at *
  rw [hg] at *
  simp only [Option.bind_some] at *
  rw [hb.block _ hB]
  exact h
theorem itoa_any (n : Int) (h0 : 0 ≤ n) (h1 : n ≤ 20000) (w : World) (hp : Pow w) :
    Calls Tryz.prog 31 #[.int .i64 n] w fun e w' => e = .returned (.string (Sp.ba (Lib.itoa n))) ∧ Below w.heap.size w w' :=
  (Tryz.strconv_Itoa n (by omega) (by omega) w hp).mono fun e w' ⟨h, k, os, h2⟩ => ⟨h, by rw [h2]; exact Lib.below_grow _ w (Nat.le_refl _) k os⟩
theorem isB_lt {w : World} {B c : Nat} {l : List UInt8} (h : IsB w B c l) : B ≤ w.heap.size := Nat.le_of_lt (Nat.lt_of_le_of_lt h.base.1 h.base.2)

set_option maxHeartbeats 4000000 in
theorem printOp_any (B c : Nat) (l : List UInt8) (o : OpD) (v : Value) (w : World) (h : IsB w B c l) (hv : ∀ W, Keep B BT w W → AtRow W v o.attrs) (hk : o.kind = 1 ∨ o.kind = 2 ∨ o.kind = 3) (h8 : o.attrs.length ≤ 8) (hz : ∀ y ∈ o.attrs, y.1.size ≤ 32 ∧ y.2.size ≤ 64)
    (h0 : 0 ≤ o.n) (h1 : o.n ≤ 20000) (ht : o.text.size ≤ 80000) (hp : Pow w) (hpB : 2 < B) (hl : l.length + 400000 ≤ 140737488355328) :
    Calls Tryz.prog 32 #[.pointer (some ⟨c, 0, none⟩), opAgg o v] w fun e w' => e = .returned (.tuple #[]) ∧ Wr B c (l ++ Sp.pOp o) w w' := by
  have Hv := Lib.hid hv
  have Hz := Lib.hid hz
  have hlt := isB_lt h
  obtain ⟨W, hW⟩ : ∃ W, W = w.alloc (.cells #[.int .i64 o.kind, .int .i64 o.n, .string o.text, v] 48) := ⟨_, rfl⟩
  have bw := show Below w.heap.size w W by rw [hW]; exact below_box _ _
  have BW := Lib.hid bw
  have b0 := show W.heap[w.heap.size]? = some (.cells #[.int .i64 o.kind, .int .i64 o.n, .string o.text, v] 48 (0, 0)) by rw [hW]; exact heap_new _ _
  have HB0 := Lib.hid b0
  have HW := Lib.hid hW
  have HA := Lib.hid (wB B c l 32 W (h.below bw) (by omega))
  have KW := Lib.hid (keep_below (ts := BT) bw hlt)
  have HP := Lib.hid (hp.below bw (Nat.lt_of_lt_of_le hpB hlt))
  clear hv hz hW bw b0 h hp
  go_enter Tryz.func32, Tryz.ntmps32
  go_wp2_with fail
  rw [← HW.out]
  refine HA.out.mono ?_
  rintro e w1 ⟨rfl, q1⟩
  have H1 := Lib.hid q1
  have HB1 := Lib.hid (q1.keep.kept _ _ _ _ HB0.out (by decide))
  have HP1 := Lib.hid (HP.out.below q1.keep.below hpB)
  have y0 : w1.cell? ⟨w.heap.size, 0, none⟩ = some (.int .i64 o.kind) := (Lib.cell_of_heap HB1.out 0).trans rfl
  have y1 : w1.cell? ⟨w.heap.size, 1, none⟩ = some (.int .i64 o.n) := (Lib.cell_of_heap HB1.out 1).trans rfl
  have y2 : w1.cell? ⟨w.heap.size, 2, none⟩ = some (.string o.text) := (Lib.cell_of_heap HB1.out 2).trans rfl
  clear q1
  have HN := Lib.hid fun W hW => itoa_any o.n h0 h1 W hW
  rcases hk with hk | hk | hk
  · have k1 : (o.kind == 1) = true := by rw [hk]; rfl
    have HE := Lib.hid (show Sp.pOp o = 32 :: 61 :: (Lib.itoa o.n ++ Sp.pAttrs o.attrs) by simp [Sp.pOp, Sp.pKind, hk])
    have HLn := Lib.hid (Sp.itoa_len h0 h1)
    clear hk
    have HC := Lib.hid (wB B c _ 61 w1 H1.out.is (by simp only [List.length_append, List.length_cons, List.length_nil]; omega))
    go_wp2_with fail
    refine HC.out.mono ?_
    rintro e w2 ⟨rfl, q2⟩
    have H2 := Lib.hid (H1.out.trans q2)
    have HB2 := Lib.hid (q2.keep.kept _ _ _ _ HB1.out (by decide))
    have HP2 := Lib.hid (HP1.out.below q2.keep.below hpB)
    have yn : w2.cell? ⟨w.heap.size, 1, none⟩ = some (.int .i64 o.n) := (Lib.cell_of_heap HB2.out 1).trans rfl
    clear q2 y0 y1 y2
    go_wp2_with fail
    refine (HN.out _ HP2.out).mono ?_
    rintro e w3 ⟨rfl, q3⟩
    have B2w := isB_lt H2.out.is
    have K3 := Lib.hid (H2.out.keep.trans (keep_below (ts := BT) q3 B2w))
    have HB3 := Lib.hid ((q3.block _ (lt_of_heap HB2.out)).trans HB2.out)
    have HS := Lib.hid (wS B c _ (Sp.ba (Lib.itoa o.n)) w3 (H2.out.is.below q3) (by have := HLn.out; rw [size_data, Sp.data_ba]; simp only [List.length_append, List.length_cons, List.length_nil]; omega))
    clear q3 yn
    go_wp2_with fail
    refine HS.out.mono ?_
    rintro e w4 ⟨rfl, q4⟩
    have H4 := Lib.hid q4
    have HB4 := Lib.hid (q4.keep.kept _ _ _ _ HB3.out (by decide))
    have K4 := Lib.hid (K3.out.trans q4.keep)
    have hln := HLn.out
    rw [Sp.data_ba] at H4
    clear q4
    have y3 : w4.cell? ⟨w.heap.size, 3, none⟩ = some v := (Lib.cell_of_heap HB4.out 3).trans rfl
    have HT := Lib.hid (printAttrs_any B c _ o.attrs v w4 H4.out.is (fun X hX => Hv.out X (KW.out.trans (K4.out.trans hX))) h8 Hz.out (by simp only [List.length_append, List.length_cons, List.length_nil]; omega))
    go_wp2_with fail
    refine HT.out.mono ?_
    rintro e w6 ⟨rfl, q6⟩
    have H6 := Lib.hid q6
    clear q6
    go_wp2_with fail
    first | go_end0 | refine bodyPost_ret (results_none rfl _ _ _) rfl ?_
    refine ⟨rfl, ?_, KW.out.trans (K4.out.trans H6.out.keep)⟩
    have := H6.out.is
    rw [HE.out]
    simpa [Sp.data_ba] using this
  · have k1 : (o.kind == 1) = false := by rw [hk]; rfl
    have k3 : (o.kind == 3) = false := by rw [hk]; rfl
    have k2 : (o.kind == 2) = true := by rw [hk]; rfl
    have HE := Lib.hid (show Sp.pOp o = 32 :: 43 :: (Sp.qt o.text.data.toList ++ Sp.pAttrs o.attrs) by simp [Sp.pOp, Sp.pKind, hk])
    clear hk
    have HC := Lib.hid (wB B c _ 43 w1 H1.out.is (by simp only [List.length_append, List.length_cons, List.length_nil]; omega))
    go_wp2_with fail
    refine HC.out.mono ?_
    rintro e w2 ⟨rfl, q2⟩
    have H2 := Lib.hid (H1.out.trans q2)
    have HB2 := Lib.hid (q2.keep.kept _ _ _ _ HB1.out (by decide))
    have yn : w2.cell? ⟨w.heap.size, 2, none⟩ = some (.string o.text) := (Lib.cell_of_heap HB2.out 2).trans rfl
    have HQ := Lib.hid (quote_any B c _ o.text w2 H2.out.is (by simp only [List.length_append, List.length_cons, List.length_nil]; omega))
    clear q2 y0 y1 y2
    go_wp2_with fail
    refine HQ.out.mono ?_
    rintro e w4 ⟨rfl, q4⟩
    have H4 := Lib.hid q4
    have HB4 := Lib.hid (q4.keep.kept _ _ _ _ HB2.out (by decide))
    have K4 := Lib.hid (H2.out.keep.trans q4.keep)
    have hln := Sp.qt_len o.text.data.toList
    rw [← size_data] at hln
    clear q4 yn
    have y3 : w4.cell? ⟨w.heap.size, 3, none⟩ = some v := (Lib.cell_of_heap HB4.out 3).trans rfl
    have HT := Lib.hid (printAttrs_any B c _ o.attrs v w4 H4.out.is (fun X hX => Hv.out X (KW.out.trans (K4.out.trans hX))) h8 Hz.out (by simp only [List.length_append, List.length_cons, List.length_nil]; omega))
    go_wp2_with fail
    refine HT.out.mono ?_
    rintro e w6 ⟨rfl, q6⟩
    have H6 := Lib.hid q6
    clear q6
    go_wp2_with fail
    first | go_end0 | refine bodyPost_ret (results_none rfl _ _ _) rfl ?_
    refine ⟨rfl, ?_, KW.out.trans (K4.out.trans H6.out.keep)⟩
    have := H6.out.is
    rw [HE.out]
    simpa [Sp.data_ba] using this
  · have k1 : (o.kind == 1) = false := by rw [hk]; rfl
    have k3 : (o.kind == 3) = true := by rw [hk]; rfl
    have HE := Lib.hid (show Sp.pOp o = 32 :: 45 :: (Lib.itoa o.n ++ Sp.pAttrs o.attrs) by simp [Sp.pOp, Sp.pKind, hk])
    have HLn := Lib.hid (Sp.itoa_len h0 h1)
    clear hk
    have HC := Lib.hid (wB B c _ 45 w1 H1.out.is (by simp only [List.length_append, List.length_cons, List.length_nil]; omega))
    go_wp2_with fail
    refine HC.out.mono ?_
    rintro e w2 ⟨rfl, q2⟩
    have H2 := Lib.hid (H1.out.trans q2)
    have HB2 := Lib.hid (q2.keep.kept _ _ _ _ HB1.out (by decide))
    have HP2 := Lib.hid (HP1.out.below q2.keep.below hpB)
    have yn : w2.cell? ⟨w.heap.size, 1, none⟩ = some (.int .i64 o.n) := (Lib.cell_of_heap HB2.out 1).trans rfl
    clear q2 y0 y1 y2
    go_wp2_with fail
    refine (HN.out _ HP2.out).mono ?_
    rintro e w3 ⟨rfl, q3⟩
    have B2w := isB_lt H2.out.is
    have K3 := Lib.hid (H2.out.keep.trans (keep_below (ts := BT) q3 B2w))
    have HB3 := Lib.hid ((q3.block _ (lt_of_heap HB2.out)).trans HB2.out)
    have HS := Lib.hid (wS B c _ (Sp.ba (Lib.itoa o.n)) w3 (H2.out.is.below q3) (by have := HLn.out; rw [size_data, Sp.data_ba]; simp only [List.length_append, List.length_cons, List.length_nil]; omega))
    clear q3 yn
    go_wp2_with fail
    refine HS.out.mono ?_
    rintro e w4 ⟨rfl, q4⟩
    have H4 := Lib.hid q4
    have HB4 := Lib.hid (q4.keep.kept _ _ _ _ HB3.out (by decide))
    have K4 := Lib.hid (K3.out.trans q4.keep)
    have hln := HLn.out
    rw [Sp.data_ba] at H4
    clear q4
    have y3 : w4.cell? ⟨w.heap.size, 3, none⟩ = some v := (Lib.cell_of_heap HB4.out 3).trans rfl
    have HT := Lib.hid (printAttrs_any B c _ o.attrs v w4 H4.out.is (fun X hX => Hv.out X (KW.out.trans (K4.out.trans hX))) h8 Hz.out (by simp only [List.length_append, List.length_cons, List.length_nil]; omega))
    go_wp2_with fail
    refine HT.out.mono ?_
    rintro e w6 ⟨rfl, q6⟩
    have H6 := Lib.hid q6
    clear q6
    go_wp2_with fail
    first | go_end0 | refine bodyPost_ret (results_none rfl _ _ _) rfl ?_
    refine ⟨rfl, ?_, KW.out.trans (K4.out.trans H6.out.keep)⟩
    have := H6.out.is
    rw [HE.out]
    simpa [Sp.data_ba] using this
end Go.Proofs.YtacgkbdldbppjaaGreatDoor

/- The program's end: the whole row, its last keep dropped if it says nothing. -/
namespace Go.Proofs.YtacgkbdldbppjaaGreatDoor
open Go.RowKit Ch

theorem own_front {w : World} {B gg cap : Nat} {fr : List (OpD × Value)} {p : OpD × Value} (h : w.ownsRow B 48 4 (.slice (some ⟨gg, 0, none⟩) (fr.length + 1) cap) (fr.length + 1) (flatO (fr ++ [p]))) :
    w.ownsRow B 48 4 (.slice (some ⟨gg, 0, none⟩) fr.length cap) fr.length (flatO fr) := by
  rcases h.2 with ⟨h', _⟩ | ⟨g', cap', cur, h', hb, hg, hn, hm, hc, ht⟩
  · simp at h'
  · simp only [Value.slice.injEq, Option.some.injEq, Addr.mk.injEq, and_true, true_and] at h'
    obtain ⟨rfl, rfl⟩ := h'
    refine ⟨flatO_len _, .inr ⟨gg, cap, cur, rfl, hb, hg, by omega, hm, hc, ?_⟩⟩
    have h2 := congrArg (List.take (fr.length * 4)) ht
    rw [List.take_take, flatO_snoc, List.take_append_of_le_length (by rw [flatO_len]; omega), List.take_of_length_le (l := flatO fr) (by rw [flatO_len]; omega)] at h2
    rw [← h2]
    congr 1
    omega
theorem slice_ops (g n cap k : Nat) (hk : k ≤ cap) (W : World) : (Instr.sliceAt 22 (.slice (some ⟨g, 0, none⟩) n cap) none (some (.int .i64 (k : Int))) none).run Tryz.prog W = .ok (.slice (some ⟨g, 0, none⟩) k cap) W := by
  have he : Tryz.prog.elem 22 = 48 := by kernel_rfl
  have hu : Tryz.prog.underlying 22 = some (.slice (Tryz.prog.elem 22)) := by kernel_rfl
  rw [run_sliceAt_slice W _ _ _ _ _ hu, run_slice_h W _ _ _ _ hu .i64 _ (by omega) (by omega), he, Tryz.sizeOf48, Int.toNat_natCast]
  have e : sliced (some ⟨g, 0, none⟩) 0 k cap 4 = .slice (some ⟨g, 0, none⟩) k cap := by
    unfold sliced
    split <;> simp [Addr.add]
  rw [← e]; rfl

theorem map_snoc {ps : List (OpD × Value)} {l : List OpD} {x : OpD} (h : ps.map (·.1) = l ++ [x]) : ∃ fr xv, ps = fr ++ [(x, xv)] ∧ fr.map (·.1) = l := by
  obtain ⟨a, b, rfl, h1, h2⟩ := List.map_eq_append_iff.1 h
  cases b with
  | nil => simp at h2
  | cons p b =>
    simp only [List.map_cons, List.cons.injEq, List.map_eq_nil_iff] at h2
    obtain ⟨rfl, rfl⟩ := h2
    exact ⟨a, p.2, rfl, h1⟩
def EndOut (w : World) (B : Nat) (s : List OpD × Int) (e : Ending) (w' : World) : Prop := ∃ v, e = .returned v ∧ OwnOps w' B v (trim (flush s)).reverse ∧ Keep B TS w w'

set_option maxHeartbeats 4000000 in
set_option maxRecDepth 100000 in
theorem end_any (B b : Nat) (ov : Value) (s : List OpD × Int) (w : World) (h : NSt w B b ov s.1 s.2) (hB : B ≤ b) (hg : 0 ≤ s.2) (hf : Fits s.1 (delO s.2)) (hl : (flush s).length ≤ 4000) :
    Calls Tryz.prog 57 #[.pointer (some ⟨b, 0, none⟩)] w (EndOut w B s) := by
  obtain ⟨l, g⟩ := s
  have HD := Lib.hid (deleted_any B b ov l g w h hB hg hf)
  have HL := Lib.hid hl
  clear h hg hf hl
  cases hfl : flush (l, g) with
  | nil =>
    have HR := Lib.hid (show (trim (flush (l, g))).reverse = [] by rw [hfl]; rfl)
    have HFL := Lib.hid hfl
    clear hfl
    go_enter Tryz.func57, Tryz.ntmps57
    go_wp2_with fail
    refine HD.out.mono ?_
    rintro e wA ⟨rfl, ovA, NA, KA⟩
    have HNA := Lib.hid NA
    have HKA := Lib.hid KA
    clear NA KA
    go_wp2_with fail
    refine (finish_any B b ovA _ 0 _ HNA.out hB (by have := HL.out; omega)).mono ?_
    rintro e wF ⟨rfl, F1, KF⟩
    obtain ⟨ps, ad, bv, hN, _, hP, _, hps⟩ := F1
    rw [HFL.out] at hps
    have h0 : ps = [] := List.map_eq_nil_iff.1 hps
    subst h0
    obtain ⟨oa, oc, rfl⟩ := own_slice hP.1
    have k0 : wF.cell? ⟨b, 0, none⟩ = some (.slice oa 0 oc) := hN.cells.1
    have HP := Lib.hid hP
    have HK := Lib.hid (HKA.out.keep.trans KF.keep)
    clear hN hP hps KF
    go_wp2_with fail
    go_ret
    exact ⟨_, rfl, by rw [HR.out]; exact ⟨[], rfl, HP.out⟩, HK.out⟩
  | cons x r =>
    have HFL := Lib.hid hfl
    clear hfl
    by_cases hk : x.kind = 1
    · have t1 : (x.kind == 1) = true := by rw [hk]; rfl
      by_cases ha : x.attrs.length = 0
      · have a1 : ((x.attrs.length : Int) == 0) = true := by rw [ha]; rfl
        have a2 : (x.attrs.length == 0) = true := by rw [ha]; rfl
        have HR := Lib.hid (show (trim (flush (l, g))).reverse = r.reverse by rw [HFL.out, trim, if_pos ⟨hk, ha⟩])
        clear hk ha
        go_enter Tryz.func57, Tryz.ntmps57
        go_wp2_with fail
        refine HD.out.mono ?_
        rintro e wA ⟨rfl, ovA, NA, KA⟩
        have HNA := Lib.hid NA
        have HKA := Lib.hid KA
        clear NA KA
        go_wp2_with fail
        refine (finish_any B b ovA _ 0 _ HNA.out hB (by have := HL.out; omega)).mono ?_
        rintro e wF ⟨rfl, F1, KF⟩
        obtain ⟨ps, ad, bv, hN, _, hP, _, hps⟩ := F1
        rw [HFL.out] at hps
        have HPS := Lib.hid hps
        obtain ⟨fr, xv, rfl, hfr⟩ := map_snoc (hps.trans List.reverse_cons)
        obtain ⟨gg, cap, hov⟩ := ownsRow_open hP.len (Nat.succ_pos _)
        subst hov
        obtain ⟨xa, xc, hxv⟩ : ∃ a c, xv = .slice a x.attrs.length c := own_slice (hP.2 (x, xv) (by simp))
        subst hxv
        obtain ⟨q0, q1, q2, q3⟩ := last_cells hP.len
        have k0 : wF.cell? ⟨b, 0, none⟩ = some (.slice (some ⟨gg, 0, none⟩) (fr.length + 1) cap) := hN.cells.1
        have hm : fr.length ≤ 4000 := by
          have h1 := congrArg List.length hfr
          rw [List.length_map, List.length_reverse] at h1
          have h2 := HL.out
          rw [HFL.out, List.length_cons] at h2
          omega
        have hcap : fr.length ≤ cap := by
          rcases hP.len.2 with ⟨h', _⟩ | ⟨g', cap', cur, h', _, _, hn, _⟩
          · simp at h'
          · simp only [Value.slice.injEq] at h'
            omega
        have HCAP := Lib.hid hcap
        have i1 : (0 : Int) ≤ (fr.length : Int) := by omega
        have i2 : (fr.length : Int) < (fr.length : Int) + 1 := by omega
        have i3 : decide ((0 : Int) ≤ (fr.length : Int)) = true := decide_eq_true (by omega)
        have HP := Lib.hid hP
        have HFR := Lib.hid hfr
        have HK := Lib.hid (HKA.out.keep.trans KF.keep)
        clear hN hP hps KF hfr q1 q2 hcap
        go_wp2_with (refine wpList_sliced (.slice (some ⟨gg, 0, none⟩) (fr.length + 1) cap) (.slice (some ⟨gg, 0, none⟩) fr.length cap) rfl (slice_ops _ _ _ _ HCAP.out _) ?_)
        go_ret
        exact ⟨_, rfl, by rw [HR.out]; exact ⟨fr, HFR.out, own_front HP.out.len, fun p hp => HP.out.2 p (List.mem_append_left _ hp)⟩, HK.out⟩
      · have a1 : ((x.attrs.length : Int) == 0) = false := by rw [beq_eq_false_iff_ne]; omega
        have a2 : (x.attrs.length == 0) = false := by rw [beq_eq_false_iff_ne]; omega
        have HR := Lib.hid (show (trim (flush (l, g))).reverse = (x :: r).reverse by rw [HFL.out, trim, if_neg fun h => ha h.2])
        clear hk ha
        go_enter Tryz.func57, Tryz.ntmps57
        go_wp2_with fail
        refine HD.out.mono ?_
        rintro e wA ⟨rfl, ovA, NA, KA⟩
        have HNA := Lib.hid NA
        have HKA := Lib.hid KA
        clear NA KA
        go_wp2_with fail
        refine (finish_any B b ovA _ 0 _ HNA.out hB (by have := HL.out; omega)).mono ?_
        rintro e wF ⟨rfl, F1, KF⟩
        obtain ⟨ps, ad, bv, hN, _, hP, _, hps⟩ := F1
        rw [HFL.out] at hps
        have HPS := Lib.hid hps
        obtain ⟨fr, xv, rfl, hfr⟩ := map_snoc (hps.trans List.reverse_cons)
        obtain ⟨gg, cap, hov⟩ := ownsRow_open hP.len (Nat.succ_pos _)
        subst hov
        obtain ⟨xa, xc, hxv⟩ : ∃ a c, xv = .slice a x.attrs.length c := own_slice (hP.2 (x, xv) (by simp))
        subst hxv
        obtain ⟨q0, q1, q2, q3⟩ := last_cells hP.len
        have k0 : wF.cell? ⟨b, 0, none⟩ = some (.slice (some ⟨gg, 0, none⟩) (fr.length + 1) cap) := hN.cells.1
        have hm : fr.length ≤ 4000 := by
          have h1 := congrArg List.length hfr
          rw [List.length_map, List.length_reverse] at h1
          have h2 := HL.out
          rw [HFL.out, List.length_cons] at h2
          omega
        have hcap : fr.length ≤ cap := by
          rcases hP.len.2 with ⟨h', _⟩ | ⟨g', cap', cur, h', _, _, hn, _⟩
          · simp at h'
          · simp only [Value.slice.injEq] at h'
            omega
        have HCAP := Lib.hid hcap
        have i1 : (0 : Int) ≤ (fr.length : Int) := by omega
        have i2 : (fr.length : Int) < (fr.length : Int) + 1 := by omega
        have i3 : decide ((0 : Int) ≤ (fr.length : Int)) = true := decide_eq_true (by omega)
        have HP := Lib.hid hP
        have HFR := Lib.hid hfr
        have HK := Lib.hid (HKA.out.keep.trans KF.keep)
        clear hN hP hps KF hfr q1 q2 hcap
        go_wp2_with fail
        go_ret
        exact ⟨_, rfl, by rw [HR.out]; exact ⟨_, HPS.out, HP.out⟩, HK.out⟩
    · have t1 : (x.kind == 1) = false := by rw [beq_eq_false_iff_ne]; exact hk
      have HR := Lib.hid (show (trim (flush (l, g))).reverse = (x :: r).reverse by rw [HFL.out, trim, if_neg fun h => hk h.1])
      clear hk
      go_enter Tryz.func57, Tryz.ntmps57
      go_wp2_with fail
      refine HD.out.mono ?_
      rintro e wA ⟨rfl, ovA, NA, KA⟩
      have HNA := Lib.hid NA
      have HKA := Lib.hid KA
      clear NA KA
      go_wp2_with fail
      refine (finish_any B b ovA _ 0 _ HNA.out hB (by have := HL.out; omega)).mono ?_
      rintro e wF ⟨rfl, F1, KF⟩
      obtain ⟨ps, ad, bv, hN, _, hP, _, hps⟩ := F1
      rw [HFL.out] at hps
      have HPS := Lib.hid hps
      obtain ⟨fr, xv, rfl, hfr⟩ := map_snoc (hps.trans List.reverse_cons)
      obtain ⟨gg, cap, hov⟩ := ownsRow_open hP.len (Nat.succ_pos _)
      subst hov
      obtain ⟨xa, xc, hxv⟩ : ∃ a c, xv = .slice a x.attrs.length c := own_slice (hP.2 (x, xv) (by simp))
      subst hxv
      obtain ⟨q0, q1, q2, q3⟩ := last_cells hP.len
      have k0 : wF.cell? ⟨b, 0, none⟩ = some (.slice (some ⟨gg, 0, none⟩) (fr.length + 1) cap) := hN.cells.1
      have hm : fr.length ≤ 4000 := by
        have h1 := congrArg List.length hfr
        rw [List.length_map, List.length_reverse] at h1
        have h2 := HL.out
        rw [HFL.out, List.length_cons] at h2
        omega
      have hcap : fr.length ≤ cap := by
        rcases hP.len.2 with ⟨h', _⟩ | ⟨g', cap', cur, h', _, _, hn, _⟩
        · simp at h'
        · simp only [Value.slice.injEq] at h'
          omega
      have HCAP := Lib.hid hcap
      have i1 : (0 : Int) ≤ (fr.length : Int) := by omega
      have i2 : (fr.length : Int) < (fr.length : Int) + 1 := by omega
      have i3 : decide ((0 : Int) ≤ (fr.length : Int)) = true := decide_eq_true (by omega)
      have HP := Lib.hid hP
      have HFR := Lib.hid hfr
      have HK := Lib.hid (HKA.out.keep.trans KF.keep)
      clear hN hP hps KF hfr q1 q2 hcap
      go_wp2_with fail
      go_ret
      exact ⟨_, rfl, by rw [HR.out]; exact ⟨_, HPS.out, HP.out⟩, HK.out⟩
end Go.Proofs.YtacgkbdldbppjaaGreatDoor

/- The program's size: how many runes an operation keeps, inserts or deletes, or its error. -/
namespace Go.Proofs.YtacgkbdldbppjaaGreatDoor
open Go.RowKit Ch

def SizeOut (w : World) (o : OpD) (e : Ending) (w' : World) : Prop := ∃ n, e = .returned (.tuple #[.int .i64 n, .int .i64 (opE o)]) ∧ (opE o = 0 → n = opSz o) ∧ Below w.heap.size w w'
theorem sizeOut_bad {w w' : World} {o : OpD} {n : Int} (h : opE o = 30) (hb : Below w.heap.size w w') : SizeOut w o (.returned (.tuple #[.int .i64 n, .int .i64 30])) w' :=
  ⟨n, by rw [h], fun h0 => by omega, hb⟩
theorem sizeOut_mk {w w' : World} {o : OpD} {n E : Int} (h : opE o = E) (hn : E = 0 → n = opSz o) (hb : Below w.heap.size w w') : SizeOut w o (.returned (.tuple #[.int .i64 n, .int .i64 E])) w' :=
  ⟨n, by rw [h], fun h0 => hn (h.symm.trans h0), hb⟩

set_option maxRecDepth 100000 in
set_option maxHeartbeats 2000000 in
theorem size_any (o : OpD) (av : Value) (w : World) (hv : AtRow w av o.attrs) (ht : o.text.size ≤ maxLen) (hz : Sized o.attrs) :
    Calls Tryz.prog 101 #[opAgg o av] w (SizeOut w o) := by
  have Hv := Lib.hid hv
  have Hz := Lib.hid hz
  have Ht := Lib.hid ht
  obtain ⟨aa, acap, rfl, _⟩ := hv
  obtain ⟨W, hW⟩ : ∃ W, W = w.alloc (.cells #[.int .i64 o.kind, .int .i64 o.n, .string o.text, .slice aa o.attrs.length acap] 48) := ⟨_, rfl⟩
  have BW := Lib.hid (show Below w.heap.size w W by rw [hW]; exact (Below.refl _ _).alloc (Nat.le_refl _) _)
  have c0 : W.cell? ⟨w.heap.size, 0, none⟩ = some (.int .i64 o.kind) := by rw [hW]; go_simp
  have c1 : W.cell? ⟨w.heap.size, 1, none⟩ = some (.int .i64 o.n) := by rw [hW]; go_simp
  have c2 : W.cell? ⟨w.heap.size, 2, none⟩ = some (.string o.text) := by rw [hW]; go_simp
  have c3 : W.cell? ⟨w.heap.size, 3, none⟩ = some (.slice aa o.attrs.length acap) := by rw [hW]; go_simp
  have hlt : w.heap.size < W.heap.size := by rw [hW]; simp
  have HW := Lib.hid hW
  clear hz hW
  by_cases hk1 : o.kind = 1
  · have k1 : (o.kind == 1) = true := by rw [hk1]; rfl
    by_cases hn : o.n < 1
    · have e30 := Lib.hid (show opE o = 30 by unfold opE; rw [if_pos hk1, if_pos (.inl hn)])
      clear hk1
      go_enter Tryz.func101, Tryz.ntmps101
      go_wp2_with fail
      rw [← HW.out]
      go_wp2_with fail
      go_ret2
      exact sizeOut_bad e30.out BW.out
    · have hn1 : 1 ≤ o.n := by omega
      by_cases ht0 : o.text.size = 0
      · obtain ⟨t1, t2⟩ := text_empty ht0
        have e1 := Lib.hid (show opE o = chgE o.attrs by unfold opE; rw [if_pos hk1, if_neg (by omega)])
        have e2 := Lib.hid (show opSz o = o.n by unfold opSz; rw [if_neg (by omega)])
        have T := Lib.hid t2
        clear hk1 hn ht0 t2
        go_enter Tryz.func101, Tryz.ntmps101
        go_wp2_with fail
        rw [← HW.out]
        go_wp2_with fail
        go_region_held3 (fun w' => w'.cell? ⟨w.heap.size, 1, none⟩ = some (.int .i64 o.n) ∧ w'.cell? ⟨w.heap.size, 3, none⟩ = some (.slice aa o.attrs.length acap))
          (first
            | exact ⟨c1, c3⟩
            | exact ⟨(BA.cell (by exact hlt)).trans c1, (BA.cell (by exact hlt)).trans c3⟩)
          (first
            | (go_at_call_of 113 (Value.slice aa o.attrs.length acap); refine (changeD_any _ o.attrs _ (Hv.out.below ((BW.out.drew).trans ((Below.refl _ _).mono BW.out.size))) Hz.out).mono ?_; rintro e wA ⟨rfl, hbA⟩; have BA : Below W.heap.size W wA := of_drew hbA))
        go_wp2_with fail
        go_ret2
        exact sizeOut_mk e1.out (fun _ => e2.out.symm) (BW.out.trans (BA.mono BW.out.size))
      · have t1 := text_full ht0
        have e30 := Lib.hid (show opE o = 30 by unfold opE; rw [if_pos hk1, if_pos (.inr ht0)])
        clear hk1 hn ht0
        go_enter Tryz.func101, Tryz.ntmps101
        go_wp2_with fail
        rw [← HW.out]
        go_wp2_with fail
        go_ret2
        exact sizeOut_bad e30.out BW.out
  · have k1 : (o.kind == 1) = false := by rw [beq_eq_false_iff_ne]; exact hk1
    by_cases hk2 : o.kind = 2
    · have k2 : (o.kind == 2) = true := by rw [hk2]; rfl
      by_cases hn : o.n = 0
      · have n0 : (o.n != 0) = false := by rw [hn]; rfl
        by_cases ht0 : o.text.size = 0
        · obtain ⟨t1, t2⟩ := text_empty ht0
          have e30 := Lib.hid (show opE o = 30 by unfold opE; rw [if_neg hk1, if_pos hk2, if_pos (.inr ht0)])
          clear hk1 hk2 hn ht0 t2
          go_enter Tryz.func101, Tryz.ntmps101
          go_wp2_with fail
          rw [← HW.out]
          go_wp2_with fail
          go_ret2
          exact sizeOut_bad e30.out BW.out
        · have t1 := text_full ht0
          have e0 : opE o = if er o.text.data.toList ≠ 0 then er o.text.data.toList else rgtE o.attrs := by unfold opE; rw [if_neg hk1, if_pos hk2, if_neg (by omega)]
          have e2 := Lib.hid (show opSz o = cnt o.text.data.toList by unfold opSz; rw [if_pos hk2])
          by_cases he : er o.text.data.toList = 0
          · have e1 := Lib.hid (show opE o = rgtE o.attrs by rw [e0, if_neg (by simpa using he)])
            have Hcnt : ∀ W : World, Calls Tryz.prog 114 #[.string o.text] W fun e w' => e = .returned (.tuple #[.int .i64 (cnt o.text.data.toList), .int .i64 0]) ∧ Below W.heap.size W w' := fun W => by have := count_any o.text W Ht.out; rw [he] at this; exact this
            have HC := Lib.hid Hcnt
            clear hk1 hk2 hn ht0 he e0 Hcnt
            go_enter Tryz.func101, Tryz.ntmps101
            go_wp2_with fail
            rw [← HW.out]
            go_wp2_with fail
            refine (HC.out _).mono ?_
            rintro e w1 ⟨rfl, b1⟩
            have d3 : w1.cell? ⟨w.heap.size, 3, none⟩ = some (.slice aa o.attrs.length acap) := (b1.cell (by exact hlt)).trans c3
            have B1 := Lib.hid (BW.out.trans (b1.mono BW.out.size))
            clear b1
            go_wp2_with fail
            refine (rightD_any _ o.attrs _ (Hv.out.below B1.out) Hz.out).mono ?_
            rintro e w2 ⟨rfl, b2⟩
            have B2 := Lib.hid (B1.out.trans (b2.mono B1.out.size))
            clear b2
            go_wp2_with fail
            go_ret2
            exact sizeOut_mk e1.out (fun _ => e2.out.symm) B2.out
          · have h10 : er o.text.data.toList = 10 := (er_cases _).resolve_left he
            have e1 := Lib.hid (show opE o = 10 by rw [e0, if_pos (by simpa using he), h10])
            have Hcnt : ∀ W : World, Calls Tryz.prog 114 #[.string o.text] W fun e w' => e = .returned (.tuple #[.int .i64 (cnt o.text.data.toList), .int .i64 10]) ∧ Below W.heap.size W w' := fun W => by have := count_any o.text W Ht.out; rw [h10] at this; exact this
            have HC := Lib.hid Hcnt
            clear hk1 hk2 hn ht0 he e0 Hcnt h10
            go_enter Tryz.func101, Tryz.ntmps101
            go_wp2_with fail
            rw [← HW.out]
            go_wp2_with fail
            refine (HC.out _).mono ?_
            rintro e w1 ⟨rfl, b1⟩
            have B1 := Lib.hid (BW.out.trans (b1.mono BW.out.size))
            clear b1
            go_wp2_with fail
            go_ret2
            exact sizeOut_mk e1.out (fun h0 => absurd h0 (by decide)) B1.out
      · have n0 : (o.n != 0) = true := by rw [bne_iff_ne]; exact hn
        have e30 := Lib.hid (show opE o = 30 by unfold opE; rw [if_neg hk1, if_pos hk2, if_pos (.inl hn)])
        clear hk1 hk2 hn
        go_enter Tryz.func101, Tryz.ntmps101
        go_wp2_with fail
        rw [← HW.out]
        go_wp2_with fail
        go_ret2
        exact sizeOut_bad e30.out BW.out
    · have k2 : (o.kind == 2) = false := by rw [beq_eq_false_iff_ne]; exact hk2
      by_cases hk3 : o.kind = 3
      · have k3 : (o.kind == 3) = true := by rw [hk3]; rfl
        by_cases hn : o.n < 1
        · have e30 := Lib.hid (show opE o = 30 by unfold opE; rw [if_neg hk1, if_neg hk2, if_pos hk3, if_pos (.inl hn)])
          clear hk1 hk2 hk3
          go_enter Tryz.func101, Tryz.ntmps101
          go_wp2_with fail
          rw [← HW.out]
          go_wp2_with fail
          go_ret2
          exact sizeOut_bad e30.out BW.out
        · have hn1 : 1 ≤ o.n := by omega
          by_cases ht0 : o.text.size = 0
          · obtain ⟨t1, t2⟩ := text_empty ht0
            by_cases ha : o.attrs.length = 0
            · have l0 : decide ((0 : Int) < (o.attrs.length : Int)) = false := decide_eq_false (by omega)
              have l1 : decide (0 < o.attrs.length) = false := decide_eq_false (by omega)
              have e1 := Lib.hid (show opE o = 0 by unfold opE; rw [if_neg hk1, if_neg hk2, if_pos hk3, if_neg (by omega)])
              have e2 := Lib.hid (show opSz o = o.n by unfold opSz; rw [if_neg hk2])
              clear hk1 hk2 hk3 hn ht0 ha t2
              go_enter Tryz.func101, Tryz.ntmps101
              go_wp2_with fail
              rw [← HW.out]
              go_wp2_with fail
              go_ret2
              exact sizeOut_mk e1.out (fun _ => e2.out.symm) BW.out
            · have l0 : decide ((0 : Int) < (o.attrs.length : Int)) = true := decide_eq_true (by omega)
              have l1 : decide (0 < o.attrs.length) = true := decide_eq_true (by omega)
              have l2 : 0 < o.attrs.length := by omega
              have e30 := Lib.hid (show opE o = 30 by unfold opE; rw [if_neg hk1, if_neg hk2, if_pos hk3, if_pos (.inr (.inr ha))])
              clear hk1 hk2 hk3 hn ht0 ha t2
              go_enter Tryz.func101, Tryz.ntmps101
              go_wp2_with fail
              rw [← HW.out]
              go_wp2_with fail
              go_ret2
              exact sizeOut_bad e30.out BW.out
          · have t1 := text_full ht0
            have e30 := Lib.hid (show opE o = 30 by unfold opE; rw [if_neg hk1, if_neg hk2, if_pos hk3, if_pos (.inr (.inl ht0))])
            clear hk1 hk2 hk3 hn ht0
            go_enter Tryz.func101, Tryz.ntmps101
            go_wp2_with fail
            rw [← HW.out]
            go_wp2_with fail
            go_ret2
            exact sizeOut_bad e30.out BW.out
      · have k3 : (o.kind == 3) = false := by rw [beq_eq_false_iff_ne]; exact hk3
        have e30 := Lib.hid (show opE o = 30 by unfold opE; rw [if_neg hk1, if_neg hk2, if_neg hk3])
        clear hk1 hk2 hk3
        go_enter Tryz.func101, Tryz.ntmps101
        go_wp2_with fail
        rw [← HW.out]
        go_wp2_with fail
        go_ret2
        exact sizeOut_bad e30.out BW.out
end Go.Proofs.YtacgkbdldbppjaaGreatDoor

/- The program's To and Right. -/
namespace Go.Proofs.YtacgkbdldbppjaaGreatDoor
open Go.RowKit Ch

theorem size_ok (o : OpD) (av : Value) (w : World) (hv : AtRow w av o.attrs) (ht : o.text.size ≤ maxLen) (hz : Sized o.attrs) (he : opE o = 0) :
    Calls Tryz.prog 101 #[opAgg o av] w fun e w' => e = .returned (.tuple #[.int .i64 (opSz o), .int .i64 0]) ∧ Below w.heap.size w w' :=
  (size_any o av w hv ht hz).mono fun e w' ⟨n, h1, h2, h3⟩ => ⟨by rw [h1, he, h2 he], h3⟩
theorem size_bad (o : OpD) (av : Value) (w : World) (hv : AtRow w av o.attrs) (ht : o.text.size ≤ maxLen) (hz : Sized o.attrs) :
    Calls Tryz.prog 101 #[opAgg o av] w fun e w' => ∃ n, e = .returned (.tuple #[.int .i64 n, .int .i64 (opE o)]) ∧ Below w.heap.size w w' :=
  (size_any o av w hv ht hz).mono fun _e _w' ⟨n, h1, _, h3⟩ => ⟨n, h1, h3⟩

theorem opSz_lim {o : OpD} (_he : opE o = 0) (hk : o.kind = 2) : 0 ≤ opSz o ∧ opSz o ≤ 20000 := by
  unfold opSz
  rw [if_pos hk]
  exact cnt_nonneg _
theorem opSz_n {o : OpD} (hk : o.kind ≠ 2) : opSz o = o.n := by
  unfold opSz
  rw [if_neg hk]
theorem drop_at {ops : List OpD} {k : Nat} (h : k < ops.length) : ops.drop k = ops[k] :: ops.drop (k + 1) := List.drop_eq_getElem_cons h
theorem scan_bad {o : OpD} {r : List OpD} {left u : Int} (h : opE o ≠ 0) : scan left u (o :: r) = (0, 0, opE o) := by rw [scan, if_pos h]
theorem scan_put {o : OpD} {r : List OpD} {left u : Int} (h : opE o = 0) (hk : o.kind = 2) : scan left u (o :: r) = scan left (u + opSz o) r := by rw [scan, if_neg (by simpa using h), if_pos hk]
theorem scan_over {o : OpD} {r : List OpD} {left u : Int} (h : opE o = 0) (hk : o.kind ≠ 2) (hl : left < o.n) : scan left u (o :: r) = (0, 0, 31) := by rw [scan, if_neg (by simpa using h), if_neg hk, if_pos hl]
theorem scan_cut {o : OpD} {r : List OpD} {left u : Int} (h : opE o = 0) (hk : o.kind = 3) (hl : ¬ left < o.n) : scan left u (o :: r) = scan (left - o.n) (u - o.n) r := by rw [scan, if_neg (by simpa using h), if_neg (by omega), if_neg hl, if_pos hk]
theorem scan_keep {o : OpD} {r : List OpD} {left u : Int} (h : opE o = 0) (hk : o.kind ≠ 2) (hk3 : o.kind ≠ 3) (hl : ¬ left < o.n) : scan left u (o :: r) = scan (left - o.n) u r := by rw [scan, if_neg (by simpa using h), if_neg hk, if_neg hl, if_neg hk3]

def ToOut (w : World) (f : Int) (ops : List OpD) (e : Ending) (w' : World) : Prop := e = .returned (.tuple #[.int .i64 (toN f ops), .int .i64 (toE f ops)]) ∧ Below w.heap.size w w'
theorem toOut_mk {w w' : World} {f n E : Int} {ops : List OpD} (h : toE f ops = E) (hn : toN f ops = n) (hb : Below w.heap.size w w') : ToOut w f ops (.returned (.tuple #[.int .i64 n, .int .i64 E])) w' := ⟨by rw [h, hn], hb⟩
theorem toOut_bad {w w' : World} {f E : Int} {ops : List OpD} (h : toE f ops = E) (hE : E ≠ 0) (hb : Below w.heap.size w w') : ToOut w f ops (.returned (.tuple #[.int .i64 0, .int .i64 E])) w' :=
  toOut_mk h (toN_bad (by rw [h]; exact hE)) hb
theorem toE_scan {f E : Int} {ops : List OpD} {l u : Int} (h0 : 0 ≤ f) (h1 : f ≤ 20000) (h2 : ops.length ≤ 2000) (h : scan f f ops = (l, u, E)) (hE : E ≠ 0) : toE f ops = E := by
  unfold toE
  rw [if_neg (by omega), if_neg (by omega), h, if_pos hE]
theorem toE_end {f : Int} {ops : List OpD} {l u : Int} (h0 : 0 ≤ f) (h1 : f ≤ 20000) (h2 : ops.length ≤ 2000) (h : scan f f ops = (l, u, 0)) : toE f ops = (if 20000 < u then 3 else 0) ∧ (¬ 20000 < u → toN f ops = u) := by
  have e : toE f ops = (if 20000 < u then 3 else 0) := by
    unfold toE
    rw [if_neg (by omega), if_neg (by omega), h, if_neg (by simp)]
  refine ⟨e, fun hu => ?_⟩
  rw [if_neg hu] at e
  unfold toN
  rw [if_pos e, h]

set_option maxRecDepth 100000 in
set_option maxHeartbeats 4000000 in
theorem to_any (f : Int) (v : Value) (ops : List OpD) (w : World) (hv : OpRow w v ops) (hz : OSized ops) :
    Calls Tryz.prog 83 #[chAgg f v] w (ToOut w f ops) := by
  have Hv := Lib.hid hv
  have Hz := Lib.hid hz
  obtain ⟨aa, acap, rfl, v1, v2, v3⟩ := hv
  have V3 := Lib.hid v3
  have hn : ops.length ≤ 9223372036854775807 := Nat.le_trans v1 v2
  obtain ⟨W, hW⟩ : ∃ W, W = w.alloc (.cells #[.int .i64 f, .slice aa ops.length acap] 24) := ⟨_, rfl⟩
  have BW := Lib.hid (show Below w.heap.size w W by rw [hW]; exact (Below.refl _ _).alloc (Nat.le_refl _) _)
  have c0 : W.cell? ⟨w.heap.size, 0, none⟩ = some (.int .i64 f) := by rw [hW]; go_simp
  have c1 : W.cell? ⟨w.heap.size, 1, none⟩ = some (.slice aa ops.length acap) := by rw [hW]; go_simp
  have HW := Lib.hid hW
  clear hz hW v1 v2 v3
  by_cases hf : f < 0
  · have e31 := Lib.hid (show toE f ops = 31 by unfold toE; rw [if_pos (.inl hf)])
    go_enter Tryz.func83, Tryz.ntmps83
    go_wp2_with fail
    rw [← HW.out]
    go_wp2_with fail
    go_ret2
    exact toOut_bad e31.out (by decide) BW.out
  · by_cases hf2 : 20000 < f
    · have e31 := Lib.hid (show toE f ops = 31 by unfold toE; rw [if_pos (.inr hf2)])
      have hf0 : 0 ≤ f := by omega
      clear hf
      go_enter Tryz.func83, Tryz.ntmps83
      go_wp2_with fail
      rw [← HW.out]
      go_wp2_with fail
      go_ret2
      exact toOut_bad e31.out (by decide) BW.out
    · have hf0 : 0 ≤ f := by omega
      have hf3 : f ≤ 20000 := by omega
      by_cases hl : 2000 < ops.length
      · have e2 := Lib.hid (show toE f ops = 2 by unfold toE; rw [if_neg (by omega), if_pos hl])
        have l0 : decide ((2000 : Int) < (ops.length : Int)) = true := decide_eq_true (by omega)
        have l1 : decide (2000 < ops.length) = true := decide_eq_true (by omega)
        clear hf hf2
        go_enter Tryz.func83, Tryz.ntmps83
        go_wp2_with fail
        rw [← HW.out]
        go_wp2_with fail
        go_ret2
        exact toOut_bad e2.out (by decide) BW.out
      · have hl2 : ops.length ≤ 2000 := by omega
        have l0 : decide ((2000 : Int) < (ops.length : Int)) = false := decide_eq_false (by omega)
        have l1 : decide (2000 < ops.length) = false := decide_eq_false (by omega)
        clear hf hf2 hl
        go_enter Tryz.func83, Tryz.ntmps83
        go_wp2_with fail
        rw [← HW.out]
        go_wp2_with fail
        go_quiet (fail)
        go_wp2_with fail
        go_loopw [4, 5, 29] (fun x y i wr => ∃ (left u : Int) (k : Nat), x = .int .i64 left ∧ y = .int .i64 u ∧ i = .int .i64 (k : Int) ∧ k ≤ ops.length ∧ scan f f ops = scan left u (ops.drop k) ∧ 0 ≤ left ∧ left ≤ 20000 ∧ left ≤ u ∧ u ≤ 20000 + 20000 * k ∧ Below w.heap.size w wr) (fun _ _ i _ => ops.length - (intOf i).toNat)
        case atStart => exact ⟨f, f, 0, rfl, rfl, rfl, Nat.zero_le _, rfl, hf0, hf3, Int.le_refl _, by omega, below_drewN BW.out _⟩
        case round =>
          obtain ⟨left, u, k, rfl, rfl, rfl, hk, hs, g1, g2, g3, g4, hb⟩ := hrel
          have HB := Lib.hid hb
          by_cases hlt : k < ops.length
          · have hlt' : (k : Int) < (ops.length : Int) := by omega
            obtain ⟨b, off, rfl, hbl, av, r0, _, x0, x1, x2, x3⟩ := V3.out k hlt
            have z := Hz.out _ (List.getElem_mem hlt)
            rw [drop_at hlt] at hs
            obtain ⟨o, ho⟩ : ∃ o, o = ops[k] := ⟨_, rfl⟩
            rw [← ho] at r0 x0 x1 x2 z hs
            obtain ⟨ar, cr, rfl⟩ := r0.shape
            have y0 : wr.cell? ⟨b, off + k * 4, none⟩ = some (.int .i64 o.kind) := (hb.cell (by exact hbl)).trans x0
            have y1 : wr.cell? ⟨b, off + k * 4 + 1, none⟩ = some (.int .i64 o.n) := (hb.cell (by exact hbl)).trans x1
            have y2 : wr.cell? ⟨b, off + k * 4 + 2, none⟩ = some (.string o.text) := (hb.cell (by exact hbl)).trans x2
            have y3 : wr.cell? ⟨b, off + k * 4 + 3, none⟩ = some (.slice ar o.attrs.length cr) := (hb.cell (by exact hbl)).trans x3
            have hs0 : w.heap.size ≤ wr.heap.size := hb.size
            obtain ⟨X, hX⟩ : ∃ X, X = wr.alloc (.cells #[.int .i64 o.kind, .int .i64 o.n, .string o.text, .slice ar o.attrs.length cr] 48) := ⟨_, rfl⟩
            have BX := Lib.hid (show Below w.heap.size w X by rw [hX]; exact hb.alloc hs0 _)
            have R0 := Lib.hid (r0.below BX.out)
            have Z := Lib.hid z
            have d0 : X.cell? ⟨wr.heap.size, 0, none⟩ = some (.int .i64 o.kind) := by rw [hX]; go_simp
            have d1 : X.cell? ⟨wr.heap.size, 1, none⟩ = some (.int .i64 o.n) := by rw [hX]; go_simp
            have d2 : X.cell? ⟨wr.heap.size, 2, none⟩ = some (.string o.text) := by rw [hX]; go_simp
            have d3 : X.cell? ⟨wr.heap.size, 3, none⟩ = some (.slice ar o.attrs.length cr) := by rw [hX]; go_simp
            have hXs : wr.heap.size < X.heap.size := by rw [hX]; simp
            have HX := Lib.hid hX
            have HS := Lib.hid hs
            clear ho r0 x0 x1 x2 x3 z hb hX hs
            by_cases he : opE o = 0
            · have He := Lib.hid he
              by_cases hk2 : o.kind = 2
              · have k2 : (o.kind == 2) = true := by rw [hk2]; rfl
                obtain ⟨s0, s1⟩ := opSz_lim he hk2
                have HS2 := Lib.hid (HS.out.trans (scan_put he hk2))
                have HC := Lib.hid (size_ok o _ X R0.out Z.out.1 Z.out.2 he)
                have w1' : IntKind.i64.wrap (u + opSz o) = u + opSz o := IntWalk.i64_in _ (by omega)
                clear he hk2
                go_wp2_with fail
                rw [← HX.out]
                go_wp2_with fail
                refine HC.out.mono ?_
                rintro e w2 ⟨rfl, b2⟩
                have e0 : w2.cell? ⟨wr.heap.size, 0, none⟩ = some (.int .i64 o.kind) := (b2.cell (by exact hXs)).trans d0
                have B2 := Lib.hid (BX.out.trans (b2.mono BX.out.size))
                clear b2
                go_wp2_with fail
                go_roundw
                case rel => exact ⟨left, u + opSz o, k + 1, rfl, rfl, by go_num, by omega, HS2.out, g1, g2, by omega, by omega, B2.out⟩
                case measure => simp [intOf]; omega
              · have k2 : (o.kind == 2) = false := by rw [beq_eq_false_iff_ne]; exact hk2
                have hn1 := opE_n he hk2
                have hsz := opSz_n hk2
                have HC := size_ok o _ X R0.out Z.out.1 Z.out.2 he
                rw [hsz] at HC
                have HC := Lib.hid HC
                by_cases hl3 : left < o.n
                · have HS2 := Lib.hid (toE_scan hf0 hf3 hl2 (HS.out.trans (scan_over he hk2 hl3)) (by decide))
                  clear he hk2 hsz
                  go_wp2_with fail
                  rw [← HX.out]
                  go_wp2_with fail
                  refine HC.out.mono ?_
                  rintro e w2 ⟨rfl, b2⟩
                  have e0 : w2.cell? ⟨wr.heap.size, 0, none⟩ = some (.int .i64 o.kind) := (b2.cell (by exact hXs)).trans d0
                  have B2 := Lib.hid (BX.out.trans (b2.mono BX.out.size))
                  clear b2
                  go_wp2_with fail
                  go_ret2
                  exact toOut_bad HS2.out (by decide) B2.out
                · have hl4 : o.n ≤ left := by omega
                  by_cases hk3 : o.kind = 3
                  · have k3 : (o.kind == 3) = true := by rw [hk3]; rfl
                    have HS2 := Lib.hid (HS.out.trans (scan_cut he hk3 hl3))
                    clear he hk2 hsz hk3 hl3
                    go_wp2_with fail
                    rw [← HX.out]
                    go_wp2_with fail
                    refine HC.out.mono ?_
                    rintro e w2 ⟨rfl, b2⟩
                    have e0 : w2.cell? ⟨wr.heap.size, 0, none⟩ = some (.int .i64 o.kind) := (b2.cell (by exact hXs)).trans d0
                    have B2 := Lib.hid (BX.out.trans (b2.mono BX.out.size))
                    clear b2
                    go_wp2_with fail
                    go_roundw
                    case rel => exact ⟨left - o.n, u - o.n, k + 1, rfl, rfl, by go_num, by omega, HS2.out, by omega, by omega, by omega, by omega, B2.out⟩
                    case measure => simp [intOf]; omega
                  · have k3 : (o.kind == 3) = false := by rw [beq_eq_false_iff_ne]; exact hk3
                    have HS2 := Lib.hid (HS.out.trans (scan_keep he hk2 hk3 hl3))
                    clear he hk2 hsz hk3 hl3
                    go_wp2_with fail
                    rw [← HX.out]
                    go_wp2_with fail
                    refine HC.out.mono ?_
                    rintro e w2 ⟨rfl, b2⟩
                    have e0 : w2.cell? ⟨wr.heap.size, 0, none⟩ = some (.int .i64 o.kind) := (b2.cell (by exact hXs)).trans d0
                    have B2 := Lib.hid (BX.out.trans (b2.mono BX.out.size))
                    clear b2
                    go_wp2_with fail
                    go_roundw
                    case rel => exact ⟨left - o.n, u, k + 1, rfl, rfl, by go_num, by omega, HS2.out, by omega, by omega, by omega, by omega, B2.out⟩
                    case measure => simp [intOf]; omega
            · have t1 : (opE o != 0) = true := by rw [bne_iff_ne]; exact he
              have HS2 := Lib.hid (toE_scan hf0 hf3 hl2 (HS.out.trans (scan_bad he)) he)
              have HC := Lib.hid (size_bad o _ X R0.out Z.out.1 Z.out.2)
              have He := Lib.hid he
              clear he
              go_wp2_with fail
              rw [← HX.out]
              go_wp2_with fail
              refine HC.out.mono ?_
              rintro e w2 ⟨n2, rfl, b2⟩
              have B2 := Lib.hid (BX.out.trans (b2.mono BX.out.size))
              clear b2
              go_wp2_with fail
              go_ret2
              exact toOut_bad HS2.out He.out B2.out
          · have hkn : k = ops.length := by omega
            subst hkn
            rw [List.drop_length] at hs
            obtain ⟨q1, q2⟩ := toE_end hf0 hf3 hl2 (hs.trans rfl)
            by_cases hu : 20000 < u
            · rw [if_pos hu] at q1
              have Q1 := Lib.hid q1
              clear q1 q2 hs hb
              go_wp2_with fail
              go_ret2
              exact toOut_bad Q1.out (by decide) HB.out
            · rw [if_neg hu] at q1
              have Q1 := Lib.hid (And.intro q1 (q2 hu))
              have hu2 : u ≤ 20000 := by omega
              clear q1 q2 hs hb
              go_wp2_with fail
              go_ret2
              exact toOut_mk Q1.out.1 Q1.out.2 HB.out

theorem changeRight_any (f : Int) (v : Value) (ops : List OpD) (w : World) (hv : OpRow w v ops) (hz : OSized ops) :
    Calls Tryz.prog 55 #[chAgg f v] w fun e w' => e = .returned (.int .i64 (toE f ops)) ∧ Below w.heap.size w w' := by
  have HC := Lib.hid (to_any f v ops _ (hv.below (below_box w (.cells #[.int .i64 f, v] 24))) hz)
  obtain ⟨aa, acap, rfl⟩ := hv.shape
  clear hv hz
  go_enter Tryz.func55, Tryz.ntmps55
  go_wp2_with fail
  refine HC.out.mono ?_
  rintro e w1 ⟨rfl, hb⟩
  go_wp2_with fail
  go_ret
  exact ⟨rfl, (below_box w _).trans (hb.mono (by simp))⟩
end Go.Proofs.YtacgkbdldbppjaaGreatDoor

/- The program's Normal. -/
namespace Go.Proofs.YtacgkbdldbppjaaGreatDoor
open Go.RowKit Ch

def NormOut (w : World) (f : Int) (ops : List OpD) (e : Ending) (w' : World) : Prop :=
  (toE f ops ≠ 0 ∧ e = .returned (.tuple #[chAgg 0 (.slice none 0 0), .int .i64 (toE f ops)]) ∧ Below w.heap.size w w') ∨
  (toE f ops = 0 ∧ ∃ v, e = .returned (.tuple #[chAgg f v, .int .i64 0]) ∧ OwnOps w' w.heap.size v (norm ops) ∧ Below w.heap.size w w')

set_option maxRecDepth 100000 in
set_option maxHeartbeats 4000000 in
theorem normal_any (f : Int) (v : Value) (ops : List OpD) (w : World) (hv : OpRow w v ops) (hz : OSized ops) :
    Calls Tryz.prog 29 #[chAgg f v] w (NormOut w f ops) := by
  have Hv := Lib.hid hv
  have Hz := Lib.hid hz
  obtain ⟨aa, acap, rfl, v1, v2, v3⟩ := hv
  have V3 := Lib.hid v3
  have hn : ops.length ≤ 9223372036854775807 := Nat.le_trans v1 v2
  obtain ⟨W, hW⟩ : ∃ W, W = (w.alloc (.cells #[.int .i64 f, .slice aa ops.length acap] 24)).alloc (.cells #[.int .i64 0, .slice none 0 0] 24) := ⟨_, rfl⟩
  have BW := Lib.hid (show Below w.heap.size w W by rw [hW]; exact ((Below.refl _ _).alloc (Nat.le_refl _) _).alloc (by simp) _)
  have c0 : W.cell? ⟨w.heap.size, 0, none⟩ = some (.int .i64 f) := by rw [hW]; go_simp
  have c1 : W.cell? ⟨w.heap.size, 1, none⟩ = some (.slice aa ops.length acap) := by rw [hW]; go_simp
  have r0 : W.heap[w.heap.size + 1]? = some (.cells #[.int .i64 0, .slice none 0 0] 24 (0, 0)) := by
    rw [hW]
    have := heap_new (w.alloc (.cells #[.int .i64 f, .slice aa ops.length acap] 24)) (.cells #[.int .i64 0, .slice none 0 0] 24)
    simpa using this
  have b0 : W.heap[w.heap.size]? = some (.cells #[.int .i64 f, .slice aa ops.length acap] 24 (0, 0)) := by
    rw [hW, Below.heap_alloc _ _ _ (by simp)]
    exact heap_new _ _
  have HW := Lib.hid hW
  have hlW : w.heap.size + 2 = W.heap.size := by rw [hW]; simp
  have HR := Lib.hid (changeRight_any f _ ops W (Hv.out.below BW.out) hz)
  have HR0 := Lib.hid r0
  have HB0 := Lib.hid b0
  clear hz hW v1 v2 v3 r0 b0
  by_cases he : toE f ops = 0
  · have hok := (toE_iff f ops).1 he
    have HOK := Lib.hid hok
    have HE := Lib.hid he
    have hl2 : ops.length ≤ 2000 := hok.2.2.1
    rw [he] at HR
    clear he hok
    go_enter Tryz.func29, Tryz.ntmps29
    go_wp2_with fail
    rw [← HW.out]
    go_wp2_with fail
    refine HR.out.mono ?_
    rintro e w1 ⟨rfl, b1⟩
    have hlt0 : w.heap.size < W.heap.size := by omega
    have c1' : w1.cell? ⟨w.heap.size, 1, none⟩ = some (.slice aa ops.length acap) := (b1.cell (by exact hlt0)).trans c1
    have HB1 := Lib.hid b1
    have hs1 := b1.size
    have hlt1 : w.heap.size < w1.heap.size := by omega
    clear b1 c0 c1
    go_wp2_with fail
    go_loopw [17] (fun i wr => ∃ (k : Nat) (ov : Value), i = .int .i64 (k : Int) ∧ k ≤ ops.length ∧ NSt wr w.heap.size w1.heap.size ov (fold (ops.take k)).1 (fold (ops.take k)).2 ∧ Keep w.heap.size TS W wr) (fun i _ => ops.length - (intOf i).toNat)
    case atStart =>
      refine ⟨0, .slice none 0 0, rfl, Nat.zero_le _, ⟨[], .pointer none, .slice none 0 0, [], ?_, .inl rfl, ⟨World.ownsRow_nil _ _ _ _, fun p hp => by cases hp⟩, holds8_nil _ _, .inl ⟨rfl, rfl, rfl⟩⟩, ?_⟩
      · exact heap_new _ _
      · exact (keep_below HB1.out BW.out.size).trans (keep_below (below_box _ _) (by omega))
    case round =>
      obtain ⟨k, ov, rfl, hk, hN, hK⟩ := hrel
      have HN := Lib.hid hN
      have HK := Lib.hid hK
      by_cases hlt : k < ops.length
      · have hlt' : (k : Int) < (ops.length : Int) := by omega
        obtain ⟨b, off, rfl, hbl, av, q0, _, x0, x1, x2, x3⟩ := V3.out k hlt
        have hvo := vop_of HOK.out (List.getElem_mem hlt)
        have hfs : fold (ops.take (k + 1)) = add (fold (ops.take k)) ops[k] := by rw [List.take_succ_eq_append_getElem hlt, fold_snoc]
        obtain ⟨L1, L2⟩ := lim_fold HOK.out k (by omega)
        have hfit := fitsS_of L1 L2 hvo (by omega)
        obtain ⟨o, ho⟩ : ∃ o, o = ops[k] := ⟨_, rfl⟩
        rw [← ho] at q0 x0 x1 x2 hfs hfit
        obtain ⟨ar, cr, rfl⟩ := q0.shape
        have BK : Below w.heap.size w wr := BW.out.trans hK.below
        have y0 : wr.cell? ⟨b, off + k * 4, none⟩ = some (.int .i64 o.kind) := (BK.cell (by exact hbl)).trans x0
        have y1 : wr.cell? ⟨b, off + k * 4 + 1, none⟩ = some (.int .i64 o.n) := (BK.cell (by exact hbl)).trans x1
        have y2 : wr.cell? ⟨b, off + k * 4 + 2, none⟩ = some (.string o.text) := (BK.cell (by exact hbl)).trans x2
        have y3 : wr.cell? ⟨b, off + k * 4 + 3, none⟩ = some (.slice ar o.attrs.length cr) := (BK.cell (by exact hbl)).trans x3
        obtain ⟨X, hX⟩ : ∃ X, X = wr.alloc (.cells #[.int .i64 o.kind, .int .i64 o.n, .string o.text, .slice ar o.attrs.length cr] 48) := ⟨_, rfl⟩
        have BX : Below wr.heap.size wr X := by rw [hX]; exact below_box _ _
        have d0 : X.cell? ⟨wr.heap.size, 0, none⟩ = some (.int .i64 o.kind) := by rw [hX]; go_simp
        have d1 : X.cell? ⟨wr.heap.size, 1, none⟩ = some (.int .i64 o.n) := by rw [hX]; go_simp
        have d2 : X.cell? ⟨wr.heap.size, 2, none⟩ = some (.string o.text) := by rw [hX]; go_simp
        have d3 : X.cell? ⟨wr.heap.size, 3, none⟩ = some (.slice ar o.attrs.length cr) := by rw [hX]; go_simp
        have HX := Lib.hid hX
        have HC := Lib.hid (add_any w.heap.size w1.heap.size ov (fold (ops.take k)) o (.slice ar o.attrs.length cr) X (hN.below BX) (by omega) hfit (fun w' hb => q0.below (BK.trans ((BX.mono BK.size).trans hb))))
        have HKX := Lib.hid (hK.trans (keep_below (B := w.heap.size) (ts := TS) BX BK.size))
        have HFS := Lib.hid hfs
        clear hN hK q0 x0 x1 x2 x3 hvo hfs L1 L2 hfit ho BK BX hX
        go_wp2_with fail
        rw [← HX.out]
        go_wp2_with fail
        refine HC.out.mono ?_
        rintro e w2 ⟨rfl, ov2, N2, K2⟩
        rw [← HFS.out] at N2
        have HN2 := Lib.hid N2
        have HK2 := Lib.hid (HKX.out.trans K2.keep)
        clear N2 K2
        go_wp2_with fail
        go_roundw
        case rel => exact ⟨k + 1, ov2, by go_num, by omega, HN2.out, HK2.out⟩
        case measure => simp [intOf]; omega
      · have hkn : k = ops.length := by omega
        subst hkn
        rw [List.take_length] at HN
        obtain ⟨L1, L2⟩ := lim_fold HOK.out ops.length (Nat.le_refl _)
        rw [List.take_length] at L1 L2
        have hfl := flush_len (fold ops)
        have hsz := siz_fold ops
        have HC := Lib.hid (fun X (hX : NSt X w.heap.size w1.heap.size ov (fold ops).1 (fold ops).2) => end_any w.heap.size w1.heap.size ov (fold ops) X hX (by omega) L1.g0 (fits_del L1 hl2) (by omega))
        have bF : wr.heap[w.heap.size]? = _ := HK.out.kept _ _ _ _ (HB0.out) (by decide)
        have rF : wr.heap[w.heap.size + 1]? = _ := HK.out.kept _ _ _ _ (HR0.out) (by decide)
        have HbF := Lib.hid bF
        have HrF := Lib.hid rF
        have g0 : wr.cell? ⟨w.heap.size, 0, none⟩ = some (.int .i64 f) := by rw [Lib.cell_of_heap bF]; rfl
        clear L1 L2 hfl hsz hN hK bF rF c1'
        go_wp2_with fail
        go_region_held3 (fun w' => w'.cell? ⟨w.heap.size, 0, none⟩ = some (.int .i64 f))
          (first
            | exact g0
            | exact g0A
            | exact set_other (by show w.heap.size + 1 ≠ w.heap.size; omega) g0A
            | exact set_other (by show w.heap.size + 1 ≠ w.heap.size; omega) (set_other (by show w.heap.size + 1 ≠ w.heap.size; omega) g0A))
          (first
            | (go_at_call 57; refine (HC.out _ (by exact HN.out)).mono ?_; rintro e wA ⟨vA, rfl, OA, KA⟩; obtain ⟨va, vc, rfl⟩ := (OwnOps.row OA).shape; have rA := KA.kept (w := wr.drew) _ _ _ _ HrF.out (by decide); have e0 : wA.cell? ⟨w.heap.size + 1, 0, none⟩ = some (.int .i64 0) := (Lib.cell_of_heap rA 0).trans rfl; have e1 : wA.cell? ⟨w.heap.size + 1, 1, none⟩ = some (.slice none 0 0) := (Lib.cell_of_heap rA 1).trans rfl; have e2 : wA.frozen? ⟨w.heap.size + 1, 0, none⟩ = false := Lib.frozen_of_heap rA 0; have e3 : wA.frozen? ⟨w.heap.size + 1, 1, none⟩ = false := Lib.frozen_of_heap rA 1; have g0A : wA.cell? ⟨w.heap.size, 0, none⟩ = some (.int .i64 f) := by rw [Lib.cell_of_heap (KA.kept (w := wr.drew) _ _ _ _ HbF.out (by decide))]; rfl))
        have hB1 : w.heap.size ≤ w.heap.size + 1 := Nat.le_succ _
        have S1 : Keep w.heap.size [24] wA (wA.setCell ⟨w.heap.size + 1, 0, none⟩ (.int .i64 f)) := keep_set rA (by simp) hB1 _ rfl _
        have rB := nblk_set (j := 0) (u := .int .i64 f) rA
        have S2 : Keep w.heap.size [24] (wA.setCell ⟨w.heap.size + 1, 0, none⟩ (.int .i64 f)) ((wA.setCell ⟨w.heap.size + 1, 0, none⟩ (.int .i64 f)).setCell ⟨w.heap.size + 1, 1, none⟩ (.slice va (trim (flush (fold ops))).length vc)) := keep_set rB (by simp) hB1 _ rfl _
        have rC := nblk_set (j := 1) (u := .slice va (trim (flush (fold ops))).length vc) rB
        obtain ⟨ps, hps, hP⟩ := OA
        have PZ := hP.keep (S1.trans S2) (by decide) (by decide)
        rw [List.length_reverse] at PZ
        have KZ : Below w.heap.size w ((wA.setCell ⟨w.heap.size + 1, 0, none⟩ (.int .i64 f)).setCell ⟨w.heap.size + 1, 1, none⟩ (.slice va (trim (flush (fold ops))).length vc)) := ((BW.out.trans HK.out.below).trans (of_drewK KA).below).trans (S1.trans S2).below
        obtain ⟨wZ, hwZ⟩ : ∃ wZ, wZ = (wA.setCell ⟨w.heap.size + 1, 0, none⟩ (.int .i64 f)).setCell ⟨w.heap.size + 1, 1, none⟩ (.slice va (trim (flush (fold ops))).length vc) := ⟨_, rfl⟩
        rw [← hwZ] at PZ KZ rC ⊢
        have z0 : wZ.cell? ⟨w.heap.size + 1, 0, none⟩ = some (.int .i64 f) := (Lib.cell_of_heap rC 0).trans rfl
        have z1 : wZ.cell? ⟨w.heap.size + 1, 1, none⟩ = some (.slice va (trim (flush (fold ops))).length vc) := (Lib.cell_of_heap rC 1).trans rfl
        have FIN : NormOut w f ops (.returned (.tuple #[chAgg f (.slice va (trim (flush (fold ops))).length vc), .int .i64 0])) wZ := .inr ⟨HE.out, _, rfl, ⟨ps, hps, PZ⟩, KZ⟩
        have HFIN := Lib.hid FIN
        clear FIN PZ KZ rC hwZ S1 S2 rB rA e0 e1 e2 e3 hP hps g0 g0A KA
        go_wp2_with fail
        exact bodyPost_ret (v := .tuple #[chAgg f (.slice va (trim (flush (fold ops))).length vc), .int .i64 0]) (by simp [results, Tryz.results29, go_sem, z0, z1]) rfl HFIN.out
  · have HE := Lib.hid he
    have t1 : (toE f ops != 0) = true := by rw [bne_iff_ne]; exact he
    clear he
    go_enter Tryz.func29, Tryz.ntmps29
    go_wp2_with fail
    rw [← HW.out]
    go_wp2_with fail
    refine HR.out.mono ?_
    rintro e w1 ⟨rfl, b1⟩
    have r1 := (b1.block _ (lt_of_heap HR0.out)).trans HR0.out
    have e0 : w1.cell? ⟨w.heap.size + 1, 0, none⟩ = some (.int .i64 0) := (Lib.cell_of_heap r1 0).trans rfl
    have e1 : w1.cell? ⟨w.heap.size + 1, 1, none⟩ = some (.slice none 0 0) := (Lib.cell_of_heap r1 1).trans rfl
    have e2 : w1.frozen? ⟨w.heap.size + 1, 0, none⟩ = false := Lib.frozen_of_heap r1 0
    have e3 : w1.frozen? ⟨w.heap.size + 1, 1, none⟩ = false := Lib.frozen_of_heap r1 1
    have B1 : Below w.heap.size w ((w1.setCell ⟨w.heap.size + 1, 0, none⟩ (.int .i64 0)).setCell ⟨w.heap.size + 1, 1, none⟩ (.slice none 0 0)) := ((BW.out.trans (b1.mono BW.out.size)).setCell (Nat.le_succ _) _).setCell (Nat.le_succ _) _
    have rC := nblk_set (j := 1) (u := .slice none 0 0) (nblk_set (j := 0) (u := .int .i64 0) r1)
    have HRC := Lib.hid rC
    have HB1 := Lib.hid B1
    clear b1 B1 r1 rC c0 c1
    go_wp2_with fail
    have z0 := (Lib.cell_of_heap HRC.out 0)
    have z1 := (Lib.cell_of_heap HRC.out 1)
    have FIN : NormOut w f ops (.returned (.tuple #[chAgg 0 (.slice none 0 0), .int .i64 (toE f ops)])) ((w1.setCell ⟨w.heap.size + 1, 0, none⟩ (.int .i64 0)).setCell ⟨w.heap.size + 1, 1, none⟩ (.slice none 0 0)) := .inl ⟨HE.out, rfl, HB1.out⟩
    exact bodyPost_ret (v := .tuple #[chAgg 0 (.slice none 0 0), .int .i64 (toE f ops)]) (by simp [results, Tryz.results29, go_sem, z0, z1]) rfl FIN
end Go.Proofs.YtacgkbdldbppjaaGreatDoor

/- Normal where it answers, and where it refuses. -/
namespace Go.Proofs.YtacgkbdldbppjaaGreatDoor
open Go.RowKit Ch

def isB (f : Int) (ops : List OpD) : Bool := decide (toE f ops = 0 ∧ ops = norm ops)
theorem NormOut.row {w w' : World} {_f : Int} {ops : List OpD} {v : Value} (h : OwnOps w' w.heap.size v (norm ops)) : OpRow w' v (norm ops) := h.row
theorem normal_ok (f : Int) (v : Value) (ops : List OpD) (w : World) (hv : OpRow w v ops) (hz : OSized ops) (he : toE f ops = 0) :
    Calls Tryz.prog 29 #[chAgg f v] w fun e w' => ∃ v', e = .returned (.tuple #[chAgg f v', .int .i64 0]) ∧ OwnOps w' w.heap.size v' (norm ops) ∧ Below w.heap.size w w' :=
  (normal_any f v ops w hv hz).mono fun e w' h => by
    rcases h with ⟨h0, _⟩ | ⟨_, h⟩
    · exact absurd he h0
    · exact h
theorem normal_bad (f : Int) (v : Value) (ops : List OpD) (w : World) (hv : OpRow w v ops) (hz : OSized ops) (he : toE f ops ≠ 0) :
    Calls Tryz.prog 29 #[chAgg f v] w fun e w' => e = .returned (.tuple #[chAgg 0 (.slice none 0 0), .int .i64 (toE f ops)]) ∧ Below w.heap.size w w' :=
  (normal_any f v ops w hv hz).mono fun e w' h => by
    rcases h with ⟨_, h⟩ | ⟨h0, _⟩
    · exact h
    · exact absurd h0 he

end Go.Proofs.YtacgkbdldbppjaaGreatDoor

/- Print: a changeset's text. -/
namespace Go.Proofs.YtacgkbdldbppjaaGreatDoor
open Go.RowKit Ch

theorem pOps_take (l : List OpD) (k : Nat) (h : k < l.length) : (l.take (k + 1)).flatMap Sp.pOp = (l.take k).flatMap Sp.pOp ++ Sp.pOp l[k] := by
  rw [List.take_succ_eq_append_getElem h, List.flatMap_append]
  simp
theorem printF_bad {f : Int} {ops : List OpD} (h : toE f ops ≠ 0) : Sp.printF f ops = (toE f ops, []) := by unfold Sp.printF; rw [if_pos h]
theorem printF_big {f : Int} {ops : List OpD} (h : toE f ops = 0) (h2 : 262144 < (Sp.pCh f (norm ops)).length) : Sp.printF f ops = (3, []) := by unfold Sp.printF; rw [if_neg (by simpa using h), if_pos h2]
theorem printF_ok {f : Int} {ops : List OpD} (h : toE f ops = 0) (h2 : ¬ 262144 < (Sp.pCh f (norm ops)).length) : Sp.printF f ops = (0, Sp.pCh f (norm ops)) := by unfold Sp.printF; rw [if_neg (by simpa using h), if_neg h2]

def PrintOut (w : World) (f : Int) (ops : List OpD) (e : Ending) (w' : World) : Prop := e = .returned (.tuple #[.string (Sp.ba (Sp.printF f ops).2), .int .i64 (Sp.printF f ops).1]) ∧ Below w.heap.size w w'

set_option maxHeartbeats 8000000 in
theorem print_any (f : Int) (v : Value) (ops : List OpD) (w : World) (hv : OpRow w v ops) (hz : OSized ops) (hp : Pow w) (hpB : 2 < w.heap.size) :
    Calls Tryz.prog 11 #[chAgg f v] w (PrintOut w f ops) := by
  obtain ⟨aa, acap, rfl⟩ := hv.shape
  obtain ⟨W, hW⟩ : ∃ W, W = w.alloc (.cells #[.int .i64 f, .slice aa ops.length acap] 24) := ⟨_, rfl⟩
  have bw := show Below w.heap.size w W by rw [hW]; exact below_box _ _
  have BW := Lib.hid bw
  have HW := Lib.hid hW
  have hvW := hv.below bw
  have sW : w.heap.size < W.heap.size := by rw [hW]; simp
  have hpW := hp.below bw hpB
  clear hW bw hv
  by_cases he : toE f ops = 0
  · have HN := Lib.hid (normal_ok f _ ops W hvW hz he)
    have hok := (toE_iff f ops).1 he
    have HOK := Lib.hid (norm_ok hok).1
    have HE1 := Lib.hid (printF_ok he)
    have HE2 := Lib.hid (printF_big he)
    have hf0 := hok.1
    have hf1 := hok.2.1
    have HP := Lib.hid hpW
    have hn2000 := (norm_ok hok).1.2.2.1
    clear hvW hz he hok hp hpW
    generalize norm ops = ns at *
    go_enter Tryz.func11, Tryz.ntmps11
    go_wp2_with fail
    rw [← HW.out]
    refine HN.out.mono ?_
    rintro e w1 ⟨v1, rfl, o1, b1⟩
    have O1 := Lib.hid o1
    have B1 := Lib.hid (BW.out.trans (b1.mono (Nat.le_of_lt sW)))
    have HP1 := Lib.hid (HP.out.below b1 (Nat.lt_trans hpB sW))
    have s1 : W.heap.size ≤ w1.heap.size := b1.size
    obtain ⟨na, ncap, rfl⟩ := o1.row.shape
    have HR := Lib.hid o1.row
    clear o1 b1
    obtain ⟨X0, hX0⟩ : ∃ X0, X0 = w1.alloc (.cells #[.int .i64 f, .slice na ns.length ncap] 24) := ⟨_, rfl⟩
    have x0 : X0.heap.size = w1.heap.size + 1 := by rw [hX0]; simp
    obtain ⟨X, hX⟩ : ∃ X, X = X0.alloc (.cells #[.pointer none, .slice none 0 0] 58) := ⟨_, rfl⟩
    have bx := show Below w1.heap.size w1 X by rw [hX, hX0]; exact ((Below.refl _ _).alloc (Nat.le_refl _) _).alloc (by simp) _
    have BX := Lib.hid bx
    have iX := Lib.hid (show IsB X X0.heap.size X0.heap.size [] by rw [hX]; exact IsB.fresh X0)
    have nX := Lib.hid (show X.heap[w1.heap.size]? = some (.cells #[.int .i64 f, .slice na ns.length ncap] 24 (0, 0)) by
      rw [hX, Lib.alloc_old X0 _ _ (by omega), hX0]; exact heap_new _ _)
    have sX : X.heap.size = w1.heap.size + 2 := by rw [hX, hX0]; simp
    have HX := Lib.hid (show X = (w1.alloc (.cells #[.int .i64 f, .slice na ns.length ncap] 24)).alloc (.cells #[.pointer none, .slice none 0 0] 58) by rw [hX, hX0])
    have HI := Lib.hid (itoa_any f hf0 hf1 X (HP1.out.below bx (Nat.lt_of_lt_of_le (Nat.lt_trans hpB sW) s1)))
    have hlen := Lib.hid (Sp.pCh_le HOK.out)
    have hpX : 2 < X0.heap.size := by have := Nat.lt_of_lt_of_le (Nat.lt_trans hpB sW) s1; omega
    have HPX := Lib.hid (HP1.out.below bx (Nat.lt_of_lt_of_le (Nat.lt_trans hpB sW) s1))
    clear hX0 hX bx
    go_wp2_with fail
    rw [← HX.out]
    refine HI.out.mono ?_
    rintro e w2 ⟨rfl, b2⟩
    have i2 := iX.out.below b2
    have K2 := Lib.hid (keep_below (ts := BT) b2 (show X0.heap.size ≤ X.heap.size by omega))
    have HS := Lib.hid (wS X0.heap.size X0.heap.size [] (Sp.ba (Lib.itoa f)) w2 i2 (by have := hlen.out.1; rw [size_data, Sp.data_ba]; simp only [List.length_nil]; omega))
    clear b2 i2
    rw [x0] at HS
    go_wp2_with fail
    refine HS.out.mono ?_
    rintro e w3 ⟨rfl, q3⟩
    rw [← x0] at q3
    have H3 := Lib.hid (show Wr X0.heap.size X0.heap.size (Lib.itoa f) X w3 from ⟨by simpa [Sp.data_ba] using q3.is, K2.out.trans q3.keep⟩)
    have n3 := Lib.hid (H3.out.keep.kept _ _ _ _ nX.out (by decide))
    have y1 : w3.cell? ⟨w1.heap.size, 1, none⟩ = some (.slice na ns.length ncap) := (Lib.cell_of_heap n3.out 1).trans rfl
    clear q3
    go_wp2_with fail
    go_loopw [24] (fun i wr => ∃ k : Nat, i = .int .i64 (k : Int) ∧ k ≤ ns.length ∧ Wr X0.heap.size X0.heap.size (Lib.itoa f ++ (ns.take k).flatMap Sp.pOp) X wr) (fun i _ => ns.length - (intOf i).toNat)
    case atStart => exact ⟨0, rfl, Nat.zero_le _, by simpa using H3.out⟩
    case round =>
      obtain ⟨k, rfl, hk, hwr⟩ := hrel
      have Hwr := Lib.hid hwr
      have hpre : ((ns.take k).flatMap Sp.pOp).length ≤ 800000000 := by
        have h1 := hlen.out.2
        have h2 : (ns.flatMap Sp.pOp).length = ((ns.take k).flatMap Sp.pOp).length + ((ns.drop k).flatMap Sp.pOp).length := by rw [← List.length_append, ← List.flatMap_append, List.take_append_drop]
        omega
      have bwr := Lib.hid (BX.out.trans (hwr.keep.below.mono (by omega)) : Below w1.heap.size w1 wr)
      clear hwr
      by_cases hlt : k < ns.length
      · have hlt' : (k : Int) < (ns.length : Int) := by omega
        have HT := Lib.hid (pOps_take ns k hlt)
        obtain ⟨L, hL⟩ : ∃ L, L = Lib.itoa f ++ (ns.take k).flatMap Sp.pOp := ⟨_, rfl⟩
        have hLl : L.length + 400000 ≤ 140737488355328 := by have := hlen.out.1; rw [hL, List.length_append]; omega
        rw [← hL] at Hwr
        have HL := Lib.hid hL
        obtain ⟨_, _, he, g1, g2, g3⟩ := HR.out
        simp only [Value.slice.injEq, true_and] at he
        obtain ⟨rfl, rfl⟩ := he
        obtain ⟨b, off, rfl, hbl, av, hav, hpr, x0', x1', x2', x3'⟩ := g3 k hlt
        have hvo := vop_of HOK.out (List.getElem_mem hlt)
        have hao := Sp.attrs_of (HOK.out.2.2.2.1 _ (List.getElem_mem hlt))
        obtain ⟨o, ho⟩ : ∃ o, o = ns[k] := ⟨_, rfl⟩
        rw [← ho] at hav x0' x1' x2' HT hvo hao
        have z0 : wr.cell? ⟨b, off + k * 4, none⟩ = some (.int .i64 o.kind) := by rw [bwr.out.cell (by exact hbl)]; exact x0'
        have z1 : wr.cell? ⟨b, off + k * 4 + 1, none⟩ = some (.int .i64 o.n) := by rw [bwr.out.cell (by exact hbl)]; exact x1'
        have z2 : wr.cell? ⟨b, off + k * 4 + 2, none⟩ = some (.string o.text) := by rw [bwr.out.cell (by exact hbl)]; exact x2'
        have z3 : wr.cell? ⟨b, off + k * 4 + 3, none⟩ = some av := by rw [bwr.out.cell (by exact hbl)]; exact x3'
        obtain ⟨va, vc, rfl⟩ := hav.shape
        have Hav := Lib.hid hav
        obtain ⟨Y, hY⟩ : ∃ Y, Y = wr.alloc (.cells #[.int .i64 o.kind, .int .i64 o.n, .string o.text, .slice va o.attrs.length vc] 48) := ⟨_, rfl⟩
        have bY := show Below wr.heap.size wr Y by rw [hY]; exact below_box _ _
        have HY := Lib.hid hY
        have BB := isB_lt Hwr.out.is
        have bz : w1.heap.size ≤ wr.heap.size := bwr.out.size
        have KY := Lib.hid (keep_below (ts := BT) bY BB)
        have b0 := show Y.heap[wr.heap.size]? = some (.cells #[.int .i64 o.kind, .int .i64 o.n, .string o.text, .slice va o.attrs.length vc] 48 (0, 0)) by rw [hY]; exact heap_new _ _
        have HPY := Lib.hid ((HPX.out.below Hwr.out.keep.below hpX).below KY.out.below hpX)
        have HO := Lib.hid (printOp_any X0.heap.size X0.heap.size L o _ Y (Hwr.out.is.below bY) (fun Z hZ => Hav.out.below (bwr.out.trans ((KY.out.trans hZ).below.mono (by omega)))) hvo.kind hao.1 (fun y hy => (hao.2 y hy).2) hvo.n0 hvo.n1 hvo.text HPY.out hpX hLl)
        have c0 : Y.cell? ⟨wr.heap.size, 0, none⟩ = some (.int .i64 o.kind) := (Lib.cell_of_heap b0 0).trans rfl
        have c1 : Y.cell? ⟨wr.heap.size, 1, none⟩ = some (.int .i64 o.n) := (Lib.cell_of_heap b0 1).trans rfl
        have c2 : Y.cell? ⟨wr.heap.size, 2, none⟩ = some (.string o.text) := (Lib.cell_of_heap b0 2).trans rfl
        have c3 : Y.cell? ⟨wr.heap.size, 3, none⟩ = some (.slice va o.attrs.length vc) := (Lib.cell_of_heap b0 3).trans rfl
        rw [x0] at HO
        clear hav hL hY bY b0 BB x0' x1' x2' x3' g1 g2 g3 ho hvo hao hpr
        go_wp2_with fail
        rw [← HY.out]
        go_wp2_with fail
        refine HO.out.mono ?_
        rintro e w4 ⟨rfl, q4⟩
        rw [← x0] at q4
        have H4 := Lib.hid q4
        clear q4
        go_wp2_with fail
        go_roundw
        case measure => simp only [intOf]; omega
        case rel =>
          refine ⟨k + 1, rfl, hlt, ?_, Hwr.out.keep.trans (KY.out.trans H4.out.keep)⟩
          rw [HT.out, ← List.append_assoc, ← HL.out]
          exact H4.out.is
      · have hlt' : decide ((k : Int) < (ns.length : Int)) = false := decide_eq_false (by omega)
        have hks : k = ns.length := by omega
        subst hks
        rw [List.take_length] at Hwr hpre
        have HLn := Lib.hid (Tryz.Builder_Len_f X0.heap.size X0.heap.size (Lib.byteCells (Lib.itoa f ++ ns.flatMap Sp.pOp)) wr Hwr.out.is)
        have HST := Lib.hid (Tryz.Builder_String_any_k X0.heap.size X0.heap.size (Lib.itoa f ++ ns.flatMap Sp.pOp) wr Hwr.out.is (isB_lt Hwr.out.is))
        have hln : (Lib.byteCells (Lib.itoa f ++ ns.flatMap Sp.pOp)).length = (Sp.pCh f ns).length := by simp [Lib.byteCells, Sp.pCh]
        rw [hln] at HLn
        rw [show Lib.itoa f ++ ns.flatMap Sp.pOp = Sp.pCh f ns from rfl] at HST
        have BF := Lib.hid (B1.out.trans (bwr.out.mono (by omega)))
        have hw1 : w.heap.size ≤ w1.heap.size := by omega
        rw [x0] at HLn HST
        clear hln
        by_cases hbig : 262144 < (Sp.pCh f ns).length
        · have HE := Lib.hid (HE2.out hbig)
          have hb : (262144 : Int) < ((Sp.pCh f ns).length : Int) := by omega
          clear hbig
          go_wp2_with fail
          refine HLn.out.mono ?_
          rintro e w4 ⟨rfl, rfl⟩
          go_wp2_with fail
          refine bodyPost_ret (v := .tuple #[.string ⟨#[]⟩, .int .i64 3]) (by simp [results, Tryz.results11, go_sem]) rfl ?_
          rw [PrintOut, HE.out]
          exact ⟨rfl, BF.out⟩
        · have HE := Lib.hid (HE1.out hbig)
          have hb : ¬ (262144 : Int) < ((Sp.pCh f ns).length : Int) := by omega
          clear hbig
          go_wp2_with fail
          refine HLn.out.mono ?_
          rintro e w4 ⟨rfl, rfl⟩
          go_wp2_with fail
          refine HST.out.mono ?_
          rintro e w5 ⟨rfl, _, b5, _⟩
          go_wp2_with fail
          refine bodyPost_ret (v := .tuple #[.string (Sp.ba (Sp.pCh f ns)), .int .i64 0]) (by simp [results, Tryz.results11, go_sem, Sp.ba]) rfl ?_
          rw [PrintOut, HE.out]
          exact ⟨rfl, BF.out.trans (b5.mono (by omega))⟩
  · have HN := Lib.hid (normal_bad f _ ops W hvW hz he)
    have HE := Lib.hid (printF_bad he)
    have hb : (toE f ops == 0) = false := by rw [beq_eq_false_iff_ne]; exact he
    generalize toE f ops = t at *
    clear hvW hz he hp hpW
    go_enter Tryz.func11, Tryz.ntmps11
    go_wp2_with fail
    rw [← HW.out]
    refine HN.out.mono ?_
    rintro e w1 ⟨rfl, b1⟩
    have B1 := Lib.hid (BW.out.trans (b1.mono (Nat.le_of_lt sW)))
    clear b1
    go_wp2_with fail
    refine bodyPost_ret (v := .tuple #[.string ⟨#[]⟩, .int .i64 t]) (by simp [results, Tryz.results11, go_sem]) rfl ?_
    rw [PrintOut, HE.out]
    exact ⟨rfl, below_alloc B1.out (Nat.le_refl _) _⟩
end Go.Proofs.YtacgkbdldbppjaaGreatDoor

/- caught: the edge up to which a reader throws. -/
namespace Go.Proofs.YtacgkbdldbppjaaGreatDoor
open Go.RowKit Ch

abbrev zeroF : Obj := .cells #[.int .i64 0, .int .i64 0] 34
abbrev put2 (w : World) (g : Nat) (x0 x1 : Value) : World := (w.setCell ⟨g, 0, none⟩ x0).setCell ⟨g, 1, none⟩ x1

set_option maxRecDepth 10000 in
theorem catch_thrown (g k : Nat) (older : List PanicEntry) (w : World) (h : w.heap[g]? = some zeroF) :
    CallsD Tryz.prog 65 #[.pointer (some ⟨g, 0, none⟩)] (.panicking ({ v := .iface 105 (.int .i64 k), recovered := false } :: older)) w fun e u' w' =>
      e = .returned (.tuple #[]) ∧ u' = .panicking ({ v := .iface 105 (.int .i64 k), recovered := true } :: older) ∧ w' = put2 w g (.int .i64 40) (.int .i64 k) := by
  have c0 : w.cell? ⟨g, 0, none⟩ = some (.int .i64 0) := (Lib.cell_of_heap h 0).trans rfl
  have c1 : w.cell? ⟨g, 1, none⟩ = some (.int .i64 0) := (Lib.cell_of_heap h 1).trans rfl
  have g0 := Joins.unfrozen_of_block h 0
  have g1 := Joins.unfrozen_of_block h 1
  refine callsD_of_wpS Tryz.func65 rfl fun c₀ cs hu => ?_
  apply wpS_seq
  apply wpS_region
  simp [wpOpsS, go_sem, recoverD, hu, Tryz.ntmps65, Exit.thenS]
  refine wpS_of_wp ?_
  rw [show (#[Value.pointer (some ⟨g, 0, none⟩)] ++ (Array.replicate 11 undef).setIfInBounds 3 (Value.iface 105 (Value.int IntKind.i64 k)) : Array Value) = #[Value.pointer (some ⟨g, 0, none⟩), undef, undef, undef, Value.iface 105 (Value.int IntKind.i64 k), undef, undef, undef, undef, undef, undef, undef] from rfl]
  have hta : ∀ (k : Int) (w : World), (Instr.typeAssert (.iface 105 (.int .i64 k)) 20 105 true).run Tryz.prog w = .ok (.tuple #[.int .i64 k, .bool true]) w := fun _ _ => by kernel_rfl
  clear h
  go_wp2
  exact ⟨rfl, _, rfl, .tuple #[], by simp [results, Tryz.results65], rfl, rfl, rfl⟩
set_option maxRecDepth 10000 in
theorem catch_idle (g : Nat) (w : World) :
    CallsD Tryz.prog 65 #[.pointer (some ⟨g, 0, none⟩)] .returning w fun e u' w' => e = .returned (.tuple #[]) ∧ u' = .returning ∧ w' = w := by
  refine callsD_of_wpS Tryz.func65 rfl fun c₀ cs hu => ?_
  apply wpS_seq
  apply wpS_region
  simp [wpOpsS, go_sem, recoverD, hu, Tryz.ntmps65, Exit.thenS]
  refine wpS_of_wp ?_
  rw [show (#[Value.pointer (some ⟨g, 0, none⟩)] ++ (Array.replicate 11 undef).setIfInBounds 3 Value.nilIface : Array Value) = #[Value.pointer (some ⟨g, 0, none⟩), undef, undef, undef, Value.nilIface, undef, undef, undef, undef, undef, undef, undef] from rfl]
  go_wp2
  refine ⟨rfl, .returning, ?_, .tuple #[], by simp [results, Tryz.results65], rfl, rfl, rfl⟩
  cases c₀
  simp_all

/-- What the function value does that caught calls: it returns. -/
theorem caught_ok (F : Nat) (cap : Array Value) (hE : ∀ args W, (callFunc F args).run Tryz.prog W = .ok (.enter F args) W) (w : World) (Rt : World → Prop)
    (h : Calls Tryz.prog F cap (w.alloc zeroF) fun e w' => e = .returned (.tuple #[]) ∧ w'.heap[w.heap.size]? = some zeroF ∧ Rt w') :
    Calls Tryz.prog 41 #[.func (.func F) #[] cap] w fun e w' => e = .returned (.agg #[.int .i64 0, .int .i64 0]) ∧ ∃ w1, Rt w1 ∧ w1.heap[w.heap.size]? = some zeroF ∧ w' = put2 w1 w.heap.size (.int .i64 0) (.int .i64 0) := by
  have H := Lib.hid h
  have hmf : ∀ (fn : Fn) (first cap : Array Value) (w : World), (Instr.makeFunc fn first cap).run Tryz.prog w = .ok (.func fn first cap) w := fun _ _ _ _ => rfl
  clear h
  go_enter_defers Tryz.func41, Tryz.ntmps41
  go_wp2_with fail
  refine H.out.mono ?_
  rintro e w1 ⟨rfl, h1, h2⟩
  have H1 := Lib.hid h1
  have H2 := Lib.hid h2
  have c0 : w1.cell? ⟨w.heap.size, 0, none⟩ = some (.int .i64 0) := (Lib.cell_of_heap h1 0).trans rfl
  have c1 : w1.cell? ⟨w.heap.size, 1, none⟩ = some (.int .i64 0) := (Lib.cell_of_heap h1 1).trans rfl
  have g0 := Joins.unfrozen_of_block h1 0
  have g1 := Joins.unfrozen_of_block h1 1
  clear h1 h2
  go_wp2_with fail
  refine leaves_cons (f := 65) (args := #[.pointer (some ⟨w.heap.size, 0, none⟩)]) (by simp) (by simp [go_sem]) ?_
  refine (catch_idle w.heap.size _).mono ?_
  rintro e u' w'' ⟨rfl, rfl, rfl⟩
  have HF := Joins.block_setCell (Joins.block_setCell (i := 0) H1.out (.int .i64 0)) (i := 1) (.int .i64 0)
  have z0 := (Lib.cell_of_heap HF 0).trans (show _ = some _ from rfl)
  have z1 := (Lib.cell_of_heap HF 1).trans (show _ = some _ from rfl)
  refine ⟨.agg #[.int .i64 0, .int .i64 0], by simp [results, Tryz.results41, go_sem, z0, z1], rfl, _, H2.out, H1.out, rfl⟩
/-- A reader throws. -/
theorem caught_bad (F : Nat) (cap : Array Value) (hE : ∀ args W, (callFunc F args).run Tryz.prog W = .ok (.enter F args) W) (w : World) (k : Nat) (Rt : World → Prop)
    (h : Calls Tryz.prog F cap (w.alloc zeroF) fun e w' => e = thrown k ∧ w'.heap[w.heap.size]? = some zeroF ∧ Rt w') :
    Calls Tryz.prog 41 #[.func (.func F) #[] cap] w fun e w' => e = .returned (.agg #[.int .i64 40, .int .i64 k]) ∧ ∃ w1, Rt w1 ∧ w1.heap[w.heap.size]? = some zeroF ∧ w' = put2 w1 w.heap.size (.int .i64 40) (.int .i64 k) := by
  have H := Lib.hid h
  have hmf : ∀ (fn : Fn) (first cap : Array Value) (w : World), (Instr.makeFunc fn first cap).run Tryz.prog w = .ok (.func fn first cap) w := fun _ _ _ _ => rfl
  clear h
  go_enter_defers Tryz.func41, Tryz.ntmps41
  go_wp2_with fail
  refine H.out.mono ?_
  rintro e w1 ⟨rfl, h1, h2⟩
  refine leaves_cons (f := 65) (args := #[.pointer (some ⟨w.heap.size, 0, none⟩)]) (by simp) (by simp [go_sem]) ?_
  refine (catch_thrown w.heap.size k [] w1 h1).mono ?_
  rintro e u' w'' ⟨rfl, rfl, rfl⟩
  have HF := Joins.block_setCell (Joins.block_setCell (i := 0) h1 (.int .i64 40)) (i := 1) (.int .i64 k)
  have z0 := (Lib.cell_of_heap HF 0).trans (show _ = some _ from rfl)
  have z1 := (Lib.cell_of_heap HF 1).trans (show _ = some _ from rfl)
  refine ⟨.agg #[.int .i64 40, .int .i64 k], by simp [results, Tryz.results41, go_sem, z0, z1], rfl, _, h2, h1, rfl⟩

end Go.Proofs.YtacgkbdldbppjaaGreatDoor

/- The reader's quoted: a text in quotes. -/
namespace Go.Proofs.YtacgkbdldbppjaaGreatDoor
open Go.RowKit Ch

namespace Sp
def pre (l : List UInt8) (d : Nat) : R (List UInt8) → R (List UInt8)
  | .ok v n => .ok (l ++ v) (d + n)
  | .bad k => .bad (d + k)
theorem pre_zero (x : R (List UInt8)) : pre [] 0 x = x := by cases x <;> simp [pre]
theorem body_34 (f : Nat) {l : List UInt8} (h : l.head? = some 34) : body (f + 1) l = .ok [] 1 := by unfold body; rw [if_pos h]
theorem body_bad (f : Nat) {l : List UInt8} {k : Nat} (h : l.head? ≠ some 34) (hi : inside l = .bad k) : body (f + 1) l = .bad k := by unfold body; rw [if_neg h, bnd_bad hi]
theorem body_ok (f : Nat) {l : List UInt8} {x : UInt8} {n : Nat} (h : l.head? ≠ some 34) (hi : inside l = .ok x n) (m : List UInt8) (d : Nat) : pre m d (body (f + 1) l) = pre (m ++ [x]) (d + n) (body f (l.drop n)) := by
  rw [show body (f + 1) l = bnd inside (fun b => bnd (body f) fun r => ret (b :: r)) l by show (if _ then _ else _) = _; rw [if_neg h]]
  rw [bnd_ok hi]
  cases hb : body f (l.drop n) with
  | bad k => rw [bnd_bad hb]; simp [pre, R.shift]; omega
  | ok v j => rw [bnd_ok hb]; simp [pre, R.shift, ret]; omega
theorem inside_len {l : List UInt8} {x : UInt8} {n : Nat} (h : l.head? ≠ some 34) (hi : inside l = .ok x n) : 1 ≤ n ∧ n ≤ l.length := by
  obtain ⟨h1, h2⟩ := says_inside hi h
  have h3 := (qb_head x).2
  have h4 : 1 ≤ (qb x).length := by cases hx : qb x with
    | nil => exact absurd hx h3
    | cons _ _ => simp
  have h5 := congrArg List.length h1
  rw [List.length_append] at h5
  omega
end Sp

abbrev valS : List UInt8 → World → Value → Prop := fun l _ u => u = .string (Sp.ba l)
theorem rst_len (s : ByteArray) (a : Nat) : (rst s a).length = s.size - a := by unfold rst; rw [List.length_drop]; rfl
theorem quoted_bad {l : List UInt8} (h : ¬ l.head? = some 34) : Sp.quoted l = .bad 0 := by
  unfold Sp.quoted
  exact Sp.bnd_bad (by unfold Sp.must; rw [if_neg h])
theorem quoted_go {l : List UInt8} (h : l.head? = some 34) : Sp.quoted l = (Sp.body ((l.drop 1).length + 1) (l.drop 1)).shift 1 := by
  unfold Sp.quoted
  rw [Sp.bnd_ok (v := ()) (n := 1) (by unfold Sp.must; rw [if_pos h])]

set_option maxHeartbeats 2000000 in
theorem quoted_any (b : Nat) (s : ByteArray) (a : Nat) (w : World) (h : RdAt w b s a) (hz : s.size ≤ 140737488355327) :
    Calls Tryz.prog 43 #[.pointer (some ⟨b, 0, none⟩)] w (RdGo b s a (Sp.quoted (rst s a)) valS w) := by
  have H := Lib.hid h
  by_cases hd : (rst s a).head? = some 34
  · have HM := Lib.hid (must_ok b s a 34 w h hd)
    have HX := Lib.hid (quoted_go hd)
    rw [rst_drop, rst_len] at HX
    have hlt := head_lt hd
    have hbl : b < w.heap.size := lt_of_heap h.1
    clear h hd
    go_enter Tryz.func43, Tryz.ntmps43
    go_wp2_with fail
    refine HM.out.mono ?_
    rintro e w1 ⟨rfl, hat1, hk1⟩
    have Hat1 := Lib.hid hat1
    have Hk1 := Lib.hid hk1
    have hbl1 : b < w1.heap.size := lt_of_heap hat1.1
    have hsz1 : w.heap.size ≤ w1.heap.size := hk1.below.size
    obtain ⟨W, hW⟩ : ∃ W, W = w1.alloc (.cells #[.pointer none, .slice none 0 0] 58) := ⟨_, rfl⟩
    have BW := Lib.hid (show Below w1.heap.size w1 W by rw [hW]; exact below_box _ _)
    have HB := Lib.hid (show IsB W w1.heap.size w1.heap.size [] by rw [hW]; exact IsB.fresh w1)
    have HW := Lib.hid hW
    clear hat1 hk1 hW
    go_wp2_with fail
    rw [← HW.out]
    go_loopg [] (s.size - (a + 1)) (fun gk wr => ∃ (k f : Nat) (l : List UInt8), gk = s.size - k ∧ RdAt wr b s k ∧ a + 1 ≤ k ∧ l.length ≤ k ∧ s.size - k < f ∧ Sp.body (s.size - (a + 1) + 1) (rst s (a + 1)) = Sp.pre l (k - (a + 1)) (Sp.body f (rst s k)) ∧ Keep b [RT] w wr ∧ IsB wr w1.heap.size w1.heap.size l ∧ w1.heap.size ≤ wr.heap.size)
    case atStart =>
      exact ⟨a + 1, s.size - (a + 1) + 1, [], rfl, Hat1.out.later BW.out hbl1, Nat.le_refl _, Nat.zero_le _, by omega, by rw [Nat.sub_self, Sp.pre_zero], Hk1.out.later BW.out (by omega) hsz1, HB.out, BW.out.size⟩
    case round =>
      obtain ⟨k, f, l, rfl, hat, hak, hll, hf, hbo, hkp, hib, hsz⟩ := hrel
      have hks : k ≤ s.size := hat.2.1
      have HS := Lib.hid (sees_any b s k 34 wr hat)
      have Hat := Lib.hid hat
      have Hkp := Lib.hid hkp
      have Hbo := Lib.hid hbo
      have Hib := Lib.hid hib
      clear hat hkp hbo hib
      cases f with
      | zero => omega
      | succ f =>
      by_cases h34 : (rst s k).head? = some 34
      · have hd' : decide ((rst s k).head? = some 34) = true := decide_eq_true h34
        go_wp2_with fail
        refine HS.out.mono ?_
        rintro e w2 ⟨rfl, n, rfl⟩
        rw [hd']
        have HM2 := Lib.hid (must_ok b s k 34 (wr.drewN n) (Hat.out.drewN n) h34)
        go_wp2_with fail
        refine HM2.out.mono ?_
        rintro e w3 ⟨rfl, hat3, hk3⟩
        have HT := Lib.hid (Tryz.Builder_String_any_k w1.heap.size w1.heap.size l w3 ((Hib.out.keep (keep_drewN (Keep.refl b [RT] wr) n) (by decide) (by decide)).keep hk3 (by decide) (by decide)) (Nat.le_trans hsz hk3.below.size))
        have Hat3 := Lib.hid hat3
        have Hk3 := Lib.hid ((keep_drewN Hkp.out n).trans hk3)
        have HE := Lib.hid (HX.out.trans (by rw [Hbo.out, Sp.body_34 f h34]))
        clear hat3 hk3
        go_wp2_with fail
        refine HT.out.mono ?_
        rintro e w4 ⟨rfl, hib4, hb4, _⟩
        have Hat4 := Lib.hid (Hat3.out.later hb4 hbl1)
        have Hk4 := Lib.hid (Hk3.out.later hb4 (by omega) hsz1)
        clear hib4 hb4
        go_wp2_with fail
        go_ret
        refine rdgo_ok HE.out rfl ?_ ?_ Hk4.out
        · show Value.string _ = Value.string _
          rw [List.append_nil]; rfl
        · have e : a + (1 + (k - (a + 1) + 1)) = k + 1 := by omega
          rw [e]; exact Hat4.out
      · have hd' : decide ((rst s k).head? = some 34) = false := decide_eq_false h34
        go_wp2_with fail
        refine HS.out.mono ?_
        rintro e w2 ⟨rfl, n, rfl⟩
        rw [hd']
        have HI := Lib.hid (inside_any b s k (wr.drewN n) (Hat.out.drewN n))
        go_wp2_with fail
        refine HI.out.mono ?_
        cases hi : Sp.inside (rst s k) with
        | bad j =>
          have HE := Lib.hid (HX.out.trans (by rw [Hbo.out, Sp.body_bad f h34 hi]))
          rintro e w3 ⟨rfl, hk3⟩
          refine ⟨rfl, rdgo_bad HE.out ?_ ((keep_drewN Hkp.out n).trans hk3)⟩
          have e : a + (1 + (k - (a + 1) + j)) = k + j := by omega
          rw [e]
        | ok x j =>
          rintro e w3 ⟨_, rfl, rfl, hat3, hk3⟩
          have hj := Sp.inside_len h34 hi
          have hib3 := ((Hib.out.keep (keep_drewN (Keep.refl b [RT] wr) n) (by decide) (by decide)).keep hk3 (by decide) (by decide))
          have hkj := hat3.2.1
          have HWb := Lib.hid (writeByte_l w1.heap.size w1.heap.size l x w3 hib3 (by omega))
          have Hat3 := Lib.hid hat3
          have Hk3 := Lib.hid ((keep_drewN Hkp.out n).trans hk3)
          have hsz3 : w1.heap.size ≤ w3.heap.size := Nat.le_trans hsz hk3.below.size
          have HE := Lib.hid (Hbo.out.trans (Sp.body_ok f h34 hi l (k - (a + 1))))
          rw [rst_drop] at HE
          clear hat3 hk3 hib3
          go_wp2_with fail
          refine HWb.out.mono ?_
          rintro e w4 ⟨rfl, hib4, hb4, _⟩
          have Hat4 := Lib.hid (Hat3.out.later hb4 hbl1)
          have Hk4 := Lib.hid (Hk3.out.later hb4 (by omega) hsz1)
          have Hib4 := Lib.hid hib4
          have hsz4 : w1.heap.size ≤ w4.heap.size := Nat.le_trans hsz3 hb4.size
          clear hib4 hb4
          go_wp2_with fail
          go_roundg (s.size - (k + j))
          case measure => omega
          case rel =>
            refine ⟨k + j, f, l ++ [x], rfl, Hat4.out, by omega, by simp; omega, by omega, ?_, Hk4.out, Hib4.out, hsz4⟩
            have e : k + j - (a + 1) = k - (a + 1) + j := by omega
            rw [e]; exact HE.out
  · have HM := Lib.hid (must_bad b s a 34 w h hd)
    have HX := Lib.hid (quoted_bad hd)
    clear h hd
    go_enter Tryz.func43, Tryz.ntmps43
    go_wp2_with fail
    refine HM.out.mono ?_
    rintro e w1 ⟨rfl, hk1⟩
    exact ⟨rfl, rdgo_bad HX.out rfl hk1⟩

end Go.Proofs.YtacgkbdldbppjaaGreatDoor

/- The reader's number. -/
namespace Go.Proofs.YtacgkbdldbppjaaGreatDoor
open Go.RowKit Ch

theorem enters_of {f : FuncId} {fn : Func} {c : Code} (hf : Tryz.prog.funcs[f]? = some fn) (hname : (fn.name == "runtime.NumGoroutine") = false) (hb : fn.body = some c) (args : Array Value) (w : World) :
    (callFunc f args).run Tryz.prog w = .ok (.enter f args) w := by
  have h1 : fn.name ≠ "runtime.NumGoroutine" := by simpa using hname
  simp [callFunc, hf, h1, hb]
theorem enters_digit (args : Array Value) (W : World) : (callFunc 93 args).run Tryz.prog W = .ok (.enter 93 args) W := enters_of Tryz.func93 (by kernel_rfl) (by rfl) args W
theorem enters_keyByte (args : Array Value) (W : World) : (callFunc 127 args).run Tryz.prog W = .ok (.enter 127 args) W := enters_of Tryz.func127 (by kernel_rfl) (by rfl) args W

/-- strconv.ErrSyntax holds something that an interface may hold. -/
def Syn (w : World) : Prop := ∃ ev, w.cell? ⟨3, 0, none⟩ = some ev ∧ (ev = .nilIface ∨ ∃ te pe, ev = .iface te pe)

theorem pu_val (d : List UInt8) (hd : ∀ b ∈ d, Sp.dig b = true) : ∀ acc : Nat, acc * 10 ^ d.length + 10 ^ d.length ≤ 10 ^ 18 → Lib.parseUint10 acc d = .ok (d.foldl (fun a b => a * 10 + (b.toNat - 48)) acc) := by
  induction d with
  | nil => intro acc _; rfl
  | cons b d ih =>
    intro acc h
    have hb := of_decide_eq_true (show Sp.dig b = true from hd b (List.mem_cons_self ..))
    have h1 : 1 ≤ 10 ^ d.length := Nat.one_le_pow _ _ (by omega)
    have e : (10 : Nat) ^ 18 = 1000000000000000000 := by decide
    rw [List.length_cons, Nat.pow_succ] at h
    have h2 : acc * (10 ^ d.length * 10) = acc * 10 * 10 ^ d.length := by rw [Nat.mul_comm (10 ^ d.length) 10, Nat.mul_assoc]
    have h3 : (acc * 10 + (b.toNat - 48)) * 10 ^ d.length + 10 ^ d.length ≤ 10 ^ 18 := by
      have h4 : (acc * 10 + (b.toNat - 48) + 1) * 10 ^ d.length ≤ (acc * 10 + 10) * 10 ^ d.length := Nat.mul_le_mul_right _ (by omega)
      rw [Nat.add_mul, Nat.one_mul] at h4
      rw [Nat.add_mul (acc * 10) 10] at h4
      omega
    have h5 : acc * 10 + (b.toNat - 48) + 1 ≤ 10 ^ 18 := by
      have : (acc * 10 + (b.toNat - 48) + 1) * 1 ≤ (acc * 10 + (b.toNat - 48) + 1) * 10 ^ d.length := Nat.mul_le_mul_left _ h1
      rw [Nat.mul_one, Nat.add_mul _ 1, Nat.one_mul] at this
      omega
    rw [Lib.parseUint10, if_pos hb, if_neg (by omega), if_neg (by omega), ih (fun c hc => hd c (List.mem_cons_of_mem _ hc)) _ h3]
    rfl
theorem atoi_val {d : List UInt8} (hd : ∀ b ∈ d, Sp.dig b = true) (h : Sp.numOk d) : Lib.atoiAll d = .ok (Sp.val d : Int) := by
  have hv := Sp.val_lt d hd
  have h18 : 10 ^ d.length ≤ 10 ^ 18 := Nat.pow_le_pow_right (by omega) h.2.1
  have e : (10 : Nat) ^ 18 = 1000000000000000000 := by decide
  cases d with
  | nil => exact absurd rfl h.1
  | cons c r =>
    have hc := of_decide_eq_true (show Sp.dig c = true from hd c (List.mem_cons_self ..))
    unfold Lib.atoiAll
    simp only
    rw [if_neg (by omega)]
    unfold Lib.parseMag
    rw [if_neg (by simp), pu_val _ hd 0 (by omega)]
    have hv2 : List.foldl (fun a (b : UInt8) => a * 10 + (b.toNat - 48)) 0 (c :: r) = Sp.val (c :: r) := rfl
    rw [hv2]
    simp only
    rw [if_neg (by omega), if_neg (by omega), if_neg (by omega)]
theorem pre_48 {d : List UInt8} : Lib.hasPrefix d [48] = decide (d.head? = some 48) := by
  unfold Lib.hasPrefix
  cases d with
  | nil => rfl
  | cons a t =>
    simp [List.isPrefixOf]
    rw [Bool.eq_iff_iff]
    simp
    exact ⟨fun h => h.symm, fun h => h.symm⟩

theorem ba_beq (d e : List UInt8) : ((Sp.ba d).toList == e) = decide (d = e) := by
  rw [ByteArray.toList_eq]
  show (d == e) = _
  by_cases h : d = e
  · rw [decide_eq_true h, beq_iff_eq]; exact h
  · rw [decide_eq_false h, beq_eq_false_iff_ne]; exact h

set_option maxHeartbeats 2000000 in
theorem number_any (b : Nat) (s : ByteArray) (a : Nat) (w : World) (h : RdAt w b s a) (hz : s.size ≤ 140737488355327) (hy : Syn w) (hyb : 3 < b) :
    Calls Tryz.prog 73 #[.pointer (some ⟨b, 0, none⟩)] w (RdGo b s a (Sp.number (rst s a)) (fun n _ u => u = .int .i64 (n : Int)) w) := by
  have c1 := h.c1
  have hbl : b < w.heap.size := lt_of_heap h.1
  have HA := Lib.hid (all_any 93 Sp.dig enters_digit digit_any b s a w h)
  have HM := Lib.hid (Sp.tw_mem (p := Sp.dig) (rst s a))
  have hlen : ((rst s a).takeWhile Sp.dig).length ≤ s.size := by
    have := (List.takeWhile_prefix (p := Sp.dig) (l := rst s a)).length_le
    rw [rst_len] at this; omega
  have HX := Lib.hid (show Sp.number (rst s a) = if Sp.numOk ((rst s a).takeWhile Sp.dig) then .ok (Sp.val ((rst s a).takeWhile Sp.dig)) ((rst s a).takeWhile Sp.dig).length else .bad 0 from rfl)
  obtain ⟨ev, hev, hev2⟩ := hy
  have Hev2 := Lib.hid hev2
  clear h hev2
  generalize Sp.number (rst s a) = X at *
  generalize (rst s a).takeWhile Sp.dig = d at *
  have hsz : (Sp.ba d).size = d.length := by simp [Sp.ba, ByteArray.size]
  have HP := Lib.hid fun w => Tryz.strings_HasPrefix (Sp.ba d) ⟨#[48]⟩ w
  rw [show (Sp.ba d).data.toList = d from rfl, show (⟨#[48]⟩ : ByteArray).data.toList = [48] from rfl, pre_48] at HP
  go_enter Tryz.func73, Tryz.ntmps73
  go_wp2_with fail
  refine HA.out.mono ?_
  rintro e w1 ⟨rfl, hat1, hk1⟩
  have Hat1 := Lib.hid hat1
  have Hk1 := Lib.hid hk1
  clear hat1 hk1
  by_cases h18 : 18 < d.length
  · have hg : (18 : Int) < ((Sp.ba d).size : Int) := by rw [hsz]; omega
    have HV := Lib.hid (HX.out.trans (if_neg fun h => by have := h.2.1; omega))
    go_wp2_with fail
    exact ⟨rfl, rdgo_bad HV.out rfl Hk1.out⟩
  have hg : ¬ (18 : Int) < ((Sp.ba d).size : Int) := by rw [hsz]; omega
  go_wp2_with fail
  refine (HP.out _).mono ?_
  rintro e w2 ⟨rfl, rfl⟩
  have hy2 : w2.cell? ⟨3, 0, none⟩ = some ev := (Hk1.out.below.cell (p := ⟨3, 0, none⟩) (by exact hyb)).trans hev
  have hh := ba_beq d [48]
  have Hd := Lib.hid HM.out
  by_cases hok : Sp.numOk d
  · have HV := Lib.hid (HX.out.trans (if_pos hok))
    have HAt := Lib.hid fun w => Tryz.strconv_Atoi_ok (Sp.ba d) (by rw [hsz]; omega) (Sp.val d) (atoi_val HM.out hok) w
    cases hp : decide (d.head? = some 48) with
    | true =>
      have hg2 : ((Sp.ba d).toList == [48]) = true := by rw [hh, decide_eq_true (hok.2.2 (of_decide_eq_true hp))]
      clear hh hok hp
      go_wp2_with fail
      refine (HAt.out _).mono ?_
      rintro e w3 ⟨rfl, hw3⟩
      have hb3 : Below w2.heap.size w2 w3 := by
        rcases hw3 with rfl | ⟨t, rfl⟩
        · exact Below.refl _ _
        · exact Lib.bytesWorld_below _ _ _
      have Hat3 := Lib.hid (Hat1.out.later hb3 (lt_of_heap Hat1.out.1))
      have Hk3 := Lib.hid (Hk1.out.later hb3 (Nat.le_of_lt (lt_of_heap Hat1.out.1)) Hk1.out.below.size)
      clear hw3 hb3
      go_wp2_with fail
      go_ret
      exact rdgo_ok HV.out rfl rfl Hat3.out Hk3.out
    | false =>
      clear hh hok hp
      go_wp2_with fail
      refine (HAt.out _).mono ?_
      rintro e w3 ⟨rfl, hw3⟩
      have hb3 : Below w2.heap.size w2 w3 := by
        rcases hw3 with rfl | ⟨t, rfl⟩
        · exact Below.refl _ _
        · exact Lib.bytesWorld_below _ _ _
      have Hat3 := Lib.hid (Hat1.out.later hb3 (lt_of_heap Hat1.out.1))
      have Hk3 := Lib.hid (Hk1.out.later hb3 (Nat.le_of_lt (lt_of_heap Hat1.out.1)) Hk1.out.below.size)
      clear hw3 hb3
      go_wp2_with fail
      go_ret
      exact rdgo_ok HV.out rfl rfl Hat3.out Hk3.out
  · by_cases hn : d = []
    · have HV := Lib.hid (HX.out.trans (if_neg hok))
      have HAs := Lib.hid fun w hv => Tryz.strconv_Atoi_syntax (Sp.ba d) (by rw [hsz]; omega) ((Sp.data_ba d).trans hn) ev w hv Hev2.out
      have hp : decide (d.head? = some 48) = false := by rw [hn]; rfl
      rw [hp]
      clear hh hok hp hn
      go_wp2_with fail
      refine (HAs.out _ hy2).mono ?_
      rintro e w3 ⟨N, rfl, _, _, hb3⟩
      have Hk3 := Lib.hid (Hk1.out.later hb3 (Nat.le_of_lt (lt_of_heap Hat1.out.1)) Hk1.out.below.size)
      clear hb3
      go_wp2_with fail
      exact ⟨rfl, rdgo_bad HV.out rfl Hk3.out⟩
    · have h0 : d.head? = some 48 ∧ d ≠ [48] := by
        refine Classical.byContradiction fun hc => hok ⟨hn, by omega, fun h1 => Classical.byContradiction fun h2 => hc ⟨h1, h2⟩⟩
      have HV := Lib.hid (HX.out.trans (if_neg hok))
      have hp : decide (d.head? = some 48) = true := decide_eq_true h0.1
      have hg2 : ((Sp.ba d).toList == [48]) = false := by rw [hh, decide_eq_false h0.2]
      rw [hp]
      clear hh hok hp hn h0
      go_wp2_with fail
      exact ⟨rfl, rdgo_bad HV.out rfl Hk1.out⟩

end Go.Proofs.YtacgkbdldbppjaaGreatDoor

/- Read: a text in quotes, read at a place. -/
namespace Go.Proofs.YtacgkbdldbppjaaGreatDoor
open Go.RowKit Ch

abbrev RS : List TypeId := [RT, 9]
theorem quotedClos_ok (b t : Nat) (s x : ByteArray) (a n : Nat) (v : List UInt8) (w : World) (h : RdAt w b s a) (ht : w.heap[t]? = some (.cells #[.string x] 9 (0, 0))) (hbt : b ≤ t) (hz : s.size ≤ 140737488355327) (hq : Sp.quoted (rst s a) = .ok v n) :
    Calls Tryz.prog 42 #[.pointer (some ⟨b, 0, none⟩), .pointer (some ⟨t, 0, none⟩)] w fun e w' => e = .returned (.tuple #[]) ∧ RdAt w' b s (a + n) ∧ w'.heap[t]? = some (.cells #[.string (Sp.ba v)] 9 (0, 0)) ∧ Keep b RS w w' := by
  have HQ := Lib.hid (quoted_any b s a w h hz)
  have Ht := Lib.hid ht
  clear h ht
  go_enter Tryz.func42, Tryz.ntmps42
  go_wp2_with fail
  rw [hq] at HQ
  refine HQ.out.mono ?_
  rintro e w1 ⟨_, rfl, rfl, hat, hk⟩
  have Hat := Lib.hid hat
  have Hk := Lib.hid hk
  have t1 := hk.kept _ _ _ _ Ht.out (by decide)
  have Ht1 := Lib.hid t1
  have g0 := Joins.unfrozen_of_block t1 0
  have y0 := (Lib.cell_of_heap t1 0).trans (show _ = some _ from rfl)
  have hne : b ≠ t := fun e => by
    have h1 := hat.1
    rw [e, t1] at h1
    simp only [Option.some.injEq, Obj.cells.injEq] at h1
    exact absurd h1.2.1 (by decide)
  clear hat hk t1
  go_wp2_with fail
  first | go_end0 | refine bodyPost_ret (results_none rfl _ _ _) rfl ?_
  refine ⟨rfl, Hat.out.keep (Below.heap_setCell _ _ _ _ (by simpa using hne)), Joins.block_setCell (i := 0) Ht1.out _, (Hk.out.more (by simp)).trans (keep_set Ht1.out (by simp) hbt ⟨t, 0, none⟩ rfl _)⟩
theorem quotedClos_bad (b t : Nat) (s : ByteArray) (a k : Nat) (w : World) (h : RdAt w b s a) (hz : s.size ≤ 140737488355327) (hq : Sp.quoted (rst s a) = .bad k) :
    Calls Tryz.prog 42 #[.pointer (some ⟨b, 0, none⟩), .pointer (some ⟨t, 0, none⟩)] w fun e w' => e = thrown (a + k) ∧ Keep b RS w w' := by
  have HQ := Lib.hid (quoted_any b s a w h hz)
  clear h
  go_enter Tryz.func42, Tryz.ntmps42
  go_wp2_with fail
  rw [hq] at HQ
  refine HQ.out.mono ?_
  rintro e w1 ⟨rfl, hk⟩
  exact ⟨rfl, rfl, hk.more (by simp)⟩
theorem enters_Read1 (args : Array Value) (W : World) : (callFunc 42 args).run Tryz.prog W = .ok (.enter 42 args) W := enters_of Tryz.func42 (by kernel_rfl) (by rfl) args W

theorem put2_heap (w : World) (g i : Nat) (x y : Value) (h : i ≠ g) : (put2 w g x y).heap[i]? = w.heap[i]? := by
  rw [put2, Below.heap_setCell _ _ _ _ (by simpa using h), Below.heap_setCell _ _ _ _ (by simpa using h)]
theorem put2_below {B : Nat} {a w : World} {g : Nat} (h : Below B a w) (hg : B ≤ g) (x y : Value) : Below B a (put2 w g x y) := (h.setCell (p := ⟨g, 0, none⟩) hg x).setCell (p := ⟨g, 1, none⟩) hg y

def SpReadOut (w : World) (s : ByteArray) (p : Int) (e : Ending) (w' : World) : Prop :=
  e = .returned (.tuple #[.string (Sp.ba (Sp.readF s.data.toList p).text), .int .i64 (Sp.readF s.data.toList p).fin, .agg #[.int .i64 (Sp.readF s.data.toList p).code, .int .i64 (Sp.readF s.data.toList p).at_]]) ∧ Below w.heap.size w w'
theorem readF_out {s : ByteArray} {p : Int} (h : p < 0 ∨ (s.size : Int) < p) : Sp.readF s.data.toList p = ⟨1, -1, [], 0⟩ := by unfold Sp.readF; exact if_pos h
theorem readF_bad {s : ByteArray} {a k : Nat} (h : a ≤ s.size) (hq : Sp.quoted (rst s a) = .bad k) : Sp.readF s.data.toList (a : Int) = ⟨40, ((a + k : Nat) : Int), [], 0⟩ := by
  unfold Sp.readF
  rw [if_neg (by show ¬ ((a : Int) < 0 ∨ (s.size : Int) < a); omega), Int.toNat_natCast]
  show Sp.readR a (Sp.quoted (rst s a)) = _
  rw [hq]; rfl
theorem readF_ok {s : ByteArray} {a n : Nat} {v : List UInt8} (h : a ≤ s.size) (hq : Sp.quoted (rst s a) = .ok v n) : Sp.readF s.data.toList (a : Int) = ⟨0, 0, v, ((a + n : Nat) : Int)⟩ := by
  unfold Sp.readF
  rw [if_neg (by show ¬ ((a : Int) < 0 ∨ (s.size : Int) < a); omega), Int.toNat_natCast]
  show Sp.readR a (Sp.quoted (rst s a)) = _
  rw [hq]; rfl

set_option maxHeartbeats 4000000 in
theorem spRead_any (s : ByteArray) (p : Int) (w : World) (hz : s.size ≤ 140737488355327) (hp0 : -9223372036854775808 ≤ p) (hp1 : p ≤ 9223372036854775807) :
    Calls Tryz.prog 16 #[.string s, .int .i64 p] w (SpReadOut w s p) := by
  by_cases hp : p < 0
  · have HE := Lib.hid (readF_out (s := s) (.inl hp))
    go_enter Tryz.func16, Tryz.ntmps16
    go_wp2_with fail
    refine bodyPost_ret (v := .tuple #[.string ⟨#[]⟩, .int .i64 0, .agg #[.int .i64 1, .int .i64 (-1)]]) (by simp [results, Tryz.results16, go_sem]) rfl ?_
    rw [SpReadOut, HE.out]
    exact ⟨rfl, below_box _ _⟩
  by_cases hp2 : (s.size : Int) < p
  · have HE := Lib.hid (readF_out (s := s) (.inr hp2))
    go_enter Tryz.func16, Tryz.ntmps16
    go_wp2_with fail
    refine bodyPost_ret (v := .tuple #[.string ⟨#[]⟩, .int .i64 0, .agg #[.int .i64 1, .int .i64 (-1)]]) (by simp [results, Tryz.results16, go_sem]) rfl ?_
    rw [SpReadOut, HE.out]
    exact ⟨rfl, below_box _ _⟩
  · obtain ⟨a, rfl⟩ : ∃ a : Nat, p = a := ⟨p.toNat, by omega⟩
    have ha : a ≤ s.size := by omega
    have hmf : ∀ (fn : Fn) (first cap : Array Value) (w : World), (Instr.makeFunc fn first cap).run Tryz.prog w = .ok (.func fn first cap) w := fun _ _ _ _ => rfl
    obtain ⟨X, hX⟩ : ∃ X, X = ((w.alloc zeroF).alloc (.cells #[.string s, .int .i64 a] 71)).alloc (.cells #[.string ⟨#[]⟩] 9) := ⟨_, rfl⟩
    have sX : X.heap.size = w.heap.size + 3 := by rw [hX]; simp
    have f0 : X.heap[w.heap.size]? = some zeroF := by
      rw [hX, Lib.alloc_old _ _ _ (by simp <;> omega), Lib.alloc_old _ _ _ (by simp)]; exact heap_new w _
    have f1 : X.heap[w.heap.size + 1]? = some (.cells #[.string s, .int .i64 a] 71 (0, 0)) := by
      rw [hX, Lib.alloc_old _ _ _ (by simp)]; have := heap_new (w.alloc zeroF) (.cells #[.string s, .int .i64 a] 71); simpa using this
    have f2 : X.heap[w.heap.size + 2]? = some (.cells #[.string ⟨#[]⟩] 9 (0, 0)) := by
      rw [hX]; have := heap_new ((w.alloc zeroF).alloc (.cells #[.string s, .int .i64 a] 71)) (.cells #[.string ⟨#[]⟩] 9); simpa using this
    have bX : Below w.heap.size w X := by rw [hX]; exact (((Below.refl _ _).alloc (Nat.le_refl _) _).alloc (by simp) _).alloc (by simp <;> omega) _
    have KX : Keep (w.heap.size + 1) RS X (X.alloc zeroF) := keep_below (below_box X zeroF) (by omega)
    have hat : RdAt (X.alloc zeroF) (w.heap.size + 1) s a := ⟨(Lib.alloc_old X _ _ (by omega)).trans f1, ha, Nat.le_trans hz (by unfold maxLen; omega)⟩
    have ht : (X.alloc zeroF).heap[w.heap.size + 2]? = some (.cells #[.string ⟨#[]⟩] 9 (0, 0)) := (Lib.alloc_old X _ _ (by omega)).trans f2
    have hg : (X.alloc zeroF).heap[X.heap.size]? = some zeroF := heap_new X zeroF
    have HX := Lib.hid hX
    have F0 := Lib.hid f0
    have BX := Lib.hid bX
    cases hq : Sp.quoted (rst s a) with
    | bad k =>
      have HC := Lib.hid (caught_bad 42 #[.pointer (some ⟨w.heap.size + 1, 0, none⟩), .pointer (some ⟨w.heap.size + 1 + 1, 0, none⟩)] enters_Read1 X (a + k) (fun w1 => Keep (w.heap.size + 1) RS X w1)
        ((quotedClos_bad (w.heap.size + 1) (w.heap.size + 2) s a k (X.alloc zeroF) hat hz hq).mono fun e w1 ⟨h1, h2⟩ => ⟨h1, h2.kept _ _ _ _ hg (by decide), KX.trans h2⟩))
      have HE := Lib.hid (readF_bad ha hq)
      clear hX f0 f1 f2 bX KX hat ht hg hq
      go_enter Tryz.func16, Tryz.ntmps16
      go_wp2_with fail
      rw [← HX.out]
      refine HC.out.mono ?_
      rintro e w2 ⟨rfl, w1, k1, g1, rfl⟩
      have K1 := Lib.hid k1
      have f1 := (put2_heap w1 X.heap.size w.heap.size (.int .i64 40) (.int .i64 ((a + k : Nat) : Int)) (by omega)).trans (k1.kept _ _ _ _ F0.out (by decide))
      have F1 := Lib.hid f1
      have B1 := Lib.hid (put2_below (BX.out.trans (k1.below.mono (by omega))) (show w.heap.size ≤ X.heap.size by omega) (.int .i64 40) (.int .i64 ((a + k : Nat) : Int)))
      clear k1 g1 f1
      generalize put2 w1 X.heap.size (.int .i64 40) (.int .i64 ((a + k : Nat) : Int)) = V at *
      have e0 := (Lib.cell_of_heap F1.out 0).trans (show _ = some _ from rfl)
      have e1 := (Lib.cell_of_heap F1.out 1).trans (show _ = some _ from rfl)
      have g0 := Joins.unfrozen_of_block F1.out 0
      have g1 := Joins.unfrozen_of_block F1.out 1
      have hlt := lt_of_heap F1.out
      go_wp2_with fail
      go_region
      go_wp2_with fail
      refine bodyPost_ret (v := .tuple #[.string ⟨#[]⟩, .int .i64 0, .agg #[.int .i64 40, .int .i64 ((a : Int) + k)]]) (by simp [results, Tryz.results16, go_sem, e0, e1, hlt]) rfl ?_
      rw [SpReadOut, HE.out]
      refine ⟨by simp [Sp.ba], ?_⟩
      exact Below.drew (below_alloc ((B1.out.setCell (p := ⟨w.heap.size, 0, none⟩) (Nat.le_refl w.heap.size) _).setCell (p := ⟨w.heap.size, 1, none⟩) (Nat.le_refl w.heap.size) _) (Nat.le_refl _) _)
    | ok v n =>
      have HC := Lib.hid (caught_ok 42 #[.pointer (some ⟨w.heap.size + 1, 0, none⟩), .pointer (some ⟨w.heap.size + 1 + 1, 0, none⟩)] enters_Read1 X (fun w1 => RdAt w1 (w.heap.size + 1) s (a + n) ∧ w1.heap[w.heap.size + 2]? = some (.cells #[.string (Sp.ba v)] 9 (0, 0)) ∧ Keep (w.heap.size + 1) RS X w1)
        ((quotedClos_ok (w.heap.size + 1) (w.heap.size + 2) s ⟨#[]⟩ a n v (X.alloc zeroF) hat ht (by omega) hz hq).mono fun e w1 ⟨h1, h2, h3, h4⟩ => ⟨h1, h4.kept _ _ _ _ hg (by decide), h2, h3, KX.trans h4⟩))
      have HE := Lib.hid (readF_ok ha hq)
      clear hX f0 f1 f2 bX KX hat ht hg hq
      go_enter Tryz.func16, Tryz.ntmps16
      go_wp2_with fail
      rw [← HX.out]
      refine HC.out.mono ?_
      rintro e w2 ⟨rfl, w1, ⟨q1, q2, k1⟩, g1, rfl⟩
      have f0 := (put2_heap w1 X.heap.size w.heap.size (.int .i64 0) (.int .i64 0) (by omega)).trans (k1.kept _ _ _ _ F0.out (by decide))
      have f1 := (put2_heap w1 X.heap.size (w.heap.size + 1) (.int .i64 0) (.int .i64 0) (by omega)).trans q1.1
      have f2 := (put2_heap w1 X.heap.size (w.heap.size + 2) (.int .i64 0) (.int .i64 0) (by omega)).trans q2
      have B1 := Lib.hid (put2_below (BX.out.trans (k1.below.mono (by omega))) (show w.heap.size ≤ X.heap.size by omega) (.int .i64 0) (.int .i64 0))
      clear k1 g1 q1 q2
      generalize put2 w1 X.heap.size (.int .i64 0) (.int .i64 0) = V at *
      have G0 := Lib.hid f0
      have G1 := Lib.hid f1
      have G2 := Lib.hid f2
      clear f0 f1 f2
      have e0 := (Lib.cell_of_heap G0.out 0).trans (show _ = some _ from rfl)
      have e1 := (Lib.cell_of_heap G0.out 1).trans (show _ = some _ from rfl)
      have g0 := Joins.unfrozen_of_block G0.out 0
      have g1 := Joins.unfrozen_of_block G0.out 1
      have hlt := lt_of_heap G2.out
      have hlt0 := lt_of_heap G0.out
      have hlt1 := lt_of_heap G1.out
      have hn1 : w.heap.size + 1 ≠ V.heap.size := by omega
      have hn2 : w.heap.size + 1 + 1 ≠ V.heap.size := by omega
      have hn0 : w.heap.size ≠ V.heap.size := by omega
      have r1 : V.cell? ⟨w.heap.size + 1, 1, none⟩ = some (.int .i64 ((a + n : Nat) : Int)) := (Lib.cell_of_heap G1.out 1).trans rfl
      have t0 : V.cell? ⟨w.heap.size + 1 + 1, 0, none⟩ = some (.string (Sp.ba v)) := (Lib.cell_of_heap G2.out 0).trans rfl
      go_wp2_with fail
      go_region
      go_wp2_with fail
      refine bodyPost_ret (v := .tuple #[.string (Sp.ba v), .int .i64 ((a : Int) + n), .agg #[.int .i64 0, .int .i64 0]]) (by simp [results, Tryz.results16, go_sem, e0, e1, hlt0]) rfl ?_
      rw [SpReadOut, HE.out]
      refine ⟨by simp, ?_⟩
      exact Below.drew (below_alloc ((B1.out.setCell (p := ⟨w.heap.size, 0, none⟩) (Nat.le_refl w.heap.size) _).setCell (p := ⟨w.heap.size, 1, none⟩) (Nat.le_refl w.heap.size) _) (Nat.le_refl _) _)
end Go.Proofs.YtacgkbdldbppjaaGreatDoor

/- The reader's attr: a key and its value. -/
namespace Go.Proofs.YtacgkbdldbppjaaGreatDoor
open Go.RowKit Ch

namespace Sp
theorem attr_bad0 {l : List UInt8} (h : l.takeWhile kb = []) : attr l = .bad 0 := by
  unfold attr; exact bnd_bad (by unfold key; rw [if_pos h])
theorem key_ok {l : List UInt8} (h : l.takeWhile kb ≠ []) : key l = .ok (l.takeWhile kb) (l.takeWhile kb).length := by unfold key; rw [if_neg h]
theorem must_no {c : UInt8} {l : List UInt8} (h : ¬ l.head? = some c) : must c l = .bad 0 := by unfold must; rw [if_neg h]
theorem must_yes {c : UInt8} {l : List UInt8} (h : l.head? = some c) : must c l = .ok () 1 := by unfold must; rw [if_pos h]
theorem attr_bad1 {l : List UInt8} (h : l.takeWhile kb ≠ []) (h2 : ¬ (l.drop (l.takeWhile kb).length).head? = some 58) : attr l = .bad (l.takeWhile kb).length := by
  unfold attr; rw [bnd_ok (key_ok h), bnd_bad (must_no h2)]; rfl
theorem attr_bad2 {l : List UInt8} {k : Nat} (h : l.takeWhile kb ≠ []) (h2 : (l.drop (l.takeWhile kb).length).head? = some 58) (h3 : quoted (l.drop ((l.takeWhile kb).length + 1)) = .bad k) : attr l = .bad ((l.takeWhile kb).length + (1 + k)) := by
  unfold attr; rw [bnd_ok (key_ok h), bnd_ok (must_yes h2), List.drop_drop, bnd_bad h3]; rfl
theorem attr_ok {l v : List UInt8} {n : Nat} (h : l.takeWhile kb ≠ []) (h2 : (l.drop (l.takeWhile kb).length).head? = some 58) (h3 : quoted (l.drop ((l.takeWhile kb).length + 1)) = .ok v n) : attr l = .ok (ba (l.takeWhile kb), ba v) ((l.takeWhile kb).length + (1 + n)) := by
  unfold attr; rw [bnd_ok (key_ok h), bnd_ok (must_yes h2), List.drop_drop, bnd_ok h3]; rfl
end Sp

abbrev valA : Sp.A → World → Value → Prop := fun x _ u => u = .agg #[.string x.1, .string x.2]
theorem ba_empty {d : List UInt8} (h : d = []) : (Sp.ba d).toList.isEmpty = true := by subst h; rw [ByteArray.toList_eq]; rfl
theorem ba_full {d : List UInt8} (h : d ≠ []) : (Sp.ba d).toList.isEmpty = false := by
  rw [ByteArray.toList_eq]
  cases d with
  | nil => exact absurd rfl h
  | cons _ _ => rfl

set_option maxHeartbeats 2000000 in
theorem attr_any (b : Nat) (s : ByteArray) (a : Nat) (w : World) (h : RdAt w b s a) (hz : s.size ≤ 140737488355327) :
    Calls Tryz.prog 111 #[.pointer (some ⟨b, 0, none⟩)] w (RdGo b s a (Sp.attr (rst s a)) valA w) := by
  have hbl : b < w.heap.size := lt_of_heap h.1
  obtain ⟨W, hW⟩ : ∃ W, W = w.alloc (.cells #[.string ⟨#[]⟩, .string ⟨#[]⟩] 52) := ⟨_, rfl⟩
  have BW := (show Below w.heap.size w W by rw [hW]; exact below_box _ _)
  have b0 : W.heap[w.heap.size]? = some (.cells #[.string ⟨#[]⟩, .string ⟨#[]⟩] 52 (0, 0)) := by rw [hW]; exact heap_new _ _
  have hat0 : RdAt W b s a := h.later BW hbl
  have c1 := hat0.c1
  have HA := Lib.hid (all_any 127 Sp.kb enters_keyByte keyByte_any b s a W hat0)
  have KW := Lib.hid ((Keep.refl b [RT] w).later BW (Nat.le_of_lt hbl) (Nat.le_refl _))
  have HB0 := Lib.hid b0
  have HW := Lib.hid hW
  have cw := hat0.c1
  rw [hW] at cw
  have e0 := fun (h : (rst s a).takeWhile Sp.kb = []) => Sp.attr_bad0 h
  have e1 := fun (h : (rst s a).takeWhile Sp.kb ≠ []) => Sp.attr_bad1 h
  have e2 := fun k (h : (rst s a).takeWhile Sp.kb ≠ []) => Sp.attr_bad2 (k := k) h
  have e3 := fun v n (h : (rst s a).takeWhile Sp.kb ≠ []) => Sp.attr_ok (v := v) (n := n) h
  simp only [rst_drop] at e1 e2 e3
  have E0 := Lib.hid e0
  have E1 := Lib.hid e1
  have E2 := Lib.hid e2
  have E3 := Lib.hid e3
  clear h hW BW b0 hat0 e0 e1 e2 e3
  generalize Sp.attr (rst s a) = X at *
  generalize (rst s a).takeWhile Sp.kb = d at *
  go_enter Tryz.func111, Tryz.ntmps111
  go_wp2_with fail
  rw [← HW.out]
  go_wp2_with fail
  refine HA.out.mono ?_
  rintro e w1 ⟨rfl, hat1, hk1⟩
  have Hk1 := Lib.hid (KW.out.trans hk1)
  have HB1 := Lib.hid (hk1.kept _ _ _ _ HB0.out (by decide))
  by_cases hd : d = []
  · have HV := Lib.hid (E0.out hd)
    have hg := ba_empty hd
    clear hat1 hk1 hd c1
    go_wp2_with fail
    exact ⟨rfl, rdgo_bad HV.out rfl Hk1.out⟩
  have hg := ba_full hd
  by_cases h58 : (rst s (a + d.length)).head? = some 58
  · have HM := Lib.hid (must_ok b s _ 58 w1 hat1 h58)
    have F2 := Lib.hid fun k => E2.out k hd h58
    have F3 := Lib.hid fun v n => E3.out v n hd h58
    clear hat1 hk1 hd h58 c1
    go_wp2_with fail
    refine HM.out.mono ?_
    rintro e w2 ⟨rfl, hat2, hk2⟩
    have HQ := Lib.hid (quoted_any b s _ w2 hat2 hz)
    have Hk2 := Lib.hid (Hk1.out.trans hk2)
    have HB2 := Lib.hid (hk2.kept _ _ _ _ HB1.out (by decide))
    clear hat2 hk2
    go_wp2_with fail
    refine HQ.out.mono ?_
    cases hq : Sp.quoted (rst s (a + d.length + 1)) with
    | bad k =>
      have HV := Lib.hid (F2.out k (by rw [← Nat.add_assoc]; exact hq))
      rintro e w3 ⟨rfl, hk3⟩
      exact ⟨rfl, rdgo_bad HV.out (by rw [show a + (d.length + (1 + k)) = a + d.length + 1 + k by omega]) (Hk2.out.trans hk3)⟩
    | ok v n =>
      have HV := Lib.hid (F3.out v n (by rw [← Nat.add_assoc]; exact hq))
      rintro e w3 ⟨_, rfl, rfl, hat3, hk3⟩
      have Hk3 := Lib.hid (Hk2.out.trans hk3)
      have HB3 := hk3.kept _ _ _ _ HB2.out (by decide)
      have g0 := Joins.unfrozen_of_block HB3 0
      have g1 := Joins.unfrozen_of_block HB3 1
      have y0 : w3.cell? ⟨w.heap.size, 0, none⟩ = some (.string ⟨#[]⟩) := (Lib.cell_of_heap HB3 0).trans rfl
      have y1 : w3.cell? ⟨w.heap.size, 1, none⟩ = some (.string ⟨#[]⟩) := (Lib.cell_of_heap HB3 1).trans rfl
      have F0 := Joins.block_setCell (Joins.block_setCell (i := 0) HB3 (.string (Sp.ba d))) (i := 1) (.string (Sp.ba v))
      have HF := Lib.hid F0
      have BF := Lib.hid (show Below w.heap.size w3 ((w3.setCell ⟨w.heap.size, 0, none⟩ (.string (Sp.ba d))).setCell ⟨w.heap.size, 1, none⟩ (.string (Sp.ba v))) from ((Below.refl w.heap.size _).setCell (p := ⟨w.heap.size, 0, none⟩) (Nat.le_refl w.heap.size) _).setCell (p := ⟨w.heap.size, 1, none⟩) (Nat.le_refl w.heap.size) _)
      have Hat3 := Lib.hid hat3
      clear hat3 hk3 hq F0
      go_wp2_with fail
      have z0 := (Lib.cell_of_heap HF.out 0)
      have z1 := (Lib.cell_of_heap HF.out 1)
      refine bodyPost_ret (v := .agg #[.string (Sp.ba d), .string (Sp.ba v)]) (by simp [results, Tryz.results111, go_sem, z0, z1]) rfl (rdgo_ok HV.out rfl rfl ?_ (Hk3.out.later BF.out (Nat.le_of_lt hbl) (Nat.le_refl _)))
      rw [show a + (d.length + (1 + n)) = a + d.length + 1 + n by omega]
      exact Hat3.out.later BF.out hbl
  · have HM := Lib.hid (must_bad b s _ 58 w1 hat1 h58)
    have HV := Lib.hid (E1.out hd h58)
    clear hat1 hk1 hd h58 c1
    go_wp2_with fail
    refine HM.out.mono ?_
    rintro e w2 ⟨rfl, hk2⟩
    exact ⟨rfl, rdgo_bad HV.out rfl (Hk1.out.trans hk2)⟩

end Go.Proofs.YtacgkbdldbppjaaGreatDoor

/- The reader's attrs: a row of attributes of its own. -/
namespace Go.Proofs.YtacgkbdldbppjaaGreatDoor
open Go.RowKit Ch

namespace Sp
def prl {α : Type} (l : List α) (d : Nat) : R (List α) → R (List α)
  | .ok v n => .ok (l ++ v) (d + n)
  | .bad k => .bad (d + k)
theorem prl_bnd {α : Type} (x : α) (p : List UInt8 → R (List α)) (l : List UInt8) : bnd p (fun r => ret (x :: r)) l = prl [x] 0 (p l) := by
  cases h : p l with
  | bad k => rw [bnd_bad h]; simp [prl]
  | ok v n => rw [bnd_ok h]; simp [prl, ret, R.shift]
theorem prl_shift {α : Type} (l : List α) (d e : Nat) (x : R (List α)) : (prl l d x).shift e = prl l (e + d) x := by
  cases x <;> simp [prl, R.shift] <;> omega
theorem prl_prl {α : Type} (l m : List α) (d e : Nat) (x : R (List α)) : prl l d (prl m e x) = prl (l ++ m) (d + e) x := by
  cases x <;> simp [prl] <;> omega
theorem attrs_bad0 {l : List UInt8} (h : ¬ l.head? = some 123) : attrs l = .bad 0 := by unfold attrs; rw [bnd_bad (must_no h)]
theorem attrs_bad1 {l : List UInt8} {k : Nat} (h : l.head? = some 123) (h2 : attr (l.drop 1) = .bad k) : attrs l = .bad (1 + k) := by unfold attrs; rw [bnd_ok (must_yes h), bnd_bad h2]; rfl
theorem attrs_go {l : List UInt8} {x : A} {n : Nat} (h : l.head? = some 123) (h2 : attr (l.drop 1) = .ok x n) : attrs l = prl [x] (1 + n) (more ((l.drop (1 + n)).length + 1) (l.drop (1 + n))) := by
  unfold attrs
  rw [bnd_ok (must_yes h), bnd_ok h2, List.drop_drop, prl_bnd, prl_shift, prl_shift]
  rfl
theorem more_end (f : Nat) {l : List UInt8} (h : ¬ l.head? = some 44) (h2 : l.head? = some 125) : more (f + 1) l = .ok [] 1 := by unfold more; rw [if_neg h, bnd_ok (must_yes h2)]; rfl
theorem more_bad0 (f : Nat) {l : List UInt8} (h : ¬ l.head? = some 44) (h2 : ¬ l.head? = some 125) : more (f + 1) l = .bad 0 := by unfold more; rw [if_neg h, bnd_bad (must_no h2)]
theorem more_bad1 (f : Nat) {l : List UInt8} {k : Nat} (h : l.head? = some 44) (h2 : attr (l.drop 1) = .bad k) : more (f + 1) l = .bad (1 + k) := by unfold more; rw [if_pos h, bnd_ok (must_yes h), bnd_bad h2]; rfl
theorem more_go (f : Nat) {l : List UInt8} {x : A} {n : Nat} (h : l.head? = some 44) (h2 : attr (l.drop 1) = .ok x n) : more (f + 1) l = prl [x] (1 + n) (more f (l.drop (1 + n))) := by
  show (if l.head? = some 44 then bnd (must 44) (fun _ => bnd attr fun a => bnd (more f) fun r => ret (a :: r)) l else _) = _
  rw [if_pos h, bnd_ok (must_yes h), bnd_ok h2, List.drop_drop, prl_bnd, prl_shift, prl_shift, Nat.add_zero]
end Sp

/-- 'append(own, one)', of however long a row. -/
theorem append_attr {w : World} {ops : Array Oper} {rest : List Oper} {o : Oper} {a : Act} {Q : Exit → Act → World → Prop} (hgd : o.guard = none) (s x : Operand)
    (ho : o.op = .call { callee := .builtin .append, args := #[s, x], argTypes := #[46, 46] })
    (base : Nat) (v : Value) (n : Nat) (xs : List Value) (p : ByteArray × ByteArray) (hs : a.eval s = v) (hx : a.eval x = .slice (some ⟨w.heap.size, 0, none⟩) 1 1) (hown : w.ownsRow base 52 2 v n xs)
    (N : Nat) (ys : List Value) (hN : n + 1 = N) (hy : xs ++ [.string p.1, .string p.2] = ys) (h63 : N ≤ 1048576) (hbase : base ≤ w.heap.size)
    (h : ∀ u w', w'.ownsRow base 52 2 u N ys → (w.alloc (.cells #[.string p.1, .string p.2] 52)).grownBy w' v.ownBlock → wpList Tryz.prog ops Q rest (a.put o.dst u) w') :
    wpList Tryz.prog ops Q (o :: rest) a (w.alloc (.cells #[.string p.1, .string p.2] 52)) := by
  subst hN
  subst hy
  have h63' : n + 1 ≤ maxLen := by unfold maxLen; omega
  obtain ⟨i0, hi, hz0, hz1, hz2⟩ := info_parts infoAttr
  refine wpList_append_own _ hgd s x 46 ho base 52 i0 (.agg #[.string ⟨#[]⟩, .string ⟨#[]⟩]) 2 32 Tryz.underlying46 hi hz0 hz1 hz2 rfl (by decide) v n xs hs (hown.alloc _) ⟨w.heap.size, 0, none⟩ 1 1 [.string p.1, .string p.2] hx rfl (new_at2 _ _ _ _) (fun u hu => by simp at hu; rcases hu with rfl | rfl <;> rfl) h63' (by omega) (by simp; omega)
    fun u w' h1 h2 _ => h u w' h1 h2

abbrev valAs (C : Nat) : List Sp.A → World → Value → Prop := fun l w' u => w'.ownsRow C 52 2 u l.length (flat l)

set_option maxHeartbeats 2000000 in
theorem attrs_any (b : Nat) (s : ByteArray) (a : Nat) (w : World) (h : RdAt w b s a) (hz : s.size ≤ 262144) :
    Calls Tryz.prog 96 #[.pointer (some ⟨b, 0, none⟩)] w (RdGo b s a (Sp.attrs (rst s a)) (valAs w.heap.size) w) := by
  have hbl : b < w.heap.size := lt_of_heap h.1
  by_cases hd : (rst s a).head? = some 123
  · have HM := Lib.hid (must_ok b s a 123 w h hd)
    have e1 := fun k (h2 : Sp.attr (rst s (a + 1)) = .bad k) => Sp.attrs_bad1 (l := rst s a) hd (by rw [rst_drop]; exact h2)
    have e2 := fun x n (h2 : Sp.attr (rst s (a + 1)) = .ok x n) => Sp.attrs_go (l := rst s a) hd (by rw [rst_drop]; exact h2)
    simp only [rst_drop, rst_len] at e2
    have E1 := Lib.hid e1
    have E2 := Lib.hid e2
    have hlt := head_lt hd
    clear h hd e1 e2
    generalize Sp.attrs (rst s a) = X at *
    go_enter Tryz.func96, Tryz.ntmps96
    go_wp2_with fail
    refine HM.out.mono ?_
    rintro e w1 ⟨rfl, hat1, hk1⟩
    have HA := Lib.hid (attr_any b s _ w1 hat1 (by omega))
    have Hk1 := Lib.hid hk1
    clear hat1 hk1
    go_wp2_with fail
    refine HA.out.mono ?_
    cases hq : Sp.attr (rst s (a + 1)) with
    | bad k =>
      have HV := Lib.hid (E1.out k hq)
      rintro e w2 ⟨rfl, hk2⟩
      exact ⟨rfl, rdgo_bad HV.out (by rw [show a + (1 + k) = a + 1 + k by omega]) (Hk1.out.trans hk2)⟩
    | ok x n =>
      have HV := Lib.hid (E2.out x n hq)
      rintro e w2 ⟨_, rfl, rfl, hat2, hk2⟩
      have Hat2 := Lib.hid hat2
      have Hk2 := Lib.hid (Hk1.out.trans hk2)
      have hsz2 : w.heap.size ≤ w2.heap.size := Hk2.out.below.size
      have hks2 : a + 1 + n ≤ s.size := hat2.2.1
      clear hat2 hk2 hq
      obtain ⟨W, hW⟩ : ∃ W, W = w2.alloc (.cells #[.string x.1, .string x.2] 52) := ⟨_, rfl⟩
      have BW := Lib.hid (show Below w2.heap.size w2 W by rw [hW]; exact below_box _ _)
      have OW := Lib.hid (show W.ownsRow w.heap.size 52 2 (.slice (some ⟨w2.heap.size, 0, none⟩) 1 1) 1 (flat [x]) by rw [hW]; exact World.ownsRow_lit w2 #[.string x.1, .string x.2] 1 hsz2 (by decide) rfl)
      have HW := Lib.hid hW
      clear hW
      go_wp2_with fail
      rw [← HW.out]
      go_loopg [3] (s.size - (a + 1 + n)) (fun gk v wr => ∃ (k f : Nat) (l : List Sp.A), gk = s.size - k ∧ RdAt wr b s k ∧ a ≤ k ∧ l.length ≤ k ∧ s.size - k < f ∧ X = Sp.prl l (k - a) (Sp.more f (rst s k)) ∧ Keep b [RT] w wr ∧ wr.ownsRow w.heap.size 52 2 v l.length (flat l))
      case atStart =>
        refine ⟨a + 1 + n, s.size - (a + (1 + n)) + 1, [x], rfl, Hat2.out.later BW.out (Nat.lt_of_lt_of_le hbl hsz2), by omega, by simp; omega, by omega, ?_, Hk2.out.later BW.out (by omega) hsz2, OW.out⟩
        rw [HV.out, show a + 1 + n - a = 1 + n by omega, show a + 1 + n = a + (1 + n) by omega]
      case round =>
        obtain ⟨k, f, l, rfl, hat, hak, hll, hf, hX, hkp, hown⟩ := hrel
        cases f with
        | zero => omega
        | succ f =>
        have hks : k ≤ s.size := hat.2.1
        have HS := Lib.hid (sees_any b s k 44 wr hat)
        have Hat := Lib.hid hat
        have Hkp := Lib.hid hkp
        have HX := Lib.hid hX
        have Hown := Lib.hid hown
        obtain ⟨va, vc, rfl⟩ := own_slice hown
        clear hat hkp hX hown
        by_cases h44 : (rst s k).head? = some 44
        · have hd' : decide ((rst s k).head? = some 44) = true := decide_eq_true h44
          have HM2 := Lib.hid fun n => must_ok b s k 44 (wr.drewN n) (Hat.out.drewN n) h44
          go_wp2_with fail
          refine HS.out.mono ?_
          rintro e w3 ⟨rfl, m, rfl⟩
          rw [hd']
          go_wp2_with fail
          refine (HM2.out m).mono ?_
          rintro e w4 ⟨rfl, hat4, hk4⟩
          have HA4 := Lib.hid (attr_any b s _ w4 hat4 (by omega))
          have Hk4 := Lib.hid ((keep_drewN Hkp.out m).trans hk4)
          have Hown4 := Lib.hid (hk4.own ((keep_drewN (Keep.refl b [RT] wr) m).own Hown.out (by decide)) (by decide))
          clear hat4 hk4
          go_wp2_with fail
          refine HA4.out.mono ?_
          cases hq : Sp.attr (rst s (k + 1)) with
          | bad j =>
            have HE := Lib.hid (HX.out.trans (by rw [Sp.more_bad1 f h44 (by rw [rst_drop]; exact hq)]))
            rintro e w5 ⟨rfl, hk5⟩
            exact ⟨rfl, rdgo_bad HE.out (by rw [show a + (k - a + (1 + j)) = k + 1 + j by omega]) (Hk4.out.trans hk5)⟩
          | ok y j =>
            have HE := Lib.hid (HX.out.trans (by rw [Sp.more_go f h44 (by rw [rst_drop]; exact hq), Sp.prl_prl, rst_drop]))
            rintro e w5 ⟨_, rfl, rfl, hat5, hk5⟩
            have Hat5 := Lib.hid hat5
            have Hk5 := Lib.hid (Hk4.out.trans hk5)
            have Hown5 := Lib.hid (hk5.own Hown4.out (by decide))
            have hks5 : k + 1 + j ≤ s.size := hat5.2.1
            have hsz5 : w.heap.size ≤ w5.heap.size := Hk5.out.below.size
            clear hat5 hk5 hq h44
            go_wp2_with (at_builtin; refine append_attr rfl (.tmp 13) (.tmp 16) rfl w.heap.size (.slice va l.length vc) l.length (flat l) y rfl rfl Hown5.out (l.length + 1) (flat (l ++ [y])) rfl (flat_snoc l y).symm (by omega) hsz5 ?_; intro u6 w6 o6 g6; have B6 := Lib.hid (((below_box w5 _).mono hsz5).trans ((Below.refl w.heap.size _).grown g6 (by simp; omega) (fun j hj => own_ge Hown5.out j hj))); have Hown6 := Lib.hid o6; clear o6 g6)
            go_roundg (s.size - (k + 1 + j))
            case measure => omega
            case rel =>
              refine ⟨k + 1 + j, f, l ++ [y], rfl, Hat5.out.later B6.out (by omega), by omega, by simp; omega, by omega, ?_, Hk5.out.later B6.out (by omega) (Nat.le_refl _), ?_⟩
              · rw [HE.out, show k + (1 + j) = k + 1 + j by omega, show k - a + (1 + j) = k + 1 + j - a by omega]
              · have : (l ++ [y]).length = l.length + 1 := by simp
                rw [this]; exact Hown6.out
        · have hd' : decide ((rst s k).head? = some 44) = false := decide_eq_false h44
          by_cases h125 : (rst s k).head? = some 125
          · have HM2 := Lib.hid fun n => must_ok b s k 125 (wr.drewN n) (Hat.out.drewN n) h125
            have HE := Lib.hid (HX.out.trans (by rw [Sp.more_end f h44 h125]))
            go_wp2_with fail
            refine HS.out.mono ?_
            rintro e w3 ⟨rfl, m, rfl⟩
            rw [hd']
            go_wp2_with fail
            refine (HM2.out m).mono ?_
            rintro e w4 ⟨rfl, hat4, hk4⟩
            have Hat4 := Lib.hid hat4
            have Hk4 := Lib.hid ((keep_drewN Hkp.out m).trans hk4)
            have Hown4 := Lib.hid (hk4.own ((keep_drewN (Keep.refl b [RT] wr) m).own Hown.out (by decide)) (by decide))
            clear hat4 hk4
            go_wp2_with fail
            go_ret
            refine rdgo_ok HE.out rfl ?_ ?_ Hk4.out
            · show World.ownsRow _ _ _ _ _ _ _
              rw [List.append_nil]; exact Hown4.out
            · rw [show a + (k - a + 1) = k + 1 by omega]; exact Hat4.out
          · have HM2 := Lib.hid fun n => must_bad b s k 125 (wr.drewN n) (Hat.out.drewN n) h125
            have HE := Lib.hid (HX.out.trans (by rw [Sp.more_bad0 f h44 h125]))
            go_wp2_with fail
            refine HS.out.mono ?_
            rintro e w3 ⟨rfl, m, rfl⟩
            rw [hd']
            go_wp2_with fail
            refine (HM2.out m).mono ?_
            rintro e w4 ⟨rfl, hk4⟩
            exact ⟨rfl, rdgo_bad HE.out (by rw [show a + (k - a + 0) = k by omega]) ((keep_drewN Hkp.out m).trans hk4)⟩
  · have HM := Lib.hid (must_bad b s a 123 w h hd)
    have HX := Lib.hid (Sp.attrs_bad0 hd)
    clear h hd
    go_enter Tryz.func96, Tryz.ntmps96
    go_wp2_with fail
    refine HM.out.mono ?_
    rintro e w1 ⟨rfl, hk1⟩
    exact ⟨rfl, rdgo_bad HX.out rfl hk1⟩

end Go.Proofs.YtacgkbdldbppjaaGreatDoor
