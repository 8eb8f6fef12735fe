/- Texts of this seat, put together: AnO, AnP, AnY. -/
import Derived.Test.YtggjeiemofkfbaaGN1
import Derived.Test.YtggjeiemofkfbaaGD1
/- The law AnchorOrder, walked. -/
namespace Go.Proofs.Ytggjeiemofkfbaa
open Go.RowKit Rn Ch
open An (away aheadR fullA placeA)

theorem anStart_l {f a E N : Int} {v : Value} {ops : List OpD} {w : World} (hE : movE f ops a = E) (hN : movN true f ops a = N) (hv : OpRow w v ops) (hz : OSized ops) :
    Calls Try.prog 31 #[chAgg f v, .int .i64 a] w fun e w' => e = .returned (.tuple #[.int .i64 N, .int .i64 E]) ∧ Below w.heap.size w w' :=
  (anStart_any f a v ops w hv hz).mono fun e w' ⟨h1, h2⟩ => ⟨by rw [h1, hE, hN], h2⟩
theorem anEnd_l {f a E N : Int} {v : Value} {ops : List OpD} {w : World} (hE : movE f ops a = E) (hN : movN false f ops a = N) (hv : OpRow w v ops) (hz : OSized ops) :
    Calls Try.prog 32 #[chAgg f v, .int .i64 a] w fun e w' => e = .returned (.tuple #[.int .i64 N, .int .i64 E]) ∧ Below w.heap.size w w' :=
  (anEnd_any f a v ops w hv hz).mono fun e w' ⟨h1, h2⟩ => ⟨by rw [h1, hE, hN], h2⟩
theorem movE_zero {f a : Int} {ops : List OpD} (h : movE f ops a = 0) : toE f ops = 0 ∧ 0 ≤ a ∧ a ≤ f := by
  unfold movE at h
  by_cases h1 : toE f ops = 0
  · rw [if_neg (by omega)] at h
    refine ⟨h1, ?_⟩
    split at h <;> omega
  · rw [if_pos h1] at h; exact absurd h h1
theorem movN_full {up : Bool} {f a : Int} {ops : List OpD} (h : movE f ops a = 0) : movN up f ops a = placeA up a (fullA f (norm ops)) 0 := by
  obtain ⟨h1, h2, h3⟩ := movE_zero h
  unfold movN
  rw [if_pos h, An.aheadR_eq (norm_ok ((toE_iff _ _).1 h1)).1 h2 h3]
theorem movN_bad {up : Bool} {f a : Int} {ops : List OpD} (h : movE f ops a ≠ 0) : movN up f ops a = 0 := by unfold movN; rw [if_neg h]
/-- The walk up to the four answers, in letters. -/
structure Ord4 (ea eb p q r s a b : Int) : Prop where
  ok : ea = 0 → eb = 0 → q ≤ p ∧ s ≤ r ∧ (a < b → p ≤ r ∧ q ≤ s ∧ p ≤ s) ∧ (b < a → r ≤ p ∧ s ≤ q ∧ r ≤ q) ∧ (a = b → p = r ∧ q = s)
  bad : ea ≠ 0 → p = 0 ∧ q = 0
  bad2 : eb ≠ 0 → r = 0 ∧ s = 0
theorem ord4 (f : Int) (ops : List OpD) (a b : Int) : Ord4 (movE f ops a) (movE f ops b) (movN true f ops a) (movN false f ops a) (movN true f ops b) (movN false f ops b) a b := by
  refine ⟨fun ha hb => ?_, fun h => ⟨movN_bad h, movN_bad h⟩, fun h => ⟨movN_bad h, movN_bad h⟩⟩
  rw [movN_full ha, movN_full ha, movN_full hb, movN_full hb]
  refine ⟨An.down_up _ _ _, An.down_up _ _ _, fun h => ⟨An.up_mono (by omega) _ _, An.down_mono (by omega) _ _, An.up_down h _ _⟩, fun h => ⟨An.up_mono (by omega) _ _, An.down_mono (by omega) _ _, An.up_down h _ _⟩, fun h => by rw [h]; exact ⟨rfl, rfl⟩⟩
set_option maxRecDepth 100000 in
set_option maxHeartbeats 8000000 in
theorem aorder_walk (f : Int) (v : Value) (ops : List OpD) (a b : Int) (w : World) (hv : OpRow w v ops) (hz : OSized ops) (_ : -9223372036854775808 ≤ a) (_ : a ≤ 9223372036854775807) (_ : -9223372036854775808 ≤ b) (_ : b ≤ 9223372036854775807) :
    Calls Try.prog 11 #[chAgg f v, .int .i64 a, .int .i64 b] w (OutB w true) := by
  obtain ⟨aa, acap, rfl⟩ := hv.shape
  obtain ⟨W, hW, x, bW⟩ : ∃ W, W = w.alloc (.cells #[.int .i64 f, .slice aa ops.length acap] 24) ∧ W.heap[w.heap.size]? = some (.cells #[.int .i64 f, .slice aa ops.length acap] 24 (0, 0)) ∧ Below w.heap.size w W := ⟨_, rfl, heap_new _ _, below_box _ _⟩
  have HW := Lib.hid hW
  have HX := Lib.hid x
  have BW := Lib.hid bW
  have RW := Lib.hid (hv.below bW)
  have Z := Lib.hid hz
  obtain ⟨ea, hea⟩ : ∃ ea, movE f ops a = ea := ⟨_, rfl⟩
  obtain ⟨eb, heb⟩ : ∃ eb, movE f ops b = eb := ⟨_, rfl⟩
  obtain ⟨p, hp⟩ : ∃ p, movN true f ops a = p := ⟨_, rfl⟩
  obtain ⟨q, hq⟩ : ∃ q, movN false f ops a = q := ⟨_, rfl⟩
  obtain ⟨r, hr⟩ : ∃ r, movN true f ops b = r := ⟨_, rfl⟩
  obtain ⟨s, hs⟩ : ∃ s, movN false f ops b = s := ⟨_, rfl⟩
  have o4 := ord4 f ops a b
  rw [hea, heb, hp, hq, hr, hs] at o4
  have O4 := Lib.hid o4
  have L := Lib.hid (And.intro hea (And.intro heb (And.intro hp (And.intro hq (And.intro hr hs)))))
  clear hea heb hp hq hr hs o4 hz hv hW x bW
  go_enter Try.func11, Try.ntmps11
  go_wp2_with fail
  rw [← HW.out]
  refine (awake8_any _).mono ?_
  rintro e w1 ⟨rfl, b1⟩
  have B1 := Lib.hid (BW.out.trans (b1.mono BW.out.size))
  have R1 := Lib.hid (RW.out.below b1)
  have X1 := Lib.hid (heap_up8 HX.out b1)
  obtain ⟨p0, p1, _, _⟩ := cells2 X1.out
  clear b1
  go_wp2_with fail
  refine (anStart_l L.out.1 L.out.2.2.1 R1.out Z.out).mono ?_
  rintro e w2 ⟨rfl, b1⟩
  have B2 := Lib.hid (B1.out.trans (b1.mono B1.out.size))
  have R2 := Lib.hid (R1.out.below b1)
  have X2 := Lib.hid (heap_up8 X1.out b1)
  clear b1 p0 p1
  obtain ⟨p0, p1, _, _⟩ := cells2 X2.out
  go_wp2_with fail
  refine (anEnd_l L.out.1 L.out.2.2.2.1 R2.out Z.out).mono ?_
  rintro e w3 ⟨rfl, b1⟩
  have B3 := Lib.hid (B2.out.trans (b1.mono B2.out.size))
  have R3 := Lib.hid (R2.out.below b1)
  have X3 := Lib.hid (heap_up8 X2.out b1)
  clear b1 p0 p1
  obtain ⟨p0, p1, _, _⟩ := cells2 X3.out
  go_wp2_with fail
  refine (anStart_l L.out.2.1 L.out.2.2.2.2.1 R3.out Z.out).mono ?_
  rintro e w4 ⟨rfl, b1⟩
  have B4 := Lib.hid (B3.out.trans (b1.mono B3.out.size))
  have R4 := Lib.hid (R3.out.below b1)
  have X4 := Lib.hid (heap_up8 X3.out b1)
  clear b1 p0 p1
  obtain ⟨p0, p1, _, _⟩ := cells2 X4.out
  go_wp2_with fail
  refine (anEnd_l L.out.2.1 L.out.2.2.2.2.2 R4.out Z.out).mono ?_
  rintro e w5 ⟨rfl, b1⟩
  have B5 := Lib.hid (B4.out.trans (b1.mono B4.out.size))
  clear b1 p0 p1
  by_cases ha : ea = 0
  · have ha1 : (ea != 0) = false := by rw [ha]; rfl
    have ha2 : (ea == 0) = true := by rw [ha]; rfl
    by_cases hb : eb = 0
    · have hb1 : (eb != 0) = false := by rw [hb]; rfl
      have hb2 : (eb == 0) = true := by rw [hb]; rfl
      obtain ⟨i1, i2, i3, i4, i5⟩ := O4.out.ok ha hb
      clear ha hb
      rcases Int.lt_trichotomy a b with h | h | h
      · obtain ⟨j1, j2, j3⟩ := i3 h
        clear i3 i4 i5
        go_wp2_with fail
        all_goals (go_ret; exact ⟨rfl, B5.out⟩)
      · obtain ⟨j1, j2⟩ := i5 h
        clear i3 i4 i5
        subst h j1 j2
        go_wp2_with fail
        all_goals (go_ret; exact ⟨rfl, B5.out⟩)
      · obtain ⟨j1, j2, j3⟩ := i4 h
        clear i3 i4 i5
        go_wp2_with fail
        all_goals (go_ret; exact ⟨rfl, B5.out⟩)
    · have hb1 : (eb != 0) = true := by rw [bne_iff_ne]; exact hb
      have hb2 : (eb == 0) = false := by rw [beq_eq_false_iff_ne]; exact hb
      obtain ⟨rfl, rfl⟩ := O4.out.bad2 hb
      clear ha hb
      go_wp2_with fail
      all_goals (go_ret; exact ⟨by simp, B5.out⟩)
  · have ha1 : (ea != 0) = true := by rw [bne_iff_ne]; exact ha
    have ha2 : (ea == 0) = false := by rw [beq_eq_false_iff_ne]; exact ha
    obtain ⟨rfl, rfl⟩ := O4.out.bad ha
    clear ha
    go_wp2_with fail
    all_goals (go_ret; exact ⟨by simp, B5.out⟩)
end Go.Proofs.Ytggjeiemofkfbaa

/- The law AnchorPlain, walked. -/
namespace Go.Proofs.Ytggjeiemofkfbaa
open Go.RowKit Rn Ch
open An (away aheadR fullA placeA)

theorem norm_nil8 : norm [] = [] := by decide
theorem toE_nil8 {f : Int} (h0 : 0 ≤ f) (h1 : f ≤ 20000) : toE f [] = 0 := by rw [toE_nil, if_neg (by omega)]
theorem aheadR_nil {up : Bool} {a : Int} : aheadR up a [] = a := rfl
theorem movE_nil {f a : Int} (h0 : 0 ≤ f) (h1 : f ≤ 20000) (h2 : 0 ≤ a) (h3 : a ≤ f) : movE f [] a = 0 := movE_ok (toE_nil8 h0 h1) h2 h3
theorem movN_nil {up : Bool} {f a : Int} (h0 : 0 ≤ f) (h1 : f ≤ 20000) (h2 : 0 ≤ a) (h3 : a ≤ f) : movN up f [] a = a := by
  unfold movN; rw [if_pos (movE_nil h0 h1 h2 h3), norm_nil8]; rfl
theorem movE_arg {f a : Int} {ops : List OpD} (h : toE f ops = 0) (h2 : a < 0 ∨ f < a) : movE f ops a = 1 := by
  unfold movE; rw [if_neg (by omega), if_pos h2]
theorem plain_ends {f : Int} {ops : List OpD} (h : toE f ops = 0) : 0 ≤ f ∧ f ≤ 20000 ∧ movE f ops 0 = 0 ∧ movN false f ops 0 = 0 ∧ movE f ops f = 0 ∧ movN true f ops f = toN f ops := by
  have hc := (toE_iff _ _).1 h
  obtain ⟨hn, d1, d2⟩ := norm_ok hc
  have h0 := hc.1
  have e0 : movE f ops 0 = 0 := movE_ok h (Int.le_refl _) h0
  have e1 : movE f ops f = 0 := movE_ok h h0 (Int.le_refl _)
  refine ⟨h0, hc.2.1, e0, ?_, e1, ?_⟩
  · rw [movN_full e0]
    exact An.placeA_none _ _ (by simp)
  · rw [movN_full e1]
    obtain ⟨s1, s2⟩ := An.full_sums hn
    rw [An.placeA_all _ _ (by simp only [if_true]; omega), s2, d1, d2, toN_ok h]
set_option maxRecDepth 100000 in
set_option maxHeartbeats 8000000 in
theorem aplain_walk (f : Int) (v : Value) (ops : List OpD) (a : Int) (w : World) (hv : OpRow w v ops) (hz : OSized ops) (_ : -9223372036854775808 ≤ a) (_ : a ≤ 9223372036854775807) :
    Calls Try.prog 12 #[chAgg f v, .int .i64 a] w (OutB w true) := by
  obtain ⟨aa, acap, rfl⟩ := hv.shape
  obtain ⟨W, hW, x, bW⟩ : ∃ W, W = w.alloc (.cells #[.int .i64 f, .slice aa ops.length acap] 24) ∧ W.heap[w.heap.size]? = some (.cells #[.int .i64 f, .slice aa ops.length acap] 24 (0, 0)) ∧ Below w.heap.size w W := ⟨_, rfl, heap_new _ _, below_box _ _⟩
  have HW := Lib.hid hW
  have HX := Lib.hid x
  have BW := Lib.hid bW
  have RW := Lib.hid (hv.below bW)
  have Z := Lib.hid hz
  clear hz hv hW x bW
  go_enter Try.func12, Try.ntmps12
  go_wp2_with fail
  rw [← HW.out]
  refine (awake8_any _).mono ?_
  rintro e w1 ⟨rfl, b1⟩
  have B1 := Lib.hid (BW.out.trans (b1.mono BW.out.size))
  have R1 := Lib.hid (RW.out.below b1)
  have X1 := Lib.hid (heap_up8 HX.out b1)
  obtain ⟨p0, p1, _, _⟩ := cells2 X1.out
  clear b1
  go_wp2_with fail
  by_cases he : toE f ops = 0
  · obtain ⟨f0, f1, m0, m1, m2, m3⟩ := plain_ends he
    have HE := Lib.hid he
    have M := Lib.hid (And.intro m0 (And.intro m1 (And.intro m2 m3)))
    obtain ⟨n, hn⟩ : ∃ n, toN f ops = n := ⟨_, rfl⟩
    have HN := Lib.hid hn
    clear he m0 m1 m2 m3
    have HT := to_any f (.slice aa ops.length acap) ops w1 R1.out Z.out
    rw [show ToOut w1 f ops = fun e w' => e = .returned (.tuple #[.int .i64 n, .int .i64 0]) ∧ Below w1.heap.size w1 w' by funext e w'; unfold ToOut; rw [HN.out, HE.out]] at HT
    clear hn
    refine HT.mono ?_
    clear HT
    rintro e w2 ⟨rfl, b1⟩
    have B2 := Lib.hid (B1.out.trans (b1.mono B1.out.size))
    have R2 := Lib.hid (R1.out.below b1)
    have X2 := Lib.hid (heap_up8 X1.out b1)
    clear b1 p0 p1
    obtain ⟨p0, p1, _, _⟩ := cells2 X2.out
    go_wp2_with fail
    refine (anEnd_l M.out.1 M.out.2.1 R2.out Z.out).mono ?_
    rintro e w3 ⟨rfl, b1⟩
    have B3 := Lib.hid (B2.out.trans (b1.mono B2.out.size))
    have R3 := Lib.hid (R2.out.below b1)
    have X3 := Lib.hid (heap_up8 X2.out b1)
    clear b1 p0 p1
    obtain ⟨p0, p1, _, _⟩ := cells2 X3.out
    go_wp2_with fail
    refine (anStart_l M.out.2.2.1 (M.out.2.2.2.trans HN.out) R3.out Z.out).mono ?_
    rintro e w4 ⟨rfl, b1⟩
    have B4 := Lib.hid (B3.out.trans (b1.mono B3.out.size))
    have R4 := Lib.hid (R3.out.below b1)
    have X4 := Lib.hid (heap_up8 X3.out b1)
    clear b1 p0 p1
    obtain ⟨p0, p1, _, _⟩ := cells2 X4.out
    go_wp2_with fail
    refine (nothing_any f w4).mono ?_
    rintro e w5 ⟨hor, b1⟩
    obtain rfl : e = .returned (.tuple #[chAgg f (.slice none 0 0), .int .i64 0]) := by
      rcases hor with ⟨h, _⟩ | ⟨_, h⟩
      · omega
      · exact h
    clear hor
    have B5 := Lib.hid (B4.out.trans (b1.mono B4.out.size))
    have X5 := Lib.hid (heap_up8 X4.out b1)
    clear b1 p0 p1
    obtain ⟨V, hV, xV, bV⟩ : ∃ V, V = w5.alloc (.cells #[.int .i64 f, .slice none 0 0] 24) ∧ V.heap[w5.heap.size]? = some (.cells #[.int .i64 f, .slice none 0 0] 24 (0, 0)) ∧ Below w5.heap.size w5 V := ⟨_, rfl, heap_new _ _, below_box _ _⟩
    have HV := Lib.hid hV
    have XV := Lib.hid xV
    have BV := Lib.hid (B5.out.trans (bV.mono B5.out.size))
    have hnn : (n != n) = false := by simp
    obtain ⟨p0, p1, _, _⟩ := cells2 X5.out
    have hl5 := lt_of_heap X5.out
    have CE := Lib.hid (fun E N (hE : movE f [] a = E) (hN : movN true f [] a = N) => anStart_l (f := f) (a := a) (E := E) (N := N) (v := .slice none 0 0) (w := V) hE hN (OpRow.nil V) (fun o ho => by cases ho))
    clear hV xV bV
    by_cases h0 : a < 0
    · have CA := Lib.hid (CE.out 1 0 (movE_arg (toE_nil8 f0 f1) (.inl h0)) (movN_bad (by rw [movE_arg (toE_nil8 f0 f1) (.inl h0)]; decide)))
      clear CE
      go_wp2_with fail
      rw [← HV.out]
      refine CA.out.mono ?_
      rintro e w6 ⟨rfl, b1⟩
      have B6 := Lib.hid (BV.out.trans (b1.mono BV.out.size))
      clear b1 p0 p1
      go_wp2_with fail
      go_ret
      exact ⟨rfl, B6.out⟩
    · by_cases h1 : f < a
      · have CA := Lib.hid (CE.out 1 0 (movE_arg (toE_nil8 f0 f1) (.inr h1)) (movN_bad (by rw [movE_arg (toE_nil8 f0 f1) (.inr h1)]; decide)))
        clear CE
        go_wp2_with fail
        rw [← HV.out]
        refine CA.out.mono ?_
        rintro e w6 ⟨rfl, b1⟩
        have B6 := Lib.hid (BV.out.trans (b1.mono BV.out.size))
        clear b1 p0 p1
        go_wp2_with fail
        go_ret
        exact ⟨rfl, B6.out⟩
      · have CA := Lib.hid (CE.out 0 a (movE_nil f0 f1 (by omega) (by omega)) (movN_nil f0 f1 (by omega) (by omega)))
        have FA := Lib.hid (And.intro f0 (And.intro f1 (And.intro (show 0 ≤ a by omega) (show a ≤ f by omega))))
        have haa : (a == a) = true := by simp
        clear CE
        go_wp2_with fail
        rw [← HV.out]
        refine CA.out.mono ?_
        rintro e w6 ⟨rfl, b1⟩
        have B6 := Lib.hid (BV.out.trans (b1.mono BV.out.size))
        have X6 := heap_up8 XV.out b1
        clear b1 p0 p1
        obtain ⟨p0, p1, _, _⟩ := cells2 X6
        clear X6
        go_wp2_with fail
        refine (anEnd_l (movE_nil FA.out.1 FA.out.2.1 FA.out.2.2.1 FA.out.2.2.2) (movN_nil FA.out.1 FA.out.2.1 FA.out.2.2.1 FA.out.2.2.2) (OpRow.nil w6) (fun o ho => by cases ho)).mono ?_
        rintro e w7 ⟨rfl, b1⟩
        have B7 := Lib.hid (B6.out.trans (b1.mono B6.out.size))
        clear b1 p0 p1
        go_wp2_with fail
        go_ret
        exact ⟨rfl, B7.out⟩
  · have te : (toE f ops != 0) = true := by rw [bne_iff_ne]; exact he
    have HE := Lib.hid he
    clear he
    refine (to_any f (.slice aa ops.length acap) ops w1 R1.out Z.out).mono ?_
    rintro e w2 ⟨rfl, b1⟩
    have B2 := Lib.hid (B1.out.trans (b1.mono B1.out.size))
    clear b1 p0 p1
    go_wp2_with fail
    go_ret
    exact ⟨rfl, B2.out⟩
end Go.Proofs.Ytggjeiemofkfbaa

/- The law AnchorStays, walked. -/
namespace Go.Proofs.Ytggjeiemofkfbaa
open Go.RowKit Rn Ch
open An (away aheadR fullA placeA)

theorem anMove_l {f E : Int} {r y : RgD} {v : Value} {ops : List OpD} {w : World} (hE : mvE f ops r = E) (hN : mvR f ops r = y) (hv : OpRow w v ops) (hz : OSized ops) :
    Calls Try.prog 33 #[chAgg f v, rgAgg r] w fun e w' => e = .returned (.tuple #[rgAgg y, .int .i64 E]) ∧ Below w.heap.size w w' :=
  (anMove_any f r v ops w hv hz).mono fun e w' ⟨h1, h2⟩ => ⟨by rw [h1, hE, hN], h2⟩
theorem mvR_bad {f : Int} {ops : List OpD} {r : RgD} (h : mvE f ops r ≠ 0) : mvR f ops r = ⟨0, 0, false⟩ := by unfold mvR; rw [if_neg h]
theorem mvE_zero {f : Int} {ops : List OpD} {r : RgD} (h : mvE f ops r = 0) : toE f ops = 0 ∧ rgE r f = 0 := by
  unfold mvE at h
  by_cases h1 : toE f ops = 0
  · rw [if_neg (by omega)] at h; exact ⟨h1, h⟩
  · rw [if_pos h1] at h; exact absurd h h1
theorem mvR_nil {f : Int} {r : RgD} (h : mvE f [] r = 0) : mvR f [] r = r := by
  obtain ⟨h1, h2⟩ := mvE_zero h
  obtain ⟨g0, g1, g2, g3, g4⟩ := rgE_ok h2
  unfold mvR mvB mvA
  rw [if_pos h, norm_nil8, aheadR_nil, aheadR_nil]
  obtain ⟨a, b, l⟩ := r
  cases l with
  | true => have := g3 rfl; simp only at this; subst this; simp
  | false => have := g4 rfl; simp only at this; simp; omega
theorem mvR_lost {f : Int} {ops : List OpD} {r : RgD} (h : mvE f ops r = 0) (hl : r.lost = true) : (mvR f ops r).lost = true ∧ (mvR f ops r).f = (mvR f ops r).t := by
  unfold mvR mvB
  rw [if_pos h, if_pos hl]
  exact ⟨by simp, rfl⟩
set_option maxRecDepth 100000 in
set_option maxHeartbeats 8000000 in
theorem astays_walk (n : Int) (rf rt : Int) (rl : Bool) (f : Int) (v : Value) (ops : List OpD) (w : World) (_ : -9223372036854775808 ≤ n) (_ : n ≤ 9223372036854775807) (_ : -9223372036854775808 ≤ rf) (_ : rf ≤ 9223372036854775807) (_ : -9223372036854775808 ≤ rt) (_ : rt ≤ 9223372036854775807) (hv : OpRow w v ops) (hz : OSized ops) :
    Calls Try.prog 14 #[.int .i64 n, .agg #[.int .i64 rf, .int .i64 rt, .bool rl], chAgg f v] w (OutB w true) := by
  obtain ⟨aa, acap, rfl⟩ := hv.shape
  obtain ⟨W, hW, y, x, bW⟩ : ∃ W, W = (w.alloc (.cells #[.int .i64 rf, .int .i64 rt, .bool rl] 46)).alloc (.cells #[.int .i64 f, .slice aa ops.length acap] 24) ∧ W.heap[w.heap.size]? = some (.cells #[.int .i64 rf, .int .i64 rt, .bool rl] 46 (0, 0)) ∧ W.heap[w.heap.size + 1]? = some (.cells #[.int .i64 f, .slice aa ops.length acap] 24 (0, 0)) ∧ Below w.heap.size w W :=
    ⟨_, rfl, (box2V _ _ _).1, (box2V _ _ _).2.1, (box2V _ _ _).2.2⟩
  have HW := Lib.hid hW
  have HX := Lib.hid x
  have HY := Lib.hid y
  have BW := Lib.hid bW
  have RW := Lib.hid (hv.below bW)
  have Z := Lib.hid hz
  clear hz hv hW x y bW
  go_enter Try.func14, Try.ntmps14
  go_wp2_with fail
  rw [← HW.out]
  refine (awake8_any _).mono ?_
  rintro e w1 ⟨rfl, b1⟩
  have B1 := Lib.hid (BW.out.trans (b1.mono BW.out.size))
  have R1 := Lib.hid (RW.out.below b1)
  have X1 := Lib.hid (heap_up8 HX.out b1)
  have Y1 := Lib.hid (heap_up8 HY.out b1)
  obtain ⟨p0, p1, _, _⟩ := cells2 X1.out
  obtain ⟨q0, q1, q2, _⟩ := cells3 Y1.out
  clear b1
  go_wp2_with fail
  by_cases h1 : mvE n [] ⟨rf, rt, rl⟩ = 0
  · refine (anMove_l (r := ⟨rf, rt, rl⟩) h1 (mvR_nil h1) (OpRow.nil w1) (fun o ho => by cases ho)).mono ?_
    rintro e w2 ⟨rfl, b1⟩
    have B2 := Lib.hid (B1.out.trans (b1.mono B1.out.size))
    have R2 := Lib.hid (R1.out.below b1)
    have X2 := Lib.hid (heap_up8 X1.out b1)
    have Y2 := Lib.hid (heap_up8 Y1.out b1)
    clear b1 p0 p1 q0 q1 q2 h1
    obtain ⟨p0, p1, _, _⟩ := cells2 X2.out
    obtain ⟨q0, q1, q2, _⟩ := cells3 Y2.out
    have hl2 := lt_of_heap X2.out
    have hl3 := lt_of_heap Y2.out
    go_wp2_with fail
    obtain ⟨V, hV, bV⟩ : ∃ V, V = w2.alloc (.cells #[.int .i64 rf, .int .i64 rt, .bool rl] 46) ∧ Below w2.heap.size w2 V := ⟨_, rfl, below_box _ _⟩
    rw [← hV]
    have R3 := Lib.hid (R2.out.below bV)
    have B3 := Lib.hid (B2.out.trans (bV.mono B2.out.size))
    have Y3 := Lib.hid (heap_up8 Y2.out bV)
    clear p0 p1 q0 q1 q2 hl2 hl3 hV bV
    by_cases h2 : mvE f ops ⟨rf, rt, rl⟩ = 0
    · cases rl with
      | false =>
        refine (anMove_l (r := ⟨rf, rt, false⟩) h2 rfl R3.out Z.out).mono ?_
        clear h2
        generalize mvR f ops ⟨rf, rt, false⟩ = y
        rintro e w4 ⟨rfl, b1⟩
        have B4 := Lib.hid (B3.out.trans (b1.mono B3.out.size))
        obtain ⟨q0, q1, q2, _⟩ := cells3 (heap_up8 Y3.out b1)
        have hl3 := lt_of_heap (heap_up8 Y3.out b1)
        clear b1
        go_wp2_with fail
        all_goals (go_ret; exact ⟨rfl, B4.out.alloc B4.out.size _⟩)
      | true =>
        obtain ⟨l1, l2⟩ := mvR_lost h2 rfl
        refine (anMove_l (r := ⟨rf, rt, true⟩) h2 rfl R3.out Z.out).mono ?_
        clear h2
        generalize mvR f ops ⟨rf, rt, true⟩ = y at l1 l2
        obtain ⟨ya, yb, yl⟩ := y
        simp only at l1 l2
        subst l1 l2
        rintro e w4 ⟨rfl, b1⟩
        have B4 := Lib.hid (B3.out.trans (b1.mono B3.out.size))
        obtain ⟨q0, q1, q2, _⟩ := cells3 (heap_up8 Y3.out b1)
        have hl3 := lt_of_heap (heap_up8 Y3.out b1)
        have hyy : (ya == ya) = true := by simp
        clear b1
        go_wp2_with fail
        all_goals (go_ret; exact ⟨rfl, B4.out.alloc B4.out.size _⟩)
    · have h2n : (mvE f ops ⟨rf, rt, rl⟩ != 0) = true := by rw [bne_iff_ne]; exact h2
      obtain ⟨e2, he2⟩ : ∃ e2, mvE f ops ⟨rf, rt, rl⟩ = e2 := ⟨_, rfl⟩
      rw [he2] at h2n
      refine (anMove_l (r := ⟨rf, rt, rl⟩) he2 (mvR_bad h2) R3.out Z.out).mono ?_
      clear h2 he2
      rintro e w4 ⟨rfl, b1⟩
      have B4 := Lib.hid (B3.out.trans (b1.mono B3.out.size))
      obtain ⟨q0, q1, q2, _⟩ := cells3 (heap_up8 Y3.out b1)
      have hl3 := lt_of_heap (heap_up8 Y3.out b1)
      clear b1
      go_wp2_with fail
      all_goals (go_ret; exact ⟨rfl, B4.out.alloc B4.out.size _⟩)
  · have h1n : (mvE n [] ⟨rf, rt, rl⟩ == 0) = false := by rw [beq_eq_false_iff_ne]; exact h1
    have h1r := mvR_bad h1
    obtain ⟨e1, he1⟩ : ∃ e1, mvE n [] ⟨rf, rt, rl⟩ = e1 := ⟨_, rfl⟩
    rw [he1] at h1n
    refine (anMove_l (r := ⟨rf, rt, rl⟩) he1 h1r (OpRow.nil w1) (fun o ho => by cases ho)).mono ?_
    rintro e w2 ⟨rfl, b1⟩
    have B2 := Lib.hid (B1.out.trans (b1.mono B1.out.size))
    have R2 := Lib.hid (R1.out.below b1)
    have X2 := Lib.hid (heap_up8 X1.out b1)
    have Y2 := Lib.hid (heap_up8 Y1.out b1)
    clear b1 p0 p1 q0 q1 q2 h1 h1r he1
    obtain ⟨p0, p1, _, _⟩ := cells2 X2.out
    obtain ⟨q0, q1, q2, _⟩ := cells3 Y2.out
    have hl2 := lt_of_heap X2.out
    have hl3 := lt_of_heap Y2.out
    go_wp2_with fail
    obtain ⟨V, hV, bV⟩ : ∃ V, V = w2.alloc (.cells #[.int .i64 0, .int .i64 0, .bool false] 46) ∧ Below w2.heap.size w2 V := ⟨_, rfl, below_box _ _⟩
    rw [← hV]
    have R3 := Lib.hid (R2.out.below bV)
    have B3 := Lib.hid (B2.out.trans (bV.mono B2.out.size))
    have Y3 := Lib.hid (heap_up8 Y2.out bV)
    clear p0 p1 q0 q1 q2 hl2 hl3 hV bV
    by_cases h2 : mvE f ops ⟨rf, rt, rl⟩ = 0
    · cases rl with
      | false =>
        refine (anMove_l (r := ⟨rf, rt, false⟩) h2 rfl R3.out Z.out).mono ?_
        clear h2
        generalize mvR f ops ⟨rf, rt, false⟩ = y
        rintro e w4 ⟨rfl, b1⟩
        have B4 := Lib.hid (B3.out.trans (b1.mono B3.out.size))
        obtain ⟨q0, q1, q2, _⟩ := cells3 (heap_up8 Y3.out b1)
        have hl3 := lt_of_heap (heap_up8 Y3.out b1)
        clear b1
        go_wp2_with fail
        all_goals (go_ret; exact ⟨rfl, B4.out.alloc B4.out.size _⟩)
      | true =>
        obtain ⟨l1, l2⟩ := mvR_lost h2 rfl
        refine (anMove_l (r := ⟨rf, rt, true⟩) h2 rfl R3.out Z.out).mono ?_
        clear h2
        generalize mvR f ops ⟨rf, rt, true⟩ = y at l1 l2
        obtain ⟨ya, yb, yl⟩ := y
        simp only at l1 l2
        subst l1 l2
        rintro e w4 ⟨rfl, b1⟩
        have B4 := Lib.hid (B3.out.trans (b1.mono B3.out.size))
        obtain ⟨q0, q1, q2, _⟩ := cells3 (heap_up8 Y3.out b1)
        have hl3 := lt_of_heap (heap_up8 Y3.out b1)
        have hyy : (ya == ya) = true := by simp
        clear b1
        go_wp2_with fail
        all_goals (go_ret; exact ⟨rfl, B4.out.alloc B4.out.size _⟩)
    · have h2n : (mvE f ops ⟨rf, rt, rl⟩ != 0) = true := by rw [bne_iff_ne]; exact h2
      obtain ⟨e2, he2⟩ : ∃ e2, mvE f ops ⟨rf, rt, rl⟩ = e2 := ⟨_, rfl⟩
      rw [he2] at h2n
      refine (anMove_l (r := ⟨rf, rt, rl⟩) he2 (mvR_bad h2) R3.out Z.out).mono ?_
      clear h2 he2
      rintro e w4 ⟨rfl, b1⟩
      have B4 := Lib.hid (B3.out.trans (b1.mono B3.out.size))
      obtain ⟨q0, q1, q2, _⟩ := cells3 (heap_up8 Y3.out b1)
      have hl3 := lt_of_heap (heap_up8 Y3.out b1)
      clear b1
      go_wp2_with fail
      all_goals (go_ret; exact ⟨rfl, B4.out.alloc B4.out.size _⟩)
end Go.Proofs.Ytggjeiemofkfbaa
