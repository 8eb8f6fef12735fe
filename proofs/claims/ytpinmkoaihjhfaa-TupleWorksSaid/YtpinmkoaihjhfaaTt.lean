/- The part that bytes begin with: the program's first. -/
import Derived.Test.YtpinmkoaihjhfaaTs
import Derived.Test.YtpinmkoaihjhfaaTm
namespace Go.Proofs.Ytpinmkoaihjhfaa
open Go.RowKit Su Tp

theorem tx_drop (l : List UInt8) (k n : Nat) (h : n = l.length) : (txB l).extract k n = txB (l.drop k) := by
  subst h
  apply ByteArray.ext
  rw [ByteArray.data_extract]
  unfold txB
  apply Array.ext'
  simp only [List.extract_toArray, List.extract_eq_take_drop, List.toList_toArray]
  exact List.take_of_length_le (by rw [List.length_drop]; exact Nat.le_refl _)
abbrev Z3 : Array Value := #[.int .i64 0, .int .i64 0, .string ⟨#[]⟩]
theorem z3_facts {W : World} {b : Nat} (h : W.heap[b]? = some (.cells Z3 25)) :
    W.cell? ⟨b, 0, none⟩ = some (.int .i64 0) ∧ W.cell? ⟨b, 1, none⟩ = some (.int .i64 0) ∧ W.cell? ⟨b, 2, none⟩ = some (.string ⟨#[]⟩) ∧ W.frozen? ⟨b, 0, none⟩ = false ∧ W.frozen? ⟨b, 1, none⟩ = false ∧ W.frozen? ⟨b, 2, none⟩ = false :=
  ⟨by rw [cell_of_row _ _ _ _ _ _ h]; rfl, by rw [cell_of_row _ _ _ _ _ _ h]; rfl, by rw [cell_of_row _ _ _ _ _ _ h]; rfl, frozen_of_row W b 0 _ _ h, frozen_of_row W b 1 _ _ h, frozen_of_row W b 2 _ _ h⟩
theorem results_ptN {fn : Func} {i j : Nat} (h : fn.results = #[.cell i 25, .tmp j]) {tmps : Array Value} {w : World} {b4 : Nat} {v x y z : Value} (h4 : tmps.getD i undef = .pointer (some ⟨b4, 0, none⟩)) (h5 : tmps.getD j undef = v)
    (z4 : w.cell? ⟨b4, 0, none⟩ = some x) (z5 : w.cell? ⟨b4, 1, none⟩ = some y) (z6 : w.cell? ⟨b4, 2, none⟩ = some z) : (results fn tmps).run Try.prog w = .ok (.tuple #[.agg #[x, y, z], v]) w := by
  rw [Array.getD_eq_getD_getElem?] at h4 h5
  simp [results, h, h4, h5, go_sem, z4, z5, z6]
theorem below_set {B b o : Nat} {w Y : World} {u : Value} (hB : B ≤ b) (h : Below B w Y) : Below B w (Y.setCell ⟨b, o, none⟩ u) := h.setCell (p := ⟨b, o, none⟩) hB u
def FirstOut (s : List UInt8) (w : World) (e : Ending) (w' : World) : Prop :=
  e = .returned (match fst s with | some (p, n) => .tuple #[valP p, .int .i64 (n : Int)] | none => .tuple #[valP (0, 0, []), .int .i64 0]) ∧ Below w.heap.size w w'
theorem firstOut_some {s : List UInt8} {p : Pt} {n : Nat} {w w' : World} (h : fst s = some (p, n)) (hb : Below w.heap.size w w') : FirstOut s w (.returned (.tuple #[valP p, .int .i64 (n : Int)])) w' := ⟨by rw [h], hb⟩
theorem firstOut_some2 {s : List UInt8} {p : Pt} {n : Nat} {i : Int} {w w' : World} (h : fst s = some (p, n)) (hi : i = (n : Int)) (hb : Below w.heap.size w w') : FirstOut s w (.returned (.tuple #[valP p, .int .i64 i])) w' := by subst hi; exact firstOut_some h hb
theorem firstOut_none {s : List UInt8} {w w' : World} (h : fst s = none) (hb : Below w.heap.size w w') : FirstOut s w (.returned (.tuple #[valP (0, 0, []), .int .i64 0])) w' := ⟨by rw [h], hb⟩
set_option maxRecDepth 100000 in
set_option maxHeartbeats 8000000 in
theorem first_any (c : UInt8) (r : List UInt8) (w : World) (hs : r.length ≤ 900) :
    Calls Try.prog 27 #[.string (txB (c :: r))] w (FirstOut (c :: r) w) := by
  have hz : (txB (c :: r)).size = r.length + 1 := tx_size _
  have hml : (0 : Int) < (r.length : Int) + 1 := by omega
  have hg : (txB (c :: r))[0]'(by rw [hz]; omega) = c := tx_get (c :: r) 0 (by simp) (by rw [hz]; omega)
  have hdr : (txB (c :: r)).extract 1 (r.length + 1) = txB r := tx_drop (c :: r) 1 _ rfl
  have HNB := Lib.hid (fun W => readNumber_any r W (by omega))
  have HTX := Lib.hid (fun W => readText_any r W (by omega))
  have HB0 := Lib.hid (((Below.refl w.heap.size w).alloc (Nat.le_refl _) (.cells #[.int .i64 0, .int .i64 0, .string ⟨#[]⟩] 25)).alloc (by rw [alloc_sizeR]; omega) (.cells #[.int .i64 0, .int .i64 0, .string ⟨#[]⟩] 25))
  go_enter Try.func27, Try.ntmps27
  obtain ⟨X, hX⟩ : ∃ X, X = (w.alloc (.cells Z3 25)).alloc (.cells Z3 25) := ⟨_, rfl⟩
  have h2 : X.heap[w.heap.size]? = some (.cells Z3 25) := by rw [hX]; exact two_at w _ _
  have h4 : X.heap[w.heap.size + 1]? = some (.cells Z3 25) := by
    have := heap_alloc_last (w.alloc (.cells Z3 25)) (.cells Z3 25)
    rw [alloc_sizeR] at this
    rw [hX]; exact this
  rw [← hX] at HB0
  have HX := Lib.hid hX
  have H2 := Lib.hid h2
  have H4 := Lib.hid h4
  clear hX
  by_cases h1 : c = 1
  · subst h1
    obtain ⟨c20, c21, c22, f20, f21, f22⟩ := z3_facts h2
    obtain ⟨c40, c41, c42, f40, f41, f42⟩ := z3_facts h4
    clear h2 h4
    by_cases h8 : r.length < 8
    · have HF := Lib.hid (show fst (1 :: r) = none by unfold fst; simp [h8])
      have hc := HNB.out X
      rw [if_pos h8] at hc
      have HC := Lib.hid hc
      clear hc h8
      go_wp2_with fail
      rw [show (w.alloc (.cells #[.int .i64 0, .int .i64 0, .string ⟨#[]⟩] 25)).alloc (.cells #[.int .i64 0, .int .i64 0, .string ⟨#[]⟩] 25) = X from HX.out.symm]
      refine HC.out.mono ?_
      rintro e w2 ⟨rfl, rfl⟩
      go_wp2_with fail
      refine bodyPost_ret (results_ptN rfl rfl rfl (x := .int .i64 0) (y := .int .i64 0) (z := .string ⟨#[]⟩) (by go_simp) (by go_simp) (by go_simp)) rfl ?_
      exact firstOut_none HF.out (by repeat (first | exact HB0.out | refine below_set (by omega) ?_))
    · have HF := Lib.hid (show fst (1 :: r) = some ((1, numV r, []), 9) by unfold fst; simp [h8])
      have hc := HNB.out X
      rw [if_neg h8] at hc
      have HC := Lib.hid hc
      generalize numV r = n at *
      clear hc h8
      go_wp2_with fail
      rw [show (w.alloc (.cells #[.int .i64 0, .int .i64 0, .string ⟨#[]⟩] 25)).alloc (.cells #[.int .i64 0, .int .i64 0, .string ⟨#[]⟩] 25) = X from HX.out.symm]
      refine HC.out.mono ?_
      rintro e w2 ⟨rfl, rfl⟩
      go_wp2_with fail
      refine bodyPost_ret (results_ptN rfl rfl rfl (x := .int .i64 1) (y := .int .i64 n) (z := .string ⟨#[]⟩) (by go_simp) (by go_simp) (by go_simp)) rfl ?_
      exact firstOut_some HF.out (by repeat (first | exact HB0.out | refine below_set (by omega) ?_))
  · by_cases h1' : c = 2
    · subst h1'
      have HC := Lib.hid (HTX.out X)
      have hlt4 := (Array.getElem?_eq_some_iff.1 h4).1
      have hlt2 := (Array.getElem?_eq_some_iff.1 h2).1
      clear h2 h4 h1
      cases hr : rdT r with
      | none =>
        have HF := Lib.hid (show fst (2 :: r) = none by unfold fst; rw [List.drop_succ_cons, List.drop_zero, hr]; rfl)
        have HRR := Lib.hid hr
        clear hr
        go_wp2_with fail
        rw [show (w.alloc (.cells #[.int .i64 0, .int .i64 0, .string ⟨#[]⟩] 25)).alloc (.cells #[.int .i64 0, .int .i64 0, .string ⟨#[]⟩] 25) = X from HX.out.symm]
        refine HC.out.mono ?_
        rintro e w2 ⟨rfl, hb⟩
        rw [HRR.out]
        obtain ⟨c20, c21, c22, f20, f21, f22⟩ := z3_facts ((hb.block _ hlt2).trans H2.out)
        obtain ⟨c40, c41, c42, f40, f41, f42⟩ := z3_facts ((hb.block _ hlt4).trans H4.out)
        have HB0 := Lib.hid (below_trans HB0.out hb)
        clear hb
        go_wp2_with fail
        refine bodyPost_ret (results_ptN rfl rfl rfl (x := .int .i64 0) (y := .int .i64 0) (z := .string ⟨#[]⟩) (by go_simp) (by go_simp) (by go_simp)) rfl ?_
        exact firstOut_none HF.out (by repeat (first | exact HB0.out | refine below_set (by omega) ?_))
      | some y =>
        obtain ⟨t, m⟩ := y
        have HF := Lib.hid (show fst (2 :: r) = some ((2, 0, t), m + 1) by unfold fst; rw [List.drop_succ_cons, List.drop_zero, hr]; rfl)
        have hm0 : ((m : Int) == 0) = false := by
          obtain ⟨x, _, e2⟩ := rdT_inv r t m hr
          rw [beq_eq_false_iff_ne]; omega
        have hm1 : m ≤ 1000 := by
          obtain ⟨x, e1, e2⟩ := rdT_inv r t m hr
          have := congrArg List.length e1
          simp at this
          omega
        have HRR := Lib.hid hr
        clear hr
        go_wp2_with fail
        rw [show (w.alloc (.cells #[.int .i64 0, .int .i64 0, .string ⟨#[]⟩] 25)).alloc (.cells #[.int .i64 0, .int .i64 0, .string ⟨#[]⟩] 25) = X from HX.out.symm]
        refine HC.out.mono ?_
        rintro e w2 ⟨rfl, hb⟩
        rw [HRR.out]
        obtain ⟨c20, c21, c22, f20, f21, f22⟩ := z3_facts ((hb.block _ hlt2).trans H2.out)
        obtain ⟨c40, c41, c42, f40, f41, f42⟩ := z3_facts ((hb.block _ hlt4).trans H4.out)
        have HB0 := Lib.hid (below_trans HB0.out hb)
        clear hb
        go_wp2_with fail
        refine bodyPost_ret (results_ptN rfl rfl rfl (x := .int .i64 2) (y := .int .i64 0) (z := .string (txB t)) (by go_simp) (by go_simp) (by go_simp)) rfl ?_
        exact firstOut_some2 HF.out (i := 1 + (m : Int)) (by omega) (by repeat (first | exact HB0.out | refine below_set (by omega) ?_))
    · have HF := Lib.hid (show fst (c :: r) = none by unfold fst; simp [h1, h1'])
      have t1 : ((c.toNat : Int) == 1) = false := u8_ne (y := 1) h1
      have t2 : ((c.toNat : Int) == 2) = false := u8_ne (y := 2) h1'
      obtain ⟨c20, c21, c22, f20, f21, f22⟩ := z3_facts h2
      clear h2 h4 h1 h1'
      go_wp2_with fail
      refine bodyPost_ret (results_ptN rfl rfl rfl (x := .int .i64 0) (y := .int .i64 0) (z := .string ⟨#[]⟩) (by go_simp) (by go_simp) (by go_simp)) rfl ?_
      refine firstOut_none HF.out ?_
      rw [show (w.alloc (.cells #[.int .i64 0, .int .i64 0, .string ⟨#[]⟩] 25)).alloc (.cells #[.int .i64 0, .int .i64 0, .string ⟨#[]⟩] 25) = X from HX.out.symm]
      exact HB0.out
end Go.Proofs.Ytpinmkoaihjhfaa
