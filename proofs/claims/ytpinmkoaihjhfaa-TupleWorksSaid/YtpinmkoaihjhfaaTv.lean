/- The document's examples: awake. -/
import Derived.Test.YtpinmkoaihjhfaaTo
import Derived.Test.YtpinmkoaihjhfaaTu
namespace Go.Proofs.Ytpinmkoaihjhfaa
open Go.RowKit Su Tp
attribute [local go_sem] Oper.semAt_some

theorem results_pt {fn : Func} {i : Nat} (h : fn.results = #[.cell i 25]) {tmps : Array Value} {w : World} {b4 : Nat} {x y z : Value} (h4 : tmps.getD i undef = .pointer (some ⟨b4, 0, none⟩))
    (z4 : w.cell? ⟨b4, 0, none⟩ = some x) (z5 : w.cell? ⟨b4, 1, none⟩ = some y) (z6 : w.cell? ⟨b4, 2, none⟩ = some z) : (results fn tmps).run Try.prog w = .ok (.agg #[x, y, z]) w := by
  rw [Array.getD_eq_getD_getElem?] at h4
  simp [results, h, h4, go_sem, z4, z5, z6]
theorem num_any (n : Int) (w : World) : Calls Try.prog 17 #[.int .i64 n] w fun e w' => e = .returned (valP (1, n, [])) ∧ Below w.heap.size w w' := by
  go_enter Try.func17, Try.ntmps17
  go_wp2_with fail
  refine bodyPost_ret (results_pt rfl rfl (x := .int .i64 1) (y := .int .i64 n) (z := .string ⟨#[]⟩) (by go_simp) (by go_simp) (by go_simp)) rfl ?_
  exact ⟨rfl, by repeat (first | exact (Below.refl _ _).alloc (Nat.le_refl _) _ | refine below_set (by omega) ?_)⟩
theorem txt_any (t : ByteArray) (w : World) : Calls Try.prog 18 #[.string t] w fun e w' => e = .returned (.agg #[.int .i64 2, .int .i64 0, .string t]) ∧ Below w.heap.size w w' := by
  go_enter Try.func18, Try.ntmps18
  go_wp2_with fail
  refine bodyPost_ret (results_pt rfl rfl (x := .int .i64 2) (y := .int .i64 0) (z := .string t) (by go_simp) (by go_simp) (by go_simp)) rfl ?_
  exact ⟨rfl, by repeat (first | exact (Below.refl _ _).alloc (Nat.le_refl _) _ | refine below_set (by omega) ?_)⟩
def exL : List Pt := [(1, 1, []), (2, 0, [97])]
def exK : List UInt8 := [1, 128, 0, 0, 0, 0, 0, 0, 1, 2, 97, 0, 0]
theorem exL_in : ∀ p ∈ exL, InP p := by
  intro p hp
  unfold exL at hp
  simp at hp
  rcases hp with rfl | rfl <;> (unfold InP inI; simp)
theorem exL_ok : ∀ p ∈ exL, okP p := by
  intro p hp
  unfold exL at hp
  simp at hp
  rcases hp with rfl | rfl
  · exact .inl ⟨rfl, rfl⟩
  · exact .inr ⟨rfl, rfl⟩
theorem exL_all : allP exL := fun p hp => ⟨exL_ok p hp, exL_in p hp⟩
theorem exL_right : right exL := ⟨by decide, by decide, exL_ok⟩
theorem ex_key : keyB exL = exK := by decide
theorem ex_T : keyT exL = exK ∧ keyE exL = 0 := by
  have h : (keyB exL).length ≤ 100 := by rw [ex_key]; decide
  exact ⟨by rw [keyT_ok exL_right h, ex_key], keyE_ok exL_right h⟩
theorem ex_bad : fst [2, 97, 0] = none := by decide
theorem ex_aft : aft [97, 255] = [98] := by decide
theorem read_yes {s : List UInt8} {l : List Pt} {w w' : World} {e : Ending} (h : ReadOut s w e w') (hr : right l) (ha : allP l) (hk : keyB l = s) (hs : s.length ≤ 100) : Below w.heap.size w w' ∧ ∃ v, e = .returned (.tuple #[v, .int .i64 0]) ∧ OwnT w' w.heap.size v l := by
  obtain ⟨hb, h | h | h⟩ := h
  · omega
  · obtain ⟨_, m, v, h1, h2, h3, h4, h5⟩ := h
    obtain rfl := key_inj h2 ha (h3.trans hk.symm)
    exact ⟨hb, v, h4, h5⟩
  · exact absurd hk (h.2.1 l ha hr)
theorem read_no {s : List UInt8} {w w' : World} {e : Ending} (h : ReadOut s w e w') (hn : ∀ l, allP l → right l → keyB l ≠ s) (hs : s.length ≤ 100) : Below w.heap.size w w' ∧ e = .returned (.tuple #[.slice none 0 0, .int .i64 110]) := by
  obtain ⟨hb, h | h | h⟩ := h
  · omega
  · obtain ⟨_, m, v, h1, h2, h3, _⟩ := h
    exact absurd h3 (hn m h2 h1)
  · exact ⟨hb, h.2.2⟩
set_option maxRecDepth 1000000 in
set_option maxHeartbeats 8000000 in
theorem awake_any (w : World) : Calls Try.prog 7 #[] w fun e w' => e = .returned (.bool true) ∧ Below w.heap.size w w' := by
  have HN := Lib.hid (fun W => num_any 1 W)
  have HT := Lib.hid (fun W => txt_any ⟨#[97]⟩ W)
  have HA := Lib.hid (fun W => after_any [97, 255] W (by simp))
  rw [ex_aft] at HA
  go_enter Try.func7, Try.ntmps7
  go_wp2_with fail
  refine (HN.out w).mono ?_
  rintro e w1 ⟨rfl, hb1⟩
  go_wp2_with fail
  refine (HT.out w1).mono ?_
  rintro e w2 ⟨rfl, hb2⟩
  have hb := below_trans hb1 hb2
  clear hb1 hb2
  have hrow : PRow (w2.alloc (.cells #[.int .i64 1, .int .i64 1, .string ⟨#[]⟩, .int .i64 2, .int .i64 0, .string ⟨#[97]⟩] 25)) (.slice (some ⟨w2.heap.size, 0, none⟩) 2 2) exL := prow_lit (heap_alloc_last w2 _) rfl (by unfold maxLen exL; simp) rfl exL_in
  have HK := Lib.hid (key_any _ exL _ hrow (by intro p hp; unfold exL at hp; simp at hp; rcases hp with rfl | rfl <;> simp))
  have HB0 := Lib.hid (hb.alloc hb.size (.cells #[.int .i64 1, .int .i64 1, .string ⟨#[]⟩, .int .i64 2, .int .i64 0, .string ⟨#[97]⟩] 25))
  rw [ex_T.1, ex_T.2] at HK
  clear hrow hb
  unfold valP
  go_wp2_with fail
  refine HK.out.mono ?_
  rintro e w3 ⟨rfl, hb3⟩
  have HB3 := Lib.hid (below_trans HB0.out hb3)
  have HRD := Lib.hid (read_any exK w3 (by unfold exK; simp))
  clear hb3 HK HB0
  go_wp2_with fail
  refine HRD.out.mono ?_
  intro e w4 ho
  obtain ⟨hb4, v, rfl, hov⟩ := read_yes ho exL_right exL_all ex_key (by unfold exK; simp)
  have HB4 := Lib.hid (below_trans HB3.out hb4)
  have HO4 := Lib.hid hov
  have HRD2 := Lib.hid (read_any [2, 97, 0] w4 (by simp))
  clear ho hb4 hov HRD HB3
  go_wp2_with fail
  refine HRD2.out.mono ?_
  intro e w5 ho
  obtain ⟨hb5, rfl⟩ := read_no ho (fun l h1 h2 => no_key (l := []) (by intro p hp; simp at hp) ex_bad l h1 h2) (by simp)
  have HB5 := Lib.hid (below_trans HB4.out hb5)
  have HO5 := Lib.hid (HO4.out.below hb5)
  clear ho hb5 HRD2 HB4 HO4
  obtain ⟨a, cap, rfl, hcap⟩ := HO5.out.shape
  obtain ⟨g, off, rfl, _, _, _, _, c5⟩ := HO5.out.row.at 1 (by decide)
  have c5' : w5.cell? ⟨g, off + 5, none⟩ = some (.string ⟨#[97]⟩) := c5
  have hlen : exL.length = 2 := rfl
  rw [hlen] at HO5 hcap ⊢
  have hz : (txB exK).size = 13 := rfl
  have hg : (txB exK)[12]'(by rw [hz]; omega) = 0 := rfl
  have hA := Lib.hid (HA.out w5)
  have hA98 : (txB [98]).toList = (⟨#[98]⟩ : ByteArray).toList := rfl
  clear c5 hlen hcap HA
  go_wp2_with fail
  refine hA.out.mono ?_
  rintro e w6 ⟨rfl, hb6⟩
  have HB6 := Lib.hid (below_trans HB5.out hb6)
  have HO6 := Lib.hid (HO5.out.below hb6)
  clear hA hb6 c5'
  go_wp2_with fail
  refine (HN.out w6).mono ?_
  rintro e w7 ⟨rfl, hb7⟩
  have HB7 := Lib.hid (below_trans HB6.out hb7)
  have HO7 := Lib.hid (HO6.out.below hb7)
  have HOR := Lib.hid (order_any (.slice (some ⟨w7.heap.size, 0, none⟩) 1 1) _ [(1, 1, [])] exL (w7.alloc (.cells #[.int .i64 1, .int .i64 1, .string ⟨#[]⟩] 25)) (prow_lit (heap_alloc_last w7 _) rfl (by unfold maxLen; simp) rfl (by intro p hp; rw [List.mem_singleton] at hp; rw [hp]; unfold InP inI; simp)) (HO7.out.alloc _).row)
  have HB8 := Lib.hid (HB7.out.alloc HB7.out.size (.cells #[.int .i64 1, .int .i64 1, .string ⟨#[]⟩] 25))
  rw [show ord [(1, 1, [])] exL = -1 from rfl] at HOR
  unfold valP
  clear hb7
  go_wp2_with fail
  refine HOR.out.mono ?_
  rintro e w8 ⟨rfl, hb8⟩
  have HB9 := Lib.hid (below_trans HB8.out hb8)
  go_wp2_with fail
  go_ret
  exact ⟨rfl, HB9.out⟩
end Go.Proofs.Ytpinmkoaihjhfaa
