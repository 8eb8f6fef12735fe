/- Texts of this seat, put together: ChAwake. -/
import Derived.Test.YtggjeiemofkfbaaGD1
/- The law's own awake: the document's examples. -/
namespace Go.Proofs.Ytggjeiemofkfbaa
open Go.RowKit Ch

abbrev bareO (k n : Int) : OpD := ⟨k, n, ⟨#[]⟩, []⟩
abbrev xText : ByteArray := ⟨#[120]⟩
abbrev nilV : Value := .slice none 0 0
def exOps : List OpD := [bareO 1 1, bareO 1 1, bareO 3 1, ⟨2, 0, xText, []⟩, bareO 3 1, bareO 1 1]
def exNorm : List OpD := [bareO 1 2, ⟨2, 0, xText, []⟩, bareO 3 2]
theorem ex_to : toE 5 exOps = 0 ∧ toN 5 exOps = 4 := by decide +kernel
theorem ex_norm : norm exOps = exNorm := by decide +kernel
theorem ex_is : isB 5 exNorm = true := by decide +kernel
theorem ex_six : toE 5 [bareO 1 6] = 31 := by decide +kernel
theorem ex_sized : OSized exOps := fun o ho => by
  simp only [exOps, List.mem_cons, List.not_mem_nil, or_false] at ho
  rcases ho with rfl | rfl | rfl | rfl | rfl | rfl <;> exact ⟨by decide, fun x hx => by cases hx⟩
theorem exN_sized : OSized exNorm := fun o ho => by
  simp only [exNorm, List.mem_cons, List.not_mem_nil, or_false] at ho
  rcases ho with rfl | rfl | rfl <;> exact ⟨by decide, fun x hx => by cases hx⟩
theorem six_sized : OSized [bareO 1 6] := fun o ho => by
  rw [List.mem_singleton.1 ho]
  exact ⟨by decide, fun x hx => by cases hx⟩
abbrev exPs : List (OpD × Value) := [(bareO 1 1, nilV), (bareO 1 1, nilV), (bareO 3 1, nilV), (⟨2, 0, xText, []⟩, nilV), (bareO 3 1, nilV), (bareO 1 1, nilV)]
theorem exRow (w : World) : OpRow (w.alloc (.cells #[.int .i64 1, .int .i64 1, .string ⟨#[]⟩, .slice none 0 0, .int .i64 1, .int .i64 1, .string ⟨#[]⟩, .slice none 0 0, .int .i64 3, .int .i64 1, .string ⟨#[]⟩, .slice none 0 0, .int .i64 2, .int .i64 0, .string ⟨#[120]⟩, .slice none 0 0, .int .i64 3, .int .i64 1, .string ⟨#[]⟩, .slice none 0 0, .int .i64 1, .int .i64 1, .string ⟨#[]⟩, .slice none 0 0] 40)) (.slice (some ⟨w.heap.size, 0, none⟩) 6 6) exOps :=
  opRow_new w exPs (fun p hp => by
    simp only [exPs, List.mem_cons, List.not_mem_nil, or_false] at hp
    rcases hp with rfl | rfl | rfl | rfl | rfl | rfl <;> exact ⟨rfl, rfl⟩) (by decide)
theorem sixRow (w : World) : OpRow (w.alloc (.cells #[.int .i64 1, .int .i64 6, .string ⟨#[]⟩, .slice none 0 0] 40)) (.slice (some ⟨w.heap.size, 0, none⟩) 1 1) [bareO 1 6] :=
  opRow_new w [(bareO 1 6, nilV)] (fun p hp => by rw [List.mem_singleton.1 hp]; exact ⟨rfl, rfl⟩) (by decide)

set_option maxRecDepth 100000 in
set_option maxHeartbeats 4000000 in
theorem awake_any (w : World) : Calls Try.prog 15 #[] w (OutB w true) := by
  go_enter Try.func15, Try.ntmps15
  have B0 := Lib.hid (Below.refl w.heap.size w)
  go_wp2_with fail
  refine (lawKeep_any 1 _).mono ?_
  rintro e w1 ⟨rfl, b⟩
  have B1 := Lib.hid (B0.out.trans (b.mono B0.out.size))
  clear b
  go_wp2_with fail
  refine (lawKeep_any 1 _).mono ?_
  rintro e w2 ⟨rfl, b⟩
  have B2 := Lib.hid (B1.out.trans (b.mono B1.out.size))
  clear b
  go_wp2_with fail
  refine (lawCut_any 1 _).mono ?_
  rintro e w3 ⟨rfl, b⟩
  have B3 := Lib.hid (B2.out.trans (b.mono B2.out.size))
  clear b
  go_wp2_with fail
  refine (lawPut_any ⟨#[120]⟩ _).mono ?_
  rintro e w4 ⟨rfl, b⟩
  have B4 := Lib.hid (B3.out.trans (b.mono B3.out.size))
  clear b
  go_wp2_with fail
  refine (lawCut_any 1 _).mono ?_
  rintro e w5 ⟨rfl, b⟩
  have B5 := Lib.hid (B4.out.trans (b.mono B4.out.size))
  clear b
  go_wp2_with fail
  refine (lawKeep_any 1 _).mono ?_
  rintro e w6 ⟨rfl, b⟩
  have B6 := Lib.hid (B5.out.trans (b.mono B5.out.size))
  clear b B0 B1 B2 B3 B4 B5
  go_wp2_with fail
  obtain ⟨X, hX⟩ : ∃ X, X = (w6.alloc (.cells #[.int .i64 1, .int .i64 1, .string ⟨#[]⟩, .slice none 0 0, .int .i64 1, .int .i64 1, .string ⟨#[]⟩, .slice none 0 0, .int .i64 3, .int .i64 1, .string ⟨#[]⟩, .slice none 0 0, .int .i64 2, .int .i64 0, .string ⟨#[120]⟩, .slice none 0 0, .int .i64 3, .int .i64 1, .string ⟨#[]⟩, .slice none 0 0, .int .i64 1, .int .i64 1, .string ⟨#[]⟩, .slice none 0 0] 40)).alloc (.cells #[.int .i64 5, .slice (some ⟨w6.heap.size, 0, none⟩) 6 6] 24) := ⟨_, rfl⟩
  rw [← hX]
  have RX : OpRow X (.slice (some ⟨w6.heap.size, 0, none⟩) 6 6) exOps := by rw [hX]; exact (exRow w6).below (below_box _ _)
  have BX := Lib.hid (show Below w.heap.size w X by rw [hX]; exact (B6.out.alloc B6.out.size _).alloc (by have := B6.out.size; simp; omega) _)
  have xX : X.heap[w6.heap.size + 1]? = some (.cells #[.int .i64 5, .slice (some ⟨w6.heap.size, 0, none⟩) 6 6] 24 (0, 0)) := by
    rw [hX]
    have := heap_new (w6.alloc (.cells #[.int .i64 1, .int .i64 1, .string ⟨#[]⟩, .slice none 0 0, .int .i64 1, .int .i64 1, .string ⟨#[]⟩, .slice none 0 0, .int .i64 3, .int .i64 1, .string ⟨#[]⟩, .slice none 0 0, .int .i64 2, .int .i64 0, .string ⟨#[120]⟩, .slice none 0 0, .int .i64 3, .int .i64 1, .string ⟨#[]⟩, .slice none 0 0, .int .i64 1, .int .i64 1, .string ⟨#[]⟩, .slice none 0 0] 40)) (.cells #[.int .i64 5, .slice (some ⟨w6.heap.size, 0, none⟩) 6 6] 24)
    simpa using this
  have HT : Calls Try.prog 18 #[chAgg 5 (.slice (some ⟨w6.heap.size, 0, none⟩) 6 6)] X fun e w' => e = .returned (.tuple #[.int .i64 4, .int .i64 0]) ∧ Below X.heap.size X w' :=
    (to_any 5 _ exOps X RX ex_sized).mono fun e w' ⟨h1, h2⟩ => ⟨by rw [h1, ex_to.1, ex_to.2], h2⟩
  have HRX := Lib.hid RX
  have HxX := Lib.hid xX
  clear hX RX xX B6
  refine HT.mono ?_
  rintro e w7 ⟨rfl, b⟩
  have x7 := (b.block _ (lt_of_heap HxX.out)).trans HxX.out
  have c0 : w7.cell? ⟨w6.heap.size + 1, 0, none⟩ = some (.int .i64 5) := (Lib.cell_of_heap x7 0).trans rfl
  have c1 : w7.cell? ⟨w6.heap.size + 1, 1, none⟩ = some (.slice (some ⟨w6.heap.size, 0, none⟩) 6 6) := (Lib.cell_of_heap x7 1).trans rfl
  have B7 := Lib.hid (BX.out.trans (b.mono BX.out.size))
  have HN := normal_ok 5 _ exOps w7 (HRX.out.below b) ex_sized ex_to.1
  rw [ex_norm] at HN
  have HN := Lib.hid HN
  clear b x7 HT
  go_wp2_with fail
  refine HN.out.mono ?_
  rintro e w8 ⟨v8, rfl, O8, b⟩
  obtain ⟨ps, hps, hP⟩ := id O8
  obtain ⟨g, cap, hv⟩ := ownsRow_open hP.1 (by have := congrArg List.length hps; simp [exNorm] at this; omega)
  have hl3 : ps.length = 3 := by have := congrArg List.length hps; simpa [exNorm] using this
  rw [hl3] at hv
  subst hv
  obtain ⟨p0, p1, p2, rfl⟩ : ∃ p0 p1 p2, ps = [p0, p1, p2] := by
    match ps, hl3 with
    | [p0, p1, p2], _ => exact ⟨p0, p1, p2, rfl⟩
  simp only [List.map_cons, List.map_nil, exNorm, List.cons.injEq, and_true] at hps
  obtain ⟨e0, e1, e2⟩ := hps
  have gh := (own_heap hP.1).2
  have g1 : w8.cell? ⟨g, 6, none⟩ = some (.string ⟨#[120]⟩) := by
    have := hP.1.cellAt 6 (by decide)
    rw [this]
    show some (Value.string p1.1.text) = _
    rw [e1]
  have g2 : w8.cell? ⟨g, 9, none⟩ = some (.int .i64 2) := by
    have := hP.1.cellAt 9 (by decide)
    rw [this]
    show some (Value.int .i64 p2.1.n) = _
    rw [e2]
  have hg8 : g < w8.heap.size := by obtain ⟨cs, hcs⟩ := gh; exact lt_of_heap hcs
  obtain ⟨Y, hY⟩ : ∃ Y, Y = w8.alloc (.cells #[.int .i64 5, .slice (some ⟨g, 0, none⟩) 3 cap] 24) := ⟨_, rfl⟩
  have BY := Lib.hid (show Below w8.heap.size w8 Y by rw [hY]; exact below_box _ _)
  have xY : Y.heap[w8.heap.size]? = some (.cells #[.int .i64 5, .slice (some ⟨g, 0, none⟩) 3 cap] 24 (0, 0)) := by rw [hY]; exact heap_new _ _
  have y0 : Y.cell? ⟨w8.heap.size, 0, none⟩ = some (.int .i64 5) := (Lib.cell_of_heap xY 0).trans rfl
  have y1 : Y.cell? ⟨w8.heap.size, 1, none⟩ = some (.slice (some ⟨g, 0, none⟩) 3 cap) := (Lib.cell_of_heap xY 1).trans rfl
  have HI := is_any 5 _ exNorm Y (O8.row.below BY.out) exN_sized
  rw [ex_is] at HI
  have HI := Lib.hid HI
  have B8 := Lib.hid ((B7.out.trans (b.mono B7.out.size)).trans (BY.out.mono (Nat.le_trans B7.out.size b.size)))
  have HG := Lib.hid (And.intro ((BY.out.cell (p := ⟨g, 6, none⟩) (by exact hg8)).trans g1) ((BY.out.cell (p := ⟨g, 9, none⟩) (by exact hg8)).trans g2))
  have hgY : g < Y.heap.size := Nat.lt_of_lt_of_le hg8 BY.out.size
  have HXY := Lib.hid xY
  have HY := Lib.hid hY
  clear O8 b hP e0 e1 e2 gh g1 g2 hY xY c0 c1
  go_wp2_with fail
  rw [← HY.out]
  go_wp2_with fail
  refine HI.out.mono ?_
  rintro e w9 ⟨rfl, b⟩
  have x9 := (b.block _ (lt_of_heap HXY.out)).trans HXY.out
  have z1 : w9.cell? ⟨w8.heap.size, 1, none⟩ = some (.slice (some ⟨g, 0, none⟩) 3 cap) := (Lib.cell_of_heap x9 1).trans rfl
  have g1 : w9.cell? ⟨g, 6, none⟩ = some (.string ⟨#[120]⟩) := (b.cell (by exact hgY)).trans HG.out.1
  have g2 : w9.cell? ⟨g, 9, none⟩ = some (.int .i64 2) := (b.cell (by exact hgY)).trans HG.out.2
  have B9 := Lib.hid (B8.out.trans (b.mono B8.out.size))
  clear b x9 y0 y1
  go_wp2_with fail
  refine (lawKeep_any 6 _).mono ?_
  rintro e w10 ⟨rfl, b⟩
  have B10 := Lib.hid (B9.out.trans (b.mono B9.out.size))
  clear b
  go_wp2_with fail
  have HR : Calls Try.prog 17 #[chAgg 5 (.slice (some ⟨w10.heap.size, 0, none⟩) 1 1)] (w10.alloc (.cells #[.int .i64 1, .int .i64 6, .string ⟨#[]⟩, .slice none 0 0] 40)) fun e w' => e = .returned (.int .i64 31) ∧ Below w10.heap.size w10 w' :=
    (changeRight_any 5 _ [bareO 1 6] _ (sixRow w10) six_sized).mono fun e w' ⟨h1, h2⟩ => ⟨by rw [h1, ex_six], (below_box _ _).trans (h2.mono (by simp))⟩
  refine HR.mono ?_
  rintro e w11 ⟨rfl, b⟩
  have B11 := Lib.hid (B10.out.trans (b.mono B10.out.size))
  clear b HR
  go_wp2_with fail
  go_ret
  exact ⟨rfl, B11.out⟩
end Go.Proofs.Ytggjeiemofkfbaa
