import Derived.Test.YtadookafnfnaoaaGreatDoorGS11
import Derived.Test.YtadookafnfnaoaaGreatDoorGS14
import Derived.Test.YtadookafnfnaoaaGreatDoorGS10
import Derived.Test.YtadookafnfnaoaaGreatDoorGS3
import Derived.Test.YtadookafnfnaoaaGreatDoorGS4
import Derived.Test.YtadookafnfnaoaaGreatDoorGS7
import Derived.LaidLaws
import Derived.LaidSub
import Derived.MakeChecks
import Derived.Lib.LaidTab
import Derived.Lib.LaidU8T
import Derived.PinnedBridge
/- The law's own awake: the document's examples. -/
namespace Go.Proofs.YtadookafnfnaoaaGreatDoor
open Go.RowKit Ch

abbrev exT : ByteArray := ⟨#[120, 10]⟩
abbrev exA : List Sp.A := [(⟨#[98]⟩, ⟨#[49]⟩)]
def exO : List OpD := [⟨1, 2, ⟨#[]⟩, []⟩, ⟨2, 0, exT, exA⟩, ⟨3, 1, ⟨#[]⟩, []⟩]
def exS : List UInt8 := [53, 32, 61, 50, 32, 43, 34, 120, 92, 110, 34, 123, 98, 58, 34, 49, 34, 125, 32, 45, 49]
def exB : List UInt8 := [53, 32, 61, 50, 32]
theorem ex_pr1 : (Sp.printF 5 exO).1 = 0 := by decide +kernel
theorem ex_pr2 : (Sp.printF 5 exO).2 = exS := by decide +kernel
theorem ex_nm : norm exO = exO := by decide +kernel
theorem ex_pa : Sp.parseF exS = ⟨0, 0, 5, exO⟩ := by
  have := (Sp.print_parse ex_pr1).2
  rw [ex_pr2, ex_nm] at this
  exact this
theorem ex_bad : (Sp.parseF exB).code = 40 ∧ (Sp.parseF exB).at_ = 5 := by decide +kernel

theorem ex_badF : Sp.parseF exB = ⟨40, 5, 0, []⟩ := by
  have h1 := ex_bad
  have h2 := Sp.parse_bad (s := exB) (by rw [h1.1]; decide)
  generalize Sp.parseF exB = p at *
  obtain ⟨a, b, c, d⟩ := p
  simp only at h1 h2
  obtain ⟨rfl, rfl⟩ := h1
  obtain ⟨rfl, rfl⟩ := h2
  rfl
theorem ex_row {w : World} {g q : Nat} (hg : w.heap[g]? = some (.cells #[.int .i64 1, .int .i64 2, .string ⟨#[]⟩, .slice none 0 0, .int .i64 2, .int .i64 0, .string exT, .slice (some ⟨q, 0, none⟩) 1 1, .int .i64 3, .int .i64 1, .string ⟨#[]⟩, .slice none 0 0] 48 (0, 0)))
    (hq : w.heap[q]? = some (.cells #[.string ⟨#[98]⟩, .string ⟨#[49]⟩] 53 (0, 0))) : OpRow w (.slice (some ⟨g, 0, none⟩) 3 3) exO := by
  have c := fun i => Lib.cell_of_heap hg i
  have d := fun i => Lib.cell_of_heap hq i
  have nilA : AtRow w (.slice none 0 0) [] := ⟨none, 0, rfl, Nat.le_refl _, Nat.zero_le _, fun i h => absurd h (Nat.not_lt_zero _)⟩
  have nilP : Proper (.slice none 0 0) := fun n c e => by simp at e; omega
  refine ⟨_, 3, rfl, Nat.le_refl _, by decide, fun i hi => ⟨g, 0, rfl, lt_of_heap hg, ?_⟩⟩
  have hi : i < 3 := hi
  rcases i with _ | _ | _ | i
  · exact ⟨_, nilA, nilP, c 0, c 1, c 2, c 3⟩
  · refine ⟨.slice (some ⟨q, 0, none⟩) 1 1, ⟨_, 1, rfl, Nat.le_refl _, by decide, fun j hj => ⟨q, 0, rfl, lt_of_heap hq, ?_⟩⟩, fun n c e => by simp at e, c 4, c 5, c 6, c 7⟩
    have hj : j < 1 := hj
    obtain rfl : j = 0 := by omega
    exact ⟨d 0, d 1⟩
  · exact ⟨_, nilA, nilP, c 8, c 9, c 10, c 11⟩
  · omega
theorem ex_sized : OSized exO := fun o ho => by
  simp only [exO, List.mem_cons, List.not_mem_nil, or_false] at ho
  rcases ho with rfl | rfl | rfl
  · exact ⟨by decide, fun x hx => by cases hx⟩
  · exact ⟨by decide, fun x hx => by rw [List.mem_singleton.1 hx]; decide⟩
  · exact ⟨by decide, fun x hx => by cases hx⟩

set_option maxRecDepth 100000 in
set_option maxHeartbeats 1000000 in
theorem lawPutV_any (s : ByteArray) (a : Option Addr) (n c : Nat) (w : World) : Calls Tryz.prog 26 #[.string s, .slice a n c] w (OutV w (.agg #[.int .i64 2, .int .i64 0, .string s, .slice a n c])) := by
  go_enter Tryz.func26, Tryz.ntmps26
  go_wp2_with fail
  exact bodyPost_ret (v := .agg #[.int .i64 2, .int .i64 0, .string s, .slice a n c]) (by simp [results, Tryz.results26, go_sem]) rfl ⟨rfl, below_box _ _⟩

set_option maxRecDepth 100000 in
set_option maxHeartbeats 4000000 in
theorem awake4_any (w : World) (hp : Pow w) (hy : Syn w) (hpB : 2 < w.heap.size) (hyB : 3 < w.heap.size) : Calls Tryz.prog 10 #[] w (OutB w true) := by
  go_enter Tryz.func10, Tryz.ntmps10
  have B0 := Lib.hid (Below.refl w.heap.size w)
  go_wp2_with fail
  refine (lawKeep_any 2 _).mono ?_
  rintro e w1 ⟨rfl, b⟩
  have B1 := Lib.hid (B0.out.trans (b.mono B0.out.size))
  clear b
  go_wp2_with fail
  obtain ⟨Q, hQ⟩ : ∃ Q, Q = w1.alloc (.cells #[.string ⟨#[98]⟩, .string ⟨#[49]⟩] 53) := ⟨_, rfl⟩
  have bQ := show Below w1.heap.size w1 Q by rw [hQ]; exact below_box _ _
  have qh := show Q.heap[w1.heap.size]? = some (.cells #[.string ⟨#[98]⟩, .string ⟨#[49]⟩] 53 (0, 0)) by rw [hQ]; exact heap_new _ _
  rw [← hQ]
  refine (lawPutV_any exT _ 1 1 Q).mono ?_
  rintro e w2 ⟨rfl, b⟩
  have q2 := Lib.hid ((b.block _ (lt_of_heap qh)).trans qh)
  have s1 := B1.out.size
  have sQ := bQ.size
  have s2 := b.size
  have lq := lt_of_heap q2.out
  have B2 := Lib.hid (B1.out.trans ((bQ.trans (b.mono sQ)).mono s1))
  clear b bQ qh hQ
  go_wp2_with fail
  refine (lawCut_any 1 _).mono ?_
  rintro e w3 ⟨rfl, b⟩
  have q3 := Lib.hid ((b.block _ (lt_of_heap q2.out)).trans q2.out)
  have s3 := b.size
  have B3 := Lib.hid (B2.out.trans (b.mono B2.out.size))
  clear b
  go_wp2_with fail
  obtain ⟨X0, hX0⟩ : ∃ X, X = w3.alloc (.cells #[.int .i64 1, .int .i64 2, .string ⟨#[]⟩, .slice none 0 0, .int .i64 2, .int .i64 0, .string exT, .slice (some ⟨w1.heap.size, 0, none⟩) 1 1, .int .i64 3, .int .i64 1, .string ⟨#[]⟩, .slice none 0 0] 48) := ⟨_, rfl⟩
  have x0 := show X0.heap[w3.heap.size]? = some (.cells #[.int .i64 1, .int .i64 2, .string ⟨#[]⟩, .slice none 0 0, .int .i64 2, .int .i64 0, .string exT, .slice (some ⟨w1.heap.size, 0, none⟩) 1 1, .int .i64 3, .int .i64 1, .string ⟨#[]⟩, .slice none 0 0] 48 (0, 0)) by rw [hX0]; exact heap_new _ _
  have bx0 := show Below w3.heap.size w3 X0 by rw [hX0]; exact below_box _ _
  obtain ⟨X, hX⟩ : ∃ X, X = X0.alloc (.cells #[.int .i64 5, .slice (some ⟨w3.heap.size, 0, none⟩) 3 3] 24) := ⟨_, rfl⟩
  have bx := show Below X0.heap.size X0 X by rw [hX]; exact below_box _ _
  have RX := (ex_row x0 ((bx0.block _ (lt_of_heap q3.out)).trans q3.out)).below bx
  have BX := Lib.hid (B3.out.trans ((bx0.trans (bx.mono bx0.size)).mono (by omega)))
  have hw := BX.out.size
  have HX := Lib.hid (show X = (w3.alloc (.cells #[.int .i64 1, .int .i64 2, .string ⟨#[]⟩, .slice none 0 0, .int .i64 2, .int .i64 0, .string exT, .slice (some ⟨w1.heap.size, 0, none⟩) 1 1, .int .i64 3, .int .i64 1, .string ⟨#[]⟩, .slice none 0 0] 48)).alloc (.cells #[.int .i64 5, .slice (some ⟨w3.heap.size, 0, none⟩) 3 3] 24) by rw [hX, hX0])
  have HPr := print_any 5 _ exO X RX ex_sized (hp.below BX.out hpB) (by omega)
  rw [show PrintOut X 5 exO = fun e w' => e = .returned (.tuple #[.string (Sp.ba exS), .int .i64 0]) ∧ Below X.heap.size X w' by unfold PrintOut; rw [ex_pr1, ex_pr2]] at HPr
  have HPr := Lib.hid HPr
  clear hX0 hX x0 bx0 bx RX B0 B1 B2 q2 q3
  rw [← HX.out]
  refine HPr.out.mono ?_
  rintro e w4 ⟨rfl, b⟩
  have s4 := b.size
  have B4 := Lib.hid (BX.out.trans (b.mono hw))
  have hy4 : Syn w4 := hy.keep (keep_below (ts := []) (B4.out) (Nat.le_refl _)) hyB
  have HPa := parse_any (Sp.ba exS) w4 (by decide) hy4 (by omega)
  rw [show ParseOut w4 (Sp.ba exS) = fun e w' => ∃ v, e = .returned (.tuple #[chAgg 5 v, .agg #[.int .i64 0, .int .i64 0]]) ∧ OwnOps w' w4.heap.size v exO ∧ Below w4.heap.size w4 w' by unfold ParseOut; rw [Sp.data_ba, ex_pa]] at HPa
  have HPa := Lib.hid HPa
  clear b hy4
  go_wp2_with fail
  refine HPa.out.mono ?_
  rintro e w5 ⟨v5, rfl, o5, b⟩
  have s5 := b.size
  have B5 := Lib.hid (B4.out.trans (b.mono B4.out.size))
  obtain ⟨ps, hps, hP⟩ := o5
  have hl3 : ps.length = 3 := by have := congrArg List.length hps; simpa [exO] using this
  obtain ⟨gg, cap, hv⟩ := ownsRow_open hP.1 (by omega)
  rw [hl3] at hv
  subst hv
  obtain ⟨p0, p1, p2, rfl⟩ : ∃ p0 p1 p2, ps = [p0, p1, p2] := by
    match ps, hl3 with
    | [p0, p1, p2], _ => exact ⟨p0, p1, p2, rfl⟩
  simp only [List.map_cons, List.map_nil, exO, List.cons.injEq, and_true] at hps
  have g5 : w5.cell? ⟨gg, 6, none⟩ = some (.string exT) := by
    rw [hP.1.cellAt 6 (by decide)]
    show some (Value.string p1.1.text) = _
    rw [hps.2.1]
  have lg5 : gg < w5.heap.size := by obtain ⟨cs, hcs⟩ := (own_heap hP.1).2; exact lt_of_heap hcs
  have G5 := Lib.hid g5
  obtain ⟨Y0, hY0⟩ : ∃ Y, Y = w5.alloc (.cells #[.int .i64 5, .slice (some ⟨gg, 0, none⟩) 3 cap] 24) := ⟨_, rfl⟩
  have y0 := show Y0.heap[w5.heap.size]? = some (.cells #[.int .i64 5, .slice (some ⟨gg, 0, none⟩) 3 cap] 24 (0, 0)) by rw [hY0]; exact heap_new _ _
  have by0 := show Below w5.heap.size w5 Y0 by rw [hY0]; exact below_box _ _
  have sY0 : Y0.heap.size = w5.heap.size + 1 := by rw [hY0]; simp
  obtain ⟨Y, hY⟩ : ∃ Y, Y = Y0.alloc (.cells #[.int .i64 0, .int .i64 0] 34) := ⟨_, rfl⟩
  have y1 := show Y.heap[Y0.heap.size]? = some (.cells #[.int .i64 0, .int .i64 0] 34 (0, 0)) by rw [hY]; exact heap_new _ _
  have bY := show Below Y0.heap.size Y0 Y by rw [hY]; exact below_box _ _
  rw [sY0] at y1
  have y0' := (bY.block _ (lt_of_heap y0)).trans y0
  have BY5 := by0.trans (bY.mono by0.size)
  have sY := BY5.size
  have BY := Lib.hid (B5.out.trans (BY5.mono (by omega)))
  have HY := Lib.hid (show Y = (w5.alloc (.cells #[.int .i64 5, .slice (some ⟨gg, 0, none⟩) 3 cap] 24)).alloc (.cells #[.int .i64 0, .int .i64 0] 34) by rw [hY, hY0])
  have hyY : Syn Y := hy.keep (keep_below (ts := []) (BY.out) (Nat.le_refl _)) hyB
  have HPb := parse_any (Sp.ba exB) Y (by decide) hyY (by omega)
  rw [show ParseOut Y (Sp.ba exB) = fun e w' => ∃ v, e = .returned (.tuple #[chAgg 0 v, .agg #[.int .i64 40, .int .i64 5]]) ∧ OwnOps w' Y.heap.size v [] ∧ Below Y.heap.size Y w' by unfold ParseOut; rw [Sp.data_ba, ex_badF]] at HPb
  have HPb := Lib.hid HPb
  have Y0h := Lib.hid y0'
  have Y1h := Lib.hid y1
  have G6 := Lib.hid ((BY5.cell (by exact lg5)).trans g5)
  have lgY : gg < Y.heap.size := by omega
  clear b hP hps g5 hY0 y0 by0 hY y1 bY y0' BY5 hyY HPa HPr
  go_wp2_with fail
  rw [← HY.out]
  refine HPb.out.mono ?_
  rintro e w6 ⟨u6, rfl, o6, b⟩
  obtain ⟨ua, uc, rfl⟩ := o6.row.shape
  have z0 := (b.block _ (lt_of_heap Y0h.out)).trans Y0h.out
  have z1 := (b.block _ (lt_of_heap Y1h.out)).trans Y1h.out
  have c0 : w6.cell? ⟨w5.heap.size, 0, none⟩ = some (.int .i64 5) := (Lib.cell_of_heap z0 0).trans rfl
  have c1 : w6.cell? ⟨w5.heap.size, 1, none⟩ = some (.slice (some ⟨gg, 0, none⟩) 3 cap) := (Lib.cell_of_heap z0 1).trans rfl
  have d0 : w6.cell? ⟨w5.heap.size + 1, 0, none⟩ = some (.int .i64 0) := (Lib.cell_of_heap z1 0).trans rfl
  have d1 : w6.cell? ⟨w5.heap.size + 1, 1, none⟩ = some (.int .i64 0) := (Lib.cell_of_heap z1 1).trans rfl
  have g6 : w6.cell? ⟨gg, 6, none⟩ = some (.string exT) := (b.cell (by exact lgY)).trans G6.out
  have l0 := lt_of_heap z0
  have l1 := lt_of_heap z1
  have lg6 : gg < w6.heap.size := Nat.lt_of_lt_of_le lgY b.size
  have B6 := Lib.hid (BY.out.trans (b.mono BY.out.size))
  have ts : ((Sp.ba exS).toList == [53, 32, 61, 50, 32, 43, 34, 120, 92, 110, 34, 123, 98, 58, 34, 49, 34, 125, 32, 45, 49]) = true := by decide +kernel
  have tx : (exT.toList == [120, 10]) = true := by decide +kernel
  clear z0 z1 b o6
  go_wp2_with fail
  go_ret
  exact ⟨rfl, below_alloc (below_alloc B6.out (Nat.le_refl _) _) (Nat.le_refl _) _⟩
end Go.Proofs.YtadookafnfnaoaaGreatDoor
/- Quote: a text in quotes. -/
namespace Go.Proofs.YtadookafnfnaoaaGreatDoor
open Go.RowKit Ch

/-- UTF-8's tables stand. -/
def U8 (w : World) : Prop := Lib.Utf8Tabs 0 1 w
theorem U8.below {B : Nat} {w w' : World} (h : U8 w) (hb : Below B w w') (h1 : 0 < B) (h2 : 1 < B) : U8 w' :=
  ⟨fun c hc => (hb.cell (p := ⟨0, c, none⟩) h1).trans (h.1 c hc), fun i hi => ⟨(hb.cell (p := ⟨1, 2 * i, none⟩) h2).trans (h.2 i hi).1, (hb.cell (p := ⟨1, 2 * i + 1, none⟩) h2).trans (h.2 i hi).2⟩⟩
def quoteF (s : ByteArray) : List UInt8 × Int := if Lib.validD s.data.toList = true then (Sp.qt s.data.toList, 0) else ([], 10)

set_option maxHeartbeats 4000000 in
theorem quoteT_any (s : ByteArray) (w : World) (hs : 4 * s.size + 2 ≤ 140737488355328) (hT : U8 w) :
    Calls Tryz.prog 14 #[.string s] w fun e w' => e = .returned (.tuple #[.string (Sp.ba (quoteF s).1), .int .i64 (quoteF s).2]) ∧ Below w.heap.size w w' := by
  have HV := Lib.hid (Tryz.utf8_ValidString s w (by omega) hT)
  clear hT
  cases hv : Lib.validD s.data.toList with
  | false =>
    have HE := Lib.hid (show quoteF s = ([], 10) by unfold quoteF; rw [if_neg (by rw [hv]; decide)])
    rw [hv] at HV
    go_enter Tryz.func14, Tryz.ntmps14
    go_wp2_with fail
    refine HV.out.mono ?_
    rintro e w1 ⟨rfl, b1⟩
    go_wp2_with fail
    refine bodyPost_ret (v := .tuple #[.string ⟨#[]⟩, .int .i64 10]) (by simp [results, Tryz.results14, go_sem]) rfl ?_
    rw [HE.out]
    exact ⟨rfl, b1⟩
  | true =>
    have HE := Lib.hid (show quoteF s = (Sp.qt s.data.toList, 0) by unfold quoteF; rw [if_pos hv])
    rw [hv] at HV
    go_enter Tryz.func14, Tryz.ntmps14
    go_wp2_with fail
    refine HV.out.mono ?_
    rintro e w1 ⟨rfl, b1⟩
    have B1 := Lib.hid b1
    obtain ⟨X, hX⟩ : ∃ X, X = w1.alloc (.cells #[.pointer none, .slice none 0 0] 59) := ⟨_, rfl⟩
    have BX := Lib.hid (show Below w.heap.size w X by rw [hX]; exact below_alloc b1 (Nat.le_refl _) _)
    have iX := Lib.hid (show IsB X w1.heap.size w1.heap.size [] by rw [hX]; exact IsB.fresh w1)
    have HX := Lib.hid hX
    have HQ := Lib.hid (quote_any w1.heap.size w1.heap.size [] s X iX.out (by simp only [List.length_nil]; omega))
    have s1 : w.heap.size ≤ w1.heap.size := b1.size
    clear b1 hX
    go_wp2_with fail
    rw [← HX.out]
    refine HQ.out.mono ?_
    rintro e w2 ⟨rfl, q2⟩
    have HS := Lib.hid (Tryz.Builder_String_any_k w1.heap.size w1.heap.size _ w2 q2.is (Nat.le_of_lt (Nat.lt_of_le_of_lt q2.is.base.1 q2.is.base.2)))
    have B2 := Lib.hid (BX.out.trans (q2.keep.below.mono s1))
    clear q2
    go_wp2_with fail
    refine HS.out.mono ?_
    rintro e w3 ⟨rfl, _, b3, _⟩
    go_wp2_with fail
    refine bodyPost_ret (v := .tuple #[.string (Sp.ba (Sp.qt s.data.toList)), .int .i64 0]) (by simp [results, Tryz.results14, go_sem, Sp.ba]) rfl ?_
    rw [HE.out]
    exact ⟨rfl, B2.out.trans (b3.mono s1)⟩
end Go.Proofs.YtadookafnfnaoaaGreatDoor
/- What the program reads of the library. -/
namespace Go.Proofs.YtadookafnfnaoaaGreatDoor
open Go.RowKit Ch

/-- What the program reads of the library stands. -/
structure Std (w : World) : Prop where
  pow : Pow w
  syn : Syn w
  pl : 2 < w.heap.size
  sl : 3 < w.heap.size
theorem Std.keep {w w' : World} (h : Std w) (hb : Below w.heap.size w w') : Std w' :=
  ⟨h.pow.below hb h.pl, h.syn.keep (keep_below (ts := []) hb (Nat.le_refl _)) h.sl, Nat.lt_of_lt_of_le h.pl hb.size, Nat.lt_of_lt_of_le h.sl hb.size⟩

theorem var_lt {w : World} {n : String} {g : Nat} {cs : Array Value} (hg : Tryz.prog.globalNamed n = some g) (h : w.var? Tryz.prog n = some cs) : g < w.heap.size := by
  unfold World.var? at h
  rw [hg, Option.bind_some] at h
  cases hh : w.heap[g]? with
  | none => rw [hh] at h; cases h
  | some o => exact lt_of_heap hh
/-- The powers of ten, laid. -/
theorem pow_of {L : List (String × DataW Unit)} {w : World} (h : laidMet Tryz.prog L w) (hm : ("internal/strconv.uint64pow10", Lib.tabData .u64 Lib.pow10Tab) ∈ L) : Pow w ∧ 2 < w.heap.size := by
  have hg : Tryz.prog.globalNamed "internal/strconv.uint64pow10" = some 2 := by kernel_rfl
  obtain ⟨g, t, cs, fuel, p, h1, h2, h3, h4⟩ := Lib.laidMet.reads h hm
  obtain rfl := Option.some.inj (hg.symm.trans h1)
  have ht : (Tryz.prog.globals[2]?).map (·.type) = some 136 := by kernel_rfl
  obtain rfl := Option.some.inj (ht.symm.trans h2)
  refine ⟨?_, var_lt hg h3⟩
  have := Lib.cells_of_tab Tryz.underlying136 Tryz.underlying122 (by kernel_rfl) (by kernel_rfl) h4
  unfold Pow Lib.TabIs
  rw [h3, ← this]
theorem syn_of {L : List (String × DataW Unit)} {w : World} {n : String} {d : DataW Unit} (h : laidMet Tryz.prog L w) (hm : ("strconv.ErrSyntax", DataW.iface n d) ∈ L) : Syn w ∧ 3 < w.heap.size := by
  have hg : Tryz.prog.globalNamed "strconv.ErrSyntax" = some 3 := by kernel_rfl
  obtain ⟨g, t, cs, fuel, p, h1, h2, h3, h4⟩ := Lib.laidMet.reads h hm
  obtain rfl := Option.some.inj (hg.symm.trans h1)
  have ht : (Tryz.prog.globals[3]?).map (·.type) = some 61 := by kernel_rfl
  obtain rfl := Option.some.inj (ht.symm.trans h2)
  refine ⟨?_, var_lt hg h3⟩
  obtain ⟨_, u, v, e, _⟩ := iface_of_trod Tryz.underlying61 h4
  refine ⟨.iface u v, ?_, .inr ⟨u, v, rfl⟩⟩
  have e2 : cs = #[.iface u v] := by cases cs; simp_all
  rw [World.var?_cell hg h3 0, e2]; rfl
theorem std_of {L : List (String × DataW Unit)} {w : World} {n : String} {d : DataW Unit} (h : laidMet Tryz.prog L w) (h1 : ("internal/strconv.uint64pow10", Lib.tabData .u64 Lib.pow10Tab) ∈ L) (h2 : ("strconv.ErrSyntax", DataW.iface n d) ∈ L) : Std w :=
  ⟨(pow_of h h1).1, (syn_of h h2).1, (pow_of h h1).2, (syn_of h h2).2⟩
theorem u8_of {L : List (String × DataW Unit)} {w : World} (h : laidMet Tryz.prog L w) (h1 : ("unicode/utf8.first", Lib.firstData) ∈ L) (h2 : ("unicode/utf8.acceptRanges", Lib.acceptData) ∈ L) : U8 w ∧ 0 < w.heap.size ∧ 1 < w.heap.size := by
  have X : Go.Proofs.U8Extra Tryz.prog Tryz.laysValid_ren := { n3 := by kernel_rfl, n4 := by kernel_rfl, y3 := by kernel_rfl, y4 := by kernel_rfl, c5 := by kernel_rfl, c119 := by kernel_rfl, c138 := by kernel_rfl }
  have r1 := Lib.laidMet.reads h h1
  have r2 := Lib.laidMet.reads h h2
  refine ⟨utf8Tabs_of_readsT (U8Types.of196 Tryz.laysValid) X r1 r2, ?_, ?_⟩
  · obtain ⟨g, t, cs, fuel, p, h1, h2, h3, h4⟩ := r1
    obtain rfl := Option.some.inj (X.n3.symm.trans h1)
    exact var_lt X.n3 h3
  · obtain ⟨g, t, cs, fuel, p, h1, h2, h3, h4⟩ := r2
    obtain rfl := Option.some.inj (X.n4.symm.trans h1)
    exact var_lt X.n4 h3
end Go.Proofs.YtadookafnfnaoaaGreatDoor
/- The document's own Same, of changesets. -/
namespace Go.Proofs.YtadookafnfnaoaaGreatDoor
open Go.RowKit Ch

theorem refSameB_any (v u : Value) (l m : List (ByteArray × ByteArray)) (w : World) (hv : AtRow w v l) (hu : AtRow w u m) :
    Calls Tryz.prog 51 #[v, u] w (OutB w (sameB l m)) :=
  (refSame_any v u l m w hv hu).mono fun _ _ ⟨h1, k, h2⟩ => ⟨h1, by rw [h2]; exact below_drewN (Below.refl _ _) k⟩

set_option maxRecDepth 100000 in
set_option maxHeartbeats 4000000 in
theorem refSameCh_any (f g : Int) (v u : Value) (l m : List OpD) (w : World) (hv : OpRow w v l) (hu : OpRow w u m) :
    Calls Tryz.prog 21 #[chAgg f v, chAgg g u] w (OutB w (sameCh f g l m)) := by
  obtain ⟨a, cap, rfl, h1, h2, h3⟩ := hv
  obtain ⟨a', cap', rfl, h1', h2', h3'⟩ := hu
  have hn : l.length ≤ 9223372036854775807 := Nat.le_trans h1 h2
  have hn' : m.length ≤ 9223372036854775807 := Nat.le_trans h1' h2'
  have H3 := Lib.hid h3
  have H3' := Lib.hid h3'
  clear h1 h2 h3 h1' h2' h3'
  obtain ⟨W, hW⟩ : ∃ W, W = (w.alloc (.cells #[.int .i64 f, .slice a l.length cap] 24)).alloc (.cells #[.int .i64 g, .slice a' m.length cap'] 24) := ⟨_, rfl⟩
  have BW := Lib.hid (show Below w.heap.size w W by rw [hW]; exact ((Below.refl _ _).alloc (Nat.le_refl _) _).alloc (by simp) _)
  have c0 : W.cell? ⟨w.heap.size, 0, none⟩ = some (.int .i64 f) := by rw [hW]; go_simp
  have c1 : W.cell? ⟨w.heap.size, 1, none⟩ = some (.slice a l.length cap) := by rw [hW]; go_simp
  have d0 : W.cell? ⟨w.heap.size + 1, 0, none⟩ = some (.int .i64 g) := by rw [hW]; go_simp
  have d1 : W.cell? ⟨w.heap.size + 1, 1, none⟩ = some (.slice a' m.length cap') := by rw [hW]; go_simp
  have hWs : w.heap.size + 1 < W.heap.size := by rw [hW]; simp
  have hWs' : w.heap.size < W.heap.size := by omega
  have HW := Lib.hid hW
  clear hW
  by_cases hf : f = g
  · have k1 : (f == g) = true := by rw [beq_iff_eq]; exact hf
    have k2 : (f != g) = false := by rw [hf]; simp
    have HRf := Lib.hid (show sameCh f g l m = sameOps l m by unfold sameCh sameOps; simp [hf])
    clear hf
    by_cases hlen : l.length = m.length
    · have Hlen := Lib.hid hlen
      have hle2 : ((l.length : Int) == (m.length : Int)) = true := by rw [hlen]; simp
      have hle3 : ((l.length : Int) != (m.length : Int)) = false := by rw [hlen]; simp
      clear hlen
      go_enter Tryz.func21, Tryz.ntmps21
      go_wp2_with fail
      rw [← HW.out]
      go_wp2_with fail
      go_loopw [5] (fun i wr => ∃ n : Nat, i = .int .i64 (n : Int) ∧ n ≤ l.length ∧ (∀ j (h1 : j < l.length) (h2 : j < m.length), j < n → l[j] = m[j]) ∧ Below W.heap.size W wr) (fun i _ => l.length - (intOf i).toNat)
      case atStart => exact ⟨0, rfl, by omega, fun j _ _ h => by omega, Below.refl _ _⟩
      case round =>
        obtain ⟨n, rfl, hk, hall, hb⟩ := hrel
        have Hall := Lib.hid hall
        have HB := Lib.hid (BW.out.trans (hb.mono BW.out.size))
        have q1 : wr.cell? ⟨w.heap.size, 1, none⟩ = some (.slice a l.length cap) := (hb.cell (by exact hWs')).trans c1
        have q2 : wr.cell? ⟨w.heap.size + 1, 1, none⟩ = some (.slice a' m.length cap') := (hb.cell (by exact hWs)).trans d1
        clear hall
        by_cases hlt : n < l.length
        · have hlt2 : n < m.length := by have := Hlen.out; omega
          have hlt' : (n : Int) < (l.length : Int) := by omega
          have hlt2' : (n : Int) < (m.length : Int) := by omega
          obtain ⟨b, off, rfl, hbl, xv, r0, _, x0, x1, x2, x3⟩ := H3.out n hlt
          obtain ⟨b', off', rfl, hbl', yv, q0, _, y0, y1, y2, y3⟩ := H3'.out n hlt2
          have step : l[n] = m[n] → ∀ j (h1 : j < l.length) (h2 : j < m.length), j < n + 1 → l[j] = m[j] := fun hh j hj1 hj2 hjk => by
            by_cases e : j = n
            · subst e; exact hh
            · exact Hall.out j hj1 hj2 (by omega)
          have Step := Lib.hid step
          have Bad := Lib.hid (sameOps_at hlt hlt2)
          obtain ⟨x, hx⟩ : ∃ x, x = l[n] := ⟨_, rfl⟩
          obtain ⟨y, hy⟩ : ∃ y, y = m[n] := ⟨_, rfl⟩
          rw [← hx] at r0 x0 x1 x2 Step Bad
          rw [← hy] at q0 y0 y1 y2 Step Bad
          obtain ⟨ar, cr, rfl⟩ := r0.shape
          obtain ⟨at2, cs, rfl⟩ := q0.shape
          have hbw := HB.out
          have x0' := (hbw.cell (p := ⟨b, off + n * 4, none⟩) (by exact hbl)).trans x0
          have x1' := (hbw.cell (p := ⟨b, off + n * 4 + 1, none⟩) (by exact hbl)).trans x1
          have x2' := (hbw.cell (p := ⟨b, off + n * 4 + 2, none⟩) (by exact hbl)).trans x2
          have x3' := (hbw.cell (p := ⟨b, off + n * 4 + 3, none⟩) (by exact hbl)).trans x3
          have y0' := (hbw.cell (p := ⟨b', off' + n * 4, none⟩) (by exact hbl')).trans y0
          have y1' := (hbw.cell (p := ⟨b', off' + n * 4 + 1, none⟩) (by exact hbl')).trans y1
          have y2' := (hbw.cell (p := ⟨b', off' + n * 4 + 2, none⟩) (by exact hbl')).trans y2
          have y3' := (hbw.cell (p := ⟨b', off' + n * 4 + 3, none⟩) (by exact hbl')).trans y3
          have g1 := Nat.lt_of_lt_of_le hbl' hbw.size
          have gq := Nat.lt_of_lt_of_le hWs hb.size
          have hs0 := hbw.size
          have hs1 := hb.size
          obtain ⟨X, hX⟩ : ∃ X, X = (wr.alloc (.cells #[.int .i64 x.kind, .int .i64 x.n, .string x.text, .slice ar x.attrs.length cr] 48)).alloc (.cells #[.int .i64 y.kind, .int .i64 y.n, .string y.text, .slice at2 y.attrs.length cs] 48) := ⟨_, rfl⟩
          have BX := Lib.hid (show Below W.heap.size W X by rw [hX]; exact (hb.alloc hs1 _).alloc (by simp; omega) _)
          have e0 : X.cell? ⟨wr.heap.size, 0, none⟩ = some (.int .i64 x.kind) := by rw [hX]; go_simp
          have e1 : X.cell? ⟨wr.heap.size, 1, none⟩ = some (.int .i64 x.n) := by rw [hX]; go_simp
          have e2 : X.cell? ⟨wr.heap.size, 2, none⟩ = some (.string x.text) := by rw [hX]; go_simp
          have e3 : X.cell? ⟨wr.heap.size, 3, none⟩ = some (.slice ar x.attrs.length cr) := by rw [hX]; go_simp
          have f0 : X.cell? ⟨wr.heap.size + 1, 0, none⟩ = some (.int .i64 y.kind) := by rw [hX]; go_simp
          have f1 : X.cell? ⟨wr.heap.size + 1, 1, none⟩ = some (.int .i64 y.n) := by rw [hX]; go_simp
          have f2 : X.cell? ⟨wr.heap.size + 1, 2, none⟩ = some (.string y.text) := by rw [hX]; go_simp
          have f3 : X.cell? ⟨wr.heap.size + 1, 3, none⟩ = some (.slice at2 y.attrs.length cs) := by rw [hX]; go_simp
          have hXs : wr.heap.size + 1 < X.heap.size := by rw [hX]; simp
          have hXs' : wr.heap.size < X.heap.size := by omega
          have HX := Lib.hid hX
          have bx := BW.out.trans (BX.out.mono BW.out.size)
          have HC := Lib.hid (refSameB_any _ _ x.attrs y.attrs X (r0.below bx) (q0.below bx))
          clear hx hy r0 q0 x0 x1 x2 x3 y0 y1 y2 y3 hb hbw hX step Hall bx
          by_cases hkk : x.kind = y.kind
          · have ka : (x.kind == y.kind) = true := by rw [beq_iff_eq]; exact hkk
            have kb : (x.kind != y.kind) = false := by rw [hkk]; simp
            by_cases hnn : x.n = y.n
            · have na : (x.n == y.n) = true := by rw [beq_iff_eq]; exact hnn
              have nb : (x.n != y.n) = false := by rw [hnn]; simp
              by_cases htt : x.text = y.text
              · have ta : (x.text.toList == y.text.toList) = true := by rw [htt]; simp
                have tb : (x.text.toList != y.text.toList) = false := by rw [htt]; simp
                cases hsb : sameB x.attrs y.attrs with
                | true =>
                  rw [hsb] at HC
                  have S := Lib.hid (Step.out (by have := of_decide_eq_true hsb; cases x; cases y; simp_all))
                  clear hkk hnn htt hsb Step Bad
                  go_wp2_with fail
                  rw [← HX.out]
                  go_wp2_with fail
                  refine HC.out.mono ?_
                  rintro e w2 ⟨rfl, b2⟩
                  have e0' : w2.cell? ⟨wr.heap.size, 0, none⟩ = some (.int .i64 x.kind) := (b2.cell (by exact hXs')).trans e0
                  have e1' : w2.cell? ⟨wr.heap.size, 1, none⟩ = some (.int .i64 x.n) := (b2.cell (by exact hXs')).trans e1
                  have e2' : w2.cell? ⟨wr.heap.size, 2, none⟩ = some (.string x.text) := (b2.cell (by exact hXs')).trans e2
                  have f0' : w2.cell? ⟨wr.heap.size + 1, 0, none⟩ = some (.int .i64 y.kind) := (b2.cell (by exact hXs)).trans f0
                  have f1' : w2.cell? ⟨wr.heap.size + 1, 1, none⟩ = some (.int .i64 y.n) := (b2.cell (by exact hXs)).trans f1
                  have f2' : w2.cell? ⟨wr.heap.size + 1, 2, none⟩ = some (.string y.text) := (b2.cell (by exact hXs)).trans f2
                  have B2 := Lib.hid (BX.out.trans (b2.mono BX.out.size))
                  clear b2 e0 e1 e2 e3 f0 f1 f2 f3
                  go_wp2_with fail
                  go_roundw
                  case rel => exact ⟨n + 1, by go_num, by omega, S.out, B2.out⟩
                  case measure => simp [intOf]; omega
                | false =>
                  rw [hsb] at HC
                  have S := Lib.hid (Bad.out fun e => by rw [e] at hsb; exact absurd (show sameB y.attrs y.attrs = true from decide_eq_true rfl) (by rw [hsb]; decide))
                  clear hkk hnn htt hsb Step Bad
                  go_wp2_with fail
                  rw [← HX.out]
                  go_wp2_with fail
                  refine HC.out.mono ?_
                  rintro e w2 ⟨rfl, b2⟩
                  have e0' : w2.cell? ⟨wr.heap.size, 0, none⟩ = some (.int .i64 x.kind) := (b2.cell (by exact hXs')).trans e0
                  have e1' : w2.cell? ⟨wr.heap.size, 1, none⟩ = some (.int .i64 x.n) := (b2.cell (by exact hXs')).trans e1
                  have e2' : w2.cell? ⟨wr.heap.size, 2, none⟩ = some (.string x.text) := (b2.cell (by exact hXs')).trans e2
                  have f0' : w2.cell? ⟨wr.heap.size + 1, 0, none⟩ = some (.int .i64 y.kind) := (b2.cell (by exact hXs)).trans f0
                  have f1' : w2.cell? ⟨wr.heap.size + 1, 1, none⟩ = some (.int .i64 y.n) := (b2.cell (by exact hXs)).trans f1
                  have f2' : w2.cell? ⟨wr.heap.size + 1, 2, none⟩ = some (.string y.text) := (b2.cell (by exact hXs)).trans f2
                  have B2 := Lib.hid (BX.out.trans (b2.mono BX.out.size))
                  clear b2 e0 e1 e2 e3 f0 f1 f2 f3
                  go_wp2_with fail
                  go_ret
                  exact outB_mk (HRf.out.trans S.out) (BW.out.trans (B2.out.mono BW.out.size))
              · have ta : (x.text.toList == y.text.toList) = false := by rw [beq_text]; exact decide_eq_false htt
                have tb : (x.text.toList != y.text.toList) = true := by rw [bne, ta]; rfl
                have S := Lib.hid (Bad.out fun e => htt (by rw [e]))
                clear hkk hnn htt Step Bad
                go_wp2_with fail
                rw [← HX.out]
                go_wp2_with fail
                refine HC.out.mono ?_
                rintro e w2 ⟨rfl, b2⟩
                have e0' : w2.cell? ⟨wr.heap.size, 0, none⟩ = some (.int .i64 x.kind) := (b2.cell (by exact hXs')).trans e0
                have e1' : w2.cell? ⟨wr.heap.size, 1, none⟩ = some (.int .i64 x.n) := (b2.cell (by exact hXs')).trans e1
                have e2' : w2.cell? ⟨wr.heap.size, 2, none⟩ = some (.string x.text) := (b2.cell (by exact hXs')).trans e2
                have f0' : w2.cell? ⟨wr.heap.size + 1, 0, none⟩ = some (.int .i64 y.kind) := (b2.cell (by exact hXs)).trans f0
                have f1' : w2.cell? ⟨wr.heap.size + 1, 1, none⟩ = some (.int .i64 y.n) := (b2.cell (by exact hXs)).trans f1
                have f2' : w2.cell? ⟨wr.heap.size + 1, 2, none⟩ = some (.string y.text) := (b2.cell (by exact hXs)).trans f2
                have B2 := Lib.hid (BX.out.trans (b2.mono BX.out.size))
                clear b2 e0 e1 e2 e3 f0 f1 f2 f3
                go_wp2_with fail
                go_ret
                exact outB_mk (HRf.out.trans S.out) (BW.out.trans (B2.out.mono BW.out.size))
            · have na : (x.n == y.n) = false := by rw [beq_eq_false_iff_ne]; exact hnn
              have nb : (x.n != y.n) = true := by rw [bne_iff_ne]; exact hnn
              have S := Lib.hid (Bad.out fun e => hnn (by rw [e]))
              clear hkk hnn Step Bad
              go_wp2_with fail
              rw [← HX.out]
              go_wp2_with fail
              refine HC.out.mono ?_
              rintro e w2 ⟨rfl, b2⟩
              have e0' : w2.cell? ⟨wr.heap.size, 0, none⟩ = some (.int .i64 x.kind) := (b2.cell (by exact hXs')).trans e0
              have e1' : w2.cell? ⟨wr.heap.size, 1, none⟩ = some (.int .i64 x.n) := (b2.cell (by exact hXs')).trans e1
              have e2' : w2.cell? ⟨wr.heap.size, 2, none⟩ = some (.string x.text) := (b2.cell (by exact hXs')).trans e2
              have f0' : w2.cell? ⟨wr.heap.size + 1, 0, none⟩ = some (.int .i64 y.kind) := (b2.cell (by exact hXs)).trans f0
              have f1' : w2.cell? ⟨wr.heap.size + 1, 1, none⟩ = some (.int .i64 y.n) := (b2.cell (by exact hXs)).trans f1
              have f2' : w2.cell? ⟨wr.heap.size + 1, 2, none⟩ = some (.string y.text) := (b2.cell (by exact hXs)).trans f2
              have B2 := Lib.hid (BX.out.trans (b2.mono BX.out.size))
              clear b2 e0 e1 e2 e3 f0 f1 f2 f3
              go_wp2_with fail
              go_ret
              exact outB_mk (HRf.out.trans S.out) (BW.out.trans (B2.out.mono BW.out.size))
          · have ka : (x.kind == y.kind) = false := by rw [beq_eq_false_iff_ne]; exact hkk
            have kb : (x.kind != y.kind) = true := by rw [bne_iff_ne]; exact hkk
            have S := Lib.hid (Bad.out fun e => hkk (by rw [e]))
            clear hkk Step Bad
            go_wp2_with fail
            rw [← HX.out]
            go_wp2_with fail
            refine HC.out.mono ?_
            rintro e w2 ⟨rfl, b2⟩
            have e0' : w2.cell? ⟨wr.heap.size, 0, none⟩ = some (.int .i64 x.kind) := (b2.cell (by exact hXs')).trans e0
            have e1' : w2.cell? ⟨wr.heap.size, 1, none⟩ = some (.int .i64 x.n) := (b2.cell (by exact hXs')).trans e1
            have e2' : w2.cell? ⟨wr.heap.size, 2, none⟩ = some (.string x.text) := (b2.cell (by exact hXs')).trans e2
            have f0' : w2.cell? ⟨wr.heap.size + 1, 0, none⟩ = some (.int .i64 y.kind) := (b2.cell (by exact hXs)).trans f0
            have f1' : w2.cell? ⟨wr.heap.size + 1, 1, none⟩ = some (.int .i64 y.n) := (b2.cell (by exact hXs)).trans f1
            have f2' : w2.cell? ⟨wr.heap.size + 1, 2, none⟩ = some (.string y.text) := (b2.cell (by exact hXs)).trans f2
            have B2 := Lib.hid (BX.out.trans (b2.mono BX.out.size))
            clear b2 e0 e1 e2 e3 f0 f1 f2 f3
            go_wp2_with fail
            go_ret
            exact outB_mk (HRf.out.trans S.out) (BW.out.trans (B2.out.mono BW.out.size))
        · have hkn : n = l.length := by omega
          have hs := Lib.hid (sameOps_all Hlen.out fun j h1 h2 => Hall.out j h1 h2 (by omega))
          subst hkn
          clear Hall hb
          go_wp2_with fail
          go_ret
          exact outB_mk (HRf.out.trans hs.out) HB.out
    · have hs := Lib.hid (sameOps_len hlen)
      have hle2 : ((l.length : Int) == (m.length : Int)) = false := by rw [beq_eq_false_iff_ne]; omega
      have hle3 : ((l.length : Int) != (m.length : Int)) = true := by rw [bne_iff_ne]; omega
      clear hlen
      go_enter Tryz.func21, Tryz.ntmps21
      go_wp2_with fail
      rw [← HW.out]
      go_wp2_with fail
      go_ret
      exact outB_mk (HRf.out.trans hs.out) BW.out
  · have k1 : (f == g) = false := by rw [beq_eq_false_iff_ne]; exact hf
    have k2 : (f != g) = true := by rw [bne_iff_ne]; exact hf
    have hR := Lib.hid (show sameCh f g l m = false from decide_eq_false fun e => hf e.1)
    clear hf
    go_enter Tryz.func21, Tryz.ntmps21
    go_wp2_with fail
    rw [← HW.out]
    go_wp2_with fail
    go_ret
    exact outB_mk hR.out BW.out
end Go.Proofs.YtadookafnfnaoaaGreatDoor
/- The document's own normal form, by groups, plain: it is the one normal form. -/
namespace Go.Proofs.YtadookafnfnaoaaGreatDoor
open Go.RowKit Ch

abbrev PA := OpD × Value
structure Grp where
  v : Value
  l : List PA
  g : Int
def dels (g : Int) : List PA := if 0 < g then [(delO g, .slice none 0 0)] else []
def rend : List Grp → List PA → List PA
  | G :: r, k :: ks => G.l ++ dels G.g ++ k :: rend r ks
  | _, _ => []
def fsts (l : List PA) : List OpD := l.map (·.1)
theorem fsts_len (l : List PA) : (fsts l).length = l.length := by simp [fsts]
theorem fsts_append (l m : List PA) : fsts (l ++ m) = fsts l ++ fsts m := by simp [fsts]
theorem fsts_snoc_rev (a l : List PA) (x : PA) : (fsts (a ++ (l ++ [x]))).reverse = x.1 :: (fsts (a ++ l)).reverse := by
  rw [← List.append_assoc, fsts_append, List.reverse_append]; rfl
theorem rend_snoc {init : List Grp} {ks : List PA} (h : init.length = ks.length) (G : Grp) (k : PA) : rend (init ++ [G]) (ks ++ [k]) = rend init ks ++ (G.l ++ dels G.g ++ [k]) := by
  induction init generalizing ks with
  | nil => cases ks with
    | nil => simp [rend]
    | cons _ _ => simp at h
  | cons x r ih => cases ks with
    | nil => simp at h
    | cons y s => simp only [List.cons_append, rend, ih (by simpa using h)]; simp
theorem nil_or_snoc {α : Type} (l : List α) : l = [] ∨ ∃ r x, l = r ++ [x] := by
  rcases List.eq_nil_or_concat l with h | ⟨r, x, h⟩
  · exact .inl h
  · exact .inr ⟨r, x, by simpa using h⟩

/-- The groups on the way stand for the state on the way. -/
structure Rel (init : List Grp) (ks cur : List PA) (g : Int) (s : List OpD × Int) : Prop where
  len : init.length = ks.length
  row : s.1 = (fsts (rend init ks ++ cur)).reverse
  gone : s.2 = g
  g0 : 0 ≤ g
  keep : ∀ k ∈ ks, k.1.kind = 1
  ins : ∀ x ∈ cur, x.1.kind = 2
theorem rel_start : Rel [] [] [] 0 ([], 0) := ⟨rfl, rfl, rfl, Int.le_refl _, (fun _ h => by cases h), (fun _ h => by cases h)⟩
/-- The row's head is the last of the inserts, or the keep ahead of them. -/
theorem Rel.head {init : List Grp} {ks cur : List PA} {g : Int} {s : List OpD × Int} (h : Rel init ks cur g s) :
    (cur = [] ∧ ks = [] ∧ s.1 = []) ∨ (cur = [] ∧ ∃ i0 G k0 k, init = i0 ++ [G] ∧ ks = k0 ++ [k] ∧ s.1 = k.1 :: (fsts (rend i0 k0 ++ (G.l ++ dels G.g))).reverse) ∨
      ∃ c0 x, cur = c0 ++ [x] ∧ s.1 = x.1 :: (fsts (rend init ks ++ c0)).reverse := by
  obtain ⟨h1, h2, _, _, _⟩ := h
  rcases nil_or_snoc cur with rfl | ⟨c0, x, rfl⟩
  · rcases nil_or_snoc ks with rfl | ⟨k0, k, rfl⟩
    · left
      have : init = [] := List.length_eq_zero_iff.1 h1
      subst this
      exact ⟨rfl, rfl, h2⟩
    · rcases nil_or_snoc init with rfl | ⟨i0, G, rfl⟩
      · simp at h1
      · have hl : i0.length = k0.length := by simpa using h1
        right; left
        refine ⟨rfl, i0, G, k0, k, rfl, rfl, ?_⟩
        rw [h2, List.append_nil, rend_snoc hl]
        have := fsts_snoc_rev (rend i0 k0) (G.l ++ dels G.g) k
        simpa [List.append_assoc] using this
  · right; right
    exact ⟨c0, x, rfl, by rw [h2, fsts_snoc_rev]⟩
theorem Rel.ins_new {init : List Grp} {ks cur : List PA} {g : Int} {s : List OpD × Int} (h : Rel init ks cur g s) {o : OpD} (hk : o.kind = 2) (ha : ∀ c0 x, cur = c0 ++ [x] → x.1.attrs ≠ o.attrs) (v : Value) :
    Rel init ks (cur ++ [(o, v)]) g (add s o) := by
  have e : add s o = (put s.1 o, s.2) := by unfold add; rw [if_neg (by omega), if_neg (by omega)]
  have hp : put s.1 o = o :: s.1 := put_fresh fun x r hx hh => by
    rcases h.head with ⟨_, _, h0⟩ | ⟨_, i0, G, k0, k, _, hks, h0⟩ | ⟨c0, y, hc, h0⟩
    · rw [h0] at hx; cases hx
    · rw [h0] at hx
      simp only [List.cons.injEq] at hx
      have := h.keep k (by rw [hks]; simp)
      rw [hx.1] at this
      omega
    · rw [h0] at hx
      simp only [List.cons.injEq] at hx
      exact ha c0 y hc (by rw [hx.1]; exact hh.2)
  rw [e, hp]
  exact ⟨h.len, by rw [fsts_snoc_rev, ← h.row], h.gone, h.g0, h.keep, fun x hx => by
    rcases List.mem_append.1 hx with hx | hx
    · exact h.ins x hx
    · simp only [List.mem_singleton] at hx; subst hx; exact hk⟩
theorem Rel.ins_join {init : List Grp} {ks c0 : List PA} {x : PA} {g : Int} {s : List OpD × Int} (h : Rel init ks (c0 ++ [x]) g s) {o : OpD} (hk : o.kind = 2) (hn : o.n = 0) (ha : x.1.attrs = o.attrs) :
    Rel init ks (c0 ++ [({ x.1 with text := cat x.1.text o.text }, x.2)]) g (add s o) := by
  have e : add s o = (put s.1 o, s.2) := by unfold add; rw [if_neg (by omega), if_neg (by omega)]
  have h2 : x.1.kind = 2 := h.ins x (by simp)
  have hr := h.row
  rw [fsts_snoc_rev] at hr
  have hp : put s.1 o = { x.1 with text := cat x.1.text o.text } :: (fsts (rend init ks ++ c0)).reverse := by
    rw [hr, put, if_pos ⟨by omega, ha⟩]
    have : x.1.n + o.n = x.1.n := by omega
    rw [this]
  rw [e, hp]
  exact ⟨h.len, by rw [fsts_snoc_rev], h.gone, h.g0, h.keep, fun y hy => by
    rcases List.mem_append.1 hy with hy | hy
    · exact h.ins y (List.mem_append_left _ hy)
    · simp only [List.mem_singleton] at hy; subst hy; exact h2⟩
theorem Rel.del {init : List Grp} {ks cur : List PA} {g : Int} {s : List OpD × Int} (h : Rel init ks cur g s) {o : OpD} (hk : o.kind = 3) (hn : 0 ≤ o.n) : Rel init ks cur (g + o.n) (add s o) := by
  have e : add s o = (s.1, s.2 + o.n) := by unfold add; rw [if_pos hk]
  rw [e]
  exact ⟨h.len, h.row, by rw [← h.gone], by have := h.g0; omega, h.keep, h.ins⟩
theorem Rel.flush {init : List Grp} {ks cur : List PA} {g : Int} {s : List OpD × Int} (h : Rel init ks cur g s) (hs : St s) : Ch.flush s = (fsts (rend init ks ++ (cur ++ dels g))).reverse := by
  unfold Ch.flush dels
  rw [h.gone]
  split
  · rw [put_fresh fun x r e h3 => hs.2 x r e h3.1, h.row, fsts_snoc_rev]
  · rw [h.row, List.append_nil]
theorem Rel.keep_join {init : List Grp} {k0 : List PA} {x : PA} {s : List OpD × Int} (h : Rel init (k0 ++ [x]) [] 0 s) (_hs : St s) {o : OpD} (hk : o.kind = 1) (ht : o.text.size = 0) (ha : x.1.attrs = o.attrs) :
    Rel init (k0 ++ [({ x.1 with n := x.1.n + o.n }, x.2)]) [] 0 (add s o) := by
  have h1 : x.1.kind = 1 := h.keep x (by simp)
  rcases nil_or_snoc init with rfl | ⟨i0, G, rfl⟩
  · have := h.len; simp at this
  have hl : i0.length = k0.length := by simpa using h.len
  have e : add s o = (put (Ch.flush s) o, 0) := by unfold add; rw [if_neg (by omega), if_pos hk]
  have hf : Ch.flush s = s.1 := by unfold Ch.flush; rw [if_neg (by rw [h.gone]; omega)]
  have hr : s.1 = x.1 :: (fsts (rend i0 k0 ++ (G.l ++ dels G.g))).reverse := by
    rw [h.row, List.append_nil, rend_snoc hl]
    have := fsts_snoc_rev (rend i0 k0) (G.l ++ dels G.g) x
    simpa [List.append_assoc] using this
  have hp : put (Ch.flush s) o = { x.1 with n := x.1.n + o.n } :: (fsts (rend i0 k0 ++ (G.l ++ dels G.g))).reverse := by
    rw [hf, hr, put, if_pos ⟨by omega, ha⟩, cat_nil ht]
  rw [e, hp]
  refine ⟨by simpa using h.len, ?_, rfl, Int.le_refl _, fun k hk' => ?_, fun y hy => by cases hy⟩
  · show _ = (fsts (rend (i0 ++ [G]) _ ++ [])).reverse
    rw [List.append_nil, rend_snoc hl]
    have := fsts_snoc_rev (rend i0 k0) (G.l ++ dels G.g) ({ x.1 with n := x.1.n + o.n }, x.2)
    simpa [List.append_assoc] using this.symm
  · rcases List.mem_append.1 hk' with hk' | hk'
    · exact h.keep k (List.mem_append_left _ hk')
    · simp only [List.mem_singleton] at hk'; subst hk'; exact h1
theorem Rel.keep_new {init : List Grp} {ks cur : List PA} {g : Int} {s : List OpD × Int} (h : Rel init ks cur g s) (hs : St s) {o : OpD} (hk : o.kind = 1)
    (ha : cur = [] → g = 0 → ∀ k0 x, ks = k0 ++ [x] → x.1.attrs ≠ o.attrs) (v v' : Value) : Rel (init ++ [⟨v, cur, g⟩]) (ks ++ [(o, v')]) [] 0 (add s o) := by
  have e : add s o = (put (Ch.flush s) o, 0) := by unfold add; rw [if_neg (by omega), if_pos hk]
  have hf := h.flush hs
  have hp : put (Ch.flush s) o = o :: Ch.flush s := put_fresh fun x r hx hh => by
    rw [hf] at hx
    by_cases hg : 0 < g
    · unfold dels at hx
      rw [if_pos hg, fsts_snoc_rev] at hx
      simp only [List.cons.injEq] at hx
      have h3 : (delO g).kind = 3 := rfl
      rw [hx.1] at h3
      omega
    · have hg0 : g = 0 := by have := h.g0; omega
      unfold dels at hx
      rw [if_neg hg, List.append_nil, ← h.row] at hx
      rcases h.head with ⟨_, _, h0⟩ | ⟨hc, i0, G, k0, k, _, hks, h0⟩ | ⟨c0, y, hc, h0⟩
      · rw [h0] at hx; cases hx
      · rw [h0] at hx
        simp only [List.cons.injEq] at hx
        exact ha hc hg0 k0 k hks (by rw [hx.1]; exact hh.2)
      · rw [h0] at hx
        simp only [List.cons.injEq] at hx
        have := h.ins y (by rw [hc]; simp)
        rw [hx.1] at this
        omega
  rw [e, hp, hf]
  refine ⟨by simp [h.len], ?_, rfl, Int.le_refl _, fun k hk' => ?_, fun y hy => by cases hy⟩
  · rw [List.append_nil, rend_snoc h.len]
    have := fsts_snoc_rev (rend init ks) (cur ++ dels g) (o, v')
    simpa [List.append_assoc] using this.symm
  · rcases List.mem_append.1 hk' with hk' | hk'
    · exact h.keep k hk'
    · simp only [List.mem_singleton] at hk'; subst hk'; exact hk
/-- What is put together in the end. -/
def trimF (l : List PA) : List PA := match l.getLast? with
  | some x => if x.1.kind = 1 ∧ x.1.attrs.length = 0 then l.dropLast else l
  | none => l
theorem trimF_snoc (l : List PA) (x : PA) : trimF (l ++ [x]) = if x.1.kind = 1 ∧ x.1.attrs.length = 0 then l else l ++ [x] := by
  unfold trimF
  simp
theorem norm_of {init : List Grp} {ks cur : List PA} {g : Int} {ops : List OpD} (h : Rel init ks cur g (fold ops)) (hs : St (fold ops)) : norm ops = fsts (trimF (rend init ks ++ (cur ++ dels g))) := by
  unfold norm
  rw [h.flush hs]
  rcases nil_or_snoc (rend init ks ++ (cur ++ dels g)) with h0 | ⟨r, x, h0⟩
  · rw [h0]; rfl
  · rw [h0, trimF_snoc]
    have e : (fsts (r ++ [x])).reverse = x.1 :: (fsts r).reverse := by simp [fsts]
    rw [e, trim]
    split
    · rw [List.reverse_reverse]
    · rw [List.reverse_cons, List.reverse_reverse]; simp [fsts]
/-- How many there are on the way, and how large. -/
theorem Rel.lim {init : List Grp} {ks cur : List PA} {g : Int} {s : List OpD × Int} (h : Rel init ks cur g s) {k : Nat} (hl : Lim k s) (hk : k ≤ 2000) :
    cur.length ≤ 2000 ∧ ks.length ≤ 2000 ∧ g ≤ 40000000 ∧ (∀ x ∈ cur, x.1.text.size ≤ 160000000) ∧ (∀ x ∈ ks, 0 ≤ x.1.n ∧ x.1.n ≤ 40000000) := by
  have h1 : s.1.length ≤ 2000 := by have := hl.siz; unfold siz at this; omega
  have h2 : s.1.length = (rend init ks).length + cur.length := by rw [h.row]; simp [fsts_len]
  have hr : ∀ (i : List Grp) (l : List PA), i.length = l.length → l.length ≤ (rend i l).length ∧ ∀ x ∈ l, x ∈ rend i l := by
    intro i
    induction i with
    | nil => intro l hl; cases l with
      | nil => exact ⟨Nat.le_refl _, fun x hx => by cases hx⟩
      | cons _ _ => simp at hl
    | cons a r ih => intro l hl; cases l with
      | nil => simp at hl
      | cons y t =>
        obtain ⟨i1, i2⟩ := ih t (by simpa using hl)
        rw [rend]
        refine ⟨by simp; omega, fun x hx => ?_⟩
        rcases List.mem_cons.1 hx with rfl | hx
        · simp
        · exact List.mem_append_right _ (List.mem_cons_of_mem _ (i2 x hx))
  obtain ⟨r1, r2⟩ := hr init ks h.len
  have mem : ∀ x : PA, x ∈ rend init ks ++ cur → x.1 ∈ s.1 := fun x hx => by
    rw [h.row, List.mem_reverse]
    exact List.mem_map.2 ⟨x, hx, rfl⟩
  refine ⟨by omega, by omega, by have := hl.g1; rw [h.gone] at this; omega, fun x hx => ?_, fun x hx => ?_⟩
  · have := hl.ops x.1 (mem x (List.mem_append_right _ hx)); omega
  · have := hl.ops x.1 (mem x (List.mem_append_left _ (r2 x hx))); omega
end Go.Proofs.YtadookafnfnaoaaGreatDoor
