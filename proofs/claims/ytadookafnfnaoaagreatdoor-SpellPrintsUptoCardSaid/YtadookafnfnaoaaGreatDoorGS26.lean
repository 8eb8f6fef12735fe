import Derived.Test.YtadookafnfnaoaaGreatDoorGS23
import Derived.Test.YtadookafnfnaoaaGreatDoorGS15
import Derived.Test.YtadookafnfnaoaaGreatDoorGS25
import Derived.Test.YtadookafnfnaoaaGreatDoorGS4
import Derived.Test.YtadookafnfnaoaaGreatDoorGS9
/- The law SpellPrints, walked. -/
namespace Go.Proofs.YtadookafnfnaoaaGreatDoor
open Go.RowKit Ch

set_option maxRecDepth 100000 in
set_option maxHeartbeats 8000000 in
theorem prints_walk4 (f : Int) (v : Value) (ops : List OpD) (s : ByteArray) (w : World) (hv : OpRow w v ops) (hz : SmallO ops) (hsz : s.size ≤ 1048576) (hs : Std w) (hu : U8 w) (hg1 : 0 < w.heap.size) (hg2 : 1 < w.heap.size) :
    Calls Tryz.prog 3 #[chAgg f v, .string s] w (OutB w true) := by
  have HV := Lib.hid hv
  have HZ := Lib.hid hz
  have HSZ := Lib.hid (small_sized hz)
  have HTS := Lib.hid (small_t hz)
  have HS := Lib.hid hs
  have HU := Lib.hid (fun X (hb : Below w.heap.size w X) => U8.below hu hb hg1 hg2)
  obtain ⟨aa, acap, rfl⟩ := hv.shape
  obtain ⟨W, hW⟩ : ∃ W, W = w.alloc (.cells #[.int .i64 f, .slice aa ops.length acap] 24) := ⟨_, rfl⟩
  have bW := show Below w.heap.size w W by rw [hW]; exact below_box _ _
  have B0 := Lib.hid bW
  have K0 := Lib.hid (show Boxes W [(w.heap.size, #[.int .i64 f, .slice aa ops.length acap])] by rw [hW]; have := (show Boxes w [] from fun x hx => by cases hx).more #[.int .i64 f, .slice aa ops.length acap]; simpa using this)
  have HW := Lib.hid hW
  have SW := hs.keep bW
  have HAW := Lib.hid (awake4_any W SW.pow SW.syn SW.pl SW.sl)
  clear hv hz hW bW SW hs hu
  go_enter Tryz.func3, Tryz.ntmps3
  go_wp2_with fail
  rw [← HW.out]
  refine HAW.out.mono ?_
  rintro e w1 ⟨rfl, b1⟩
  have B1 := Lib.hid (B0.out.trans (b1.mono B0.out.size))
  have K1 := Lib.hid (K0.out.below b1)
  obtain ⟨c0, c1, c2⟩ := K1.out.at (b := w.heap.size) (u := .int .i64 f) (v := .slice aa ops.length acap) (by simp)
  have HC := Lib.hid (lentC_any f (.slice aa ops.length acap) ops w1 (HV.out.below B1.out) HZ.out)
  clear b1
  go_wp2_with fail
  refine HC.out.mono ?_
  rintro e w2 ⟨gg, gc, ps, rfl, hps, L2, b2⟩
  have HPS := Lib.hid hps
  have hln : ps.length = ops.length := by rw [← hps]; simp
  have hgE : gg < w2.heap.size := (L2.row.lt gg rfl).2
  have haE := Lib.hid (fun q (hq : q ∈ ps) j (hj : q.2.ownBlock = some j) => ((L2.att q hq).lt j hj).2)
  have B2 := Lib.hid (B1.out.trans (b2.mono B1.out.size))
  have K2 := Lib.hid (K1.out.below b2)
  have s12 := b2.size
  have s01 := B1.out.size
  obtain ⟨X2, hX2⟩ : ∃ X, X = w2.alloc (.cells #[.int .i64 f, .slice (some ⟨gg, 0, none⟩) ops.length gc] 24) := ⟨_, rfl⟩
  have bx := show Below w2.heap.size w2 X2 by rw [hX2]; exact below_box _ _
  have KX2 := Lib.hid (show Boxes X2 [(w.heap.size, #[.int .i64 f, .slice aa ops.length acap]), (w2.heap.size, #[.int .i64 f, .slice (some ⟨gg, 0, none⟩) ops.length gc])] by rw [hX2]; exact K2.out.more _)
  have LX2 := Lib.hid (L2.below bx)
  have BX2 := Lib.hid (B2.out.trans (bx.mono B2.out.size))
  have HX2 := Lib.hid hX2
  have hin : OpRow X2 (.slice (some ⟨gg, 0, none⟩) ops.length gc) ops := by
    have := LX2.out.ops
    rw [hln, HPS.out] at this
    exact this
  have S2 := HS.out.keep BX2.out
  have HN := Lib.hid (print_any f (.slice (some ⟨gg, 0, none⟩) ops.length gc) ops X2 hin HSZ.out S2.pow S2.pl)
  have sx2 : X2.heap.size = w2.heap.size + 1 := by rw [hX2]; simp
  have SX2 := Lib.hid sx2
  clear hps L2 b2 bx hX2 hin c0 c1 hln sx2 S2
  go_wp2_with fail
  rw [← HX2.out]
  refine HN.out.mono ?_
  clear HN
  rintro e w3 ⟨rfl, b3⟩
  have B3 := Lib.hid (BX2.out.trans (b3.mono BX2.out.size))
  have Y3 := Lib.hid b3
  have K3 := Lib.hid (KX2.out.below b3)
  have s3 := b3.size
  obtain ⟨l0, l1, l2⟩ := K3.out.at (b := w2.heap.size) (u := .int .i64 f) (v := .slice (some ⟨gg, 0, none⟩) ops.length gc) (by simp)
  obtain ⟨m0, m1, m2⟩ := K3.out.at (b := w.heap.size) (u := .int .i64 f) (v := .slice aa ops.length acap) (by simp)
  have HN := Lib.hid (keptC_any f (.slice aa ops.length acap) ops w1.heap.size w2.heap.size gg gc ps w w3 (LX2.out.below b3) HPS.out HV.out B3.out s01 HZ.out hgE haE.out (by have := SX2.out; omega))
  clear b3
  generalize hpf : Sp.printF f ops = pf at *
  have HPF := Lib.hid hpf
  clear hpf
  go_wp2_with fail
  refine HN.out.mono ?_
  clear HN l0 l1 l2 m0 m1 m2
  rintro e w4 ⟨rfl, S4⟩
  have z2 := SX2.out
  have B4 := Lib.hid (B3.out.trans (S4.below.mono s01))
  have K4 := Lib.hid (K3.out.span S4 (by
    intro x hx
    simp only [List.mem_cons, List.not_mem_nil, or_false] at hx
    rcases hx with rfl | rfl <;> (simp only; omega)))
  have HN := Lib.hid (quoteT_any s w4 (by omega) (HU.out w4 B4.out))
  clear S4
  go_wp2_with fail
  refine HN.out.mono ?_
  clear HN
  rintro e w5 ⟨rfl, b5⟩
  have B5 := Lib.hid (B4.out.trans (b5.mono B4.out.size))
  have K5 := Lib.hid (K4.out.below b5)
  obtain ⟨m0, m1, m2⟩ := K5.out.at (b := w.heap.size) (u := .int .i64 f) (v := .slice aa ops.length acap) (by simp)
  have HN := Lib.hid (refPrint_any f (.slice aa ops.length acap) ops w5 (HV.out.below B5.out) HSZ.out HTS.out)
  unfold PrintOut at HN
  rw [HPF.out] at HN
  clear b5
  go_wp2_with fail
  refine HN.out.mono ?_
  clear HN m0 m1 m2
  rintro e w6 ⟨rfl, b6⟩
  have B6 := Lib.hid (B5.out.trans (b6.mono B5.out.size))
  have HN := Lib.hid (refQuoteT_any s w6 hsz)
  clear b6
  go_wp2_with fail
  refine HN.out.mono ?_
  clear HN
  rintro e w7 ⟨rfl, b7⟩
  have B7 := Lib.hid (B6.out.trans (b7.mono B6.out.size))
  clear b7
  have t1 : (pf.2 == pf.2) = true := by simp
  have t2 : (pf.1 == pf.1) = true := by simp
  have t3 : ((Sp.ba pf.2).toList == (Sp.ba pf.2).toList) = true := by simp
  have t4 : ((Sp.ba (quoteF s).1).toList == (Sp.ba (quoteF s).1).toList) = true := by simp
  have t5 : ((quoteF s).2 == (quoteF s).2) = true := by simp
  go_wp2_with fail
  go_ret
  exact ⟨rfl, B7.out⟩
end Go.Proofs.YtadookafnfnaoaaGreatDoor
/- An argument opened: a whole number. -/
namespace Go.Proofs.YtadookafnfnaoaaGreatDoor
open Go.RowKit Go.ChangeShapes Go.WideShapes Go.Deep Go.Joins

set_option maxRecDepth 100000 in
theorem open_intC {H : Type} {enc : TypeId × Value → H} {W : World} {base : Nat} {v : Value} {d : DataW H} {p : List MemPlace} (hv : Value.okWide Tryz.prog W .any base 3 v)
    (h : DataW.Trod enc Tryz.prog W 0 (fun _ => true) true 3 v d p) : ∃ n : Int, v = .int .i64 n ∧ -9223372036854775808 ≤ n ∧ n ≤ 9223372036854775807 := by
  obtain ⟨n, e, _, _, hw⟩ := open_int Tryz.underlying3 hv h
  simp only [Lit.wf, IntKind.min, IntKind.max, IntKind.signed, IntKind.bits, Bool.and_eq_true, decide_eq_true_eq, if_true] at hw
  exact ⟨n, e, by omega, by omega⟩
end Go.Proofs.YtadookafnfnaoaaGreatDoor
/- The document's reader: its block in memory; what its smallest methods do. -/
namespace Go.Proofs.YtadookafnfnaoaaGreatDoor
open Go.RowKit Ch

abbrev QT : TypeId := 76
/-- The document's reader in block b: at k of the text s, x the place of the first wrong thing (below 0: none). -/
def RxAt (w : World) (b : Nat) (s : ByteArray) (k : Nat) (x : Int) : Prop := w.heap[b]? = some (.cells #[.string s, .int .i64 k, .int .i64 x] 76 (0, 0)) ∧ k ≤ s.size ∧ s.size ≤ maxLen
theorem RxAt.c0 {w : World} {b k : Nat} {s : ByteArray} {x : Int} (h : RxAt w b s k x) : w.cell? ⟨b, 0, none⟩ = some (.string s) := (Lib.cell_of_heap h.1 0).trans rfl
theorem RxAt.c1 {w : World} {b k : Nat} {s : ByteArray} {x : Int} (h : RxAt w b s k x) : w.cell? ⟨b, 1, none⟩ = some (.int .i64 k) := (Lib.cell_of_heap h.1 1).trans rfl
theorem RxAt.c2 {w : World} {b k : Nat} {s : ByteArray} {x : Int} (h : RxAt w b s k x) : w.cell? ⟨b, 2, none⟩ = some (.int .i64 x) := (Lib.cell_of_heap h.1 2).trans rfl
theorem RxAt.free {w : World} {b k : Nat} {s : ByteArray} {x : Int} (h : RxAt w b s k x) (i : Nat) : w.frozen? ⟨b, i, none⟩ = false := Joins.unfrozen_of_block h.1 i
theorem RxAt.drewN {w : World} {b k : Nat} {s : ByteArray} {x : Int} (h : RxAt w b s k x) (n : Nat) : RxAt (w.drewN n) b s k x := h
/-- It goes on. -/
theorem RxAt.step {w : World} {b k : Nat} {s : ByteArray} {x : Int} (h : RxAt w b s k x) (j : Nat) (hj : j ≤ s.size) : RxAt (w.setCell ⟨b, 1, none⟩ (.int .i64 j)) b s j x ∧ Keep b [QT] w (w.setCell ⟨b, 1, none⟩ (.int .i64 j)) :=
  ⟨⟨(Joins.block_setCell h.1 _).trans rfl, hj, h.2.2⟩, keep_set h.1 (List.mem_singleton.2 rfl) (Nat.le_refl _) _ rfl _⟩
/-- It notes what is wrong. -/
theorem RxAt.note {w : World} {b k : Nat} {s : ByteArray} {x : Int} (h : RxAt w b s k x) (y : Int) : RxAt (w.setCell ⟨b, 2, none⟩ (.int .i64 y)) b s k y ∧ Keep b [QT] w (w.setCell ⟨b, 2, none⟩ (.int .i64 y)) :=
  ⟨⟨(Joins.block_setCell h.1 _).trans rfl, h.2⟩, keep_set h.1 (List.mem_singleton.2 rfl) (Nat.le_refl _) _ rfl _⟩
theorem RxAt.later {w w' : World} {b k : Nat} {s : ByteArray} {x : Int} (h : RxAt w b s k x) (hb : Below w.heap.size w w') : RxAt w' b s k x := ⟨(hb.block _ (lt_of_heap h.1)).trans h.1, h.2⟩

/-- The first wrong thing counts. -/
def noted (y x : Int) : Int := if x < 0 then y else x
theorem noted_live {y x : Int} (h : x < 0) : noted y x = y := if_pos h
theorem noted_dead {y x : Int} (h : 0 ≤ x) : noted y x = x := if_neg (by omega)
theorem bad_any (b : Nat) (s : ByteArray) (k : Nat) (x y : Int) (w : World) (h : RxAt w b s k x) :
    Calls Tryz.prog 72 #[.pointer (some ⟨b, 0, none⟩), .int .i64 y] w fun e w' => e = .returned (.tuple #[]) ∧ RxAt w' b s k (noted y x) ∧ Keep b [QT] w w' := by
  have c2 := h.c2
  have f2 := h.free 2
  have H := Lib.hid h
  by_cases hx : x < 0
  · rw [noted_live hx]
    have HX := Lib.hid hx
    clear h
    go_enter Tryz.func72, Tryz.ntmps72
    go_wp2_with fail
    go_end0
    exact ⟨rfl, H.out.note y⟩
  · rw [noted_dead (by omega)]
    clear h
    go_enter Tryz.func72, Tryz.ntmps72
    go_wp2_with fail
    go_end0
    exact ⟨rfl, H.out, Keep.refl _ _ _⟩

/-- What the document's next sees. -/
def nxt (s : ByteArray) (k : Nat) (x : Int) : UInt8 := if x < 0 then (rst s k).headD 0 else 0
theorem next_any (b : Nat) (s : ByteArray) (k : Nat) (x : Int) (w : World) (h : RxAt w b s k x) :
    Calls Tryz.prog 71 #[.pointer (some ⟨b, 0, none⟩)] w fun e w' => e = .returned (.int .u8 (nxt s k x).toNat) ∧ ∃ n, w' = w.drewN n := by
  have c0 := h.c0
  have c1 := h.c1
  have c2 := h.c2
  have h2 : s.size ≤ 9223372036854775807 := h.2.2
  clear h
  by_cases hx : x < 0
  · have hx' : ¬ 0 ≤ x := by omega
    by_cases hlt : k < s.size
    · have Hr := Lib.hid (show nxt s k x = s[k] by unfold nxt; rw [if_pos hx, rst_cons hlt]; rfl)
      have hlt' : (k : Int) < (s.size : Int) := by omega
      have hge' : ¬ (s.size : Int) ≤ (k : Int) := by omega
      go_enter Tryz.func71, Tryz.ntmps71
      go_wp2_with fail
      go_quiet (fail)
      go_wp2_with fail
      go_quiet (fail)
      go_wp2_with fail
      go_ret
      exact ⟨by rw [Hr.out]; rfl, _, World.drewN_drewN _ _ _⟩
    · have Hr := Lib.hid (show nxt s k x = 0 by unfold nxt; rw [if_pos hx, rst_nil (by omega)]; rfl)
      have hge' : (s.size : Int) ≤ (k : Int) := by omega
      go_enter Tryz.func71, Tryz.ntmps71
      go_wp2_with fail
      go_quiet (fail)
      go_wp2_with fail
      go_ret
      exact ⟨by rw [Hr.out]; rfl, _, rfl⟩
  · have Hr := Lib.hid (show nxt s k x = 0 by unfold nxt; rw [if_neg hx])
    have hx' : 0 ≤ x := by omega
    go_enter Tryz.func71, Tryz.ntmps71
    go_wp2_with fail
    go_quiet (fail)
    go_wp2_with fail
    go_ret
    exact ⟨by rw [Hr.out]; rfl, _, rfl⟩

/-- How a method of the document's reader ends: nothing is wrong yet, and it goes on as R says; or something is wrong, and it stays. -/
def RxGo {α : Type} (b : Nat) (s : ByteArray) (k : Nat) (r : Sp.R α) (val : α → World → Value → Prop) (any : World → Value → Prop) (w : World) (e : Ending) (w' : World) : Prop :=
  ∃ u, e = .returned u ∧ Keep b [QT] w w' ∧ match r with
    | .ok v n => val v w' u ∧ RxAt w' b s (k + n) (-1)
    | .bad m => any w' u ∧ ∃ j, RxAt w' b s j ((k + m : Nat) : Int)
/-- Something is wrong already: it stays. -/
def RxDead (b : Nat) (s : ByteArray) (x : Int) (any : World → Value → Prop) (w : World) (e : Ending) (w' : World) : Prop :=
  ∃ u, e = .returned u ∧ Keep b [QT] w w' ∧ any w' u ∧ ∃ j, RxAt w' b s j x

theorem nxt_dead {s : ByteArray} {k : Nat} {x : Int} (h : 0 ≤ x) : nxt s k x = 0 := by unfold nxt; rw [if_neg (by omega)]
theorem nxt_live (s : ByteArray) (k : Nat) : nxt s k (-1) = (rst s k).headD 0 := by unfold nxt; rw [if_pos (by omega)]

theorem RxAt.at {w : World} {b k : Nat} {s : ByteArray} {x : Int} (h : RxAt w b s k x) : w.cell? ⟨b, 0, none⟩ = some (.string s) ∧ w.cell? ⟨b, 1, none⟩ = some (.int .i64 k) ∧ w.cell? ⟨b, 2, none⟩ = some (.int .i64 x) := ⟨h.c0, h.c1, h.c2⟩
theorem u8_ne {x c : UInt8} (h : x ≠ c) : ((x.toNat : Int) == (c.toNat : Int)) = false := by rw [b_beq, decide_eq_false h]
theorem u8_eq {x c : UInt8} (h : x = c) : ((x.toNat : Int) == (c.toNat : Int)) = true := by rw [b_beq, decide_eq_true h]

set_option maxHeartbeats 1000000 in
theorem mustB_any (b : Nat) (s : ByteArray) (k : Nat) (x : Int) (c : UInt8) (w : World) (h : RxAt w b s k x) (hc : nxt s k x ≠ c) :
    Calls Tryz.prog 70 #[.pointer (some ⟨b, 0, none⟩), .int .u8 c.toNat] w fun e w' => e = .returned (.tuple #[]) ∧ RxAt w' b s k (noted k x) ∧ Keep b [QT] w w' := by
  have HN := Lib.hid fun n => next_any b s k x (w.drewN n) (h.drewN n)
  have H := Lib.hid h
  obtain ⟨c0, c1, c2⟩ := h.at
  have h2 : s.size ≤ 9223372036854775807 := h.2.2
  have HB := Lib.hid fun n => bad_any b s k x k (w.drewN n) (H.out.drewN n)
  have hq := u8_ne hc
  have hq2 : ¬ (((nxt s k x).toNat : Int) = (c.toNat : Int)) := by rw [beq_eq_false_iff_ne] at hq; exact hq
  generalize nxt s k x = d at *
  clear h hc
  go_enter Tryz.func70, Tryz.ntmps70
  go_wp2_with fail
  go_quiet ((go_at_call 71; exact Calls.quiet_of (HN.out _)))
  go_wp2_with fail
  refine (HB.out _).mono ?_
  rintro e w1 ⟨rfl, r1, k1⟩
  go_wp2_with fail
  refine bodyPost_ret (results_none rfl _ _ _) rfl ?_
  exact ⟨rfl, r1, (keep_drewN (Keep.refl _ _ _) _).trans k1⟩

set_option maxHeartbeats 1000000 in
theorem mustX_any (b : Nat) (s : ByteArray) (k : Nat) (c : UInt8) (w : World) (h : RxAt w b s k (-1)) (hc : c ≠ 0) :
    Calls Tryz.prog 70 #[.pointer (some ⟨b, 0, none⟩), .int .u8 c.toNat] w (RxGo b s k (Sp.must c (rst s k)) (fun _ _ u => u = .tuple #[]) (fun _ u => u = .tuple #[]) w) := by
  by_cases hlc : ∃ hlt : k < s.size, s[k] = c
  · obtain ⟨hlt, hce⟩ := hlc
    have HN := Lib.hid fun n => next_any b s k (-1) (w.drewN n) (h.drewN n)
    rw [nxt_live] at HN
    have H := Lib.hid h
    obtain ⟨c0, c1, c2⟩ := h.at
    have f1 := h.free 1
    have h2 : s.size ≤ 9223372036854775807 := h.2.2
    have hr := rst_cons hlt
    have hlt' : (k : Int) < (s.size : Int) := by omega
    have hge' : decide ((s.size : Int) ≤ (k : Int)) = false := decide_eq_false (by omega)
    have HG := Lib.hid (show Sp.must c (rst s k) = .ok () 1 by unfold Sp.must; rw [hr, if_pos (by rw [List.head?_cons, hce])])
    rw [hr, List.headD_cons, hce] at HN
    have hq := u8_eq (rfl : c = c)
    have hwr := IntWalk.i64_in ((k : Int) + 1) (by omega)
    clear h hr hce
    go_enter Tryz.func70, Tryz.ntmps70
    go_wp2_with fail
    go_quiet ((go_at_call 71; exact Calls.quiet_of (HN.out _)))
    go_wp2_with fail
    go_end0
    unfold RxGo
    rw [HG.out]
    exact ⟨_, rfl, keep_drewN (Keep.refl _ _ _) _ |>.trans (((H.out.drewN _).step (k + 1) (by omega)).2), rfl, ((H.out.drewN _).step (k + 1) (by omega)).1⟩
  · have hh : ¬ (rst s k).head? = some c := fun e => by
      rcases Nat.lt_or_ge k s.size with hlt | hge
      · rw [rst_cons hlt, List.head?_cons] at e
        exact hlc ⟨hlt, Option.some.inj e⟩
      · rw [rst_nil hge] at e
        cases e
    refine (mustB_any b s k (-1) c w h ?_).mono ?_
    · rw [nxt_live]
      intro e
      cases hr : rst s k with
      | nil => rw [hr] at e; exact hc e.symm
      | cons y t => rw [hr] at e hh; exact hh (by rw [List.head?_cons]; exact congrArg some e)
    · rintro e w' ⟨rfl, r, kk⟩
      unfold RxGo
      rw [show Sp.must c (rst s k) = .bad 0 by unfold Sp.must; rw [if_neg hh]]
      exact ⟨_, rfl, kk, rfl, k, by rw [noted_live (by omega)] at r; simpa using r⟩
theorem mustD_any (b : Nat) (s : ByteArray) (k : Nat) (x : Int) (c : UInt8) (w : World) (h : RxAt w b s k x) (hx : 0 ≤ x) (hc : c ≠ 0) :
    Calls Tryz.prog 70 #[.pointer (some ⟨b, 0, none⟩), .int .u8 c.toNat] w (RxDead b s x (fun _ u => u = .tuple #[]) w) := by
  refine (mustB_any b s k x c w h (by rw [nxt_dead hx]; exact fun e => hc e.symm)).mono ?_
  rintro e w' ⟨rfl, r, kk⟩
  rw [noted_dead hx] at r
  exact ⟨_, rfl, kk, rfl, k, r⟩
end Go.Proofs.YtadookafnfnaoaaGreatDoor
/- The document's reader: digit. -/
namespace Go.Proofs.YtadookafnfnaoaaGreatDoor
open Go.RowKit Ch

abbrev hexs : ByteArray := ⟨#[48, 49, 50, 51, 52, 53, 54, 55, 56, 57, 97, 98, 99, 100, 101, 102]⟩
theorem hexs_at : ∀ n (h : n < 16), hexs[n]'h = Sp.hexd n := by decide
set_option maxRecDepth 100000 in
set_option maxHeartbeats 2000000 in
theorem digitX_any (b : Nat) (s : ByteArray) (k : Nat) (x : Int) (w : World) (h : RxAt w b s k x) :
    Calls Tryz.prog 92 #[.pointer (some ⟨b, 0, none⟩)] w fun e w' =>
      (∃ n, n < 16 ∧ x < 0 ∧ (rst s k).head? = some (Sp.hexd n) ∧ e = .returned (.int .i64 n) ∧ RxAt w' b s (k + 1) x ∧ Keep b [QT] w w') ∨
      ((∀ n, n < 16 → nxt s k x ≠ Sp.hexd n) ∧ e = .returned (.int .i64 0) ∧ RxAt w' b s k (noted k x) ∧ Keep b [QT] w w') := by
  have HNW := Lib.hid fun m n => next_any b s k x ((w.drewN m).drewN n) ((h.drewN m).drewN n)
  have H := Lib.hid h
  obtain ⟨c0, c1, c2⟩ := h.at
  have f1 := h.free 1
  have h2 : s.size ≤ 9223372036854775807 := h.2.2
  have HBW := Lib.hid fun m => bad_any b s k x k (w.drewN m) (H.out.drewN m)
  have Hx := Lib.hid (show ∀ n, n < 16 → nxt s k x = Sp.hexd n → x < 0 ∧ k < s.size ∧ (rst s k).head? = some (Sp.hexd n) from fun n hn e => by
    unfold nxt at e
    split at e
    · rename_i hx
      rcases Nat.lt_or_ge k s.size with hlt | hge
      · rw [rst_cons hlt, List.headD_cons] at e
        exact ⟨hx, hlt, by rw [rst_cons hlt, List.head?_cons, e]⟩
      · rw [rst_nil hge] at e
        exact absurd e (by revert hn n; decide)
    · exact absurd e (by revert hn n; decide))
  generalize nxt s k x = d at *
  clear h
  go_enter Tryz.func92, Tryz.ntmps92
  go_wp2_with fail
  go_loopw [3] (fun i wr => ∃ n m : Nat, i = .int .i64 (n : Int) ∧ n ≤ 16 ∧ wr = w.drewN m ∧ Hid (∀ j, j < n → d ≠ Sp.hexd j)) (fun i _ => 16 - (intOf i).toNat)
  case atStart => exact ⟨0, 0, rfl, by omega, rfl, fun j hj => by omega⟩
  case round =>
    obtain ⟨n, m, rfl, hn, rfl, hne⟩ := hrel
    have HD := Lib.hid ((H.out.drewN m).at)
    have F1 := (H.out.drewN m).free 1
    have HN := Lib.hid (HNW.out m)
    have HB := Lib.hid (HBW.out m)
    have HR := Lib.hid (H.out.drewN m)
    have KR := Lib.hid (keep_drewN (Keep.refl b [QT] w) m)
    obtain ⟨X, hX⟩ : ∃ X, X = w.drewN m := ⟨_, rfl⟩
    rw [← hX] at HD F1 HN HB HR KR ⊢
    have HX := Lib.hid hX
    clear hX
    by_cases hlt : n < 16
    · have hlt' : (n : Int) < 16 := by omega
      have hA := hexs_at n hlt
      obtain ⟨hh, hH⟩ : ∃ y, y = Sp.hexd n := ⟨_, rfl⟩
      rw [← hH] at hA
      have h16 : hexs.size = 16 := rfl
      by_cases he : d = hh
      · obtain ⟨g1, g2, g3⟩ := Hx.out n hlt (by rw [he, hH])
        have G1 := Lib.hid g1
        have G3 := Lib.hid g3
        have HH := Lib.hid hH
        have hq := u8_eq he
        have hwr := IntWalk.i64_in ((k : Int) + 1) (by omega)
        obtain ⟨d0, d1, d2⟩ := HD.out
        clear hne g1 g3 hH he c0 c1 c2 f1
        go_wp2_with fail
        go_quiet ((go_at_call 71; exact Calls.quiet_of (HN.out _)))
        go_wp2_with fail
        go_ret
        exact .inl ⟨n, hlt, G1.out, G3.out, rfl, ((HR.out.drewN _).step (k + 1) g2).1, KR.out.trans ((keep_drewN (Keep.refl _ _ _) _).trans ((HR.out.drewN _).step (k + 1) g2).2)⟩
      · have hq := u8_ne he
        have hq2 : ¬ ((d.toNat : Int) = (hh.toNat : Int)) := by rw [beq_eq_false_iff_ne] at hq; exact hq
        have HE := Lib.hid he
        have HH := Lib.hid hH
        clear he hH c0 c1 c2 f1
        go_wp2_with fail
        go_quiet ((go_at_call 71; exact Calls.quiet_of (HN.out _)))
        go_wp2_with fail
        go_roundw
        case measure => simp only [intOf]; omega
        case rel => exact ⟨n + 1, _, rfl, hlt, by rw [HX.out]; exact World.drewN_drewN _ _ _, fun j hj => by
          rcases Nat.lt_or_ge j n with h | h
          · exact hne.out j h
          · obtain rfl : j = n := by omega
            rw [← HH.out]; exact HE.out⟩
    · have hlt' : decide ((n : Int) < 16) = false := decide_eq_false (by omega)
      obtain rfl : n = 16 := by omega
      obtain ⟨d0, d1, d2⟩ := HD.out
      clear c0 c1 c2 f1
      go_wp2_with fail
      refine HB.out.mono ?_
      rintro e w1 ⟨rfl, r1, k1⟩
      go_wp2_with fail
      go_ret
      exact .inr ⟨hne.out, rfl, r1, KR.out.trans k1⟩

/-- Behind something wrong. -/
theorem digitD_any (b : Nat) (s : ByteArray) (k : Nat) (x : Int) (w : World) (h : RxAt w b s k x) (hx : 0 ≤ x) :
    Calls Tryz.prog 92 #[.pointer (some ⟨b, 0, none⟩)] w fun e w' => e = .returned (.int .i64 0) ∧ RxAt w' b s k x ∧ Keep b [QT] w w' := by
  refine (digitX_any b s k x w h).mono ?_
  rintro e w' (⟨n, _, h0, _⟩ | ⟨_, rfl, r, kk⟩)
  · omega
  · rw [noted_dead hx] at r
    exact ⟨rfl, r, kk⟩
/-- Nothing is wrong yet. -/
theorem digitL_any (b : Nat) (s : ByteArray) (k : Nat) (w : World) (h : RxAt w b s k (-1)) :
    Calls Tryz.prog 92 #[.pointer (some ⟨b, 0, none⟩)] w fun e w' =>
      match Sp.digit16 (rst s k) with
      | .ok v n => v < 16 ∧ n = 1 ∧ e = .returned (.int .i64 v) ∧ RxAt w' b s (k + 1) (-1) ∧ Keep b [QT] w w'
      | .bad m => m = 0 ∧ e = .returned (.int .i64 0) ∧ RxAt w' b s k (k : Int) ∧ Keep b [QT] w w' := by
  have hv : ∀ n, n < 16 → Sp.hexv (Sp.hexd n) = some n := by decide
  have hd : ∀ y n, Sp.hexv y = some n → n < 16 ∧ y = Sp.hexd n := by
    intro y n e
    unfold Sp.hexv at e
    have hy := Sp.b_lt y
    split at e
    · obtain rfl := Option.some.inj e
      refine ⟨by omega, Sp.b_eq.2 ?_⟩
      unfold Sp.hexd
      rw [if_pos (by omega), Sp.of_nat (by omega)]
      omega
    · split at e
      · obtain rfl := Option.some.inj e
        refine ⟨by omega, Sp.b_eq.2 ?_⟩
        unfold Sp.hexd
        rw [if_neg (by omega), Sp.of_nat (by omega)]
        omega
      · cases e
  refine (digitX_any b s k (-1) w h).mono ?_
  rintro e w' (⟨n, hn, _, hh, rfl, r, kk⟩ | ⟨hne, rfl, r, kk⟩)
  · cases hr : rst s k with
    | nil => rw [hr] at hh; cases hh
    | cons y t =>
      rw [hr, List.head?_cons] at hh
      obtain rfl := Option.some.inj hh
      rw [show Sp.digit16 (Sp.hexd n :: t) = .ok n 1 by simp only [Sp.digit16, hv n hn]]
      exact ⟨hn, rfl, rfl, r, kk⟩
  · rw [noted_live (by omega)] at r
    rw [nxt_live] at hne
    cases hr : rst s k with
    | nil => exact ⟨rfl, rfl, r, kk⟩
    | cons y t =>
      rw [hr] at hne
      cases hq : Sp.hexv y with
      | none =>
        rw [show Sp.digit16 (y :: t) = .bad 0 by simp only [Sp.digit16, hq]]
        exact ⟨rfl, rfl, r, kk⟩
      | some n => exact absurd (hd y n hq).2 (hne n (hd y n hq).1)
end Go.Proofs.YtadookafnfnaoaaGreatDoor
/- The document's reader: what stands behind a 92. -/
namespace Go.Proofs.YtadookafnfnaoaaGreatDoor
open Go.RowKit Ch

/-- What behind answers: the byte, at its place, or a byte nobody looks at, and the first wrong thing's place. -/
def BehindOut (b : Nat) (s : ByteArray) (k : Nat) (w : World) (e : Ending) (w' : World) : Prop :=
  Keep b [QT] w w' ∧ match Sp.inside (92 :: rst s k) with
  | .ok v n => e = .returned (.int .u8 (v.toNat : Int)) ∧ RxAt w' b s (k - 1 + n) (-1)
  | .bad m => (∃ y : UInt8, e = .returned (.int .u8 (y.toNat : Int))) ∧ ∃ j, RxAt w' b s j ((k - 1 + m : Nat) : Int)
theorem inside92 (c : UInt8) (u : List UInt8) : Sp.inside (92 :: c :: u) = if c = 34 ∨ c = 92 then .ok c 2 else if c = 110 then .ok 10 2 else if c = 120 then Sp.hexes u else .bad 1 := by
  simp only [Sp.inside]
  rw [if_neg (by decide), if_neg (by decide)]

set_option maxRecDepth 100000 in
set_option maxHeartbeats 4000000 in
theorem behind_any4 (b : Nat) (s : ByteArray) (k : Nat) (w : World) (h : RxAt w b s k (-1)) (hk : 1 ≤ k) :
    Calls Tryz.prog 73 #[.pointer (some ⟨b, 0, none⟩)] w (BehindOut b s k w) := by
  have HN := Lib.hid (next_any b s k (-1) w h)
  rw [nxt_live] at HN
  have H := Lib.hid h
  obtain ⟨c0, c1, c2⟩ := h.at
  have f1 := h.free 1
  have h2 : s.size ≤ 9223372036854775807 := h.2.2
  have hks := h.2.1
  have hw1 := IntWalk.i64_in ((k : Int) - 1) (by omega)
  have HB := Lib.hid fun n => bad_any b s k (-1) k (w.drewN n) (h.drewN n)
  clear h
  by_cases hlt : k < s.size
  · have hw2 := IntWalk.i64_in ((k : Int) + 1) (by omega)
    have Hr := Lib.hid (rst_cons hlt)
    rw [Hr.out, List.headD_cons] at HN
    have HI := Lib.hid (inside92 s[k] (rst s (k + 1)))
    rw [← Hr.out] at HI
    have hst := fun n => (H.out.drewN n).step (k + 1) (by omega)
    have Hst := Lib.hid hst
    clear hst
    generalize s[k] = c at *
    by_cases h34 : c = 34
    · have q1 := b_is' (n := 34) rfl h34
      have HE := Lib.hid (show Sp.inside (92 :: rst s k) = .ok c 2 by rw [HI.out, if_pos (.inl h34)])
      clear h34
      go_enter Tryz.func73, Tryz.ntmps73
      go_wp2_with fail
      refine HN.out.mono ?_
      rintro e w1 ⟨rfl, n1, rfl⟩
      have f1' : (w.drewN n1).frozen? ⟨b, 1, none⟩ = false := (H.out.drewN n1).free 1
      go_wp2_with fail
      go_ret
      unfold BehindOut
      rw [HE.out]
      exact ⟨(keep_drewN (Keep.refl _ _ _) _).trans (Hst.out n1).2, rfl, by rw [show k - 1 + 2 = k + 1 by omega]; exact (Hst.out n1).1⟩
    by_cases h92 : c = 92
    · have q1 := b_not' (n := 34) rfl h34
      have q2 := b_is' (n := 92) rfl h92
      have HE := Lib.hid (show Sp.inside (92 :: rst s k) = .ok c 2 by rw [HI.out, if_pos (.inr h92)])
      clear h34 h92
      go_enter Tryz.func73, Tryz.ntmps73
      go_wp2_with fail
      refine HN.out.mono ?_
      rintro e w1 ⟨rfl, n1, rfl⟩
      have f1' : (w.drewN n1).frozen? ⟨b, 1, none⟩ = false := (H.out.drewN n1).free 1
      go_wp2_with fail
      go_ret
      unfold BehindOut
      rw [HE.out]
      exact ⟨(keep_drewN (Keep.refl _ _ _) _).trans (Hst.out n1).2, rfl, by rw [show k - 1 + 2 = k + 1 by omega]; exact (Hst.out n1).1⟩
    by_cases h110 : c = 110
    · have q1 := b_not' (n := 34) rfl h34
      have q2 := b_not' (n := 92) rfl h92
      have q3 := b_is' (n := 110) rfl h110
      have HE := Lib.hid (show Sp.inside (92 :: rst s k) = .ok 10 2 by rw [HI.out, if_neg (fun h => h.elim h34 h92), if_pos h110])
      clear h34 h92 h110
      go_enter Tryz.func73, Tryz.ntmps73
      go_wp2_with fail
      refine HN.out.mono ?_
      rintro e w1 ⟨rfl, n1, rfl⟩
      have f1' : (w.drewN n1).frozen? ⟨b, 1, none⟩ = false := (H.out.drewN n1).free 1
      go_wp2_with fail
      go_ret
      unfold BehindOut
      rw [HE.out]
      exact ⟨(keep_drewN (Keep.refl _ _ _) _).trans (Hst.out n1).2, rfl, by rw [show k - 1 + 2 = k + 1 by omega]; exact (Hst.out n1).1⟩
    have q1 := b_not' (n := 34) rfl h34
    have q2 := b_not' (n := 92) rfl h92
    have q3 := b_not' (n := 110) rfl h110
    by_cases h120 : c = 120
    · have q4 := b_is' (n := 120) rfl h120
      have HE := Lib.hid (show Sp.inside (92 :: rst s k) = Sp.hexes (rst s (k + 1)) by rw [HI.out, if_neg (fun h => h.elim h34 h92), if_neg h110, if_pos h120])
      clear h34 h92 h110 h120
      go_enter Tryz.func73, Tryz.ntmps73
      go_wp2_with fail
      refine HN.out.mono ?_
      rintro e w1 ⟨rfl, n1, rfl⟩
      have f1' : (w.drewN n1).frozen? ⟨b, 1, none⟩ = false := (H.out.drewN n1).free 1
      go_wp2_with fail
      have HY := Lib.hid (Hst.out n1)
      have K0 := Lib.hid ((keep_drewN (Keep.refl b [QT] w) n1).trans HY.out.2)
      have D1 := Lib.hid (digitL_any b s (k + 1) _ HY.out.1)
      refine D1.out.mono ?_
      intro e w2 h2'
      cases hd1 : Sp.digit16 (rst s (k + 1)) with
      | bad m1 =>
        rw [hd1] at h2'
        obtain ⟨rfl, rfl, r2, kk2⟩ := h2'
        have HE2 := Lib.hid (HE.out.trans (show Sp.hexes (rst s (k + 1)) = .bad 2 by unfold Sp.hexes; simp only [hd1]))
        have KK2 := Lib.hid kk2
        have D2 := Lib.hid (digitD_any b s (k + 1) ((k + 1 : Nat) : Int) w2 r2 (by omega))
        clear kk2 hd1 r2
        go_wp2_with fail
        refine D2.out.mono ?_
        rintro e w3 ⟨rfl, r3, k3⟩
        have R3 := Lib.hid r3
        have KK3 := Lib.hid k3
        clear r3 k3
        go_wp2_with fail
        go_ret
        unfold BehindOut
        rw [HE2.out]
        exact ⟨K0.out.trans (KK2.out.trans KK3.out), ⟨0, rfl⟩, _, by rw [show k - 1 + 2 = k + 1 by omega]; exact R3.out⟩
      | ok v n =>
        rw [hd1] at h2'
        obtain ⟨hv, rfl, rfl, r2, kk2⟩ := h2'
        have HD1 := Lib.hid hd1
        have KK2 := Lib.hid kk2
        have D2 := Lib.hid (digitL_any b s (k + 1 + 1) w2 r2)
        have hwr3 := IntWalk.i64_in ((v : Int) * 16) (by omega)
        clear kk2 hd1 r2
        go_wp2_with fail
        refine D2.out.mono ?_
        intro e w3 h3'
        cases hd2 : Sp.digit16 (rst s (k + 1 + 1)) with
        | bad m2 =>
          rw [hd2] at h3'
          obtain ⟨rfl, rfl, r3, kk3⟩ := h3'
          have HE2 := Lib.hid (HE.out.trans (show Sp.hexes (rst s (k + 1)) = .bad 3 by unfold Sp.hexes; simp only [HD1.out, rst_drop, hd2]))
          have R3 := Lib.hid r3
          have KK3 := Lib.hid kk3
          have hwr5 := IntWalk.u8_in ((v : Int) * 16) (by omega)
          have e10 : ((v : Int) * 16 == 10) = false := by rw [beq_eq_false_iff_ne]; omega
          have e127 : ((v : Int) * 16 == 127) = false := by rw [beq_eq_false_iff_ne]; omega
          have HB3 := Lib.hid (bad_any b s (k + 1 + 1) ((k + 1 + 1 : Nat) : Int) ((k : Int) - 1) w3 r3)
          clear r3 kk3 hd2
          by_cases hv2 : 2 ≤ v
          · have e32 : (32 : Int) ≤ (v : Int) * 16 := by omega
            go_wp2_with fail
            refine HB3.out.mono ?_
            rintro e w4 ⟨rfl, r4, k4⟩
            rw [noted_dead (by omega)] at r4
            have R4 := Lib.hid r4
            have KK4 := Lib.hid k4
            clear r4 k4
            go_wp2_with fail
            go_ret
            unfold BehindOut
            rw [HE2.out]
            exact ⟨K0.out.trans (KK2.out.trans (KK3.out.trans KK4.out)), ⟨UInt8.ofNat (v * 16), by rw [Sp.of_nat (by omega)]; rfl⟩, _, by rw [show k - 1 + 3 = k + 1 + 1 by omega]; exact R4.out⟩
          · have e32 : ¬ (32 : Int) ≤ (v : Int) * 16 := by omega
            have e32' : decide ((32 : Int) ≤ (v : Int) * 16) = false := decide_eq_false e32
            go_wp2_with fail
            go_ret
            unfold BehindOut
            rw [HE2.out]
            exact ⟨K0.out.trans (KK2.out.trans KK3.out), ⟨UInt8.ofNat (v * 16), by rw [Sp.of_nat (by omega)]; rfl⟩, _, by rw [show k - 1 + 3 = k + 1 + 1 by omega]; exact R3.out⟩
        | ok g n2 =>
          rw [hd2] at h3'
          obtain ⟨hg, rfl, rfl, r3, kk3⟩ := h3'
          have hN : v * 16 + g < 256 := by omega
          have hof : (UInt8.ofNat (v * 16 + g)).toNat = v * 16 + g := Sp.of_nat hN
          have hX : Sp.hexes (rst s (k + 1)) = if Sp.ctl (UInt8.ofNat (v * 16 + g)) = true ∧ UInt8.ofNat (v * 16 + g) ≠ 10 then .ok (UInt8.ofNat (v * 16 + g)) 4 else .bad 0 := by unfold Sp.hexes; simp only [HD1.out, rst_drop, hd2]
          have hct : Sp.ctl (UInt8.ofNat (v * 16 + g)) = decide (v * 16 + g < 32 ∨ v * 16 + g = 127) := by unfold Sp.ctl; rw [hof]
          have h10 : UInt8.ofNat (v * 16 + g) = 10 ↔ v * 16 + g = 10 := by rw [Sp.b_eq, hof]; rfl
          have R3 := Lib.hid r3
          have KK3 := Lib.hid kk3
          have hwr4 := IntWalk.i64_in ((v : Int) * 16 + (g : Int)) (by omega)
          have hwr5 := IntWalk.u8_in ((v : Int) * 16 + (g : Int)) (by omega)
          have hret : ((v : Int) * 16 + (g : Int)) = ((UInt8.ofNat (v * 16 + g)).toNat : Int) := by rw [hof]; omega
          have HRet := Lib.hid hret
          have HB3 := Lib.hid (bad_any b s (k + 1 + 1 + 1) (-1) ((k : Int) - 1) w3 r3)
          by_cases hgood : (v * 16 + g < 32 ∨ v * 16 + g = 127) ∧ v * 16 + g ≠ 10
          · have HE2 := Lib.hid (HE.out.trans (hX.trans (if_pos ⟨by rw [hct]; exact decide_eq_true hgood.1, fun e => hgood.2 (h10.1 e)⟩)))
            have e10 : ((v : Int) * 16 + (g : Int) == 10) = false := by rw [beq_eq_false_iff_ne]; omega
            clear r3 kk3 hd2 hX hct h10 hret
            by_cases hl : v * 16 + g < 32
            · have e32 : ¬ (32 : Int) ≤ (v : Int) * 16 + (g : Int) := by omega
              have e32' : decide ((32 : Int) ≤ (v : Int) * 16 + (g : Int)) = false := decide_eq_false e32
              clear hgood
              go_wp2_with fail
              go_ret
              unfold BehindOut
              rw [HE2.out]
              exact ⟨K0.out.trans (KK2.out.trans KK3.out), by rw [← HRet.out]; rfl, by rw [show k - 1 + 4 = k + 1 + 1 + 1 by omega]; exact R3.out⟩
            · have e32 : (32 : Int) ≤ (v : Int) * 16 + (g : Int) := by omega
              have e127 : ((v : Int) * 16 + (g : Int) == 127) = true := by rw [beq_iff_eq]; omega
              clear hgood
              go_wp2_with fail
              go_ret
              unfold BehindOut
              rw [HE2.out]
              exact ⟨K0.out.trans (KK2.out.trans KK3.out), by rw [← HRet.out]; rfl, by rw [show k - 1 + 4 = k + 1 + 1 + 1 by omega]; exact R3.out⟩
          · have HE2 := Lib.hid (HE.out.trans (hX.trans (if_neg fun e => hgood ⟨of_decide_eq_true (by rw [← hct]; exact e.1), fun h => e.2 (h10.2 h)⟩)))
            clear r3 kk3 hd2 hX hct h10 hret
            by_cases h0 : v * 16 + g = 10
            · have e10 : ((v : Int) * 16 + (g : Int) == 10) = true := by rw [beq_iff_eq]; omega
              clear hgood
              go_wp2_with fail
              refine HB3.out.mono ?_
              rintro e w4 ⟨rfl, r4, k4⟩
              rw [noted_live (by omega)] at r4
              have R4 := Lib.hid r4
              have KK4 := Lib.hid k4
              clear r4 k4
              go_wp2_with fail
              go_ret
              unfold BehindOut
              rw [HE2.out]
              exact ⟨K0.out.trans (KK2.out.trans (KK3.out.trans KK4.out)), ⟨_, by rw [← HRet.out]; rfl⟩, _, by rw [show ((k - 1 + 0 : Nat) : Int) = (k : Int) - 1 by omega]; exact R4.out⟩
            · have e10 : ((v : Int) * 16 + (g : Int) == 10) = false := by rw [beq_eq_false_iff_ne]; omega
              have e32 : (32 : Int) ≤ (v : Int) * 16 + (g : Int) := by omega
              have e127 : ((v : Int) * 16 + (g : Int) == 127) = false := by rw [beq_eq_false_iff_ne]; omega
              clear hgood
              go_wp2_with fail
              refine HB3.out.mono ?_
              rintro e w4 ⟨rfl, r4, k4⟩
              rw [noted_live (by omega)] at r4
              have R4 := Lib.hid r4
              have KK4 := Lib.hid k4
              clear r4 k4
              go_wp2_with fail
              go_ret
              unfold BehindOut
              rw [HE2.out]
              exact ⟨K0.out.trans (KK2.out.trans (KK3.out.trans KK4.out)), ⟨_, by rw [← HRet.out]; rfl⟩, _, by rw [show ((k - 1 + 0 : Nat) : Int) = (k : Int) - 1 by omega]; exact R4.out⟩
    · have q4 := b_not' (n := 120) rfl h120
      have HE := Lib.hid (show Sp.inside (92 :: rst s k) = .bad 1 by rw [HI.out, if_neg (fun h => h.elim h34 h92), if_neg h110, if_neg h120])
      clear h34 h92 h110 h120
      go_enter Tryz.func73, Tryz.ntmps73
      go_wp2_with fail
      refine HN.out.mono ?_
      rintro e w1 ⟨rfl, n1, rfl⟩
      have f1' : (w.drewN n1).frozen? ⟨b, 1, none⟩ = false := (H.out.drewN n1).free 1
      go_wp2_with fail
      refine (HB.out n1).mono ?_
      rintro e w2 ⟨rfl, r2, k2⟩
      go_wp2_with fail
      go_ret
      unfold BehindOut
      rw [HE.out]
      exact ⟨(keep_drewN (Keep.refl _ _ _) _).trans k2, ⟨0, rfl⟩, k, by rw [noted_live (by omega)] at r2; rw [show k - 1 + 1 = k by omega]; exact r2⟩
  · have hr := rst_nil (s := s) (a := k) (by omega)
    have HE := Lib.hid (show Sp.inside (92 :: rst s k) = .bad 1 by rw [hr]; rfl)
    rw [hr] at HN
    clear hr
    go_enter Tryz.func73, Tryz.ntmps73
    go_wp2_with fail
    refine HN.out.mono ?_
    rintro e w1 ⟨rfl, n1, rfl⟩
    have f1' : (w.drewN n1).frozen? ⟨b, 1, none⟩ = false := (H.out.drewN n1).free 1
    go_wp2_with fail
    refine (HB.out n1).mono ?_
    rintro e w2 ⟨rfl, r2, k2⟩
    go_wp2_with fail
    go_ret
    unfold BehindOut
    rw [HE.out]
    exact ⟨(keep_drewN (Keep.refl _ _ _) _).trans k2, ⟨0, rfl⟩, k, by rw [noted_live (by omega)] at r2; rw [show k - 1 + 1 = k by omega]; exact r2⟩
end Go.Proofs.YtadookafnfnaoaaGreatDoor
