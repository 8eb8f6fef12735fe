import Derived.Test.YtadookafnfnaoaaGreatDoorGS28
/- The document's reader: an operation. -/
namespace Go.Proofs.YtadookafnfnaoaaGreatDoor
open Go.RowKit Ch

namespace Sp
theorem opt2_bad {α : Type} {p : List UInt8 → R α} {f : α → List A → OpD} {l : List UInt8} {v : α} {n k : Nat} (h : p l = .ok v n) (h2 : opt (l.drop n) = .bad k) : (bnd p (fun x => bnd opt fun a => ret (f x a)) l).shift 1 = .bad (1 + (n + k)) := by
  rw [bnd_ok h, bnd_bad h2]; rfl
theorem opt2_ok {α : Type} {p : List UInt8 → R α} {f : α → List A → OpD} {l : List UInt8} {v : α} {m : List A} {n j : Nat} (h : p l = .ok v n) (h2 : opt (l.drop n) = .ok m j) : (bnd p (fun x => bnd opt fun a => ret (f x a)) l).shift 1 = .ok (f v m) (1 + (n + j)) := by
  rw [bnd_ok h, bnd_ok h2]; rfl
end Sp

theorem head_go {s : ByteArray} {k : Nat} {c : UInt8} (h : (rst s k).headD 0 = c) (hc : c ≠ 0) : k < s.size ∧ rst s k = c :: rst s (k + 1) := by
  rcases Nat.lt_or_ge k s.size with hlt | hge
  · rw [rst_cons hlt, List.headD_cons] at h
    exact ⟨hlt, by rw [rst_cons hlt, h]⟩
  · rw [rst_nil hge] at h; exact absurd h.symm hc
theorem op_bad0 {l : List UInt8} (h1 : l.headD 0 ≠ 61) (h2 : l.headD 0 ≠ 45) (h3 : l.headD 0 ≠ 43) : Sp.op l = .bad 0 := by
  cases l with
  | nil => rfl
  | cons x t => exact Sp.op_else h2 h1 h3

theorem numberA_any (b : Nat) (s : ByteArray) (k : Nat) (w : World) (h : RxAt w b s k (-1)) :
    Calls Tryz.prog 49 #[.pointer (some ⟨b, 0, none⟩)] w fun e w' => ∃ n : Nat, e = .returned (.int .i64 (n : Int)) ∧ Keep b [QT] w w' ∧
      ∃ J X, RxAt w' b s J X ∧ ((X = -1 ∧ ∃ i, Sp.number (rst s k) = .ok n i ∧ J = k + i) ∨ ∃ m : Nat, Sp.number (rst s k) = .bad m ∧ X = ((k + m : Nat) : Int)) := by
  refine (rxNumber_any b s k w h).mono ?_
  intro e w' h1
  unfold RxGo at h1
  cases hq : Sp.number (rst s k) with
  | ok n i =>
    rw [hq] at h1
    obtain ⟨u, rfl, kk, rfl, r⟩ := h1
    exact ⟨n, rfl, kk, _, _, r, .inl ⟨rfl, i, rfl, rfl⟩⟩
  | bad m =>
    rw [hq] at h1
    obtain ⟨u, rfl, kk, rfl, j, r⟩ := h1
    exact ⟨0, rfl, kk, _, _, r, .inr ⟨m, rfl, rfl⟩⟩
theorem attrsA_any (b : Nat) (s : ByteArray) (k : Nat) (x : Int) (w : World) (h : RxAt w b s k x) (hx : x = -1 ∨ 0 ≤ x) (hz : s.size ≤ 1048576) :
    Calls Tryz.prog 79 #[.pointer (some ⟨b, 0, none⟩)] w fun e w' => ∃ (l : List Sp.A) (v : Value), e = .returned v ∧ w'.ownsRow w.heap.size 53 2 v l.length (flat l) ∧ Keep b [QT] w w' ∧
      ∃ J X, RxAt w' b s J X ∧ ((x = -1 ∧ X = -1 ∧ ∃ n, Sp.opt (rst s k) = .ok l n ∧ J = k + n) ∨ (x = -1 ∧ ∃ m : Nat, Sp.opt (rst s k) = .bad m ∧ X = ((k + m : Nat) : Int)) ∨ (0 ≤ x ∧ X = x)) := by
  rcases hx with rfl | hx
  · refine (rxAttrs_any b s k w h hz).mono ?_
    intro e w' h1
    unfold RxAttrs RxGo at h1
    cases hq : Sp.opt (rst s k) with
    | ok l n =>
      rw [hq] at h1
      obtain ⟨u, rfl, kk, hu, r⟩ := h1
      exact ⟨l, u, rfl, hu, kk, _, _, r, .inl ⟨rfl, rfl, n, rfl, rfl⟩⟩
    | bad m =>
      rw [hq] at h1
      obtain ⟨u, rfl, kk, rfl, j, r⟩ := h1
      exact ⟨[], _, rfl, own_nil _ _, kk, _, _, r, .inr (.inl ⟨rfl, m, rfl, rfl⟩)⟩
  · refine (rxattrs_dead b s k x w h hx).mono ?_
    rintro e w' ⟨u, rfl, kk, rfl, j, r⟩
    exact ⟨[], _, rfl, own_nil _ _, kk, _, _, r, .inr (.inr ⟨hx, rfl⟩)⟩

/-- What the document's op answers. -/
def RxOp (b : Nat) (s : ByteArray) (k : Nat) (w : World) (e : Ending) (w' : World) : Prop :=
  ∃ (u : Value) (o : OpD) (J : Nat) (X : Int), e = .returned u ∧ valO w.heap.size o w' u ∧ Keep b [QT] w w' ∧ RxAt w' b s J X ∧
    ((X = -1 ∧ (rst s k).head? = some 32 ∧ ∃ n, Sp.op (rst s (k + 1)) = .ok o n ∧ J = k + 1 + n) ∨ ((rst s k).head? = some 32 ∧ ∃ m : Nat, Sp.op (rst s (k + 1)) = .bad m ∧ X = ((k + 1 + m : Nat) : Int)) ∨ (¬ (rst s k).head? = some 32 ∧ X = (k : Int)))


/-- The world where an operation's kind is known. -/
theorem op_world {w V : World} {b g r k : Nat} {s : ByteArray} (RV : RxAt V b s (k + 1) (-1)) (HO : V.heap[g]? = some zeroO) (HR : V.heap[r]? = some zeroO) (KV : Keep b [QT] w V) (hlt : k + 1 < s.size) (hbw : b < w.heap.size) (hg : w.heap.size ≤ g) (hr : w.heap.size ≤ r) (hgr : r ≠ g) (kd : Value) (Y : World)
    (hY : Y = ((put4 V g (.int .i64 0) (.int .i64 0) (.string ⟨#[]⟩) (.slice none 0 0)).setCell ⟨b, 1, none⟩ (.int .i64 ((k : Int) + 1 + 1))).setCell ⟨g, 0, none⟩ kd) :
    RxAt Y b s (k + 1 + 1) (-1) ∧ Y.heap[g]? = some (.cells #[kd, .int .i64 0, .string ⟨#[]⟩, .slice none 0 0] 48 (0, 0)) ∧ Y.heap[r]? = some zeroO ∧ Keep b [QT] w Y := by
  have h1 := put4_heap HO (.int .i64 0) (.int .i64 0) (.string ⟨#[]⟩) (.slice none 0 0)
  have k1 := put4_keep (b := w.heap.size) HO hg (.int .i64 0) (.int .i64 0) (.string ⟨#[]⟩) (.slice none 0 0)
  have r1 : (put4 V g (.int .i64 0) (.int .i64 0) (.string ⟨#[]⟩) (.slice none 0 0)).heap[r]? = some zeroO := by
    rw [Below.heap_setCell _ _ _ _ hgr, Below.heap_setCell _ _ _ _ hgr, Below.heap_setCell _ _ _ _ hgr, Below.heap_setCell _ _ _ _ hgr]; exact HR
  have R1 : RxAt (put4 V g (.int .i64 0) (.int .i64 0) (.string ⟨#[]⟩) (.slice none 0 0)) b s (k + 1) (-1) := ⟨(k1.below.block b hbw).trans RV.1, RV.2⟩
  have K1 := KV.later k1.below (Nat.le_of_lt hbw) (Nat.le_refl _)
  generalize put4 V g (.int .i64 0) (.int .i64 0) (.string ⟨#[]⟩) (.slice none 0 0) = P at *
  have st := R1.step (k + 1 + 1) hlt
  rw [show ((k + 1 + 1 : Nat) : Int) = (k : Int) + 1 + 1 by omega] at st
  have h2 : (P.setCell ⟨b, 1, none⟩ (.int .i64 ((k : Int) + 1 + 1))).heap[g]? = some zeroO := (Below.heap_setCell _ _ _ _ (show g ≠ b by omega)).trans h1
  have r2 : (P.setCell ⟨b, 1, none⟩ (.int .i64 ((k : Int) + 1 + 1))).heap[r]? = some zeroO := (Below.heap_setCell _ _ _ _ (show r ≠ b by omega)).trans r1
  have K2 := K1.trans st.2
  have R2 := st.1
  generalize P.setCell ⟨b, 1, none⟩ (.int .i64 ((k : Int) + 1 + 1)) = P2 at *
  have k3 := set_keep (b := w.heap.size) (i := 0) h2 hg kd
  subst hY
  exact ⟨⟨(k3.below.block b hbw).trans R2.1, R2.2⟩, Joins.block_setCell (i := 0) h2 kd, (Below.heap_setCell _ _ _ _ hgr).trans r2, K2.later k3.below (Nat.le_of_lt hbw) (Nat.le_refl _)⟩
theorem op_world0 {w V : World} {b g r k : Nat} {s : ByteArray} {x : Int} (RV : RxAt V b s k x) (HO : V.heap[g]? = some zeroO) (HR : V.heap[r]? = some zeroO) (KV : Keep b [QT] w V) (hbw : b < w.heap.size) (hg : w.heap.size ≤ g) (hgr : r ≠ g) (Y : World)
    (hY : Y = put4 V g (.int .i64 0) (.int .i64 0) (.string ⟨#[]⟩) (.slice none 0 0)) :
    RxAt Y b s k x ∧ Y.heap[g]? = some zeroO ∧ Y.heap[r]? = some zeroO ∧ Keep b [QT] w Y := by
  have h1 := put4_heap HO (.int .i64 0) (.int .i64 0) (.string ⟨#[]⟩) (.slice none 0 0)
  have k1 := put4_keep (b := w.heap.size) HO hg (.int .i64 0) (.int .i64 0) (.string ⟨#[]⟩) (.slice none 0 0)
  have r1 : (put4 V g (.int .i64 0) (.int .i64 0) (.string ⟨#[]⟩) (.slice none 0 0)).heap[r]? = some zeroO := by
    rw [Below.heap_setCell _ _ _ _ hgr, Below.heap_setCell _ _ _ _ hgr, Below.heap_setCell _ _ _ _ hgr, Below.heap_setCell _ _ _ _ hgr]; exact HR
  subst hY
  exact ⟨⟨(k1.below.block b hbw).trans RV.1, RV.2⟩, h1, r1, KV.later k1.below (Nat.le_of_lt hbw) (Nat.le_refl _)⟩
/-- A cell of the operation is written. -/
theorem op_set {w V : World} {b g r k : Nat} {s : ByteArray} {x : Int} {cs : Array Value} (RV : RxAt V b s k x) (HO : V.heap[g]? = some (.cells cs 48 (0, 0))) (HR : V.heap[r]? = some zeroO) (KV : Keep b [QT] w V) (hbw : b < w.heap.size) (hg : w.heap.size ≤ g) (hgr : r ≠ g) (i : Nat) (v : Value) (Y : World) (hY : Y = V.setCell ⟨g, i, none⟩ v) :
    RxAt Y b s k x ∧ Y.heap[g]? = some (.cells (cs.setIfInBounds i v) 48 (0, 0)) ∧ Y.heap[r]? = some zeroO ∧ Keep b [QT] w Y ∧ Keep w.heap.size [48] V Y := by
  have k3 := set_keep (b := w.heap.size) (i := i) HO hg v
  subst hY
  exact ⟨⟨(k3.below.block b hbw).trans RV.1, RV.2⟩, Joins.block_setCell (i := i) HO v, (Below.heap_setCell _ _ _ _ hgr).trans HR, KV.later k3.below (Nat.le_of_lt hbw) (Nat.le_refl _), k3⟩
/-- The answer is laid. -/
theorem op_answer {w V : World} {b r k J : Nat} {s : ByteArray} {X : Int} {o : OpD} {v : Value} (RV : RxAt V b s J X) (HR : V.heap[r]? = some zeroO) (KV : Keep b [QT] w V) (hbw : b < w.heap.size) (hr : w.heap.size ≤ r) (hv : V.ownsRow w.heap.size 53 2 v o.attrs.length (flat o.attrs))
    (h : (X = -1 ∧ (rst s k).head? = some 32 ∧ ∃ n, Sp.op (rst s (k + 1)) = .ok o n ∧ J = k + 1 + n) ∨ ((rst s k).head? = some 32 ∧ ∃ m : Nat, Sp.op (rst s (k + 1)) = .bad m ∧ X = ((k + 1 + m : Nat) : Int)) ∨ (¬ (rst s k).head? = some 32 ∧ X = (k : Int))) :
    RxOp b s k w (.returned (opAgg o v)) (put4 V r (.int .i64 o.kind) (.int .i64 o.n) (.string o.text) v) := by
  have k3 := put4_keep (b := w.heap.size) HR hr (.int .i64 o.kind) (.int .i64 o.n) (.string o.text) v
  exact ⟨_, o, J, X, rfl, ⟨v, rfl, k3.own hv (by decide)⟩, KV.later k3.below (Nat.le_of_lt hbw) (Nat.le_refl _), ⟨(k3.below.block b hbw).trans RV.1, RV.2⟩, h⟩

set_option maxRecDepth 100000 in
set_option maxHeartbeats 8000000 in
theorem rxOp_any (b : Nat) (s : ByteArray) (k : Nat) (w : World) (h : RxAt w b s k (-1)) (hz : s.size ≤ 1048576) :
    Calls Tryz.prog 50 #[.pointer (some ⟨b, 0, none⟩)] w (RxOp b s k w) := by
  have hbl : b < w.heap.size := lt_of_heap h.1
  obtain ⟨W, hW⟩ : ∃ W, W = w.alloc zeroO := ⟨_, rfl⟩
  have BW := (show Below w.heap.size w W by rw [hW]; exact below_box _ _)
  have r0 : W.heap[w.heap.size]? = some zeroO := by rw [hW]; exact heap_new _ _
  have hat0 : RxAt W b s k (-1) := h.later BW
  have KW := Lib.hid ((Keep.refl b [QT] w).later BW (Nat.le_of_lt hbl) (Nat.le_refl _))
  have HM := Lib.hid (mustA_any b s k 32 W hat0 (by decide))
  have HR0 := Lib.hid r0
  have HW := Lib.hid hW
  have hsW : w.heap.size < W.heap.size := by rw [hW]; simp
  have h2 : s.size ≤ 9223372036854775807 := by omega
  clear h hW BW r0 hat0
  go_enter Tryz.func50, Tryz.ntmps50
  go_wp2_with fail
  rw [← HW.out]
  refine HM.out.mono ?_
  rintro e w1 ⟨rfl, k1, J1, X1, r1, h1⟩
  have R1 := Lib.hid r1
  have K1 := Lib.hid (KW.out.trans k1)
  have HR1 := Lib.hid (k1.kept _ _ _ _ HR0.out (by decide))
  have HN := Lib.hid (next_any b s J1 X1 w1 r1)
  have H1 := Lib.hid h1
  have hs1 : w.heap.size < w1.heap.size := lt_of_heap HR1.out
  clear r1 k1 h1
  obtain ⟨c, hc⟩ : ∃ c, c = nxt s J1 X1 := ⟨_, rfl⟩
  rw [← hc] at HN
  have HC := Lib.hid hc
  clear hc
  go_wp2_with fail
  refine HN.out.mono ?_
  rintro e w2 ⟨rfl, n2, rfl⟩
  obtain ⟨V, hV⟩ : ∃ V, V = (w1.drewN n2).alloc zeroO := ⟨_, rfl⟩
  have BV := (show Below w1.heap.size w1 V by rw [hV]; exact below_alloc (below_drewN (Below.refl _ _) n2) (Nat.le_refl _) _)
  have o0 : V.heap[w1.heap.size]? = some zeroO := by rw [hV]; exact heap_new (w1.drewN n2) _
  have RV := Lib.hid (R1.out.later BV)
  have KV := Lib.hid (K1.out.later BV (Nat.le_of_lt (Nat.lt_trans hbl hs1)) (Nat.le_of_lt hs1))
  have HRV := Lib.hid ((BV.block _ hs1).trans HR1.out)
  have HOV := Lib.hid o0
  have HV := Lib.hid hV
  clear hV BV o0
  rcases H1.out with ⟨hh, rfl, rfl⟩ | ⟨hh, hX⟩
  · have HH := Lib.hid hh
    have hk1 : k + 1 ≤ s.size := R1.out.2.1
    rw [nxt_live] at HC
    by_cases h61 : c = 61
    · obtain ⟨hlt, hrr⟩ := head_go HC.out.symm (by rw [h61]; decide)
      subst h61
      have HRR := Lib.hid hrr
      have hw1 := IntWalk.i64_in ((k : Int) + 1 + 1) (by omega)
      have hw1' := IntWalk.i64_in (((k + 1 : Nat) : Int) + 1) (by omega)
      have q61 : (((61 : UInt8).toNat : Int) == 61) = true := rfl
      have HST := Lib.hid (RV.out.step (k + 1 + 1) hlt)
      have hcV := RV.out.at
      have hfV := RV.out.free 1
      have hg0 := Joins.unfrozen_of_block HOV.out 0
      have hg1 := Joins.unfrozen_of_block HOV.out 1
      have hg2 := Joins.unfrozen_of_block HOV.out 2
      have hg3 := Joins.unfrozen_of_block HOV.out 3
      have y0 := (Lib.cell_of_heap HOV.out 0).trans (show _ = some (Value.int .i64 0) from rfl)
      have y1 := (Lib.cell_of_heap HOV.out 1).trans (show _ = some (Value.int .i64 0) from rfl)
      have y2 := (Lib.cell_of_heap HOV.out 2).trans (show _ = some (Value.string ⟨#[]⟩) from rfl)
      have y3 := (Lib.cell_of_heap HOV.out 3).trans (show _ = some (Value.slice none 0 0) from rfl)
      rw [HV.out] at hcV hfV hg0 hg1 hg2 hg3 y0 y1 y2 y3
      have hbg : b ≠ w1.heap.size := by omega
      have hgb : w1.heap.size ≠ b := by omega
      obtain ⟨c0, c1, c2⟩ := hcV
      clear hh hrr
      obtain ⟨Y, hY⟩ : ∃ Y, Y = ((put4 V w1.heap.size (.int .i64 0) (.int .i64 0) (.string ⟨#[]⟩) (.slice none 0 0)).setCell ⟨b, 1, none⟩ (.int .i64 ((k : Int) + 1 + 1))).setCell ⟨w1.heap.size, 0, none⟩ (.int .i64 1) := ⟨_, rfl⟩
      obtain ⟨RY, OY, ZY, KY⟩ := op_world (w := w) RV.out HOV.out HRV.out KV.out hlt hbl (Nat.le_of_lt hs1) (Nat.le_refl _) (by omega) (.int .i64 1) Y hY
      rw [HV.out] at hY
      have HY := Lib.hid hY
      have HNb := Lib.hid (numberA_any b s (k + 1 + 1) Y RY)
      have hOY := Lib.hid OY
      have hZY := Lib.hid ZY
      have hKY := Lib.hid KY
      have hsY : w1.heap.size < Y.heap.size := lt_of_heap OY
      clear hY RY OY ZY KY
      go_wp2_with fail
      rw [← HY.out]
      refine HNb.out.mono ?_
      rintro e w3 ⟨n, rfl, k3, J3, X3, r3, h3⟩
      have O3 := k3.kept _ _ _ _ hOY.out (by decide)
      have Z3 := k3.kept _ _ _ _ hZY.out (by decide)
      have K3 := hKY.out.trans k3
      have g1 := Joins.unfrozen_of_block O3 1
      have y1 := (Lib.cell_of_heap O3 1).trans (show _ = some (Value.int .i64 0) from rfl)
      obtain ⟨Y2, hY2⟩ : ∃ Y2, Y2 = w3.setCell ⟨w1.heap.size, 1, none⟩ (.int .i64 n) := ⟨_, rfl⟩
      obtain ⟨RY2, OY2, ZY2, KY2, _⟩ := op_set (w := w) r3 O3 Z3 K3 hbl (Nat.le_of_lt hs1) (by omega) 1 (.int .i64 n) Y2 hY2
      have hx3 : X3 = -1 ∨ 0 ≤ X3 := by rcases h3 with ⟨h, _⟩ | ⟨m, _, h⟩ <;> omega
      have HA := Lib.hid (attrsA_any b s J3 X3 Y2 RY2 hx3 hz)
      have H3 := Lib.hid h3
      have HY2 := Lib.hid hY2
      have hOY2 := Lib.hid OY2
      have hZY2 := Lib.hid ZY2
      have hKY2 := Lib.hid KY2
      have hsY2 : w.heap.size ≤ Y2.heap.size := KY2.below.size
      clear hY2 RY2 OY2 ZY2 KY2 K3 Z3 O3 r3 k3 h3 hg0 hg1 hg2 hg3 hfV c0 c1 c2 y0 y2 y3
      go_wp2_with fail
      rw [← HY2.out]
      refine HA.out.mono ?_
      rintro e w4 ⟨l, v, rfl, hv, k4, J4, X4, r4, h4⟩
      obtain ⟨va, vc, rfl⟩ := own_slice hv
      have O4 := k4.kept _ _ _ _ hOY2.out (by decide)
      have Z4 := k4.kept _ _ _ _ hZY2.out (by decide)
      have K4 := hKY2.out.trans k4
      have g3 := Joins.unfrozen_of_block O4 3
      have y0 := (Lib.cell_of_heap O4 0).trans (show _ = some (Value.int .i64 1) from rfl)
      have y1 := (Lib.cell_of_heap O4 1).trans (show _ = some (Value.int .i64 n) from rfl)
      have y2 := (Lib.cell_of_heap O4 2).trans (show _ = some (Value.string ⟨#[]⟩) from rfl)
      have y3 := (Lib.cell_of_heap O4 3).trans (show _ = some (Value.slice none 0 0) from rfl)
      obtain ⟨Y3, hY3⟩ : ∃ Y3, Y3 = w4.setCell ⟨w1.heap.size, 3, none⟩ (.slice va l.length vc) := ⟨_, rfl⟩
      obtain ⟨RY3, OY3, ZY3, KY3, KZ3⟩ := op_set (w := w) r4 O4 Z4 K4 hbl (Nat.le_of_lt hs1) (by omega) 3 (.slice va l.length vc) Y3 hY3
      have hv3 := own_base (KZ3.own hv (by decide)) hsY2
      have HF := Lib.hid (put4_heap ZY3 (.int .i64 1) (.int .i64 n) (.string ⟨#[]⟩) (.slice va l.length vc))
      have q0 := Joins.unfrozen_of_block Z4 0
      have q1 := Joins.unfrozen_of_block Z4 1
      have q2 := Joins.unfrozen_of_block Z4 2
      have q3 := Joins.unfrozen_of_block Z4 3
      have x0 := (Lib.cell_of_heap Z4 0).trans (show _ = some (Value.int .i64 0) from rfl)
      have x1 := (Lib.cell_of_heap Z4 1).trans (show _ = some (Value.int .i64 0) from rfl)
      have x2 := (Lib.cell_of_heap Z4 2).trans (show _ = some (Value.string ⟨#[]⟩) from rfl)
      have x3 := (Lib.cell_of_heap Z4 3).trans (show _ = some (Value.slice none 0 0) from rfl)
      have hrg : w.heap.size ≠ w1.heap.size := by omega
      have hgr : w1.heap.size ≠ w.heap.size := by omega
      have HY3 := Lib.hid hY3
      have HANS := Lib.hid (op_answer (b := b) (r := w.heap.size) (k := k) (J := J4) (X := X4) (o := ⟨1, n, Sp.none0, l⟩) RY3 ZY3 KY3 hbl (Nat.le_refl _) hv3 (by
        refine (show _ ∨ _ from ?_)
        rw [HRR.out, Sp.op_keep]
        rcases H3.out with ⟨rfl, i3, hn3, rfl⟩ | ⟨m3, hn3, rfl⟩
        · rcases h4 with ⟨_, rfl, n4, ha4, rfl⟩ | ⟨_, m4, ha4, rfl⟩ | ⟨h, _⟩
          · refine .inl ⟨rfl, HH.out, 1 + (i3 + n4), ?_, by omega⟩
            exact Sp.opt2_ok (f := fun (n : Nat) a => (⟨1, n, Sp.none0, a⟩ : OpD)) hn3 (by rw [rst_drop]; exact ha4)
          · refine .inr (.inl ⟨HH.out, 1 + (i3 + m4), ?_, by omega⟩)
            exact Sp.opt2_bad (f := fun (n : Nat) a => (⟨1, n, Sp.none0, a⟩ : OpD)) hn3 (by rw [rst_drop]; exact ha4)
          · omega
        · rcases h4 with ⟨h, _⟩ | ⟨h, _⟩ | ⟨_, rfl⟩
          · omega
          · omega
          · refine .inr (.inl ⟨HH.out, 1 + m3, ?_, by omega⟩)
            exact Sp.bad1 hn3))
      clear hY3 RY3 OY3 ZY3 KY3 KZ3 K4 Z4 O4 r4 k4 h4 hv hv3
      go_wp2_with fail
      rw [← HY3.out]
      have z0 := (Lib.cell_of_heap HF.out 0)
      have z1 := (Lib.cell_of_heap HF.out 1)
      have z2 := (Lib.cell_of_heap HF.out 2)
      have z3 := (Lib.cell_of_heap HF.out 3)
      refine bodyPost_ret (v := opAgg ⟨1, n, Sp.none0, l⟩ (.slice va l.length vc)) (by simp [results, Tryz.results50, go_sem, z0, z1, z2, z3, Sp.none0]) rfl HANS.out
    · skip
      by_cases h45 : c = 45
      · obtain ⟨hlt, hrr⟩ := head_go HC.out.symm (by rw [h45]; decide)
        subst h45
        have HRR := Lib.hid hrr
        have hw1 := IntWalk.i64_in ((k : Int) + 1 + 1) (by omega)
        have hw1' := IntWalk.i64_in (((k + 1 : Nat) : Int) + 1) (by omega)
        have q61 : (((45 : UInt8).toNat : Int) == 61) = false := rfl
        have q45 : (((45 : UInt8).toNat : Int) == 45) = true := rfl
        have HST := Lib.hid (RV.out.step (k + 1 + 1) hlt)
        have hcV := RV.out.at
        have hfV := RV.out.free 1
        have hg0 := Joins.unfrozen_of_block HOV.out 0
        have hg1 := Joins.unfrozen_of_block HOV.out 1
        have hg2 := Joins.unfrozen_of_block HOV.out 2
        have hg3 := Joins.unfrozen_of_block HOV.out 3
        have y0 := (Lib.cell_of_heap HOV.out 0).trans (show _ = some (Value.int .i64 0) from rfl)
        have y1 := (Lib.cell_of_heap HOV.out 1).trans (show _ = some (Value.int .i64 0) from rfl)
        have y2 := (Lib.cell_of_heap HOV.out 2).trans (show _ = some (Value.string ⟨#[]⟩) from rfl)
        have y3 := (Lib.cell_of_heap HOV.out 3).trans (show _ = some (Value.slice none 0 0) from rfl)
        rw [HV.out] at hcV hfV hg0 hg1 hg2 hg3 y0 y1 y2 y3
        have hbg : b ≠ w1.heap.size := by omega
        have hgb : w1.heap.size ≠ b := by omega
        obtain ⟨c0, c1, c2⟩ := hcV
        clear hh hrr
        obtain ⟨Y, hY⟩ : ∃ Y, Y = ((put4 V w1.heap.size (.int .i64 0) (.int .i64 0) (.string ⟨#[]⟩) (.slice none 0 0)).setCell ⟨b, 1, none⟩ (.int .i64 ((k : Int) + 1 + 1))).setCell ⟨w1.heap.size, 0, none⟩ (.int .i64 3) := ⟨_, rfl⟩
        obtain ⟨RY, OY, ZY, KY⟩ := op_world (w := w) RV.out HOV.out HRV.out KV.out hlt hbl (Nat.le_of_lt hs1) (Nat.le_refl _) (by omega) (.int .i64 3) Y hY
        rw [HV.out] at hY
        have HY := Lib.hid hY
        have HNb := Lib.hid (numberA_any b s (k + 1 + 1) Y RY)
        have hOY := Lib.hid OY
        have hZY := Lib.hid ZY
        have hKY := Lib.hid KY
        have hsY : w1.heap.size < Y.heap.size := lt_of_heap OY
        clear hY RY OY ZY KY
        go_wp2_with fail
        rw [← HY.out]
        refine HNb.out.mono ?_
        rintro e w3 ⟨n, rfl, k3, J3, X3, r3, h3⟩
        have O3 := k3.kept _ _ _ _ hOY.out (by decide)
        have Z3 := k3.kept _ _ _ _ hZY.out (by decide)
        have K3 := hKY.out.trans k3
        have g1 := Joins.unfrozen_of_block O3 1
        have y1 := (Lib.cell_of_heap O3 1).trans (show _ = some (Value.int .i64 0) from rfl)
        obtain ⟨Y2, hY2⟩ : ∃ Y2, Y2 = w3.setCell ⟨w1.heap.size, 1, none⟩ (.int .i64 n) := ⟨_, rfl⟩
        obtain ⟨RY3, OY3, ZY3, KY3, _⟩ := op_set (w := w) r3 O3 Z3 K3 hbl (Nat.le_of_lt hs1) (by omega) 1 (.int .i64 n) Y2 hY2
        have HF := Lib.hid (put4_heap ZY3 (.int .i64 3) (.int .i64 n) (.string ⟨#[]⟩) (.slice none 0 0))
        have y0 := (Lib.cell_of_heap O3 0).trans (show _ = some (Value.int .i64 3) from rfl)
        have y2 := (Lib.cell_of_heap O3 2).trans (show _ = some (Value.string ⟨#[]⟩) from rfl)
        have y3 := (Lib.cell_of_heap O3 3).trans (show _ = some (Value.slice none 0 0) from rfl)
        have q0 := Joins.unfrozen_of_block Z3 0
        have q1 := Joins.unfrozen_of_block Z3 1
        have q2 := Joins.unfrozen_of_block Z3 2
        have q3 := Joins.unfrozen_of_block Z3 3
        have x0 := (Lib.cell_of_heap Z3 0).trans (show _ = some (Value.int .i64 0) from rfl)
        have x1 := (Lib.cell_of_heap Z3 1).trans (show _ = some (Value.int .i64 0) from rfl)
        have x2 := (Lib.cell_of_heap Z3 2).trans (show _ = some (Value.string ⟨#[]⟩) from rfl)
        have x3 := (Lib.cell_of_heap Z3 3).trans (show _ = some (Value.slice none 0 0) from rfl)
        have hrg : w.heap.size ≠ w1.heap.size := by omega
        have hgr : w1.heap.size ≠ w.heap.size := by omega
        have HY2 := Lib.hid hY2
        have HANS := Lib.hid (op_answer (b := b) (r := w.heap.size) (k := k) (J := J3) (X := X3) (o := ⟨3, n, Sp.none0, []⟩) RY3 ZY3 KY3 hbl (Nat.le_refl _) (own_nil _ _) (by
          refine (show _ ∨ _ from ?_)
          rw [HRR.out, Sp.op_cut]
          rcases h3 with ⟨rfl, i3, hn3, rfl⟩ | ⟨m3, hn3, rfl⟩
          · refine .inl ⟨rfl, HH.out, 1 + i3, ?_, by omega⟩
            exact Sp.ok1 (f := fun n : Nat => (⟨3, n, Sp.none0, []⟩ : OpD)) hn3
          · refine .inr (.inl ⟨HH.out, 1 + m3, ?_, by omega⟩)
            exact Sp.bad1 hn3))
        clear hY2 RY3 OY3 ZY3 KY3 K3 Z3 O3 r3 k3 h3 hg0 hg1 hg2 hg3 hfV c0 c1 c2
        go_wp2_with fail
        rw [← HY2.out]
        have z0 := (Lib.cell_of_heap HF.out 0)
        have z1 := (Lib.cell_of_heap HF.out 1)
        have z2 := (Lib.cell_of_heap HF.out 2)
        have z3 := (Lib.cell_of_heap HF.out 3)
        refine bodyPost_ret (v := opAgg ⟨3, n, Sp.none0, []⟩ (.slice none 0 0)) (by simp [results, Tryz.results50, go_sem, z0, z1, z2, z3, Sp.none0]) rfl HANS.out
      · skip
        by_cases h43 : c = 43
        · obtain ⟨hlt, hrr⟩ := head_go HC.out.symm (by rw [h43]; decide)
          subst h43
          have HRR := Lib.hid hrr
          have hw1 := IntWalk.i64_in ((k : Int) + 1 + 1) (by omega)
          have hw1' := IntWalk.i64_in (((k + 1 : Nat) : Int) + 1) (by omega)
          have q61 : (((43 : UInt8).toNat : Int) == 61) = false := rfl
          have q45 : (((43 : UInt8).toNat : Int) == 45) = false := rfl
          have q43 : (((43 : UInt8).toNat : Int) == 43) = true := rfl
          have HST := Lib.hid (RV.out.step (k + 1 + 1) hlt)
          have hcV := RV.out.at
          have hfV := RV.out.free 1
          have hg0 := Joins.unfrozen_of_block HOV.out 0
          have hg1 := Joins.unfrozen_of_block HOV.out 1
          have hg2 := Joins.unfrozen_of_block HOV.out 2
          have hg3 := Joins.unfrozen_of_block HOV.out 3
          have y0 := (Lib.cell_of_heap HOV.out 0).trans (show _ = some (Value.int .i64 0) from rfl)
          have y1 := (Lib.cell_of_heap HOV.out 1).trans (show _ = some (Value.int .i64 0) from rfl)
          have y2 := (Lib.cell_of_heap HOV.out 2).trans (show _ = some (Value.string ⟨#[]⟩) from rfl)
          have y3 := (Lib.cell_of_heap HOV.out 3).trans (show _ = some (Value.slice none 0 0) from rfl)
          rw [HV.out] at hcV hfV hg0 hg1 hg2 hg3 y0 y1 y2 y3
          have hbg : b ≠ w1.heap.size := by omega
          have hgb : w1.heap.size ≠ b := by omega
          obtain ⟨c0, c1, c2⟩ := hcV
          clear hh hrr
          obtain ⟨Y, hY⟩ : ∃ Y, Y = ((put4 V w1.heap.size (.int .i64 0) (.int .i64 0) (.string ⟨#[]⟩) (.slice none 0 0)).setCell ⟨b, 1, none⟩ (.int .i64 ((k : Int) + 1 + 1))).setCell ⟨w1.heap.size, 0, none⟩ (.int .i64 2) := ⟨_, rfl⟩
          obtain ⟨RY, OY, ZY, KY⟩ := op_world (w := w) RV.out HOV.out HRV.out KV.out hlt hbl (Nat.le_of_lt hs1) (Nat.le_refl _) (by omega) (.int .i64 2) Y hY
          rw [HV.out] at hY
          have HY := Lib.hid hY
          have HNb := Lib.hid (quotedA_any b s (k + 1 + 1) (-1) Y RY (.inl rfl) hz)
          have hOY := Lib.hid OY
          have hZY := Lib.hid ZY
          have hKY := Lib.hid KY
          have hsY : w1.heap.size < Y.heap.size := lt_of_heap OY
          clear hY RY OY ZY KY
          go_wp2_with fail
          rw [← HY.out]
          refine HNb.out.mono ?_
          rintro e w3 ⟨tx, rfl, k3, J3, X3, r3, h3⟩
          have O3 := k3.kept _ _ _ _ hOY.out (by decide)
          have Z3 := k3.kept _ _ _ _ hZY.out (by decide)
          have K3 := hKY.out.trans k3
          have g2 := Joins.unfrozen_of_block O3 2
          have y2 := (Lib.cell_of_heap O3 2).trans (show _ = some (Value.string ⟨#[]⟩) from rfl)
          obtain ⟨Y2, hY2⟩ : ∃ Y2, Y2 = w3.setCell ⟨w1.heap.size, 2, none⟩ (.string tx) := ⟨_, rfl⟩
          obtain ⟨RY2, OY2, ZY2, KY2, _⟩ := op_set (w := w) r3 O3 Z3 K3 hbl (Nat.le_of_lt hs1) (by omega) 2 (.string tx) Y2 hY2
          have hx3 : X3 = -1 ∨ 0 ≤ X3 := by rcases h3 with ⟨_, h, _⟩ | ⟨_, m, _, h⟩ | ⟨h, _⟩ <;> omega
          have HA := Lib.hid (attrsA_any b s J3 X3 Y2 RY2 hx3 hz)
          have H3 := Lib.hid h3
          have HY2 := Lib.hid hY2
          have hOY2 := Lib.hid OY2
          have hZY2 := Lib.hid ZY2
          have hKY2 := Lib.hid KY2
          have hsY2 : w.heap.size ≤ Y2.heap.size := KY2.below.size
          clear hY2 RY2 OY2 ZY2 KY2 K3 Z3 O3 r3 k3 h3 hg0 hg1 hg2 hg3 hfV c0 c1 c2 y0 y1 y3
          go_wp2_with fail
          rw [← HY2.out]
          refine HA.out.mono ?_
          rintro e w4 ⟨l, v, rfl, hv, k4, J4, X4, r4, h4⟩
          obtain ⟨va, vc, rfl⟩ := own_slice hv
          have O4 := k4.kept _ _ _ _ hOY2.out (by decide)
          have Z4 := k4.kept _ _ _ _ hZY2.out (by decide)
          have K4 := hKY2.out.trans k4
          have g3 := Joins.unfrozen_of_block O4 3
          have y0 := (Lib.cell_of_heap O4 0).trans (show _ = some (Value.int .i64 2) from rfl)
          have y1 := (Lib.cell_of_heap O4 1).trans (show _ = some (Value.int .i64 0) from rfl)
          have y2 := (Lib.cell_of_heap O4 2).trans (show _ = some (Value.string tx) from rfl)
          have y3 := (Lib.cell_of_heap O4 3).trans (show _ = some (Value.slice none 0 0) from rfl)
          obtain ⟨Y3, hY3⟩ : ∃ Y3, Y3 = w4.setCell ⟨w1.heap.size, 3, none⟩ (.slice va l.length vc) := ⟨_, rfl⟩
          obtain ⟨RY3, OY3, ZY3, KY3, KZ3⟩ := op_set (w := w) r4 O4 Z4 K4 hbl (Nat.le_of_lt hs1) (by omega) 3 (.slice va l.length vc) Y3 hY3
          have hv3 := own_base (KZ3.own hv (by decide)) hsY2
          have HF := Lib.hid (put4_heap ZY3 (.int .i64 2) (.int .i64 0) (.string tx) (.slice va l.length vc))
          have q0 := Joins.unfrozen_of_block Z4 0
          have q1 := Joins.unfrozen_of_block Z4 1
          have q2 := Joins.unfrozen_of_block Z4 2
          have q3 := Joins.unfrozen_of_block Z4 3
          have x0 := (Lib.cell_of_heap Z4 0).trans (show _ = some (Value.int .i64 0) from rfl)
          have x1 := (Lib.cell_of_heap Z4 1).trans (show _ = some (Value.int .i64 0) from rfl)
          have x2 := (Lib.cell_of_heap Z4 2).trans (show _ = some (Value.string ⟨#[]⟩) from rfl)
          have x3 := (Lib.cell_of_heap Z4 3).trans (show _ = some (Value.slice none 0 0) from rfl)
          have hrg : w.heap.size ≠ w1.heap.size := by omega
          have hgr : w1.heap.size ≠ w.heap.size := by omega
          have HY3 := Lib.hid hY3
          have h3' := H3.out
          have HANS := Lib.hid (op_answer (b := b) (r := w.heap.size) (k := k) (J := J4) (X := X4) (o := ⟨2, 0, tx, l⟩) RY3 ZY3 KY3 hbl (Nat.le_refl _) hv3 (by
            refine (show _ ∨ _ from ?_)
            rw [HRR.out, Sp.op_put]
            rcases h3' with ⟨_, rfl, v3, i3, hn3, rfl, rfl⟩ | ⟨_, m3, hn3, rfl⟩ | ⟨h, _⟩
            · rcases h4 with ⟨_, rfl, n4, ha4, rfl⟩ | ⟨_, m4, ha4, rfl⟩ | ⟨h, _⟩
              · refine .inl ⟨rfl, HH.out, 1 + (i3 + n4), ?_, by omega⟩
                exact Sp.opt2_ok (f := fun v a => (⟨2, 0, Sp.ba v, a⟩ : OpD)) hn3 (by rw [rst_drop]; exact ha4)
              · refine .inr (.inl ⟨HH.out, 1 + (i3 + m4), ?_, by omega⟩)
                exact Sp.opt2_bad (f := fun v a => (⟨2, 0, Sp.ba v, a⟩ : OpD)) hn3 (by rw [rst_drop]; exact ha4)
              · omega
            · rcases h4 with ⟨h, _⟩ | ⟨h, _⟩ | ⟨_, rfl⟩
              · omega
              · omega
              · refine .inr (.inl ⟨HH.out, 1 + m3, ?_, by omega⟩)
                exact Sp.bad1 hn3
            · omega))
          clear h3' hY3 RY3 OY3 ZY3 KY3 KZ3 K4 Z4 O4 r4 k4 h4 hv hv3
          go_wp2_with fail
          rw [← HY3.out]
          have z0 := (Lib.cell_of_heap HF.out 0)
          have z1 := (Lib.cell_of_heap HF.out 1)
          have z2 := (Lib.cell_of_heap HF.out 2)
          have z3 := (Lib.cell_of_heap HF.out 3)
          refine bodyPost_ret (v := opAgg ⟨2, 0, tx, l⟩ (.slice va l.length vc)) (by simp [results, Tryz.results50, go_sem, z0, z1, z2, z3]) rfl HANS.out
        · skip
          have HB0 := Lib.hid (op_bad0 (l := rst s (k + 1)) (by rw [← HC.out]; exact h61) (by rw [← HC.out]; exact h45) (by rw [← HC.out]; exact h43))
          have q61 := b_not' (n := 61) rfl h61
          have q45 := b_not' (n := 45) rfl h45
          have q43 := b_not' (n := 43) rfl h43
          clear h61 h45 h43 hh
          have hcV := RV.out.at
          have hg0 := Joins.unfrozen_of_block HOV.out 0
          have hg1 := Joins.unfrozen_of_block HOV.out 1
          have hg2 := Joins.unfrozen_of_block HOV.out 2
          have hg3 := Joins.unfrozen_of_block HOV.out 3
          have y0 := (Lib.cell_of_heap HOV.out 0).trans (show _ = some (Value.int .i64 0) from rfl)
          have y1 := (Lib.cell_of_heap HOV.out 1).trans (show _ = some (Value.int .i64 0) from rfl)
          have y2 := (Lib.cell_of_heap HOV.out 2).trans (show _ = some (Value.string ⟨#[]⟩) from rfl)
          have y3 := (Lib.cell_of_heap HOV.out 3).trans (show _ = some (Value.slice none 0 0) from rfl)
          rw [HV.out] at hcV hg0 hg1 hg2 hg3 y0 y1 y2 y3
          have hbg : b ≠ w1.heap.size := by omega
          have hgb : w1.heap.size ≠ b := by omega
          obtain ⟨c0, c1, c2⟩ := hcV
          obtain ⟨Y, hY⟩ : ∃ Y, Y = put4 V w1.heap.size (.int .i64 0) (.int .i64 0) (.string ⟨#[]⟩) (.slice none 0 0) := ⟨_, rfl⟩
          obtain ⟨RY, OY, ZY, KY⟩ := op_world0 (w := w) RV.out HOV.out HRV.out KV.out hbl (Nat.le_of_lt hs1) (by omega) Y hY
          rw [HV.out] at hY
          unfold put4 at hY
          have HY := Lib.hid hY
          have HB := Lib.hid (bad_any b s (k + 1) (-1) ((k + 1 : Nat) : Int) Y RY)
          have hOY := Lib.hid OY
          have hZY := Lib.hid ZY
          have hKY := Lib.hid KY
          clear hY RY OY ZY KY
          go_wp2_with fail
          rw [← HY.out]
          refine HB.out.mono ?_
          rintro e w3 ⟨rfl, r3, k3⟩
          rw [noted_live (by omega)] at r3
          have O3 := k3.kept _ _ _ _ hOY.out (by decide)
          have Z3 := k3.kept _ _ _ _ hZY.out (by decide)
          have K3 := hKY.out.trans k3
          have q0 := Joins.unfrozen_of_block Z3 0
          have q1 := Joins.unfrozen_of_block Z3 1
          have q2 := Joins.unfrozen_of_block Z3 2
          have q3 := Joins.unfrozen_of_block Z3 3
          have u0 := (Lib.cell_of_heap O3 0).trans (show _ = some (Value.int .i64 0) from rfl)
          have u1 := (Lib.cell_of_heap O3 1).trans (show _ = some (Value.int .i64 0) from rfl)
          have u2 := (Lib.cell_of_heap O3 2).trans (show _ = some (Value.string ⟨#[]⟩) from rfl)
          have u3 := (Lib.cell_of_heap O3 3).trans (show _ = some (Value.slice none 0 0) from rfl)
          have x0 := (Lib.cell_of_heap Z3 0).trans (show _ = some (Value.int .i64 0) from rfl)
          have x1 := (Lib.cell_of_heap Z3 1).trans (show _ = some (Value.int .i64 0) from rfl)
          have x2 := (Lib.cell_of_heap Z3 2).trans (show _ = some (Value.string ⟨#[]⟩) from rfl)
          have x3 := (Lib.cell_of_heap Z3 3).trans (show _ = some (Value.slice none 0 0) from rfl)
          have HF := Lib.hid (put4_heap Z3 (.int .i64 0) (.int .i64 0) (.string ⟨#[]⟩) (.slice none 0 0))
          have HANS := Lib.hid (op_answer (b := b) (r := w.heap.size) (k := k) (o := ⟨0, 0, Sp.none0, []⟩) r3 Z3 K3 hbl (Nat.le_refl _) (own_nil _ _) (.inr (.inl ⟨HH.out, 0, HB0.out, by omega⟩)))
          clear r3 k3 K3 Z3 O3 hg0 hg1 hg2 hg3 c0 c1 c2 y0 y1 y2 y3
          go_wp2_with fail
          have z0 := (Lib.cell_of_heap HF.out 0)
          have z1 := (Lib.cell_of_heap HF.out 1)
          have z2 := (Lib.cell_of_heap HF.out 2)
          have z3 := (Lib.cell_of_heap HF.out 3)
          refine bodyPost_ret (v := opAgg ⟨0, 0, Sp.none0, []⟩ (.slice none 0 0)) (by simp [results, Tryz.results50, go_sem, z0, z1, z2, z3, Sp.none0]) rfl HANS.out
  · skip
    have HH := Lib.hid hh
    have hX0 : 0 ≤ X1 := by omega
    rw [nxt_dead hX0] at HC
    obtain rfl := HC.out
    have HX := Lib.hid hX
    have q61 : (((0 : UInt8).toNat : Int) == 61) = false := rfl
    have q45 : (((0 : UInt8).toNat : Int) == 45) = false := rfl
    have q43 : (((0 : UInt8).toNat : Int) == 43) = false := rfl
    clear hh hX
    have hcV := RV.out.at
    have hg0 := Joins.unfrozen_of_block HOV.out 0
    have hg1 := Joins.unfrozen_of_block HOV.out 1
    have hg2 := Joins.unfrozen_of_block HOV.out 2
    have hg3 := Joins.unfrozen_of_block HOV.out 3
    have y0 := (Lib.cell_of_heap HOV.out 0).trans (show _ = some (Value.int .i64 0) from rfl)
    have y1 := (Lib.cell_of_heap HOV.out 1).trans (show _ = some (Value.int .i64 0) from rfl)
    have y2 := (Lib.cell_of_heap HOV.out 2).trans (show _ = some (Value.string ⟨#[]⟩) from rfl)
    have y3 := (Lib.cell_of_heap HOV.out 3).trans (show _ = some (Value.slice none 0 0) from rfl)
    rw [HV.out] at hcV hg0 hg1 hg2 hg3 y0 y1 y2 y3
    have hbg : b ≠ w1.heap.size := by omega
    have hgb : w1.heap.size ≠ b := by omega
    obtain ⟨c0, c1, c2⟩ := hcV
    obtain ⟨Y, hY⟩ : ∃ Y, Y = put4 V w1.heap.size (.int .i64 0) (.int .i64 0) (.string ⟨#[]⟩) (.slice none 0 0) := ⟨_, rfl⟩
    obtain ⟨RY, OY, ZY, KY⟩ := op_world0 (w := w) RV.out HOV.out HRV.out KV.out hbl (Nat.le_of_lt hs1) (by omega) Y hY
    rw [HV.out] at hY
    unfold put4 at hY
    have HY := Lib.hid hY
    have HB := Lib.hid (bad_any b s (J1) X1 ((J1 : Nat) : Int) Y RY)
    have hOY := Lib.hid OY
    have hZY := Lib.hid ZY
    have hKY := Lib.hid KY
    clear hY RY OY ZY KY
    go_wp2_with fail
    rw [← HY.out]
    refine HB.out.mono ?_
    rintro e w3 ⟨rfl, r3, k3⟩
    rw [noted_dead (by omega)] at r3
    have O3 := k3.kept _ _ _ _ hOY.out (by decide)
    have Z3 := k3.kept _ _ _ _ hZY.out (by decide)
    have K3 := hKY.out.trans k3
    have q0 := Joins.unfrozen_of_block Z3 0
    have q1 := Joins.unfrozen_of_block Z3 1
    have q2 := Joins.unfrozen_of_block Z3 2
    have q3 := Joins.unfrozen_of_block Z3 3
    have u0 := (Lib.cell_of_heap O3 0).trans (show _ = some (Value.int .i64 0) from rfl)
    have u1 := (Lib.cell_of_heap O3 1).trans (show _ = some (Value.int .i64 0) from rfl)
    have u2 := (Lib.cell_of_heap O3 2).trans (show _ = some (Value.string ⟨#[]⟩) from rfl)
    have u3 := (Lib.cell_of_heap O3 3).trans (show _ = some (Value.slice none 0 0) from rfl)
    have x0 := (Lib.cell_of_heap Z3 0).trans (show _ = some (Value.int .i64 0) from rfl)
    have x1 := (Lib.cell_of_heap Z3 1).trans (show _ = some (Value.int .i64 0) from rfl)
    have x2 := (Lib.cell_of_heap Z3 2).trans (show _ = some (Value.string ⟨#[]⟩) from rfl)
    have x3 := (Lib.cell_of_heap Z3 3).trans (show _ = some (Value.slice none 0 0) from rfl)
    have HF := Lib.hid (put4_heap Z3 (.int .i64 0) (.int .i64 0) (.string ⟨#[]⟩) (.slice none 0 0))
    have HANS := Lib.hid (op_answer (b := b) (r := w.heap.size) (k := k) (o := ⟨0, 0, Sp.none0, []⟩) r3 Z3 K3 hbl (Nat.le_refl _) (own_nil _ _) (.inr (.inr ⟨HH.out, HX.out⟩)))
    clear r3 k3 K3 Z3 O3 hg0 hg1 hg2 hg3 c0 c1 c2 y0 y1 y2 y3
    go_wp2_with fail
    have z0 := (Lib.cell_of_heap HF.out 0)
    have z1 := (Lib.cell_of_heap HF.out 1)
    have z2 := (Lib.cell_of_heap HF.out 2)
    have z3 := (Lib.cell_of_heap HF.out 3)
    refine bodyPost_ret (v := opAgg ⟨0, 0, Sp.none0, []⟩ (.slice none 0 0)) (by simp [results, Tryz.results50, go_sem, z0, z1, z2, z3, Sp.none0]) rfl HANS.out
end Go.Proofs.YtadookafnfnaoaaGreatDoor
