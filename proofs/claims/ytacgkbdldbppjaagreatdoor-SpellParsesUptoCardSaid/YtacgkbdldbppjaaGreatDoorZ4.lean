/- Texts of this seat, put together in build order: SpOp, SpCh, SpPa, SpPb, ChLaw, SpAw, SpQu, SpSd, RfSame, RfNorm, RfIns, RfSt, Rf, Read, RfCount. -/
import Derived.Test.YtacgkbdldbppjaaGreatDoorZ3
import Derived.BigRegion
import Derived.LaidLaws
import Derived.LaidSub
import Derived.MakeChecks
import Derived.Lib.LaidTab
import Derived.Lib.LaidU8T
import Derived.PinnedBridge
import Derived.WalkKit
import Derived.WalkSpells
import Derived.WalkLawsBesides
import Derived.Deep.DeepCutAuto
import Derived.Deep.LoopGhost
import Derived.Deep.CutBlock
import Derived.OneCell
/- The reader's op. -/
namespace Go.Proofs.YtacgkbdldbppjaaGreatDoor
open Go.RowKit Ch

namespace Sp
theorem op_else {x : UInt8} {t : List UInt8} (h1 : x ≠ 45) (h2 : x ≠ 61) (h3 : x ≠ 43) : op (x :: t) = .bad 0 := by
  show (if x = 45 ∨ x = 61 ∨ x = 43 then (kind x t).shift 1 else .bad 0) = _
  rw [if_neg (fun h => h.elim h1 fun h => h.elim h2 h3)]
theorem op_cut (t : List UInt8) : op (45 :: t) = (bnd number (fun n => ret ⟨3, n, none0, []⟩) t).shift 1 := by
  have e : op (45 :: t) = (kind 45 t).shift 1 := by unfold op; simp
  rw [e]; unfold kind; rw [if_pos rfl]
theorem op_keep (t : List UInt8) : op (61 :: t) = (bnd number (fun n => bnd opt fun a => ret ⟨1, n, none0, a⟩) t).shift 1 := by
  have e : op (61 :: t) = (kind 61 t).shift 1 := by unfold op; simp
  rw [e]; unfold kind; rw [if_neg (by decide), if_pos rfl]
theorem op_put (t : List UInt8) : op (43 :: t) = (bnd quoted (fun v => bnd opt fun a => ret ⟨2, 0, ba v, a⟩) t).shift 1 := by
  have e : op (43 :: t) = (kind 43 t).shift 1 := by unfold op; simp
  rw [e]; unfold kind; rw [if_neg (by decide), if_neg (by decide)]
theorem bad1 {α β : Type} {p : List UInt8 → R α} {q : α → List UInt8 → R β} {l : List UInt8} {k : Nat} (h : p l = .bad k) : (bnd p q l).shift 1 = .bad (1 + k) := by rw [bnd_bad h]; rfl
theorem ok1 {α β : Type} {p : List UInt8 → R α} {f : α → β} {l : List UInt8} {v : α} {n : Nat} (h : p l = .ok v n) : (bnd p (fun x => ret (f x)) l).shift 1 = .ok (f v) (1 + n) := by rw [bnd_ok h]; rfl
theorem opt_no {α : Type} {p : List UInt8 → R α} {f : α → List A → OpD} {l : List UInt8} {v : α} {n : Nat} (h : p l = .ok v n) (h2 : ¬ (l.drop n).head? = some 123) : (bnd p (fun x => bnd opt fun a => ret (f x a)) l).shift 1 = .ok (f v []) (1 + n) := by
  rw [bnd_ok h, bnd_ok (v := []) (n := 0) (by unfold opt; rw [if_neg h2])]; rfl
theorem opt_bad {α : Type} {p : List UInt8 → R α} {f : α → List A → OpD} {l : List UInt8} {v : α} {n k : Nat} (h : p l = .ok v n) (h2 : (l.drop n).head? = some 123) (h3 : attrs (l.drop n) = .bad k) : (bnd p (fun x => bnd opt fun a => ret (f x a)) l).shift 1 = .bad (1 + (n + k)) := by
  rw [bnd_ok h, bnd_bad (k := k) (by unfold opt; rw [if_pos h2]; exact h3)]; rfl
theorem opt_ok {α : Type} {p : List UInt8 → R α} {f : α → List A → OpD} {l : List UInt8} {v : α} {m : List A} {n j : Nat} (h : p l = .ok v n) (h2 : (l.drop n).head? = some 123) (h3 : attrs (l.drop n) = .ok m j) : (bnd p (fun x => bnd opt fun a => ret (f x a)) l).shift 1 = .ok (f v m) (1 + (n + j)) := by
  rw [bnd_ok h, bnd_ok (v := m) (n := j) (by unfold opt; rw [if_pos h2]; exact h3)]; rfl
end Sp

abbrev zeroO : Obj := .cells #[.int .i64 0, .int .i64 0, .string ⟨#[]⟩, .slice none 0 0] 48
abbrev put4 (w : World) (g : Nat) (x0 x1 x2 x3 : Value) : World := (((w.setCell ⟨g, 0, none⟩ x0).setCell ⟨g, 1, none⟩ x1).setCell ⟨g, 2, none⟩ x2).setCell ⟨g, 3, none⟩ x3
theorem put4_heap {w : World} {g : Nat} {a0 a1 a2 a3 : Value} {T : TypeId} (h : w.heap[g]? = some (.cells #[a0, a1, a2, a3] T (0, 0))) (x0 x1 x2 x3 : Value) : (put4 w g x0 x1 x2 x3).heap[g]? = some (.cells #[x0, x1, x2, x3] T (0, 0)) := by
  have h0 := Joins.block_setCell (i := 0) h x0
  have h1 := Joins.block_setCell (i := 1) h0 x1
  have h2 := Joins.block_setCell (i := 2) h1 x2
  exact Joins.block_setCell (i := 3) h2 x3
theorem set_keep {w : World} {b g i : Nat} {cs : Array Value} {T : TypeId} {fr : Nat × Nat} (h : w.heap[g]? = some (.cells cs T fr)) (hb : b ≤ g) (v : Value) : Keep b [T] w (w.setCell ⟨g, i, none⟩ v) := keep_set h (List.mem_singleton.2 rfl) hb _ rfl v
theorem put4_keep {w : World} {b g : Nat} {a0 a1 a2 a3 : Value} {T : TypeId} (h : w.heap[g]? = some (.cells #[a0, a1, a2, a3] T (0, 0))) (hb : b ≤ g) (x0 x1 x2 x3 : Value) : Keep b [T] w (put4 w g x0 x1 x2 x3) := by
  have h0 := Joins.block_setCell (i := 0) h x0
  have h1 := Joins.block_setCell (i := 1) h0 x1
  have h2 := Joins.block_setCell (i := 2) h1 x2
  exact (((set_keep h hb x0).trans (set_keep h0 hb x1)).trans (set_keep h1 hb x2)).trans (set_keep h2 hb x3)
abbrev valO (C : Nat) : OpD → World → Value → Prop := fun o w' u => ∃ v, u = opAgg o v ∧ w'.ownsRow C 52 2 v o.attrs.length (flat o.attrs)
theorem own_nil (w : World) (C : Nat) : w.ownsRow C 52 2 (.slice none 0 0) 0 (flat []) := ⟨rfl, .inl ⟨rfl, rfl⟩⟩

theorem Syn.keep {B : Nat} {ts : List TypeId} {w w' : World} (h : Syn w) (hk : Keep B ts w w') (hB : 3 < B) : Syn w' := by
  obtain ⟨ev, h1, h2⟩ := h
  exact ⟨ev, (hk.below.cell (p := ⟨3, 0, none⟩) (by exact hB)).trans h1, h2⟩

set_option maxHeartbeats 4000000 in
theorem op_any (b : Nat) (s : ByteArray) (a : Nat) (w : World) (h : RdAt w b s a) (hz : s.size ≤ 262144) (hy : Syn w) (hyb : 3 < b) :
    Calls Tryz.prog 74 #[.pointer (some ⟨b, 0, none⟩)] w (RdGo b s a (Sp.op (rst s a)) (valO w.heap.size) w) := by
  have hbl : b < w.heap.size := lt_of_heap h.1
  obtain ⟨W, hW⟩ : ∃ W, W = (w.alloc zeroO).alloc zeroO := ⟨_, rfl⟩
  have BW := (show Below w.heap.size w W by rw [hW]; exact ((Below.refl _ _).alloc (Nat.le_refl _) _).alloc (by simp) _)
  have r0 : W.heap[w.heap.size]? = some zeroO := by
    rw [hW, Below.heap_alloc _ _ _ (by simp)]; exact heap_new _ _
  have o0 : W.heap[w.heap.size + 1]? = some zeroO := by
    rw [hW]
    have := heap_new (w.alloc zeroO) zeroO
    simpa using this
  have hat0 : RdAt W b s a := h.later BW hbl
  have c1 := hat0.c1
  have cw : (w.alloc zeroO).cell? ⟨b, 1, none⟩ = some (.int .i64 a) := (h.later (below_box w _) hbl).c1
  have KW := Lib.hid ((Keep.refl b [RT] w).later BW (Nat.le_of_lt hbl) (Nat.le_refl _))
  have HR0 := Lib.hid r0
  have HO0 := Lib.hid o0
  have HW := Lib.hid hW
  have hyW : Syn W := by
    obtain ⟨ev, h1, h2⟩ := hy
    exact ⟨ev, (BW.cell (p := ⟨3, 0, none⟩) (by exact Nat.lt_trans hyb hbl)).trans h1, h2⟩
  have HY := Lib.hid hyW
  have hsW : w.heap.size + 2 ≤ W.heap.size := by rw [hW]; simp
  cases hd : rst s a with
  | nil =>
    have HT := Lib.hid (take_bad b s a W hat0 hd)
    clear h hd hW BW r0 o0 hat0 hy hyW
    go_enter Tryz.func74, Tryz.ntmps74
    go_wp2_with fail
    rw [← HW.out]
    go_wp2_with fail
    refine HT.out.mono ?_
    rintro e w1 ⟨rfl, hk⟩
    exact ⟨rfl, rdgo_bad (k := 0) rfl rfl (KW.out.trans hk)⟩
  | cons x t =>
    obtain ⟨hlt, _, ht⟩ := rst_head hd
    have HT := Lib.hid (take_ok b s a x t W hat0 hd)
    clear h hd hW BW r0 o0 hat0 hy hyW
    obtain ⟨X, hX⟩ : ∃ X, X = Sp.op (x :: t) := ⟨_, rfl⟩
    rw [← hX]
    have HX := Lib.hid hX
    clear hX
    go_enter Tryz.func74, Tryz.ntmps74
    go_wp2_with fail
    rw [← HW.out]
    go_wp2_with fail
    refine HT.out.mono ?_
    rintro e w1 ⟨rfl, hat1, hk1⟩
    have Hat1 := Lib.hid hat1
    have Hk1 := Lib.hid (KW.out.trans hk1)
    have HR1 := Lib.hid (hk1.kept _ _ _ _ HR0.out (by decide))
    have HO1 := Lib.hid (hk1.kept _ _ _ _ HO0.out (by decide))
    have HY1 := Lib.hid (HY.out.keep hk1 hyb)
    clear hat1 hk1
    by_cases h45 : x = 45
    · have k1 := b_is (n := 45) rfl h45
      subst h45
      have HN := Lib.hid (number_any b s _ w1 Hat1.out (by omega) HY1.out hyb)
      have HX2 := Lib.hid (HX.out.trans (Sp.op_cut t))
      rw [ht] at HX2
      clear k1
      have k1 : (((45 : UInt8).toNat : Int) == 45) = true := rfl
      go_wp2_with fail
      refine HN.out.mono ?_
      cases hq : Sp.number (rst s (a + 1)) with
      | bad k =>
        have HV := Lib.hid (HX2.out.trans (Sp.bad1 hq))
        rintro e w2 ⟨rfl, hk2⟩
        exact ⟨rfl, rdgo_bad HV.out (by rw [show a + (1 + k) = a + 1 + k by omega]) (Hk1.out.trans hk2)⟩
      | ok n i =>
        have HV := Lib.hid (HX2.out.trans (Sp.ok1 (f := fun n : Nat => (⟨3, n, Sp.none0, []⟩ : OpD)) hq))
        rintro e w2 ⟨_, rfl, rfl, hat2, hk2⟩
        have HR2 := hk2.kept _ _ _ _ HR1.out (by decide)
        have Hat2 := Lib.hid hat2
        have Hk2 := Lib.hid (Hk1.out.trans hk2)
        have g0 := Joins.unfrozen_of_block HR2 0
        have g1 := Joins.unfrozen_of_block HR2 1
        have g2 := Joins.unfrozen_of_block HR2 2
        have g3 := Joins.unfrozen_of_block HR2 3
        have y0 := (Lib.cell_of_heap HR2 0).trans (show _ = some _ from rfl)
        have y1 := (Lib.cell_of_heap HR2 1).trans (show _ = some _ from rfl)
        have y2 := (Lib.cell_of_heap HR2 2).trans (show _ = some _ from rfl)
        have y3 := (Lib.cell_of_heap HR2 3).trans (show _ = some _ from rfl)
        have HF := Lib.hid (put4_heap HR2 (.int .i64 3) (.int .i64 n) (.string ⟨#[]⟩) (.slice none 0 0))
        have HFk := Lib.hid (put4_keep (b := w.heap.size) HR2 (Nat.le_refl _) (.int .i64 3) (.int .i64 n) (.string ⟨#[]⟩) (.slice none 0 0))
        clear hat2 hk2 HR2
        go_wp2_with fail
        have z0 := (Lib.cell_of_heap HF.out 0)
        have z1 := (Lib.cell_of_heap HF.out 1)
        have z2 := (Lib.cell_of_heap HF.out 2)
        have z3 := (Lib.cell_of_heap HF.out 3)
        refine bodyPost_ret (v := opAgg ⟨3, n, Sp.none0, []⟩ (.slice none 0 0)) (by simp [results, Tryz.results74, go_sem, z0, z1, z2, z3, Sp.none0]) rfl (rdgo_ok HV.out rfl ⟨_, rfl, own_nil _ _⟩ ?_ (Hk2.out.later HFk.out.below (Nat.le_of_lt hbl) (Nat.le_refl _)))
        rw [show a + (1 + i) = a + 1 + i by omega]
        exact Hat2.out.later HFk.out.below hbl
    have k45 := b_not (n := 45) rfl h45
    by_cases h61 : x = 61
    · subst h61
      have HN := Lib.hid (number_any b s _ w1 Hat1.out (by omega) HY1.out hyb)
      have HX2 := Lib.hid (HX.out.trans (Sp.op_keep t))
      rw [ht] at HX2
      have k61 : (((61 : UInt8).toNat : Int) == 61) = true := rfl
      have k45 : (((61 : UInt8).toNat : Int) == 45) = false := rfl
      go_wp2_with fail
      refine HN.out.mono ?_
      cases hq : Sp.number (rst s (a + 1)) with
      | bad k =>
        have HV := Lib.hid (HX2.out.trans (Sp.bad1 hq))
        rintro e w2 ⟨rfl, hk2⟩
        exact ⟨rfl, rdgo_bad HV.out (by rw [show a + (1 + k) = a + 1 + k by omega]) (Hk1.out.trans hk2)⟩
      | ok n i =>
        rintro e w2 ⟨_, rfl, rfl, hat2, hk2⟩
        have F1 := Lib.hid fun h => HX2.out.trans (Sp.opt_no (f := fun (n : Nat) a => (⟨1, n, Sp.none0, a⟩ : OpD)) hq h)
        have F2 := Lib.hid fun k h h2 => HX2.out.trans (Sp.opt_bad (k := k) (f := fun (n : Nat) a => (⟨1, n, Sp.none0, a⟩ : OpD)) hq h h2)
        have F3 := Lib.hid fun m j h h2 => HX2.out.trans (Sp.opt_ok (m := m) (j := j) (f := fun (n : Nat) a => (⟨1, n, Sp.none0, a⟩ : OpD)) hq h h2)
        rw [rst_drop] at F1 F2 F3
        have HR2 := Lib.hid (hk2.kept _ _ _ _ HR1.out (by decide))
        have HO2 := hk2.kept _ _ _ _ HO1.out (by decide)
        have Hk2 := Lib.hid (Hk1.out.trans hk2)
        obtain ⟨V, hV⟩ : ∃ V, V = ((w2.setCell ⟨w.heap.size + 1, 0, none⟩ (.int .i64 1)).setCell ⟨w.heap.size + 1, 1, none⟩ (.int .i64 n)) := ⟨_, rfl⟩
        have HVo := Lib.hid (show V.heap[w.heap.size + 1]? = some (.cells #[.int .i64 1, .int .i64 n, .string ⟨#[]⟩, .slice none 0 0] 48 (0, 0)) by rw [hV]; exact (Joins.block_setCell (i := 1) (Joins.block_setCell (i := 0) HO2 (.int .i64 1)) (.int .i64 n)))
        have HVk := Lib.hid (show Keep w.heap.size [48] w2 V by rw [hV]; exact ((set_keep (b := w.heap.size) HO2 (Nat.le_succ _) (.int .i64 1)).trans (set_keep (b := w.heap.size) (Joins.block_setCell (i := 0) HO2 (.int .i64 1)) (Nat.le_succ _) (.int .i64 n))))
        have HVr := Lib.hid (show V.heap[w.heap.size]? = some zeroO by rw [hV, Below.heap_setCell _ _ _ _ (by simp), Below.heap_setCell _ _ _ _ (by simp)]; exact HR2.out)
        have hatV : RdAt V b s (a + 1 + i) := hat2.later HVk.out.below hbl
        have HatV := Lib.hid hatV
        have HkV := Lib.hid (Hk2.out.later HVk.out.below (Nat.le_of_lt hbl) (Nat.le_refl _))
        have hsV : w.heap.size ≤ V.heap.size := HkV.out.below.size
        have HS := Lib.hid (sees_any b s (a + 1 + i) 123 V hatV)
        have HVV := Lib.hid hV
        have g0 := Joins.unfrozen_of_block HO2 0
        have y0 := (Lib.cell_of_heap HO2 0).trans (show _ = some _ from rfl)
        have g1 := Joins.unfrozen_of_block HO2 1
        have y1 := (Lib.cell_of_heap HO2 1).trans (show _ = some _ from rfl)
        have g2 := Joins.unfrozen_of_block HO2 2
        have y2 := (Lib.cell_of_heap HO2 2).trans (show _ = some _ from rfl)
        have g3 := Joins.unfrozen_of_block HO2 3
        have y3 := (Lib.cell_of_heap HO2 3).trans (show _ = some _ from rfl)
        clear hat2 hk2 HO2 hatV hV
        go_wp2_with fail
        rw [← HVV.out]
        refine HS.out.mono ?_
        rintro e w3 ⟨rfl, m, rfl⟩
        by_cases h123 : (rst s (a + 1 + i)).head? = some 123
        · have hd' : decide ((rst s (a + 1 + i)).head? = some 123) = true := decide_eq_true h123
          rw [hd']
          have HA := Lib.hid (attrs_any b s (a + 1 + i) (V.drewN m) (HatV.out.drewN m) hz)
          go_wp2_with fail
          refine HA.out.mono ?_
          cases hq2 : Sp.attrs (rst s (a + 1 + i)) with
          | bad k =>
            have HV := Lib.hid (F2.out k h123 hq2)
            rintro e w4 ⟨rfl, hk4⟩
            exact ⟨rfl, rdgo_bad HV.out (by rw [show a + (1 + (i + k)) = a + 1 + i + k by omega]) ((keep_drewN HkV.out m).trans hk4)⟩
          | ok l j =>
            have HV := Lib.hid (F3.out l j h123 hq2)
            rintro e w4 ⟨u, rfl, hu, hat4, hk4⟩
            have HR4 := hk4.kept _ _ _ _ (show (V.drewN m).heap[w.heap.size]? = _ from HVr.out) (by decide)
            have HO4 := hk4.kept _ _ _ _ (show (V.drewN m).heap[w.heap.size + 1]? = _ from HVo.out) (by decide)
            have Hu := Lib.hid hu
            obtain ⟨ua, uc, rfl⟩ := own_slice hu
            have Hat4 := Lib.hid hat4
            have Hk4 := Lib.hid ((keep_drewN HkV.out m).trans hk4)
            have oy0 := (Lib.cell_of_heap HO4 0).trans (show _ = some _ from rfl)
            have og0 := Joins.unfrozen_of_block HO4 0
            have oy1 := (Lib.cell_of_heap HO4 1).trans (show _ = some _ from rfl)
            have og1 := Joins.unfrozen_of_block HO4 1
            have oy2 := (Lib.cell_of_heap HO4 2).trans (show _ = some _ from rfl)
            have og2 := Joins.unfrozen_of_block HO4 2
            have oy3 := (Lib.cell_of_heap HO4 3).trans (show _ = some _ from rfl)
            have og3 := Joins.unfrozen_of_block HO4 3
            have ry0 := (Lib.cell_of_heap HR4 0).trans (show _ = some _ from rfl)
            have rg0 := Joins.unfrozen_of_block HR4 0
            have ry1 := (Lib.cell_of_heap HR4 1).trans (show _ = some _ from rfl)
            have rg1 := Joins.unfrozen_of_block HR4 1
            have ry2 := (Lib.cell_of_heap HR4 2).trans (show _ = some _ from rfl)
            have rg2 := Joins.unfrozen_of_block HR4 2
            have ry3 := (Lib.cell_of_heap HR4 3).trans (show _ = some _ from rfl)
            have rg3 := Joins.unfrozen_of_block HR4 3
            obtain ⟨Z, hZ⟩ : ∃ Z, Z = w4.setCell ⟨w.heap.size + 1, 3, none⟩ (.slice ua l.length uc) := ⟨_, rfl⟩
            have HZk := Lib.hid (show Keep w.heap.size [48] w4 Z by rw [hZ]; exact set_keep HO4 (Nat.le_succ _) _)
            have hRZ : Z.heap[w.heap.size]? = some zeroO := by rw [hZ, Below.heap_setCell _ _ _ _ (by simp)]; exact HR4
            have HF := Lib.hid (put4_heap hRZ (.int .i64 1) (.int .i64 n) (.string ⟨#[]⟩) (.slice ua l.length uc))
            have HFk := Lib.hid (put4_keep (b := w.heap.size) hRZ (Nat.le_refl _) (.int .i64 1) (.int .i64 n) (.string ⟨#[]⟩) (.slice ua l.length uc))
            have HZZ := Lib.hid hZ
            clear hu hat4 hk4 HO4 HR4 hRZ hZ
            go_wp2_with fail
            have z0 := (Lib.cell_of_heap HF.out 0)
            have z1 := (Lib.cell_of_heap HF.out 1)
            have z2 := (Lib.cell_of_heap HF.out 2)
            have z3 := (Lib.cell_of_heap HF.out 3)
            rw [HZZ.out] at HF HFk HZk z0 z1 z2 z3
            refine bodyPost_ret (v := opAgg ⟨1, n, Sp.none0, l⟩ (.slice ua l.length uc)) (by simp [results, Tryz.results74, go_sem, z0, z1, z2, z3, Sp.none0]) rfl (rdgo_ok HV.out rfl ⟨_, rfl, ?_⟩ ?_ ((Hk4.out.later HZk.out.below (Nat.le_of_lt hbl) (Nat.le_refl _)).later HFk.out.below (Nat.le_of_lt hbl) (Nat.le_refl _)))
            · exact own_base (HFk.out.own (HZk.out.own Hu.out (by decide)) (by decide)) hsV
            · rw [show a + (1 + (i + j)) = a + 1 + i + j by omega]
              exact (Hat4.out.later HZk.out.below hbl).later HFk.out.below hbl
        · have hd' : decide ((rst s (a + 1 + i)).head? = some 123) = false := decide_eq_false h123
          rw [hd']
          have HV := Lib.hid (F1.out h123)
          have oy0 := (Lib.cell_of_heap HVo.out 0).trans (show _ = some _ from rfl)
          have og0 := Joins.unfrozen_of_block HVo.out 0
          have oy1 := (Lib.cell_of_heap HVo.out 1).trans (show _ = some _ from rfl)
          have og1 := Joins.unfrozen_of_block HVo.out 1
          have oy2 := (Lib.cell_of_heap HVo.out 2).trans (show _ = some _ from rfl)
          have og2 := Joins.unfrozen_of_block HVo.out 2
          have oy3 := (Lib.cell_of_heap HVo.out 3).trans (show _ = some _ from rfl)
          have og3 := Joins.unfrozen_of_block HVo.out 3
          have ry0 := (Lib.cell_of_heap HVr.out 0).trans (show _ = some _ from rfl)
          have rg0 := Joins.unfrozen_of_block HVr.out 0
          have ry1 := (Lib.cell_of_heap HVr.out 1).trans (show _ = some _ from rfl)
          have rg1 := Joins.unfrozen_of_block HVr.out 1
          have ry2 := (Lib.cell_of_heap HVr.out 2).trans (show _ = some _ from rfl)
          have rg2 := Joins.unfrozen_of_block HVr.out 2
          have ry3 := (Lib.cell_of_heap HVr.out 3).trans (show _ = some _ from rfl)
          have rg3 := Joins.unfrozen_of_block HVr.out 3
          have HF := Lib.hid (put4_heap (w := V.drewN m) HVr.out (.int .i64 1) (.int .i64 n) (.string ⟨#[]⟩) (.slice none 0 0))
          have HFk := Lib.hid (put4_keep (b := w.heap.size) (w := V.drewN m) HVr.out (Nat.le_refl _) (.int .i64 1) (.int .i64 n) (.string ⟨#[]⟩) (.slice none 0 0))
          go_wp2_with fail
          have z0 := (Lib.cell_of_heap HF.out 0)
          have z1 := (Lib.cell_of_heap HF.out 1)
          have z2 := (Lib.cell_of_heap HF.out 2)
          have z3 := (Lib.cell_of_heap HF.out 3)
          refine bodyPost_ret (v := opAgg ⟨1, n, Sp.none0, []⟩ (.slice none 0 0)) (by simp [results, Tryz.results74, go_sem, z0, z1, z2, z3, Sp.none0]) rfl (rdgo_ok HV.out rfl ⟨_, rfl, own_nil _ _⟩ ?_ ((keep_drewN HkV.out m).later HFk.out.below (Nat.le_of_lt hbl) (Nat.le_refl _)))
          rw [show a + (1 + i) = a + 1 + i by omega]
          exact (HatV.out.drewN m).later HFk.out.below hbl
    have k61 := b_not (n := 61) rfl h61
    by_cases h43 : x = 43
    · subst h43
      have HN := Lib.hid (quoted_any b s _ w1 Hat1.out (by omega))
      have HX2 := Lib.hid (HX.out.trans (Sp.op_put t))
      rw [ht] at HX2
      have k43 : (((43 : UInt8).toNat : Int) == 43) = true := rfl
      have k45 : (((43 : UInt8).toNat : Int) == 45) = false := rfl
      have k61 : (((43 : UInt8).toNat : Int) == 61) = false := rfl
      go_wp2_with fail
      refine HN.out.mono ?_
      cases hq : Sp.quoted (rst s (a + 1)) with
      | bad k =>
        have HV := Lib.hid (HX2.out.trans (Sp.bad1 hq))
        rintro e w2 ⟨rfl, hk2⟩
        exact ⟨rfl, rdgo_bad HV.out (by rw [show a + (1 + k) = a + 1 + k by omega]) (Hk1.out.trans hk2)⟩
      | ok n i =>
        rintro e w2 ⟨_, rfl, rfl, hat2, hk2⟩
        have F1 := Lib.hid fun h => HX2.out.trans (Sp.opt_no (f := fun (n : List UInt8) a => (⟨2, 0, Sp.ba n, a⟩ : OpD)) hq h)
        have F2 := Lib.hid fun k h h2 => HX2.out.trans (Sp.opt_bad (k := k) (f := fun (n : List UInt8) a => (⟨2, 0, Sp.ba n, a⟩ : OpD)) hq h h2)
        have F3 := Lib.hid fun m j h h2 => HX2.out.trans (Sp.opt_ok (m := m) (j := j) (f := fun (n : List UInt8) a => (⟨2, 0, Sp.ba n, a⟩ : OpD)) hq h h2)
        rw [rst_drop] at F1 F2 F3
        have HR2 := Lib.hid (hk2.kept _ _ _ _ HR1.out (by decide))
        have HO2 := hk2.kept _ _ _ _ HO1.out (by decide)
        have Hk2 := Lib.hid (Hk1.out.trans hk2)
        obtain ⟨V, hV⟩ : ∃ V, V = ((w2.setCell ⟨w.heap.size + 1, 0, none⟩ (.int .i64 2)).setCell ⟨w.heap.size + 1, 2, none⟩ (.string (Sp.ba n))) := ⟨_, rfl⟩
        have HVo := Lib.hid (show V.heap[w.heap.size + 1]? = some (.cells #[.int .i64 2, .int .i64 0, .string (Sp.ba n), .slice none 0 0] 48 (0, 0)) by rw [hV]; exact (Joins.block_setCell (i := 2) (Joins.block_setCell (i := 0) HO2 (.int .i64 2)) (.string (Sp.ba n))))
        have HVk := Lib.hid (show Keep w.heap.size [48] w2 V by rw [hV]; exact ((set_keep (b := w.heap.size) HO2 (Nat.le_succ _) (.int .i64 2)).trans (set_keep (b := w.heap.size) (Joins.block_setCell (i := 0) HO2 (.int .i64 2)) (Nat.le_succ _) (.string (Sp.ba n)))))
        have HVr := Lib.hid (show V.heap[w.heap.size]? = some zeroO by rw [hV, Below.heap_setCell _ _ _ _ (by simp), Below.heap_setCell _ _ _ _ (by simp)]; exact HR2.out)
        have hatV : RdAt V b s (a + 1 + i) := hat2.later HVk.out.below hbl
        have HatV := Lib.hid hatV
        have HkV := Lib.hid (Hk2.out.later HVk.out.below (Nat.le_of_lt hbl) (Nat.le_refl _))
        have hsV : w.heap.size ≤ V.heap.size := HkV.out.below.size
        have HS := Lib.hid (sees_any b s (a + 1 + i) 123 V hatV)
        have HVV := Lib.hid hV
        have g0 := Joins.unfrozen_of_block HO2 0
        have y0 := (Lib.cell_of_heap HO2 0).trans (show _ = some _ from rfl)
        have g1 := Joins.unfrozen_of_block HO2 1
        have y1 := (Lib.cell_of_heap HO2 1).trans (show _ = some _ from rfl)
        have g2 := Joins.unfrozen_of_block HO2 2
        have y2 := (Lib.cell_of_heap HO2 2).trans (show _ = some _ from rfl)
        have g3 := Joins.unfrozen_of_block HO2 3
        have y3 := (Lib.cell_of_heap HO2 3).trans (show _ = some _ from rfl)
        clear hat2 hk2 HO2 hatV hV
        go_wp2_with fail
        rw [← HVV.out]
        refine HS.out.mono ?_
        rintro e w3 ⟨rfl, m, rfl⟩
        by_cases h123 : (rst s (a + 1 + i)).head? = some 123
        · have hd' : decide ((rst s (a + 1 + i)).head? = some 123) = true := decide_eq_true h123
          rw [hd']
          have HA := Lib.hid (attrs_any b s (a + 1 + i) (V.drewN m) (HatV.out.drewN m) hz)
          go_wp2_with fail
          refine HA.out.mono ?_
          cases hq2 : Sp.attrs (rst s (a + 1 + i)) with
          | bad k =>
            have HV := Lib.hid (F2.out k h123 hq2)
            rintro e w4 ⟨rfl, hk4⟩
            exact ⟨rfl, rdgo_bad HV.out (by rw [show a + (1 + (i + k)) = a + 1 + i + k by omega]) ((keep_drewN HkV.out m).trans hk4)⟩
          | ok l j =>
            have HV := Lib.hid (F3.out l j h123 hq2)
            rintro e w4 ⟨u, rfl, hu, hat4, hk4⟩
            have HR4 := hk4.kept _ _ _ _ (show (V.drewN m).heap[w.heap.size]? = _ from HVr.out) (by decide)
            have HO4 := hk4.kept _ _ _ _ (show (V.drewN m).heap[w.heap.size + 1]? = _ from HVo.out) (by decide)
            have Hu := Lib.hid hu
            obtain ⟨ua, uc, rfl⟩ := own_slice hu
            have Hat4 := Lib.hid hat4
            have Hk4 := Lib.hid ((keep_drewN HkV.out m).trans hk4)
            have oy0 := (Lib.cell_of_heap HO4 0).trans (show _ = some _ from rfl)
            have og0 := Joins.unfrozen_of_block HO4 0
            have oy1 := (Lib.cell_of_heap HO4 1).trans (show _ = some _ from rfl)
            have og1 := Joins.unfrozen_of_block HO4 1
            have oy2 := (Lib.cell_of_heap HO4 2).trans (show _ = some _ from rfl)
            have og2 := Joins.unfrozen_of_block HO4 2
            have oy3 := (Lib.cell_of_heap HO4 3).trans (show _ = some _ from rfl)
            have og3 := Joins.unfrozen_of_block HO4 3
            have ry0 := (Lib.cell_of_heap HR4 0).trans (show _ = some _ from rfl)
            have rg0 := Joins.unfrozen_of_block HR4 0
            have ry1 := (Lib.cell_of_heap HR4 1).trans (show _ = some _ from rfl)
            have rg1 := Joins.unfrozen_of_block HR4 1
            have ry2 := (Lib.cell_of_heap HR4 2).trans (show _ = some _ from rfl)
            have rg2 := Joins.unfrozen_of_block HR4 2
            have ry3 := (Lib.cell_of_heap HR4 3).trans (show _ = some _ from rfl)
            have rg3 := Joins.unfrozen_of_block HR4 3
            obtain ⟨Z, hZ⟩ : ∃ Z, Z = w4.setCell ⟨w.heap.size + 1, 3, none⟩ (.slice ua l.length uc) := ⟨_, rfl⟩
            have HZk := Lib.hid (show Keep w.heap.size [48] w4 Z by rw [hZ]; exact set_keep HO4 (Nat.le_succ _) _)
            have hRZ : Z.heap[w.heap.size]? = some zeroO := by rw [hZ, Below.heap_setCell _ _ _ _ (by simp)]; exact HR4
            have HF := Lib.hid (put4_heap hRZ (.int .i64 2) (.int .i64 0) (.string (Sp.ba n)) (.slice ua l.length uc))
            have HFk := Lib.hid (put4_keep (b := w.heap.size) hRZ (Nat.le_refl _) (.int .i64 2) (.int .i64 0) (.string (Sp.ba n)) (.slice ua l.length uc))
            have HZZ := Lib.hid hZ
            clear hu hat4 hk4 HO4 HR4 hRZ hZ
            go_wp2_with fail
            have z0 := (Lib.cell_of_heap HF.out 0)
            have z1 := (Lib.cell_of_heap HF.out 1)
            have z2 := (Lib.cell_of_heap HF.out 2)
            have z3 := (Lib.cell_of_heap HF.out 3)
            rw [HZZ.out] at HF HFk HZk z0 z1 z2 z3
            refine bodyPost_ret (v := opAgg ⟨2, 0, Sp.ba n, l⟩ (.slice ua l.length uc)) (by simp [results, Tryz.results74, go_sem, z0, z1, z2, z3]) rfl (rdgo_ok HV.out rfl ⟨_, rfl, ?_⟩ ?_ ((Hk4.out.later HZk.out.below (Nat.le_of_lt hbl) (Nat.le_refl _)).later HFk.out.below (Nat.le_of_lt hbl) (Nat.le_refl _)))
            · exact own_base (HFk.out.own (HZk.out.own Hu.out (by decide)) (by decide)) hsV
            · rw [show a + (1 + (i + j)) = a + 1 + i + j by omega]
              exact (Hat4.out.later HZk.out.below hbl).later HFk.out.below hbl
        · have hd' : decide ((rst s (a + 1 + i)).head? = some 123) = false := decide_eq_false h123
          rw [hd']
          have HV := Lib.hid (F1.out h123)
          have oy0 := (Lib.cell_of_heap HVo.out 0).trans (show _ = some _ from rfl)
          have og0 := Joins.unfrozen_of_block HVo.out 0
          have oy1 := (Lib.cell_of_heap HVo.out 1).trans (show _ = some _ from rfl)
          have og1 := Joins.unfrozen_of_block HVo.out 1
          have oy2 := (Lib.cell_of_heap HVo.out 2).trans (show _ = some _ from rfl)
          have og2 := Joins.unfrozen_of_block HVo.out 2
          have oy3 := (Lib.cell_of_heap HVo.out 3).trans (show _ = some _ from rfl)
          have og3 := Joins.unfrozen_of_block HVo.out 3
          have ry0 := (Lib.cell_of_heap HVr.out 0).trans (show _ = some _ from rfl)
          have rg0 := Joins.unfrozen_of_block HVr.out 0
          have ry1 := (Lib.cell_of_heap HVr.out 1).trans (show _ = some _ from rfl)
          have rg1 := Joins.unfrozen_of_block HVr.out 1
          have ry2 := (Lib.cell_of_heap HVr.out 2).trans (show _ = some _ from rfl)
          have rg2 := Joins.unfrozen_of_block HVr.out 2
          have ry3 := (Lib.cell_of_heap HVr.out 3).trans (show _ = some _ from rfl)
          have rg3 := Joins.unfrozen_of_block HVr.out 3
          have HF := Lib.hid (put4_heap (w := V.drewN m) HVr.out (.int .i64 2) (.int .i64 0) (.string (Sp.ba n)) (.slice none 0 0))
          have HFk := Lib.hid (put4_keep (b := w.heap.size) (w := V.drewN m) HVr.out (Nat.le_refl _) (.int .i64 2) (.int .i64 0) (.string (Sp.ba n)) (.slice none 0 0))
          go_wp2_with fail
          have z0 := (Lib.cell_of_heap HF.out 0)
          have z1 := (Lib.cell_of_heap HF.out 1)
          have z2 := (Lib.cell_of_heap HF.out 2)
          have z3 := (Lib.cell_of_heap HF.out 3)
          refine bodyPost_ret (v := opAgg ⟨2, 0, Sp.ba n, []⟩ (.slice none 0 0)) (by simp [results, Tryz.results74, go_sem, z0, z1, z2, z3]) rfl (rdgo_ok HV.out rfl ⟨_, rfl, own_nil _ _⟩ ?_ ((keep_drewN HkV.out m).later HFk.out.below (Nat.le_of_lt hbl) (Nat.le_refl _)))
          rw [show a + (1 + i) = a + 1 + i by omega]
          exact (HatV.out.drewN m).later HFk.out.below hbl
    have k43 := b_not (n := 43) rfl h43
    have HV := Lib.hid (HX.out.trans (Sp.op_else h45 h61 h43))
    clear h45 h61 h43
    go_wp2_with fail
    exact ⟨rfl, rdgo_bad HV.out rfl Hk1.out⟩

end Go.Proofs.YtacgkbdldbppjaaGreatDoor

/- The reader's change: a changeset up to the text's end. -/
namespace Go.Proofs.YtacgkbdldbppjaaGreatDoor
open Go.RowKit Ch

namespace Sp
def mapn {α : Type} (n : Nat) : R α → R (Nat × α)
  | .ok v k => .ok (n, v) k
  | .bad k => .bad k
theorem change_bad {l : List UInt8} {k : Nat} (h : number l = .bad k) : change l = .bad k := by unfold change; rw [bnd_bad h]
theorem change_go {l : List UInt8} {n i : Nat} (h : number l = .ok n i) : change l = mapn n (prl [] i (ops ((l.drop i).length + 1) (l.drop i))) := by
  unfold change
  rw [bnd_ok h]
  cases hq : ops ((l.drop i).length + 1) (l.drop i) with
  | bad k => rw [bnd_bad (p := fun l => ops (l.length + 1) l) hq]; rfl
  | ok v j => rw [bnd_ok (p := fun l => ops (l.length + 1) l) hq]; rfl
theorem ops_nil (f : Nat) : ops (f + 1) [] = .ok [] 0 := rfl
theorem ops_bad0 (f : Nat) {l : List UInt8} (h : l ≠ []) (h2 : ¬ l.head? = some 32) : ops (f + 1) l = .bad 0 := by unfold ops; rw [if_neg h, bnd_bad (must_no h2)]
theorem ops_bad1 (f : Nat) {l : List UInt8} {k : Nat} (h : l.head? = some 32) (h2 : op (l.drop 1) = .bad k) : ops (f + 1) l = .bad (1 + k) := by
  have hn : l ≠ [] := fun e => by rw [e] at h; cases h
  unfold ops; rw [if_neg hn, bnd_ok (must_yes h), bnd_bad h2]; rfl
theorem ops_go (f : Nat) {l : List UInt8} {o : OpD} {n : Nat} (h : l.head? = some 32) (h2 : op (l.drop 1) = .ok o n) : ops (f + 1) l = prl [o] (1 + n) (ops f (l.drop (1 + n))) := by
  have hn : l ≠ [] := fun e => by rw [e] at h; cases h
  show (if l = [] then R.ok [] 0 else bnd (must 32) (fun _ => bnd op fun o => bnd (ops f) fun r => ret (o :: r)) l) = _
  rw [if_neg hn, bnd_ok (must_yes h), bnd_ok h2, List.drop_drop, prl_bnd, prl_shift, prl_shift, Nat.add_zero]
end Sp

abbrev valCh (C : Nat) : Nat × List OpD → World → Value → Prop := fun c w' u => ∃ v, u = chAgg c.1 v ∧ OwnOps w' C v c.2
abbrev zeroC : Obj := .cells #[.int .i64 0, .slice none 0 0] 24
theorem own_slice4 {w : World} {C n : Nat} {v : Value} {xs : List Value} (h : w.ownsRow C 48 4 v n xs) : ∃ a c, v = .slice a n c := by
  rcases h.2 with ⟨rfl, rfl⟩ | ⟨g, cap, cur, rfl, _⟩
  · exact ⟨_, _, rfl⟩
  · exact ⟨_, _, rfl⟩
theorem OwnP.empty (w : World) (C : Nat) : OwnP w C (.slice none 0 0) [] := ⟨⟨rfl, .inl ⟨rfl, rfl⟩⟩, fun p hp => by cases hp⟩

set_option maxHeartbeats 8000000 in
theorem rdChange_any (b : Nat) (s : ByteArray) (a : Nat) (w : World) (h : RdAt w b s a) (hz : s.size ≤ 262144) (hy : Syn w) (hyb : 3 < b) :
    Calls Tryz.prog 46 #[.pointer (some ⟨b, 0, none⟩)] w (RdGo b s a (Sp.change (rst s a)) (valCh w.heap.size) w) := by
  have hbl : b < w.heap.size := lt_of_heap h.1
  obtain ⟨i0, hi, hz0, hz1, hz2⟩ := info_parts infoOp
  have Hi := Lib.hid (show _ ∧ _ ∧ _ ∧ _ from ⟨hi, hz0, hz1, hz2⟩)
  clear hi hz0 hz1 hz2
  obtain ⟨W, hW⟩ : ∃ W, W = w.alloc zeroC := ⟨_, rfl⟩
  have BW := (show Below w.heap.size w W by rw [hW]; exact below_box _ _)
  have r0 : W.heap[w.heap.size]? = some zeroC := by rw [hW]; exact heap_new _ _
  have hat0 : RdAt W b s a := h.later BW hbl
  have KW := Lib.hid ((Keep.refl b [RT] w).later BW (Nat.le_of_lt hbl) (Nat.le_refl _))
  have HR0 := Lib.hid r0
  have HW := Lib.hid hW
  have hyW : Syn W := by
    obtain ⟨ev, h1, h2⟩ := hy
    exact ⟨ev, (BW.cell (p := ⟨3, 0, none⟩) (by exact Nat.lt_trans hyb hbl)).trans h1, h2⟩
  have HN := Lib.hid (number_any b s a W hat0 (by omega) hyW hyb)
  have HY := Lib.hid hyW
  have e1 := fun k (h2 : Sp.number (rst s a) = .bad k) => Sp.change_bad h2
  have e2 := fun n i (h2 : Sp.number (rst s a) = .ok n i) => Sp.change_go h2
  simp only [rst_drop, rst_len] at e2
  have E1 := Lib.hid e1
  have E2 := Lib.hid e2
  clear h hW BW r0 hat0 hy hyW e1 e2
  generalize Sp.change (rst s a) = X at *
  go_enter Tryz.func46, Tryz.ntmps46
  go_wp2_with fail
  rw [← HW.out]
  go_wp2_with fail
  refine HN.out.mono ?_
  cases hq : Sp.number (rst s a) with
  | bad k =>
    have HV := Lib.hid (E1.out k hq)
    rintro e w2 ⟨rfl, hk2⟩
    exact ⟨rfl, rdgo_bad HV.out rfl (KW.out.trans hk2)⟩
  | ok n i =>
    have HV := Lib.hid (E2.out n i hq)
    rintro e w2 ⟨_, rfl, rfl, hat2, hk2⟩
    have Hat2 := Lib.hid hat2
    have Hk2 := Lib.hid (KW.out.trans hk2)
    have HR2 := Lib.hid (hk2.kept _ _ _ _ HR0.out (by decide))
    have HY2 := Lib.hid (HY.out.keep hk2 hyb)
    have hsz2 : w.heap.size < w2.heap.size := lt_of_heap HR2.out
    have hks2 : a + i ≤ s.size := hat2.2.1
    obtain ⟨V, hV⟩ : ∃ V, V = w2.alloc (.cells #[.int .i64 n, .slice none 0 0] 24) := ⟨_, rfl⟩
    have x2 : V.heap[w2.heap.size]? = some (.cells #[.int .i64 n, .slice none 0 0] 24 (0, 0)) := by rw [hV]; exact heap_new _ _
    have BV := Lib.hid (show Below w2.heap.size w2 V by rw [hV]; exact below_box w2 _)
    have HVc := Lib.hid x2
    have HVV := Lib.hid hV
    clear hat2 hk2 hq x2 hV
    go_wp2_with fail
    rw [← HVV.out]
    go_loopg [] (s.size - (a + i)) (fun gk wr => ∃ (k f : Nat) (ps : List (OpD × Value)) (oa : Option Addr) (oc : Nat), gk = s.size - k ∧ RdAt wr b s k ∧ a ≤ k ∧ ps.length ≤ k ∧ s.size - k < f ∧ X = Sp.mapn n (Sp.prl (ps.map (·.1)) (k - a) (Sp.ops f (rst s k))) ∧ Keep b [RT] w wr ∧ wr.heap[w2.heap.size]? = some (.cells #[.int .i64 n, .slice oa ps.length oc] 24 (0, 0)) ∧ wr.heap[w.heap.size]? = some zeroC ∧ OwnP wr w.heap.size (.slice oa ps.length oc) ps)
    case atStart =>
      refine ⟨a + i, s.size - (a + i) + 1, [], none, 0, rfl, Hat2.out.later BV.out (by omega), by omega, Nat.zero_le _, by omega, ?_, Hk2.out.later BV.out (by omega) (by omega), HVc.out, (BV.out.block _ hsz2).trans HR2.out, OwnP.empty _ _⟩
      rw [HV.out, show a + i - a = i by omega]; rfl
    case round =>
      obtain ⟨k, f, ps, oa, oc, rfl, hat, hak, hll, hf, hX, hkp, hcb, hrb, hop⟩ := hrel
      cases f with
      | zero => omega
      | succ f =>
      have hks : k ≤ s.size := hat.2.1
      have h2' : s.size ≤ 9223372036854775807 := by omega
      have Hat := Lib.hid hat
      have Hkp := Lib.hid hkp
      have HX := Lib.hid hX
      have Hop := Lib.hid hop
      have Hcb := Lib.hid hcb
      have Hrb := Lib.hid hrb
      have d0 := hat.c0
      have d1 := hat.c1
      have hsz : w2.heap.size < wr.heap.size := lt_of_heap hcb
      have hn2000 : ps.length ≤ 262144 := by omega
      clear hat hkp hX hop hcb hrb
      by_cases hlt : k < s.size
      · have hlt' : (k : Int) < (s.size : Int) := by omega
        have hne : rst s k ≠ [] := by rw [rst_cons hlt]; simp
        by_cases h32 : (rst s k).head? = some 32
        · have HM := Lib.hid fun m => must_ok b s k 32 (wr.drewN m) (Hat.out.drewN m) h32
          have o0 := fun j (h : Sp.op (rst s (k + 1)) = .bad j) => HX.out.trans (by rw [Sp.ops_bad1 f h32 (by rw [rst_drop]; exact h)])
          have o1 := fun o j (h : Sp.op (rst s (k + 1)) = .ok o j) => HX.out.trans (by rw [Sp.ops_go f h32 (by rw [rst_drop]; exact h), Sp.prl_prl, rst_drop])
          have O0 := Lib.hid o0
          have O1 := Lib.hid o1
          clear h32 hne o0 o1
          go_wp2_with fail
          go_quiet (fail)
          go_wp2_with fail
          refine (HM.out _).mono ?_
          rintro e w4 ⟨rfl, hat4, hk4⟩
          have Hat4 := Lib.hid hat4
          have Hk4 := Lib.hid ((keep_drewN Hkp.out nq).trans hk4)
          have hk04 := (keep_drewN (Keep.refl b [RT] wr) nq).trans hk4
          have Hcb4 := Lib.hid (hk04.kept _ _ _ _ Hcb.out (by decide))
          have Hrb4 := Lib.hid (hk04.kept _ _ _ _ Hrb.out (by decide))
          have Hop4 := Lib.hid (Hop.out.keep hk04 (by decide) (by decide))
          have HY4 : Syn w4 := by
            obtain ⟨ev, h1, h2⟩ := HY2.out
            exact ⟨ev, by
              have hlt3 : 3 < b := hyb
              have q1 := (Hk4.out.below.cell (p := ⟨3, 0, none⟩) (by exact hlt3))
              have q2 := (Hk2.out.below.cell (p := ⟨3, 0, none⟩) (by exact hlt3))
              rw [q1, ← q2]; exact h1, h2⟩
          have HO := Lib.hid (op_any b s (k + 1) w4.drew Hat4.out hz HY4 hyb)
          have S0 : w4.drew.cell? ⟨w2.heap.size, 1, none⟩ = some (.slice oa ps.length oc) := (Lib.cell_of_heap Hcb4.out 1).trans rfl
          have hs4 : w2.heap.size < w4.heap.size := lt_of_heap Hcb4.out
          clear hat4 hk4 hk04 d0 d1
          go_wp2_with fail
          refine wp_region_B (fun w' => w'.cell? ⟨w2.heap.size, 1, none⟩ = some (.slice oa ps.length oc)) [7] (by kernel_rfl) (?_ : wpAnyB _ _ _ _ _ _ 8 (Array.replicate 8 false) _ _)
          refine wpAnyB_free (fuel := 7) (i := 0) (v := ?_) rfl (by kernel_rfl) (by kernel_rfl) (by kernel_rfl) (by kernel_rfl) (fun _ _ _ h => h) (.inr S0) ?_ (by rfl) ?_
          rotate_left
          · intro w'; go_simp; (try with_reducible rfl)
          simp only [Act.put, List.getElem_toArray, List.getElem_cons_zero, List.setIfInBounds_toArray, List.set_cons_zero, List.set_cons_succ]
          refine wpAnyB_load [1,5,6,7] (fuel := 6) (i := 1) (v := ?_) rfl (by kernel_rfl) (by kernel_rfl) (by kernel_rfl) (by kernel_rfl) (by kernel_rfl) (fun _ _ _ h => h) (.inr S0) ?_ (by rfl) ?_
          rotate_left
          · intro w' hw'; go_simp; (try with_reducible rfl)
          simp only [Act.put, List.getElem_toArray, List.getElem_cons_zero, List.getElem_cons_succ, List.setIfInBounds_toArray, List.set_cons_zero, List.set_cons_succ]
          refine wpAnyB_free (fuel := 5) (i := 2) (v := ?_) rfl (by kernel_rfl) (by kernel_rfl) (by kernel_rfl) (by kernel_rfl) (fun _ _ _ h => h) (.inr S0) ?_ (by rfl) ?_
          rotate_left
          · intro w'; go_simp; (try with_reducible rfl)
          simp only [Act.put, List.getElem_toArray, List.getElem_cons_zero, List.getElem_cons_succ, List.setIfInBounds_toArray, List.set_cons_zero, List.set_cons_succ]
          refine wpAnyB_one (fuel := 4) (i := 3) rfl (by kernel_rfl) ?_
          intro KB hKB
          go_simp
          refine HO.out.mono ?_
          cases hq : Sp.op (rst s (k + 1)) with
          | bad j =>
            have HV := Lib.hid (O0.out j hq)
            rintro e w5 ⟨rfl, hk5⟩
            exact ⟨rfl, rdgo_bad HV.out (by rw [show a + (k - a + (1 + j)) = k + 1 + j by omega]) (Hk4.out.trans (Keep.trans ⟨(Below.refl _ _).drew, fun i cs e fr hi _ => hi⟩ hk5))⟩
          | ok o j =>
          have HV := Lib.hid (O1.out o j hq)
          rintro e w5 ⟨_, rfl, ⟨u, rfl, hu⟩, hat5, hk5⟩
          have hk05 : Keep b [RT] w4 w5 := Keep.trans ⟨(Below.refl _ _).drew, fun i cs e fr hi _ => hi⟩ hk5
          have Hat5 := Lib.hid hat5
          have Hk5 := Lib.hid (Hk4.out.trans hk05)
          have Hcb5 := Lib.hid (hk05.kept _ _ _ _ Hcb4.out (by decide))
          have Hrb5 := Lib.hid (hk05.kept _ _ _ _ Hrb4.out (by decide))
          have Hop5 := Lib.hid (Hop4.out.keep hk05 (by decide) (by decide))
          have Hu5 := Lib.hid (own_base hu (show w.heap.size ≤ w4.drew.heap.size by exact Nat.le_of_lt (Nat.lt_trans hsz2 hs4)))
          have hks5 : k + 1 + j ≤ s.size := hat5.2.1
          have S4 : w5.cell? ⟨w2.heap.size, 1, none⟩ = some (.slice oa ps.length oc) := (Lib.cell_of_heap Hcb5.out 1).trans rfl
          have hs5 : w2.heap.size < w5.heap.size := lt_of_heap Hcb5.out
          have hb5 : b < w5.heap.size := lt_of_heap hat5.1
          clear hu hat5 hk5 hk05 hq
          refine hKB _ _ (.inr S4) ?_
          (try simp only [Act.put, List.getElem_toArray, List.getElem_cons_zero, List.getElem_cons_succ, List.setIfInBounds_toArray, List.set_cons_zero, List.set_cons_succ])
          refine wpAnyB_one (fuel := 3) (i := 4) rfl (by kernel_rfl) ?_
          intro KB hKB
          go_simp
          have hw6 := heap_new w5 (.cells #[.int .i64 o.kind, .int .i64 o.n, .string o.text, u] 48)
          obtain ⟨w6, hw6d⟩ : ∃ w6, w6 = w5.alloc (.cells #[.int .i64 o.kind, .int .i64 o.n, .string o.text, u] 48) := ⟨_, rfl⟩
          have B6 : Below w5.heap.size w5 w6 := by rw [hw6d]; exact below_box _ _
          have K6 : Keep w5.heap.size [] w5 w6 := keep_below B6 (Nat.le_refl _)
          rw [← hw6d] at hw6
          have hcb6 := K6.kept _ _ _ _ Hcb5.out (by simp)
          have hrb6 := K6.kept _ _ _ _ Hrb5.out (by simp)
          have hop6 := Hop5.out.keep K6 (by simp) (by simp)
          have hu6 := K6.own Hu5.out (by simp)
          have hs6 : w5.heap.size < w6.heap.size := lt_of_heap hw6
          have hc6 : ∀ j v, (opCells (o, u))[j]? = some v → w6.cell? ((⟨w5.heap.size, 0, none⟩ : Addr).add j) = some v := by rw [hw6d]; exact new_at4 _ _ _ _ _ _
          have h16 : ∀ v ∈ opCells (o, u), v.oneCell' = true := fun v hv => by
            simp [opCells] at hv
            rcases hv with rfl | rfl | rfl | rfl
            · rfl
            · rfl
            · rfl
            · exact own_one hu6
          have S5 : w6.cell? ⟨w2.heap.size, 1, none⟩ = some (.slice oa ps.length oc) := (Lib.cell_of_heap hcb6 1).trans rfl
          have HW6 := Lib.hid hw6d
          have HB6 := Lib.hid B6
          have Hcb6 := Lib.hid hcb6
          have Hrb6 := Lib.hid hrb6
          have Hop6 := Lib.hid hop6
          have Hu6 := Lib.hid hu6
          have HC6 := Lib.hid hc6
          have HO6 := Lib.hid h16
          clear hw6 B6 K6 hcb6 hrb6 hop6 hu6 hc6 h16 hw6d
          rw [← HW6.out]
          refine hKB _ _ (.inr S5) ?_
          (try simp only [Act.put, List.getElem_toArray, List.getElem_cons_zero, List.getElem_cons_succ, List.setIfInBounds_toArray, List.set_cons_zero, List.set_cons_succ])
          refine wpAnyB_one (fuel := 2) (i := 5) rfl (by kernel_rfl) ?_
          intro KB hKB
          refine step_append_own rfl (.tmp 20) (.tmp 23) 22 rfl 48 i0 (.agg #[.int .i64 0, .int .i64 0, .string ⟨#[]⟩, .slice none 0 0]) 4 56 Tryz.underlying22 Hi.out.1 Hi.out.2.1 Hi.out.2.2.1 Hi.out.2.2.2 rfl (by decide) w.heap.size (.slice oa ps.length oc) ps.length (flatO ps) rfl Hop6.out.1 ⟨w5.heap.size, 0, none⟩ 1 1 (opCells (o, u)) rfl rfl HC6.out HO6.out (by unfold maxLen; omega) (by omega) (by omega) ?_
          intro v7 w7 o7 g7
          have K7 : Keep w.heap.size [48] w6 w7 := keep_row Hop6.out.1 g7 (by simp) (by omega)
          obtain ⟨oa7, oc7, rfl⟩ := own_slice4 o7
          have hcb7 := K7.kept _ _ _ _ Hcb6.out (by decide)
          have Hrb7 := Lib.hid (K7.kept _ _ _ _ Hrb6.out (by decide))
          have hop7 : OwnP w7 w.heap.size (.slice oa7 (ps.length + 1) oc7) (ps ++ [(o, u)]) := by
            refine ⟨?_, fun q hq => ?_⟩
            · rw [flatO_snoc, List.length_append]; exact o7
            · rcases List.mem_append.1 hq with hq | hq
              · exact K7.own (Hop6.out.2 q hq) (by decide)
              · obtain rfl := List.mem_singleton.1 hq
                exact K7.own Hu6.out (by decide)
          have S7 : w7.cell? ⟨w2.heap.size, 1, none⟩ = some (.slice oa ps.length oc) := (Lib.cell_of_heap hcb7 1).trans rfl
          have f7 : w7.frozen? ⟨w2.heap.size, 1, none⟩ = false := Joins.unfrozen_of_block hcb7 1
          have hcb8 := Joins.block_setCell (i := 1) hcb7 (.slice oa7 (ps.length + 1) oc7)
          have K8 : Keep w.heap.size [24] w7 (w7.setCell ⟨w2.heap.size, 1, none⟩ (.slice oa7 (ps.length + 1) oc7)) := set_keep hcb7 (Nat.le_of_lt hsz2) _
          have Hcb8 := Lib.hid hcb8
          have HK7 := Lib.hid K7
          have HK8 := Lib.hid K8
          have Hop7 := Lib.hid hop7
          clear o7 g7 K7 hcb7 hop7 hcb8 K8
          refine hKB _ _ (.inr S7) ?_
          (try simp only [Act.put, List.getElem_toArray, List.getElem_cons_zero, List.getElem_cons_succ, List.setIfInBounds_toArray, List.set_cons_zero, List.set_cons_succ])
          refine wpAnyB_free (fuel := 1) (i := 6) (v := ?_) rfl (by kernel_rfl) (by kernel_rfl) (by kernel_rfl) (by kernel_rfl) (fun _ _ _ h => h) (.inr S7) ?_ (by rfl) ?_
          rotate_left
          · intro w'; go_simp; (try with_reducible rfl)
          simp only [Act.put, List.getElem_toArray, List.getElem_cons_zero, List.getElem_cons_succ, List.setIfInBounds_toArray, List.set_cons_zero, List.set_cons_succ]
          refine wpAnyB_one (fuel := 0) (i := 7) rfl (by kernel_rfl) ?_
          intro KB hKB
          go_simp
          refine hKB _ _ (.inl (by kernel_rfl)) ?_
          (try simp only [Act.put, List.getElem_toArray, List.getElem_cons_zero, List.getElem_cons_succ, List.setIfInBounds_toArray, List.set_cons_zero, List.set_cons_succ])
          refine wpAnyB_done (by kernel_rfl) ?_
          go_wp2_with fail
          go_roundg (s.size - (k + 1 + j))
          case measure => omega
          case rel =>
            have bz : Below w.heap.size w5 (w7.setCell ⟨w2.heap.size, 1, none⟩ (.slice oa7 (ps.length + 1) oc7)) := ((HB6.out.mono (by omega)).trans HK7.out.below).trans HK8.out.below
            have el : (ps ++ [(o, u)]).length = ps.length + 1 := by simp
            refine ⟨k + 1 + j, f, ps ++ [(o, u)], oa7, oc7, rfl, Hat5.out.later bz hbl, by omega, by rw [el]; omega, by omega, ?_, Hk5.out.later bz (Nat.le_of_lt hbl) (Nat.le_refl _), by rw [el]; exact Hcb8.out, ?_, by rw [el]; exact Hop7.out.keep HK8.out (by decide) (by decide)⟩
            · rw [HV.out, List.map_append, show k + (1 + j) = k + 1 + j by omega, show k - a + (1 + j) = k + 1 + j - a by omega]; rfl
            · rw [Below.heap_setCell _ _ _ _ (show w.heap.size ≠ w2.heap.size by omega)]; exact Hrb7.out
        · have HM := Lib.hid fun m => must_bad b s k 32 (wr.drewN m) (Hat.out.drewN m) h32
          have HE := Lib.hid (HX.out.trans (by rw [Sp.ops_bad0 f hne h32]))
          clear h32 hne
          go_wp2_with fail
          go_quiet (fail)
          go_wp2_with fail
          refine (HM.out _).mono ?_
          rintro e w4 ⟨rfl, hk4⟩
          exact ⟨rfl, rdgo_bad HE.out (by rw [show a + (k - a + 0) = k by omega]) ((keep_drewN Hkp.out _).trans hk4)⟩
      · have hlt' : decide ((k : Int) < (s.size : Int)) = false := decide_eq_false (by omega)
        have hks' : k = s.size := by omega
        have HE := Lib.hid (HX.out.trans (by rw [rst_nil (s := s) (a := k) (by omega), Sp.ops_nil]))
        have y0 := (Lib.cell_of_heap Hcb.out 0).trans (show _ = some _ from rfl)
        have y1 := (Lib.cell_of_heap Hcb.out 1).trans (show _ = some _ from rfl)
        have q0 := (Lib.cell_of_heap Hrb.out 0).trans (show _ = some _ from rfl)
        have q1 := (Lib.cell_of_heap Hrb.out 1).trans (show _ = some _ from rfl)
        have g0 := Joins.unfrozen_of_block Hrb.out 0
        have g1 := Joins.unfrozen_of_block Hrb.out 1
        clear hks'
        go_wp2_with fail
        go_quiet (fail)
        have F1 := Joins.block_setCell (w := wr.drewN nq) (i := 0) Hrb.out (.int .i64 n)
        have F2 := Joins.block_setCell (i := 1) F1 (.slice oa ps.length oc)
        have KF := Lib.hid ((set_keep (w := wr.drewN nq) (b := w.heap.size) (i := 0) Hrb.out (Nat.le_refl _) (.int .i64 n)).trans (set_keep (b := w.heap.size) (i := 1) F1 (Nat.le_refl _) (.slice oa ps.length oc)))
        have HF := Lib.hid F2
        clear F1 F2
        go_wp2_with fail
        have z0 := (Lib.cell_of_heap HF.out 0)
        have z1 := (Lib.cell_of_heap HF.out 1)
        refine bodyPost_ret (v := chAgg n (.slice oa ps.length oc)) (by simp [results, Tryz.results46, go_sem, z0, z1]) rfl (rdgo_ok HE.out rfl ⟨_, rfl, ps, ?_, Hop.out.keep (Keep.trans (keep_drewN (Keep.refl w.heap.size [24] wr) nq) KF.out) (by decide) (by decide)⟩ ?_ ((keep_drewN Hkp.out nq).later KF.out.below (Nat.le_of_lt hbl) (Nat.le_refl _)))
        · simp
        · rw [show a + (k - a + 0) = k by omega]
          exact (Hat.out.drewN nq).later KF.out.below hbl

end Go.Proofs.YtacgkbdldbppjaaGreatDoor

/- Parse: a changeset, read. -/
namespace Go.Proofs.YtacgkbdldbppjaaGreatDoor
open Go.RowKit Ch

namespace Sp
theorem len_qt (l : List UInt8) : l.length ≤ (qt l).length := by
  have : ∀ m : List UInt8, m.length ≤ (m.flatMap qb).length := fun m => by
    induction m with
    | nil => simp
    | cons b m ih =>
      have := (qb_head b).2
      have h2 : 1 ≤ (qb b).length := by cases hx : qb b with
        | nil => exact absurd hx this
        | cons _ _ => simp
      simp only [List.flatMap_cons, List.length_append, List.length_cons]; omega
  have := this l
  simp only [qt, List.length_cons, List.length_append, List.length_nil]; omega
theorem attr_parts (x : A) : x.1.size ≤ (pAttr x).length ∧ x.2.size ≤ (pAttr x).length := by
  have := len_qt x.2.data.toList
  rw [size_data, size_data]
  simp only [pAttr, List.length_append, List.length_cons]; omega
theorem more_parts (l : List A) : ∀ y ∈ l, y.1.size ≤ (pMore l).length ∧ y.2.size ≤ (pMore l).length := by
  induction l with
  | nil => intro y hy; cases hy
  | cons x l ih =>
    intro y hy
    have e : (pMore (x :: l)).length = 1 + (pAttr x).length + (pMore l).length := by simp [pMore]; omega
    rcases List.mem_cons.1 hy with rfl | hy
    · have := attr_parts y; omega
    · have := ih y hy; omega
theorem attrs_parts (l : List A) : ∀ y ∈ l, y.1.size ≤ (pAttrs l).length ∧ y.2.size ≤ (pAttrs l).length := by
  cases l with
  | nil => intro y hy; cases hy
  | cons x l =>
    intro y hy
    have e : (pAttrs (x :: l)).length = 1 + (pAttr x).length + (pMore l).length := by simp [pAttrs]; omega
    rcases List.mem_cons.1 hy with rfl | hy
    · have := attr_parts y; omega
    · have := more_parts l y hy; omega
theorem op_text {l : List UInt8} {o : OpD} {n : Nat} (h : op l = .ok o n) : o.kind = 2 ∨ o.text = none0 := by
  cases l with
  | nil => cases h
  | cons b t =>
    unfold op at h
    simp only at h
    split at h
    · obtain ⟨m, h', _⟩ := shift_ok h
      clear h
      have h := h'
      clear h'
      unfold kind at h
      split at h
      · obtain ⟨u, i, j, h1, h2, rfl⟩ := bnd_inv h
        simp only [ret, R.ok.injEq] at h2
        rw [← h2.1]; exact .inr rfl
      split at h
      · obtain ⟨u, i, j, h1, h2, rfl⟩ := bnd_inv h
        obtain ⟨a, i2, j2, h3, h4, rfl⟩ := bnd_inv h2
        simp only [ret, R.ok.injEq] at h4
        rw [← h4.1]; exact .inr rfl
      · obtain ⟨u, i, j, h1, h2, rfl⟩ := bnd_inv h
        obtain ⟨a, i2, j2, h3, h4, rfl⟩ := bnd_inv h2
        simp only [ret, R.ok.injEq] at h4
        rw [← h4.1]; exact .inl rfl
    · cases h
theorem op_parts {o : OpD} (h : o.kind = 2 ∨ o.text = none0) : o.text.size ≤ (pOp o).length ∧ ∀ y ∈ o.attrs, y.1.size ≤ (pOp o).length ∧ y.2.size ≤ (pOp o).length := by
  have e : (pOp o).length = 1 + (pKind o).length + (pAttrs o.attrs).length := by simp [pOp]; omega
  refine ⟨?_, fun y hy => by have := attrs_parts o.attrs y hy; omega⟩
  rcases h with h | h
  · have := len_qt o.text.data.toList
    have e2 : (pKind o).length = 1 + (qt o.text.data.toList).length := by simp [pKind, h]; omega
    rw [size_data]; omega
  · rw [h]; exact Nat.zero_le _
theorem ops_text (f : Nat) : ∀ {l : List UInt8} {v : List OpD} {n : Nat}, ops f l = .ok v n → ∀ o ∈ v, o.kind = 2 ∨ o.text = none0 := by
  induction f with
  | zero => intro l v n h; cases h
  | succ f ih =>
    intro l v n h
    unfold ops at h
    split at h
    · simp only [R.ok.injEq] at h
      rw [← h.1]; intro o ho; cases ho
    · obtain ⟨u, i, j, h1, h2, rfl⟩ := bnd_inv h
      obtain ⟨o, i2, j2, h3, h4, rfl⟩ := bnd_inv h2
      obtain ⟨r, i3, j3, h5, h6, rfl⟩ := bnd_inv h4
      simp only [ret, R.ok.injEq] at h6
      rw [← h6.1]
      intro x hx
      rcases List.mem_cons.1 hx with rfl | hx
      · exact op_text h3
      · exact ih h5 x hx
theorem flat_le {l : List OpD} {o : OpD} (h : o ∈ l) : (pOp o).length ≤ (l.flatMap pOp).length := by
  induction l with
  | nil => cases h
  | cons x l ih =>
    simp only [List.flatMap_cons, List.length_append]
    rcases List.mem_cons.1 h with rfl | h
    · omega
    · have := ih h; omega
/-- What is read is no longer than the text. -/
theorem change_parts {l : List UInt8} {c : Nat × List OpD} {n : Nat} (h : change l = .ok c n) : c.2.length ≤ l.length ∧ ∀ o ∈ c.2, o.text.size ≤ l.length ∧ ∀ y ∈ o.attrs, y.1.size ≤ l.length ∧ y.2.size ≤ l.length := by
  have h1 := change_says h
  have h2 : (c.2.flatMap pOp).length ≤ l.length := by rw [← h1]; simp [pCh]
  have h3 : ∀ o ∈ c.2, o.kind = 2 ∨ o.text = none0 := by
    obtain ⟨u, i, j, h1, h2, rfl⟩ := bnd_inv h
    obtain ⟨r, i2, j2, h3, h4, rfl⟩ := bnd_inv h2
    simp only [ret, R.ok.injEq] at h4
    rw [← h4.1]; exact ops_text _ h3
  refine ⟨Nat.le_trans (pOp_len _) h2, fun o ho => ?_⟩
  have a := op_parts (h3 o ho)
  have b := flat_le ho
  exact ⟨by omega, fun y hy => by have := a.2 y hy; omega⟩
end Sp

abbrev CS : List TypeId := [RT, 24]
theorem enters_Parse1 (args : Array Value) (W : World) : (callFunc 45 args).run Tryz.prog W = .ok (.enter 45 args) W := enters_of Tryz.func45 (by kernel_rfl) (by rfl) args W
set_option maxHeartbeats 4000000 in
theorem changeClos_ok (b t : Nat) (s : ByteArray) (c : Nat × List OpD) (n : Nat) (w : World) (h : RdAt w b s 0) (ht : w.heap[t]? = some zeroC) (hbt : b ≤ t) (hz : s.size ≤ 262144) (hy : Syn w) (hyb : 3 < b) (hq : Sp.change s.data.toList = .ok c n) :
    Calls Tryz.prog 45 #[.pointer (some ⟨b, 0, none⟩), .pointer (some ⟨t, 0, none⟩)] w fun e w' => e = .returned (.tuple #[]) ∧ ∃ v, w'.heap[t]? = some (.cells #[.int .i64 c.1, v] 24 (0, 0)) ∧ OwnOps w' w.heap.size v c.2 ∧ Keep b CS w w' := by
  have HQ := Lib.hid (rdChange_any b s 0 w h hz hy hyb)
  have Ht := Lib.hid ht
  have e0 : rst s 0 = s.data.toList := rfl
  rw [e0, hq] at HQ
  clear h ht hy e0 hq
  go_enter Tryz.func45, Tryz.ntmps45
  go_wp2_with fail
  refine HQ.out.mono ?_
  rintro e w1 ⟨_, rfl, ⟨v, rfl, hv⟩, hat, hk⟩
  have Hk := Lib.hid hk
  have Hv := Lib.hid hv
  obtain ⟨va, vc, rfl⟩ := hv.row.shape
  have t1 := hk.kept _ _ _ _ Ht.out (by decide)
  have Ht1 := Lib.hid t1
  have g0 := Joins.unfrozen_of_block t1 0
  have g1 := Joins.unfrozen_of_block t1 1
  have y0 := (Lib.cell_of_heap t1 0).trans (show _ = some _ from rfl)
  have y1 := (Lib.cell_of_heap t1 1).trans (show _ = some _ from rfl)
  clear hat hk t1 hv
  go_wp2_with fail
  first | go_end0 | refine bodyPost_ret (results_none rfl _ _ _) rfl ?_
  have F1 := Joins.block_setCell (i := 0) Ht1.out (.int .i64 c.1)
  have F2 := Joins.block_setCell (i := 1) F1 (.slice va c.2.length vc)
  have KF : Keep b [24] w1 ((w1.setCell ⟨t, 0, none⟩ (.int .i64 c.1)).setCell ⟨t, 1, none⟩ (.slice va c.2.length vc)) := (set_keep (i := 0) Ht1.out hbt (.int .i64 c.1)).trans (set_keep (i := 1) F1 hbt (.slice va c.2.length vc))
  obtain ⟨ps, hps, hp⟩ := Hv.out
  exact ⟨rfl, _, F2, ⟨ps, hps, hp.keep KF (by decide) (by decide)⟩, (Hk.out.more (by simp)).trans (KF.more (by simp))⟩
theorem changeClos_bad (b t : Nat) (s : ByteArray) (k : Nat) (w : World) (h : RdAt w b s 0) (hz : s.size ≤ 262144) (hy : Syn w) (hyb : 3 < b) (hq : Sp.change s.data.toList = .bad k) :
    Calls Tryz.prog 45 #[.pointer (some ⟨b, 0, none⟩), .pointer (some ⟨t, 0, none⟩)] w fun e w' => e = thrown k ∧ Keep b CS w w' := by
  have HQ := Lib.hid (rdChange_any b s 0 w h hz hy hyb)
  have e0 : rst s 0 = s.data.toList := rfl
  rw [e0, hq] at HQ
  clear h hy e0 hq
  go_enter Tryz.func45, Tryz.ntmps45
  go_wp2_with fail
  refine HQ.out.mono ?_
  rintro e w1 ⟨rfl, hk⟩
  rw [Nat.zero_add]
  exact ⟨rfl, rfl, hk.more (by simp)⟩
end Go.Proofs.YtacgkbdldbppjaaGreatDoor

/- Parse, walked. -/
namespace Go.Proofs.YtacgkbdldbppjaaGreatDoor
open Go.RowKit Ch

def ParseOut (w : World) (s : ByteArray) (e : Ending) (w' : World) : Prop :=
  ∃ v, e = .returned (.tuple #[chAgg (Sp.parseF s.data.toList).fr v, .agg #[.int .i64 (Sp.parseF s.data.toList).code, .int .i64 (Sp.parseF s.data.toList).at_]]) ∧ OwnOps w' w.heap.size v (Sp.parseF s.data.toList).ops ∧ Below w.heap.size w w'

theorem parseF_long {s : ByteArray} (h : (262144 : Int) < s.size) : Sp.parseF s.data.toList = ⟨2, -1, 0, []⟩ := by unfold Sp.parseF; exact if_pos (by show 262144 < s.size; omega)
theorem parseF_go {s : ByteArray} (h : ¬ (262144 : Int) < s.size) : Sp.parseF s.data.toList = Sp.parseR (Sp.change s.data.toList) := by unfold Sp.parseF; exact if_neg (by show ¬ 262144 < s.size; omega)
theorem parseR_err {c : Nat × List OpD} {n : Nat} (h : toE c.1 c.2 ≠ 0) : Sp.parseR (.ok c n) = ⟨toE c.1 c.2, -1, 0, []⟩ := if_pos h
theorem parseR_odd {c : Nat × List OpD} {n : Nat} (h : toE c.1 c.2 = 0) (h2 : c.2 ≠ norm c.2) : Sp.parseR (.ok c n) = ⟨40, -1, 0, []⟩ := by unfold Sp.parseR; simp only; rw [if_neg (by simpa using h), if_neg h2]
theorem parseR_ok {c : Nat × List OpD} {n : Nat} (h : toE c.1 c.2 = 0) (h2 : c.2 = norm c.2) : Sp.parseR (.ok c n) = ⟨0, 0, c.1, c.2⟩ := by unfold Sp.parseR; simp only; rw [if_neg (by simpa using h), if_pos h2]
theorem ownOps_nil (w : World) (B : Nat) : OwnOps w B (.slice none 0 0) [] := ⟨[], rfl, OwnP.empty w B⟩
theorem set2_below {B : Nat} {a w : World} (h : Below B a w) {g : Nat} (hg : B ≤ g) (x y : Value) : Below B a ((w.setCell ⟨g, 0, none⟩ x).setCell ⟨g, 1, none⟩ y) := (h.setCell (p := ⟨g, 0, none⟩) hg x).setCell (p := ⟨g, 1, none⟩) hg y

set_option maxHeartbeats 8000000 in
theorem parse_any (s : ByteArray) (w : World) (hz : s.size ≤ maxLen) (hy : Syn w) (hyb : 3 < w.heap.size) :
    Calls Tryz.prog 18 #[.string s] w (ParseOut w s) := by
  have hz' : s.size ≤ 9223372036854775807 := hz
  by_cases hbig : (262144 : Int) < (s.size : Int)
  · have HE := Lib.hid (parseF_long hbig)
    go_enter Tryz.func18, Tryz.ntmps18
    go_wp2_with fail
    refine bodyPost_ret (v := .tuple #[chAgg 0 (.slice none 0 0), .agg #[.int .i64 2, .int .i64 (-1)]]) (by simp [results, Tryz.results18, go_sem]) rfl ?_
    rw [ParseOut, HE.out]
    exact ⟨_, rfl, ownOps_nil _ _, below_alloc (below_box _ _) (Nat.le_refl _) _⟩
  · have hmf : ∀ (fn : Fn) (first cap : Array Value) (w : World), (Instr.makeFunc fn first cap).run Tryz.prog w = .ok (.func fn first cap) w := fun _ _ _ _ => rfl
    have HG := Lib.hid (parseF_go hbig)
    have hsz : s.size ≤ 262144 := by omega
    obtain ⟨X, hX⟩ : ∃ X, X = (((w.alloc zeroC).alloc zeroF).alloc (.cells #[.string s, .int .i64 0] 71)).alloc zeroC := ⟨_, rfl⟩
    have sX : X.heap.size = w.heap.size + 4 := by rw [hX]; simp
    have f0 : X.heap[w.heap.size]? = some zeroC := by
      rw [hX, Lib.alloc_old _ _ _ (by simp <;> omega), Lib.alloc_old _ _ _ (by simp <;> omega), Lib.alloc_old _ _ _ (by simp)]; exact heap_new w _
    have f1 : X.heap[w.heap.size + 1]? = some zeroF := by
      rw [hX, Lib.alloc_old _ _ _ (by simp <;> omega), Lib.alloc_old _ _ _ (by simp)]; have := heap_new (w.alloc zeroC) zeroF; simpa using this
    have f2 : X.heap[w.heap.size + 2]? = some (.cells #[.string s, .int .i64 0] 71 (0, 0)) := by
      rw [hX, Lib.alloc_old _ _ _ (by simp)]; have := heap_new ((w.alloc zeroC).alloc zeroF) (.cells #[.string s, .int .i64 0] 71); simpa using this
    have f3 : X.heap[w.heap.size + 3]? = some zeroC := by
      rw [hX]; have := heap_new (((w.alloc zeroC).alloc zeroF).alloc (.cells #[.string s, .int .i64 0] 71)) zeroC; simpa using this
    have bX : Below w.heap.size w X := by rw [hX]; exact ((((Below.refl _ _).alloc (Nat.le_refl _) _).alloc (by simp) _).alloc (by simp <;> omega) _).alloc (by simp <;> omega) _
    have KX : Keep (w.heap.size + 2) CS X (X.alloc zeroF) := keep_below (below_box X zeroF) (by omega)
    have hat : RdAt (X.alloc zeroF) (w.heap.size + 2) s 0 := ⟨(Lib.alloc_old X _ _ (by omega)).trans f2, Nat.zero_le _, hz⟩
    have ht : (X.alloc zeroF).heap[w.heap.size + 3]? = some zeroC := (Lib.alloc_old X _ _ (by omega)).trans f3
    have hg : (X.alloc zeroF).heap[X.heap.size]? = some zeroF := heap_new X zeroF
    have hyX : Syn (X.alloc zeroF) := hy.keep (Keep.trans ⟨bX, fun i cs e fr hi _ => (bX.block i (lt_of_heap hi)).trans hi⟩ (keep_below (ts := []) (below_box X zeroF) (Nat.le_trans (Nat.le_of_eq rfl) bX.size))) hyb
    have HX := Lib.hid hX
    have BX := Lib.hid bX
    have F0 := Lib.hid f0
    have F1 := Lib.hid f1
    cases hq : Sp.change s.data.toList with
    | bad k =>
      have HC := Lib.hid (caught_bad 45 #[.pointer (some ⟨w.heap.size + 1 + 1, 0, none⟩), .pointer (some ⟨w.heap.size + 1 + 1 + 1, 0, none⟩)] enters_Parse1 X k (fun w1 => Keep (w.heap.size + 2) CS X w1)
        ((changeClos_bad (w.heap.size + 2) (w.heap.size + 3) s k (X.alloc zeroF) hat hsz hyX (by omega) hq).mono fun e w1 ⟨h1, h2⟩ => ⟨h1, h2.kept _ _ _ _ hg (by decide), KX.trans h2⟩))
      have HE := Lib.hid (show Sp.parseF s.data.toList = ⟨40, k, 0, []⟩ by rw [HG.out, hq]; rfl)
      clear hX f0 f1 f2 f3 bX KX hat ht hg hq hyX hy
      go_enter Tryz.func18, Tryz.ntmps18
      go_wp2_with fail
      rw [← HX.out]
      refine HC.out.mono ?_
      rintro e w2 ⟨rfl, w1, k1, g1, rfl⟩
      have f1 := (put2_heap w1 X.heap.size (w.heap.size + 1) (.int .i64 40) (.int .i64 k) (by omega)).trans (k1.kept _ _ _ _ F1.out (by decide))
      have f0 := (put2_heap w1 X.heap.size w.heap.size (.int .i64 40) (.int .i64 k) (by omega)).trans ((k1.below.block _ (by omega)).trans F0.out)
      have B1 := Lib.hid (put2_below (BX.out.trans (k1.below.mono (by omega))) (show w.heap.size ≤ X.heap.size by omega) (.int .i64 40) (.int .i64 k))
      generalize put2 w1 X.heap.size (.int .i64 40) (.int .i64 k) = V at *
      have e0 := (Lib.cell_of_heap f0 0).trans (show _ = some _ from rfl)
      have e1 := (Lib.cell_of_heap f0 1).trans (show _ = some _ from rfl)
      have g0 := Joins.unfrozen_of_block f0 0
      have g1 := Joins.unfrozen_of_block f0 1
      have e2 := (Lib.cell_of_heap f1 0).trans (show _ = some _ from rfl)
      have e3 := (Lib.cell_of_heap f1 1).trans (show _ = some _ from rfl)
      have g2 := Joins.unfrozen_of_block f1 0
      have g3 := Joins.unfrozen_of_block f1 1
      have hlt0 := lt_of_heap f0
      have hlt1 := lt_of_heap f1
      clear k1 f0 f1
      go_wp2_with fail
      go_region
      go_wp2_with fail
      refine bodyPost_ret (v := .tuple #[chAgg 0 (.slice none 0 0), .agg #[.int .i64 40, .int .i64 k]]) (by simp [results, Tryz.results18, go_sem, e0, e1, e2, e3, hlt0, hlt1]) rfl ?_
      rw [ParseOut, HE.out]
      exact ⟨_, rfl, ownOps_nil _ _, Below.drew (below_alloc (set2_below (set2_below B1.out (Nat.le_refl _) _ _) (Nat.le_succ _) _ _) (Nat.le_refl _) _)⟩
    | ok c n =>
      have hyC := Lib.hid hyX
      have HC := Lib.hid (caught_ok 45 #[.pointer (some ⟨w.heap.size + 1 + 1, 0, none⟩), .pointer (some ⟨w.heap.size + 1 + 1 + 1, 0, none⟩)] enters_Parse1 X (fun w1 => ∃ v, w1.heap[w.heap.size + 3]? = some (.cells #[.int .i64 c.1, v] 24 (0, 0)) ∧ OwnOps w1 (X.alloc zeroF).heap.size v c.2 ∧ Keep (w.heap.size + 2) CS X w1)
        ((changeClos_ok (w.heap.size + 2) (w.heap.size + 3) s c n (X.alloc zeroF) hat ht (by omega) hsz hyX (by omega) hq).mono fun e w1 ⟨h1, v, h2, h3, h4⟩ => ⟨h1, h4.kept _ _ _ _ hg (by decide), v, h2, h3, KX.trans h4⟩))
      have HE := Lib.hid (show Sp.parseF s.data.toList = Sp.parseR (.ok c n) by rw [HG.out, hq])
      have HPt := Lib.hid (Sp.change_parts hq)
      clear hX f0 f1 f2 f3 bX KX hat ht hg hq hyX hy
      go_enter Tryz.func18, Tryz.ntmps18
      go_wp2_with fail
      rw [← HX.out]
      refine HC.out.mono ?_
      rintro e w2 ⟨rfl, w1, ⟨v, q3, o1, k1⟩, g1, rfl⟩
      have f1 := (put2_heap w1 X.heap.size (w.heap.size + 1) (.int .i64 0) (.int .i64 0) (by omega)).trans (k1.kept _ _ _ _ F1.out (by decide))
      have f0 := (put2_heap w1 X.heap.size w.heap.size (.int .i64 0) (.int .i64 0) (by omega)).trans ((k1.below.block _ (by omega)).trans F0.out)
      have f3 := (put2_heap w1 X.heap.size (w.heap.size + 3) (.int .i64 0) (.int .i64 0) (by omega)).trans q3
      have B1 := Lib.hid (put2_below (BX.out.trans (k1.below.mono (by omega))) (show w.heap.size ≤ X.heap.size by omega) (.int .i64 0) (.int .i64 0))
      have KP : Keep w.heap.size [34] w1 (put2 w1 X.heap.size (.int .i64 0) (.int .i64 0)) := (set_keep (i := 0) g1 (show w.heap.size ≤ X.heap.size by omega) (.int .i64 0)).trans (set_keep (i := 1) (Joins.block_setCell (i := 0) g1 (.int .i64 0)) (show w.heap.size ≤ X.heap.size by omega) (.int .i64 0))
      obtain ⟨ps, hps, hp⟩ := o1
      have OV := Lib.hid (show OwnOps (put2 w1 X.heap.size (.int .i64 0) (.int .i64 0)) w.heap.size v c.2 from ⟨ps, hps, (hp.keep KP (by decide) (by decide)).base (show w.heap.size ≤ (X.alloc zeroF).heap.size by simp; omega)⟩)
      clear KP hp k1 q3 hps
      generalize put2 w1 X.heap.size (.int .i64 0) (.int .i64 0) = V at *
      obtain ⟨va, vc, rfl⟩ := OV.out.row.shape
      have G0 := Lib.hid f0
      have G1 := Lib.hid f1
      have G3 := Lib.hid f3
      have hlt0 := lt_of_heap f0
      have hlt1 := lt_of_heap f1
      have hlt3 := lt_of_heap f3
      have hn0 : w.heap.size ≠ V.heap.size := by omega
      have hn1 : w.heap.size + 1 ≠ V.heap.size := by omega
      have hn3 : w.heap.size + 1 + 1 + 1 ≠ V.heap.size := by omega
      have c0 : V.cell? ⟨w.heap.size + 1 + 1 + 1, 0, none⟩ = some (.int .i64 c.1) := (Lib.cell_of_heap f3 0).trans rfl
      have c1 : V.cell? ⟨w.heap.size + 1 + 1 + 1, 1, none⟩ = some (.slice va c.2.length vc) := (Lib.cell_of_heap f3 1).trans rfl
      obtain ⟨Y, hY⟩ : ∃ Y, Y = V.alloc zeroF := ⟨_, rfl⟩
      have bY := show Below V.heap.size V Y by rw [hY]; exact below_box _ _
      have HY := Lib.hid hY
      have sY : Y.heap.size = V.heap.size + 1 := by rw [hY]; simp
      have B2 := Lib.hid (B1.out.trans (bY.mono (Nat.le_of_lt hlt0)))
      have OY := Lib.hid (OV.out.below bY)
      clear f0 f1 f3 g1 hY bY
      have hoz : OSized c.2 := fun o ho => by
        obtain ⟨h1, h2⟩ := HPt.out.2 o ho
        have hl : s.data.toList.length = s.size := rfl
        refine ⟨by unfold maxLen; omega, fun y hy => ?_⟩
        have := h2 y hy
        unfold maxLen; omega
      by_cases he : toE c.1 c.2 = 0
      · have HN := Lib.hid (normal_ok c.1 _ c.2 Y OY.out.row hoz he)
        go_wp2_with fail
        rw [← HY.out]
        refine HN.out.mono ?_
        rintro e w3 ⟨v3, rfl, o3, b3⟩
        obtain ⟨na, nc, rfl⟩ := o3.row.shape
        have O3 := Lib.hid o3
        have OC3 := Lib.hid (OY.out.below b3)
        have hs3 := b3.size
        have B3 := Lib.hid (B2.out.trans (b3.mono (by omega)))
        have bV3 : Below V.heap.size V w3 := by have := (show Below V.heap.size V Y by rw [HY.out]; exact below_box _ _); exact this.trans (b3.mono (by omega))
        obtain ⟨Z, hZ⟩ : ∃ Z, Z = w3.alloc (.cells #[.int .i64 c.1, .slice na (norm c.2).length nc] 24) := ⟨_, rfl⟩
        have bZ := show Below w3.heap.size w3 Z by rw [hZ]; exact below_box _ _
        have HZ := Lib.hid hZ
        have sZ : Z.heap.size = w3.heap.size + 1 := by rw [hZ]; simp
        have n0 : w3.cell? ⟨w.heap.size + 1 + 1 + 1, 0, none⟩ = some (.int .i64 c.1) := (bV3.cell (by exact hlt3)).trans c0
        have n1 : w3.cell? ⟨w.heap.size + 1 + 1 + 1, 1, none⟩ = some (.slice va c.2.length vc) := (bV3.cell (by exact hlt3)).trans c1
        have hlt33 : w.heap.size + 1 + 1 + 1 ≠ w3.heap.size := by omega
        have hlt34 : w.heap.size + 1 + 1 + 1 < w3.heap.size := by omega
        have HS := Lib.hid (changeSame_any c.1 c.1 (.slice va c.2.length vc) (.slice na (norm c.2).length nc) c.2 (norm c.2) Z (OC3.out.row.below bZ) (o3.row.below bZ))
        have OZ := Lib.hid (o3.below bZ)
        have BVZ := Lib.hid (bV3.trans (bZ.mono (by omega)))
        have BZ := Lib.hid (B3.out.trans (bZ.mono (by omega)))
        have zn := Lib.hid (show Z.heap[w3.heap.size]? = some (.cells #[.int .i64 c.1, .slice na (norm c.2).length nc] 24 (0, 0)) by rw [hZ]; exact heap_new _ _)
        clear o3 b3 bV3 hZ bZ
        go_wp2_with fail
        rw [← HZ.out]
        refine HS.out.mono ?_
        rintro e w4 ⟨rfl, b4⟩
        have hs4 := b4.size
        have bVz := BVZ.out.trans (b4.mono (by omega))
        have B4 := Lib.hid (BZ.out.trans (b4.mono (by omega)))
        have O4 := Lib.hid (OZ.out.below b4)
        have z4 := (b4.block _ (lt_of_heap zn.out)).trans zn.out
        by_cases hn : c.2 = norm c.2
        · have HE2 := Lib.hid (HE.out.trans (parseR_ok he hn))
          have ht : sameCh c.1 c.1 c.2 (norm c.2) = true := decide_eq_true ⟨rfl, hn⟩
          rw [ht]
          have f0 := (bVz.block _ hlt0).trans G0.out
          have f1 := (bVz.block _ hlt1).trans G1.out
          have e0 := (Lib.cell_of_heap f0 0).trans (show _ = some _ from rfl)
          have e1 := (Lib.cell_of_heap f0 1).trans (show _ = some _ from rfl)
          have g0 := Joins.unfrozen_of_block f0 0
          have g1 := Joins.unfrozen_of_block f0 1
          have e2 := (Lib.cell_of_heap f1 0).trans (show _ = some _ from rfl)
          have e3 := (Lib.cell_of_heap f1 1).trans (show _ = some _ from rfl)
          have g2 := Joins.unfrozen_of_block f1 0
          have g3 := Joins.unfrozen_of_block f1 1
          have hl0 := lt_of_heap f0
          have hl1 := lt_of_heap f1
          have m0 : w4.cell? ⟨w3.heap.size, 0, none⟩ = some (.int .i64 c.1) := (Lib.cell_of_heap z4 0).trans rfl
          have m1 : w4.cell? ⟨w3.heap.size, 1, none⟩ = some (.slice na (norm c.2).length nc) := (Lib.cell_of_heap z4 1).trans rfl
          have KZ := Lib.hid (((set_keep (b := w.heap.size) (i := 0) f0 (Nat.le_refl _) (.int .i64 c.1)).trans (set_keep (b := w.heap.size) (i := 1) (Joins.block_setCell (i := 0) f0 (.int .i64 c.1)) (Nat.le_refl _) (.slice na (norm c.2).length nc))))
          have f1' : ((w4.setCell ⟨w.heap.size, 0, none⟩ (.int .i64 c.1)).setCell ⟨w.heap.size, 1, none⟩ (.slice na (norm c.2).length nc)).heap[w.heap.size + 1]? = some zeroF := by rw [Below.heap_setCell _ _ _ _ (by simp), Below.heap_setCell _ _ _ _ (by simp)]; exact f1
          have KZ2 := Lib.hid (((set_keep (b := w.heap.size) (i := 0) f1' (Nat.le_succ _) (.int .i64 0)).trans (set_keep (b := w.heap.size) (i := 1) (Joins.block_setCell (i := 0) f1' (.int .i64 0)) (Nat.le_succ _) (.int .i64 0))))
          have Hn := Lib.hid hn
          clear b4 bVz f0 f1 z4 hn he ht f1'
          go_wp2_with fail
          refine bodyPost_ret (v := .tuple #[chAgg c.1 (.slice na (norm c.2).length nc), .agg #[.int .i64 0, .int .i64 0]]) (by simp [results, Tryz.results18, go_sem, e0, e1, e2, e3]) rfl ?_
          rw [ParseOut, HE2.out]
          obtain ⟨ps, hps, hp⟩ := O4.out
          exact ⟨_, rfl, ⟨ps, hps.trans Hn.out.symm, ((hp.keep KZ.out (by decide) (by decide)).keep KZ2.out (by decide) (by decide)).base (by omega)⟩, set2_below (set2_below B4.out (Nat.le_refl _) _ _) (Nat.le_succ _) _ _⟩
        · have HE2 := Lib.hid (HE.out.trans (parseR_odd he hn))
          have ht : sameCh c.1 c.1 c.2 (norm c.2) = false := decide_eq_false fun h => hn h.2
          rw [ht]
          have f0 := (bVz.block _ hlt0).trans G0.out
          have f1 := (bVz.block _ hlt1).trans G1.out
          have e0 := (Lib.cell_of_heap f0 0).trans (show _ = some _ from rfl)
          have e1 := (Lib.cell_of_heap f0 1).trans (show _ = some _ from rfl)
          have g0 := Joins.unfrozen_of_block f0 0
          have g1 := Joins.unfrozen_of_block f0 1
          have e2 := (Lib.cell_of_heap f1 0).trans (show _ = some _ from rfl)
          have e3 := (Lib.cell_of_heap f1 1).trans (show _ = some _ from rfl)
          have g2 := Joins.unfrozen_of_block f1 0
          have g3 := Joins.unfrozen_of_block f1 1
          have hl0 := lt_of_heap f0
          have hl1 := lt_of_heap f1
          clear b4 bVz f0 f1 z4 hn he ht
          go_wp2_with fail
          refine bodyPost_ret (v := .tuple #[chAgg 0 (.slice none 0 0), .agg #[.int .i64 40, .int .i64 (-1)]]) (by simp [results, Tryz.results18, go_sem, e0, e1, e2, e3]) rfl ?_
          rw [ParseOut, HE2.out]
          exact ⟨_, rfl, ownOps_nil _ _, set2_below (set2_below B4.out (Nat.le_refl _) _ _) (Nat.le_succ _) _ _⟩
      · have HN := Lib.hid (normal_bad c.1 _ c.2 Y OY.out.row hoz he)
        have HE2 := Lib.hid (HE.out.trans (parseR_err he))
        have hb : (toE c.1 c.2 == 0) = false := by rw [beq_eq_false_iff_ne]; exact he
        go_wp2_with fail
        rw [← HY.out]
        refine HN.out.mono ?_
        rintro e w3 ⟨rfl, b3⟩
        have hs3 := b3.size
        have B3 := Lib.hid (B2.out.trans (b3.mono (by omega)))
        have bV3 : Below V.heap.size V w3 := by have := (show Below V.heap.size V Y by rw [HY.out]; exact below_box _ _); exact this.trans (b3.mono (by omega))
        have f0 := (bV3.block _ hlt0).trans G0.out
        have f1 := (bV3.block _ hlt1).trans G1.out
        have e0 := (Lib.cell_of_heap f0 0).trans (show _ = some _ from rfl)
        have e1 := (Lib.cell_of_heap f0 1).trans (show _ = some _ from rfl)
        have g0 := Joins.unfrozen_of_block f0 0
        have g1 := Joins.unfrozen_of_block f0 1
        have e2 := (Lib.cell_of_heap f1 0).trans (show _ = some _ from rfl)
        have e3 := (Lib.cell_of_heap f1 1).trans (show _ = some _ from rfl)
        have g2 := Joins.unfrozen_of_block f1 0
        have g3 := Joins.unfrozen_of_block f1 1
        have hl0 := lt_of_heap f0
        have hl1 := lt_of_heap f1
        have hm0 : w.heap.size ≠ w3.heap.size := by omega
        have hm1 : w.heap.size + 1 ≠ w3.heap.size := by omega
        clear b3 bV3 f0 f1 he
        go_wp2_with fail
        refine bodyPost_ret (v := .tuple #[chAgg 0 (.slice none 0 0), .agg #[.int .i64 (toE c.1 c.2), .int .i64 (-1)]]) (by simp [results, Tryz.results18, go_sem, e0, e1, e2, e3, hl0, hl1]) rfl ?_
        rw [ParseOut, HE2.out]
        exact ⟨_, rfl, ownOps_nil _ _, below_alloc (set2_below (set2_below B3.out (Nat.le_refl _) _ _) (Nat.le_succ _) _ _) (Nat.le_refl _) _⟩
end Go.Proofs.YtacgkbdldbppjaaGreatDoor

/- The law's own Keep, Put, Cut. -/
namespace Go.Proofs.YtacgkbdldbppjaaGreatDoor
open Go.RowKit Ch

def OutV (w : World) (v : Value) (e : Ending) (w' : World) : Prop := e = .returned v ∧ Below w.heap.size w w'
set_option maxRecDepth 100000 in
set_option maxHeartbeats 1000000 in
theorem lawKeep_any (n : Int) (w : World) : Calls Tryz.prog 26 #[.int .i64 n, .slice none 0 0] w (OutV w (opAgg ⟨1, n, ⟨#[]⟩, []⟩ (.slice none 0 0))) := by
  go_enter Tryz.func26, Tryz.ntmps26
  go_wp2_with fail
  exact bodyPost_ret (v := opAgg ⟨1, n, ⟨#[]⟩, []⟩ (.slice none 0 0)) (by simp [results, Tryz.results26, go_sem]) rfl ⟨rfl, below_box _ _⟩
set_option maxRecDepth 100000 in
set_option maxHeartbeats 1000000 in
theorem lawCut_any (n : Int) (w : World) : Calls Tryz.prog 27 #[.int .i64 n] w (OutV w (opAgg ⟨3, n, ⟨#[]⟩, []⟩ (.slice none 0 0))) := by
  go_enter Tryz.func27, Tryz.ntmps27
  go_wp2_with fail
  exact bodyPost_ret (v := opAgg ⟨3, n, ⟨#[]⟩, []⟩ (.slice none 0 0)) (by simp [results, Tryz.results27, go_sem]) rfl ⟨rfl, below_box _ _⟩
set_option maxRecDepth 100000 in
set_option maxHeartbeats 1000000 in
theorem lawPut_any (s : ByteArray) (w : World) : Calls Tryz.prog 25 #[.string s, .slice none 0 0] w (OutV w (opAgg ⟨2, 0, s, []⟩ (.slice none 0 0))) := by
  go_enter Tryz.func25, Tryz.ntmps25
  go_wp2_with fail
  exact bodyPost_ret (v := opAgg ⟨2, 0, s, []⟩ (.slice none 0 0)) (by simp [results, Tryz.results25, go_sem]) rfl ⟨rfl, below_box _ _⟩

theorem opRow_new (w : World) (ps : List (OpD × Value)) (h : ∀ p ∈ ps, p.1.attrs = [] ∧ p.2 = .slice none 0 0) (hm : ps.length ≤ maxLen) :
    OpRow (w.alloc (.cells (flatO ps).toArray 48)) (.slice (some ⟨w.heap.size, 0, none⟩) ps.length ps.length) (ps.map (·.1)) := by
  refine OwnP.row (B := w.heap.size) ⟨⟨flatO_len ps, .inr ⟨w.heap.size, ps.length, (flatO ps).toArray, rfl, Nat.le_refl _, heap_new _ _, Nat.le_refl _, hm, by simp [flatO_len], ?_⟩⟩, fun p hp => ?_⟩
  · rw [List.take_of_length_le (by simp [flatO_len])]
  · obtain ⟨h1, h2⟩ := h p hp
    rw [h1, h2]
    exact World.ownsRow_nil _ _ _ _
end Go.Proofs.YtacgkbdldbppjaaGreatDoor

/- The law's own awake: the document's examples. -/
namespace Go.Proofs.YtacgkbdldbppjaaGreatDoor
open Go.RowKit Ch

abbrev exT : ByteArray := ⟨#[120, 10]⟩
abbrev exA : List Sp.A := [(⟨#[98]⟩, ⟨#[49]⟩)]
def exO : List OpD := [⟨1, 2, ⟨#[]⟩, []⟩, ⟨2, 0, exT, exA⟩, ⟨3, 1, ⟨#[]⟩, []⟩]
def exS : List UInt8 := [53, 32, 61, 50, 32, 43, 34, 120, 92, 110, 34, 123, 98, 58, 34, 49, 34, 125, 32, 45, 49]
def exB : List UInt8 := [53, 32, 61, 50, 32]
theorem ex_pr1 : (Sp.printF 5 exO).1 = 0 := by decide +kernel
theorem ex_pr2 : (Sp.printF 5 exO).2 = exS := by decide +kernel
theorem ex_nm : norm exO = exO := by decide +kernel
theorem ex_pa : Sp.parseF exS = ⟨0, 0, 5, exO⟩ := by
  have := (Sp.print_parse ex_pr1).2
  rw [ex_pr2, ex_nm] at this
  exact this
theorem ex_bad : (Sp.parseF exB).code = 40 ∧ (Sp.parseF exB).at_ = 5 := by decide +kernel

theorem ex_badF : Sp.parseF exB = ⟨40, 5, 0, []⟩ := by
  have h1 := ex_bad
  have h2 := Sp.parse_bad (s := exB) (by rw [h1.1]; decide)
  generalize Sp.parseF exB = p at *
  obtain ⟨a, b, c, d⟩ := p
  simp only at h1 h2
  obtain ⟨rfl, rfl⟩ := h1
  obtain ⟨rfl, rfl⟩ := h2
  rfl
theorem ex_row {w : World} {g q : Nat} (hg : w.heap[g]? = some (.cells #[.int .i64 1, .int .i64 2, .string ⟨#[]⟩, .slice none 0 0, .int .i64 2, .int .i64 0, .string exT, .slice (some ⟨q, 0, none⟩) 1 1, .int .i64 3, .int .i64 1, .string ⟨#[]⟩, .slice none 0 0] 48 (0, 0)))
    (hq : w.heap[q]? = some (.cells #[.string ⟨#[98]⟩, .string ⟨#[49]⟩] 52 (0, 0))) : OpRow w (.slice (some ⟨g, 0, none⟩) 3 3) exO := by
  have c := fun i => Lib.cell_of_heap hg i
  have d := fun i => Lib.cell_of_heap hq i
  have nilA : AtRow w (.slice none 0 0) [] := ⟨none, 0, rfl, Nat.le_refl _, Nat.zero_le _, fun i h => absurd h (Nat.not_lt_zero _)⟩
  have nilP : Proper (.slice none 0 0) := fun n c e => by simp at e; omega
  refine ⟨_, 3, rfl, Nat.le_refl _, by decide, fun i hi => ⟨g, 0, rfl, lt_of_heap hg, ?_⟩⟩
  have hi : i < 3 := hi
  rcases i with _ | _ | _ | i
  · exact ⟨_, nilA, nilP, c 0, c 1, c 2, c 3⟩
  · refine ⟨.slice (some ⟨q, 0, none⟩) 1 1, ⟨_, 1, rfl, Nat.le_refl _, by decide, fun j hj => ⟨q, 0, rfl, lt_of_heap hq, ?_⟩⟩, fun n c e => by simp at e, c 4, c 5, c 6, c 7⟩
    have hj : j < 1 := hj
    obtain rfl : j = 0 := by omega
    exact ⟨d 0, d 1⟩
  · exact ⟨_, nilA, nilP, c 8, c 9, c 10, c 11⟩
  · omega
theorem ex_sized : OSized exO := fun o ho => by
  simp only [exO, List.mem_cons, List.not_mem_nil, or_false] at ho
  rcases ho with rfl | rfl | rfl
  · exact ⟨by decide, fun x hx => by cases hx⟩
  · exact ⟨by decide, fun x hx => by rw [List.mem_singleton.1 hx]; decide⟩
  · exact ⟨by decide, fun x hx => by cases hx⟩

set_option maxRecDepth 100000 in
set_option maxHeartbeats 1000000 in
theorem lawPutV_any (s : ByteArray) (a : Option Addr) (n c : Nat) (w : World) : Calls Tryz.prog 25 #[.string s, .slice a n c] w (OutV w (.agg #[.int .i64 2, .int .i64 0, .string s, .slice a n c])) := by
  go_enter Tryz.func25, Tryz.ntmps25
  go_wp2_with fail
  exact bodyPost_ret (v := .agg #[.int .i64 2, .int .i64 0, .string s, .slice a n c]) (by simp [results, Tryz.results25, go_sem]) rfl ⟨rfl, below_box _ _⟩

set_option maxRecDepth 100000 in
set_option maxHeartbeats 4000000 in
theorem awake4_any (w : World) (hp : Pow w) (hy : Syn w) (hpB : 2 < w.heap.size) (hyB : 3 < w.heap.size) : Calls Tryz.prog 9 #[] w (OutB w true) := by
  go_enter Tryz.func9, Tryz.ntmps9
  have B0 := Lib.hid (Below.refl w.heap.size w)
  go_wp2_with fail
  refine (lawKeep_any 2 _).mono ?_
  rintro e w1 ⟨rfl, b⟩
  have B1 := Lib.hid (B0.out.trans (b.mono B0.out.size))
  clear b
  go_wp2_with fail
  obtain ⟨Q, hQ⟩ : ∃ Q, Q = w1.alloc (.cells #[.string ⟨#[98]⟩, .string ⟨#[49]⟩] 52) := ⟨_, rfl⟩
  have bQ := show Below w1.heap.size w1 Q by rw [hQ]; exact below_box _ _
  have qh := show Q.heap[w1.heap.size]? = some (.cells #[.string ⟨#[98]⟩, .string ⟨#[49]⟩] 52 (0, 0)) by rw [hQ]; exact heap_new _ _
  rw [← hQ]
  refine (lawPutV_any exT _ 1 1 Q).mono ?_
  rintro e w2 ⟨rfl, b⟩
  have q2 := Lib.hid ((b.block _ (lt_of_heap qh)).trans qh)
  have s1 := B1.out.size
  have sQ := bQ.size
  have s2 := b.size
  have lq := lt_of_heap q2.out
  have B2 := Lib.hid (B1.out.trans ((bQ.trans (b.mono sQ)).mono s1))
  clear b bQ qh hQ
  go_wp2_with fail
  refine (lawCut_any 1 _).mono ?_
  rintro e w3 ⟨rfl, b⟩
  have q3 := Lib.hid ((b.block _ (lt_of_heap q2.out)).trans q2.out)
  have s3 := b.size
  have B3 := Lib.hid (B2.out.trans (b.mono B2.out.size))
  clear b
  go_wp2_with fail
  obtain ⟨X0, hX0⟩ : ∃ X, X = w3.alloc (.cells #[.int .i64 1, .int .i64 2, .string ⟨#[]⟩, .slice none 0 0, .int .i64 2, .int .i64 0, .string exT, .slice (some ⟨w1.heap.size, 0, none⟩) 1 1, .int .i64 3, .int .i64 1, .string ⟨#[]⟩, .slice none 0 0] 48) := ⟨_, rfl⟩
  have x0 := show X0.heap[w3.heap.size]? = some (.cells #[.int .i64 1, .int .i64 2, .string ⟨#[]⟩, .slice none 0 0, .int .i64 2, .int .i64 0, .string exT, .slice (some ⟨w1.heap.size, 0, none⟩) 1 1, .int .i64 3, .int .i64 1, .string ⟨#[]⟩, .slice none 0 0] 48 (0, 0)) by rw [hX0]; exact heap_new _ _
  have bx0 := show Below w3.heap.size w3 X0 by rw [hX0]; exact below_box _ _
  obtain ⟨X, hX⟩ : ∃ X, X = X0.alloc (.cells #[.int .i64 5, .slice (some ⟨w3.heap.size, 0, none⟩) 3 3] 24) := ⟨_, rfl⟩
  have bx := show Below X0.heap.size X0 X by rw [hX]; exact below_box _ _
  have RX := (ex_row x0 ((bx0.block _ (lt_of_heap q3.out)).trans q3.out)).below bx
  have BX := Lib.hid (B3.out.trans ((bx0.trans (bx.mono bx0.size)).mono (by omega)))
  have hw := BX.out.size
  have HX := Lib.hid (show X = (w3.alloc (.cells #[.int .i64 1, .int .i64 2, .string ⟨#[]⟩, .slice none 0 0, .int .i64 2, .int .i64 0, .string exT, .slice (some ⟨w1.heap.size, 0, none⟩) 1 1, .int .i64 3, .int .i64 1, .string ⟨#[]⟩, .slice none 0 0] 48)).alloc (.cells #[.int .i64 5, .slice (some ⟨w3.heap.size, 0, none⟩) 3 3] 24) by rw [hX, hX0])
  have HPr := print_any 5 _ exO X RX ex_sized (hp.below BX.out hpB) (by omega)
  rw [show PrintOut X 5 exO = fun e w' => e = .returned (.tuple #[.string (Sp.ba exS), .int .i64 0]) ∧ Below X.heap.size X w' by unfold PrintOut; rw [ex_pr1, ex_pr2]] at HPr
  have HPr := Lib.hid HPr
  clear hX0 hX x0 bx0 bx RX B0 B1 B2 q2 q3
  rw [← HX.out]
  refine HPr.out.mono ?_
  rintro e w4 ⟨rfl, b⟩
  have s4 := b.size
  have B4 := Lib.hid (BX.out.trans (b.mono hw))
  have hy4 : Syn w4 := hy.keep (keep_below (ts := []) (B4.out) (Nat.le_refl _)) hyB
  have HPa := parse_any (Sp.ba exS) w4 (by decide) hy4 (by omega)
  rw [show ParseOut w4 (Sp.ba exS) = fun e w' => ∃ v, e = .returned (.tuple #[chAgg 5 v, .agg #[.int .i64 0, .int .i64 0]]) ∧ OwnOps w' w4.heap.size v exO ∧ Below w4.heap.size w4 w' by unfold ParseOut; rw [Sp.data_ba, ex_pa]] at HPa
  have HPa := Lib.hid HPa
  clear b hy4
  go_wp2_with fail
  refine HPa.out.mono ?_
  rintro e w5 ⟨v5, rfl, o5, b⟩
  have s5 := b.size
  have B5 := Lib.hid (B4.out.trans (b.mono B4.out.size))
  obtain ⟨ps, hps, hP⟩ := o5
  have hl3 : ps.length = 3 := by have := congrArg List.length hps; simpa [exO] using this
  obtain ⟨gg, cap, hv⟩ := ownsRow_open hP.1 (by omega)
  rw [hl3] at hv
  subst hv
  obtain ⟨p0, p1, p2, rfl⟩ : ∃ p0 p1 p2, ps = [p0, p1, p2] := by
    match ps, hl3 with
    | [p0, p1, p2], _ => exact ⟨p0, p1, p2, rfl⟩
  simp only [List.map_cons, List.map_nil, exO, List.cons.injEq, and_true] at hps
  have g5 : w5.cell? ⟨gg, 6, none⟩ = some (.string exT) := by
    rw [hP.1.cellAt 6 (by decide)]
    show some (Value.string p1.1.text) = _
    rw [hps.2.1]
  have lg5 : gg < w5.heap.size := by obtain ⟨cs, hcs⟩ := (own_heap hP.1).2; exact lt_of_heap hcs
  have G5 := Lib.hid g5
  obtain ⟨Y0, hY0⟩ : ∃ Y, Y = w5.alloc (.cells #[.int .i64 5, .slice (some ⟨gg, 0, none⟩) 3 cap] 24) := ⟨_, rfl⟩
  have y0 := show Y0.heap[w5.heap.size]? = some (.cells #[.int .i64 5, .slice (some ⟨gg, 0, none⟩) 3 cap] 24 (0, 0)) by rw [hY0]; exact heap_new _ _
  have by0 := show Below w5.heap.size w5 Y0 by rw [hY0]; exact below_box _ _
  have sY0 : Y0.heap.size = w5.heap.size + 1 := by rw [hY0]; simp
  obtain ⟨Y, hY⟩ : ∃ Y, Y = Y0.alloc (.cells #[.int .i64 0, .int .i64 0] 34) := ⟨_, rfl⟩
  have y1 := show Y.heap[Y0.heap.size]? = some (.cells #[.int .i64 0, .int .i64 0] 34 (0, 0)) by rw [hY]; exact heap_new _ _
  have bY := show Below Y0.heap.size Y0 Y by rw [hY]; exact below_box _ _
  rw [sY0] at y1
  have y0' := (bY.block _ (lt_of_heap y0)).trans y0
  have BY5 := by0.trans (bY.mono by0.size)
  have sY := BY5.size
  have BY := Lib.hid (B5.out.trans (BY5.mono (by omega)))
  have HY := Lib.hid (show Y = (w5.alloc (.cells #[.int .i64 5, .slice (some ⟨gg, 0, none⟩) 3 cap] 24)).alloc (.cells #[.int .i64 0, .int .i64 0] 34) by rw [hY, hY0])
  have hyY : Syn Y := hy.keep (keep_below (ts := []) (BY.out) (Nat.le_refl _)) hyB
  have HPb := parse_any (Sp.ba exB) Y (by decide) hyY (by omega)
  rw [show ParseOut Y (Sp.ba exB) = fun e w' => ∃ v, e = .returned (.tuple #[chAgg 0 v, .agg #[.int .i64 40, .int .i64 5]]) ∧ OwnOps w' Y.heap.size v [] ∧ Below Y.heap.size Y w' by unfold ParseOut; rw [Sp.data_ba, ex_badF]] at HPb
  have HPb := Lib.hid HPb
  have Y0h := Lib.hid y0'
  have Y1h := Lib.hid y1
  have G6 := Lib.hid ((BY5.cell (by exact lg5)).trans g5)
  have lgY : gg < Y.heap.size := by omega
  clear b hP hps g5 hY0 y0 by0 hY y1 bY y0' BY5 hyY HPa HPr
  go_wp2_with fail
  rw [← HY.out]
  refine HPb.out.mono ?_
  rintro e w6 ⟨u6, rfl, o6, b⟩
  obtain ⟨ua, uc, rfl⟩ := o6.row.shape
  have z0 := (b.block _ (lt_of_heap Y0h.out)).trans Y0h.out
  have z1 := (b.block _ (lt_of_heap Y1h.out)).trans Y1h.out
  have c0 : w6.cell? ⟨w5.heap.size, 0, none⟩ = some (.int .i64 5) := (Lib.cell_of_heap z0 0).trans rfl
  have c1 : w6.cell? ⟨w5.heap.size, 1, none⟩ = some (.slice (some ⟨gg, 0, none⟩) 3 cap) := (Lib.cell_of_heap z0 1).trans rfl
  have d0 : w6.cell? ⟨w5.heap.size + 1, 0, none⟩ = some (.int .i64 0) := (Lib.cell_of_heap z1 0).trans rfl
  have d1 : w6.cell? ⟨w5.heap.size + 1, 1, none⟩ = some (.int .i64 0) := (Lib.cell_of_heap z1 1).trans rfl
  have g6 : w6.cell? ⟨gg, 6, none⟩ = some (.string exT) := (b.cell (by exact lgY)).trans G6.out
  have l0 := lt_of_heap z0
  have l1 := lt_of_heap z1
  have lg6 : gg < w6.heap.size := Nat.lt_of_lt_of_le lgY b.size
  have B6 := Lib.hid (BY.out.trans (b.mono BY.out.size))
  have ts : ((Sp.ba exS).toList == [53, 32, 61, 50, 32, 43, 34, 120, 92, 110, 34, 123, 98, 58, 34, 49, 34, 125, 32, 45, 49]) = true := by decide +kernel
  have tx : (exT.toList == [120, 10]) = true := by decide +kernel
  clear z0 z1 b o6
  go_wp2_with fail
  go_ret
  exact ⟨rfl, below_alloc (below_alloc B6.out (Nat.le_refl _) _) (Nat.le_refl _) _⟩
end Go.Proofs.YtacgkbdldbppjaaGreatDoor

/- Quote: a text in quotes. -/
namespace Go.Proofs.YtacgkbdldbppjaaGreatDoor
open Go.RowKit Ch

/-- UTF-8's tables stand. -/
def U8 (w : World) : Prop := Lib.Utf8Tabs 0 1 w
theorem U8.below {B : Nat} {w w' : World} (h : U8 w) (hb : Below B w w') (h1 : 0 < B) (h2 : 1 < B) : U8 w' :=
  ⟨fun c hc => (hb.cell (p := ⟨0, c, none⟩) h1).trans (h.1 c hc), fun i hi => ⟨(hb.cell (p := ⟨1, 2 * i, none⟩) h2).trans (h.2 i hi).1, (hb.cell (p := ⟨1, 2 * i + 1, none⟩) h2).trans (h.2 i hi).2⟩⟩
def quoteF (s : ByteArray) : List UInt8 × Int := if Lib.validD s.data.toList = true then (Sp.qt s.data.toList, 0) else ([], 10)

set_option maxHeartbeats 4000000 in
theorem quoteT_any (s : ByteArray) (w : World) (hs : 4 * s.size + 2 ≤ 140737488355328) (hT : U8 w) :
    Calls Tryz.prog 13 #[.string s] w fun e w' => e = .returned (.tuple #[.string (Sp.ba (quoteF s).1), .int .i64 (quoteF s).2]) ∧ Below w.heap.size w w' := by
  have HV := Lib.hid (Tryz.utf8_ValidString s w (by omega) hT)
  clear hT
  cases hv : Lib.validD s.data.toList with
  | false =>
    have HE := Lib.hid (show quoteF s = ([], 10) by unfold quoteF; rw [if_neg (by rw [hv]; decide)])
    rw [hv] at HV
    go_enter Tryz.func13, Tryz.ntmps13
    go_wp2_with fail
    refine HV.out.mono ?_
    rintro e w1 ⟨rfl, b1⟩
    go_wp2_with fail
    refine bodyPost_ret (v := .tuple #[.string ⟨#[]⟩, .int .i64 10]) (by simp [results, Tryz.results13, go_sem]) rfl ?_
    rw [HE.out]
    exact ⟨rfl, b1⟩
  | true =>
    have HE := Lib.hid (show quoteF s = (Sp.qt s.data.toList, 0) by unfold quoteF; rw [if_pos hv])
    rw [hv] at HV
    go_enter Tryz.func13, Tryz.ntmps13
    go_wp2_with fail
    refine HV.out.mono ?_
    rintro e w1 ⟨rfl, b1⟩
    have B1 := Lib.hid b1
    obtain ⟨X, hX⟩ : ∃ X, X = w1.alloc (.cells #[.pointer none, .slice none 0 0] 58) := ⟨_, rfl⟩
    have BX := Lib.hid (show Below w.heap.size w X by rw [hX]; exact below_alloc b1 (Nat.le_refl _) _)
    have iX := Lib.hid (show IsB X w1.heap.size w1.heap.size [] by rw [hX]; exact IsB.fresh w1)
    have HX := Lib.hid hX
    have HQ := Lib.hid (quote_any w1.heap.size w1.heap.size [] s X iX.out (by simp only [List.length_nil]; omega))
    have s1 : w.heap.size ≤ w1.heap.size := b1.size
    clear b1 hX
    go_wp2_with fail
    rw [← HX.out]
    refine HQ.out.mono ?_
    rintro e w2 ⟨rfl, q2⟩
    have HS := Lib.hid (Tryz.Builder_String_any_k w1.heap.size w1.heap.size _ w2 q2.is (Nat.le_of_lt (Nat.lt_of_le_of_lt q2.is.base.1 q2.is.base.2)))
    have B2 := Lib.hid (BX.out.trans (q2.keep.below.mono s1))
    clear q2
    go_wp2_with fail
    refine HS.out.mono ?_
    rintro e w3 ⟨rfl, _, b3, _⟩
    go_wp2_with fail
    refine bodyPost_ret (v := .tuple #[.string (Sp.ba (Sp.qt s.data.toList)), .int .i64 0]) (by simp [results, Tryz.results13, go_sem, Sp.ba]) rfl ?_
    rw [HE.out]
    exact ⟨rfl, B2.out.trans (b3.mono s1)⟩
end Go.Proofs.YtacgkbdldbppjaaGreatDoor

/- What the program reads of the library. -/
namespace Go.Proofs.YtacgkbdldbppjaaGreatDoor
open Go.RowKit Ch

/-- What the program reads of the library stands. -/
structure Std (w : World) : Prop where
  pow : Pow w
  syn : Syn w
  pl : 2 < w.heap.size
  sl : 3 < w.heap.size
theorem Std.keep {w w' : World} (h : Std w) (hb : Below w.heap.size w w') : Std w' :=
  ⟨h.pow.below hb h.pl, h.syn.keep (keep_below (ts := []) hb (Nat.le_refl _)) h.sl, Nat.lt_of_lt_of_le h.pl hb.size, Nat.lt_of_lt_of_le h.sl hb.size⟩

theorem var_lt {w : World} {n : String} {g : Nat} {cs : Array Value} (hg : Tryz.prog.globalNamed n = some g) (h : w.var? Tryz.prog n = some cs) : g < w.heap.size := by
  unfold World.var? at h
  rw [hg, Option.bind_some] at h
  cases hh : w.heap[g]? with
  | none => rw [hh] at h; cases h
  | some o => exact lt_of_heap hh
/-- The powers of ten, laid. -/
theorem pow_of {L : List (String × DataW Unit)} {w : World} (h : laidMet Tryz.prog L w) (hm : ("internal/strconv.uint64pow10", Lib.tabData .u64 Lib.pow10Tab) ∈ L) : Pow w ∧ 2 < w.heap.size := by
  have hg : Tryz.prog.globalNamed "internal/strconv.uint64pow10" = some 2 := by kernel_rfl
  obtain ⟨g, t, cs, fuel, p, h1, h2, h3, h4⟩ := Lib.laidMet.reads h hm
  obtain rfl := Option.some.inj (hg.symm.trans h1)
  have ht : (Tryz.prog.globals[2]?).map (·.type) = some 134 := by kernel_rfl
  obtain rfl := Option.some.inj (ht.symm.trans h2)
  refine ⟨?_, var_lt hg h3⟩
  have := Lib.cells_of_tab Tryz.underlying134 Tryz.underlying120 (by kernel_rfl) (by kernel_rfl) h4
  unfold Pow Lib.TabIs
  rw [h3, ← this]
theorem syn_of {L : List (String × DataW Unit)} {w : World} {n : String} {d : DataW Unit} (h : laidMet Tryz.prog L w) (hm : ("strconv.ErrSyntax", DataW.iface n d) ∈ L) : Syn w ∧ 3 < w.heap.size := by
  have hg : Tryz.prog.globalNamed "strconv.ErrSyntax" = some 3 := by kernel_rfl
  obtain ⟨g, t, cs, fuel, p, h1, h2, h3, h4⟩ := Lib.laidMet.reads h hm
  obtain rfl := Option.some.inj (hg.symm.trans h1)
  have ht : (Tryz.prog.globals[3]?).map (·.type) = some 60 := by kernel_rfl
  obtain rfl := Option.some.inj (ht.symm.trans h2)
  refine ⟨?_, var_lt hg h3⟩
  obtain ⟨_, u, v, e, _⟩ := iface_of_trod Tryz.underlying60 h4
  refine ⟨.iface u v, ?_, .inr ⟨u, v, rfl⟩⟩
  have e2 : cs = #[.iface u v] := by cases cs; simp_all
  rw [World.var?_cell hg h3 0, e2]; rfl
theorem std_of {L : List (String × DataW Unit)} {w : World} {n : String} {d : DataW Unit} (h : laidMet Tryz.prog L w) (h1 : ("internal/strconv.uint64pow10", Lib.tabData .u64 Lib.pow10Tab) ∈ L) (h2 : ("strconv.ErrSyntax", DataW.iface n d) ∈ L) : Std w :=
  ⟨(pow_of h h1).1, (syn_of h h2).1, (pow_of h h1).2, (syn_of h h2).2⟩
theorem u8_of {L : List (String × DataW Unit)} {w : World} (h : laidMet Tryz.prog L w) (h1 : ("unicode/utf8.first", Lib.firstData) ∈ L) (h2 : ("unicode/utf8.acceptRanges", Lib.acceptData) ∈ L) : U8 w ∧ 0 < w.heap.size ∧ 1 < w.heap.size := by
  have X : Go.Proofs.U8Extra Tryz.prog Tryz.laysValid_ren := { n3 := by kernel_rfl, n4 := by kernel_rfl, y3 := by kernel_rfl, y4 := by kernel_rfl, c5 := by kernel_rfl, c119 := by kernel_rfl, c138 := by kernel_rfl }
  have r1 := Lib.laidMet.reads h h1
  have r2 := Lib.laidMet.reads h h2
  refine ⟨utf8Tabs_of_readsT (U8Types.of196 Tryz.laysValid) X r1 r2, ?_, ?_⟩
  · obtain ⟨g, t, cs, fuel, p, h1, h2, h3, h4⟩ := r1
    obtain rfl := Option.some.inj (X.n3.symm.trans h1)
    exact var_lt X.n3 h3
  · obtain ⟨g, t, cs, fuel, p, h1, h2, h3, h4⟩ := r2
    obtain rfl := Option.some.inj (X.n4.symm.trans h1)
    exact var_lt X.n4 h3
end Go.Proofs.YtacgkbdldbppjaaGreatDoor

/- The document's own Same, of changesets. -/
namespace Go.Proofs.YtacgkbdldbppjaaGreatDoor
open Go.RowKit Ch

theorem refSameB_any (v u : Value) (l m : List (ByteArray × ByteArray)) (w : World) (hv : AtRow w v l) (hu : AtRow w u m) :
    Calls Tryz.prog 50 #[v, u] w (OutB w (sameB l m)) :=
  (refSame_any v u l m w hv hu).mono fun _ _ ⟨h1, k, h2⟩ => ⟨h1, by rw [h2]; exact below_drewN (Below.refl _ _) k⟩

set_option maxRecDepth 100000 in
set_option maxHeartbeats 4000000 in
theorem refSameCh_any (f g : Int) (v u : Value) (l m : List OpD) (w : World) (hv : OpRow w v l) (hu : OpRow w u m) :
    Calls Tryz.prog 20 #[chAgg f v, chAgg g u] w (OutB w (sameCh f g l m)) := by
  obtain ⟨a, cap, rfl, h1, h2, h3⟩ := hv
  obtain ⟨a', cap', rfl, h1', h2', h3'⟩ := hu
  have hn : l.length ≤ 9223372036854775807 := Nat.le_trans h1 h2
  have hn' : m.length ≤ 9223372036854775807 := Nat.le_trans h1' h2'
  have H3 := Lib.hid h3
  have H3' := Lib.hid h3'
  clear h1 h2 h3 h1' h2' h3'
  obtain ⟨W, hW⟩ : ∃ W, W = (w.alloc (.cells #[.int .i64 f, .slice a l.length cap] 24)).alloc (.cells #[.int .i64 g, .slice a' m.length cap'] 24) := ⟨_, rfl⟩
  have BW := Lib.hid (show Below w.heap.size w W by rw [hW]; exact ((Below.refl _ _).alloc (Nat.le_refl _) _).alloc (by simp) _)
  have c0 : W.cell? ⟨w.heap.size, 0, none⟩ = some (.int .i64 f) := by rw [hW]; go_simp
  have c1 : W.cell? ⟨w.heap.size, 1, none⟩ = some (.slice a l.length cap) := by rw [hW]; go_simp
  have d0 : W.cell? ⟨w.heap.size + 1, 0, none⟩ = some (.int .i64 g) := by rw [hW]; go_simp
  have d1 : W.cell? ⟨w.heap.size + 1, 1, none⟩ = some (.slice a' m.length cap') := by rw [hW]; go_simp
  have hWs : w.heap.size + 1 < W.heap.size := by rw [hW]; simp
  have hWs' : w.heap.size < W.heap.size := by omega
  have HW := Lib.hid hW
  clear hW
  by_cases hf : f = g
  · have k1 : (f == g) = true := by rw [beq_iff_eq]; exact hf
    have k2 : (f != g) = false := by rw [hf]; simp
    have HRf := Lib.hid (show sameCh f g l m = sameOps l m by unfold sameCh sameOps; simp [hf])
    clear hf
    by_cases hlen : l.length = m.length
    · have Hlen := Lib.hid hlen
      have hle2 : ((l.length : Int) == (m.length : Int)) = true := by rw [hlen]; simp
      have hle3 : ((l.length : Int) != (m.length : Int)) = false := by rw [hlen]; simp
      clear hlen
      go_enter Tryz.func20, Tryz.ntmps20
      go_wp2_with fail
      rw [← HW.out]
      go_wp2_with fail
      go_loopw [5] (fun i wr => ∃ n : Nat, i = .int .i64 (n : Int) ∧ n ≤ l.length ∧ (∀ j (h1 : j < l.length) (h2 : j < m.length), j < n → l[j] = m[j]) ∧ Below W.heap.size W wr) (fun i _ => l.length - (intOf i).toNat)
      case atStart => exact ⟨0, rfl, by omega, fun j _ _ h => by omega, Below.refl _ _⟩
      case round =>
        obtain ⟨n, rfl, hk, hall, hb⟩ := hrel
        have Hall := Lib.hid hall
        have HB := Lib.hid (BW.out.trans (hb.mono BW.out.size))
        have q1 : wr.cell? ⟨w.heap.size, 1, none⟩ = some (.slice a l.length cap) := (hb.cell (by exact hWs')).trans c1
        have q2 : wr.cell? ⟨w.heap.size + 1, 1, none⟩ = some (.slice a' m.length cap') := (hb.cell (by exact hWs)).trans d1
        clear hall
        by_cases hlt : n < l.length
        · have hlt2 : n < m.length := by have := Hlen.out; omega
          have hlt' : (n : Int) < (l.length : Int) := by omega
          have hlt2' : (n : Int) < (m.length : Int) := by omega
          obtain ⟨b, off, rfl, hbl, xv, r0, _, x0, x1, x2, x3⟩ := H3.out n hlt
          obtain ⟨b', off', rfl, hbl', yv, q0, _, y0, y1, y2, y3⟩ := H3'.out n hlt2
          have step : l[n] = m[n] → ∀ j (h1 : j < l.length) (h2 : j < m.length), j < n + 1 → l[j] = m[j] := fun hh j hj1 hj2 hjk => by
            by_cases e : j = n
            · subst e; exact hh
            · exact Hall.out j hj1 hj2 (by omega)
          have Step := Lib.hid step
          have Bad := Lib.hid (sameOps_at hlt hlt2)
          obtain ⟨x, hx⟩ : ∃ x, x = l[n] := ⟨_, rfl⟩
          obtain ⟨y, hy⟩ : ∃ y, y = m[n] := ⟨_, rfl⟩
          rw [← hx] at r0 x0 x1 x2 Step Bad
          rw [← hy] at q0 y0 y1 y2 Step Bad
          obtain ⟨ar, cr, rfl⟩ := r0.shape
          obtain ⟨at2, cs, rfl⟩ := q0.shape
          have hbw := HB.out
          have x0' := (hbw.cell (p := ⟨b, off + n * 4, none⟩) (by exact hbl)).trans x0
          have x1' := (hbw.cell (p := ⟨b, off + n * 4 + 1, none⟩) (by exact hbl)).trans x1
          have x2' := (hbw.cell (p := ⟨b, off + n * 4 + 2, none⟩) (by exact hbl)).trans x2
          have x3' := (hbw.cell (p := ⟨b, off + n * 4 + 3, none⟩) (by exact hbl)).trans x3
          have y0' := (hbw.cell (p := ⟨b', off' + n * 4, none⟩) (by exact hbl')).trans y0
          have y1' := (hbw.cell (p := ⟨b', off' + n * 4 + 1, none⟩) (by exact hbl')).trans y1
          have y2' := (hbw.cell (p := ⟨b', off' + n * 4 + 2, none⟩) (by exact hbl')).trans y2
          have y3' := (hbw.cell (p := ⟨b', off' + n * 4 + 3, none⟩) (by exact hbl')).trans y3
          have g1 := Nat.lt_of_lt_of_le hbl' hbw.size
          have gq := Nat.lt_of_lt_of_le hWs hb.size
          have hs0 := hbw.size
          have hs1 := hb.size
          obtain ⟨X, hX⟩ : ∃ X, X = (wr.alloc (.cells #[.int .i64 x.kind, .int .i64 x.n, .string x.text, .slice ar x.attrs.length cr] 48)).alloc (.cells #[.int .i64 y.kind, .int .i64 y.n, .string y.text, .slice at2 y.attrs.length cs] 48) := ⟨_, rfl⟩
          have BX := Lib.hid (show Below W.heap.size W X by rw [hX]; exact (hb.alloc hs1 _).alloc (by simp; omega) _)
          have e0 : X.cell? ⟨wr.heap.size, 0, none⟩ = some (.int .i64 x.kind) := by rw [hX]; go_simp
          have e1 : X.cell? ⟨wr.heap.size, 1, none⟩ = some (.int .i64 x.n) := by rw [hX]; go_simp
          have e2 : X.cell? ⟨wr.heap.size, 2, none⟩ = some (.string x.text) := by rw [hX]; go_simp
          have e3 : X.cell? ⟨wr.heap.size, 3, none⟩ = some (.slice ar x.attrs.length cr) := by rw [hX]; go_simp
          have f0 : X.cell? ⟨wr.heap.size + 1, 0, none⟩ = some (.int .i64 y.kind) := by rw [hX]; go_simp
          have f1 : X.cell? ⟨wr.heap.size + 1, 1, none⟩ = some (.int .i64 y.n) := by rw [hX]; go_simp
          have f2 : X.cell? ⟨wr.heap.size + 1, 2, none⟩ = some (.string y.text) := by rw [hX]; go_simp
          have f3 : X.cell? ⟨wr.heap.size + 1, 3, none⟩ = some (.slice at2 y.attrs.length cs) := by rw [hX]; go_simp
          have hXs : wr.heap.size + 1 < X.heap.size := by rw [hX]; simp
          have hXs' : wr.heap.size < X.heap.size := by omega
          have HX := Lib.hid hX
          have bx := BW.out.trans (BX.out.mono BW.out.size)
          have HC := Lib.hid (refSameB_any _ _ x.attrs y.attrs X (r0.below bx) (q0.below bx))
          clear hx hy r0 q0 x0 x1 x2 x3 y0 y1 y2 y3 hb hbw hX step Hall bx
          by_cases hkk : x.kind = y.kind
          · have ka : (x.kind == y.kind) = true := by rw [beq_iff_eq]; exact hkk
            have kb : (x.kind != y.kind) = false := by rw [hkk]; simp
            by_cases hnn : x.n = y.n
            · have na : (x.n == y.n) = true := by rw [beq_iff_eq]; exact hnn
              have nb : (x.n != y.n) = false := by rw [hnn]; simp
              by_cases htt : x.text = y.text
              · have ta : (x.text.toList == y.text.toList) = true := by rw [htt]; simp
                have tb : (x.text.toList != y.text.toList) = false := by rw [htt]; simp
                cases hsb : sameB x.attrs y.attrs with
                | true =>
                  rw [hsb] at HC
                  have S := Lib.hid (Step.out (by have := of_decide_eq_true hsb; cases x; cases y; simp_all))
                  clear hkk hnn htt hsb Step Bad
                  go_wp2_with fail
                  rw [← HX.out]
                  go_wp2_with fail
                  refine HC.out.mono ?_
                  rintro e w2 ⟨rfl, b2⟩
                  have e0' : w2.cell? ⟨wr.heap.size, 0, none⟩ = some (.int .i64 x.kind) := (b2.cell (by exact hXs')).trans e0
                  have e1' : w2.cell? ⟨wr.heap.size, 1, none⟩ = some (.int .i64 x.n) := (b2.cell (by exact hXs')).trans e1
                  have e2' : w2.cell? ⟨wr.heap.size, 2, none⟩ = some (.string x.text) := (b2.cell (by exact hXs')).trans e2
                  have f0' : w2.cell? ⟨wr.heap.size + 1, 0, none⟩ = some (.int .i64 y.kind) := (b2.cell (by exact hXs)).trans f0
                  have f1' : w2.cell? ⟨wr.heap.size + 1, 1, none⟩ = some (.int .i64 y.n) := (b2.cell (by exact hXs)).trans f1
                  have f2' : w2.cell? ⟨wr.heap.size + 1, 2, none⟩ = some (.string y.text) := (b2.cell (by exact hXs)).trans f2
                  have B2 := Lib.hid (BX.out.trans (b2.mono BX.out.size))
                  clear b2 e0 e1 e2 e3 f0 f1 f2 f3
                  go_wp2_with fail
                  go_roundw
                  case rel => exact ⟨n + 1, by go_num, by omega, S.out, B2.out⟩
                  case measure => simp [intOf]; omega
                | false =>
                  rw [hsb] at HC
                  have S := Lib.hid (Bad.out fun e => by rw [e] at hsb; exact absurd (show sameB y.attrs y.attrs = true from decide_eq_true rfl) (by rw [hsb]; decide))
                  clear hkk hnn htt hsb Step Bad
                  go_wp2_with fail
                  rw [← HX.out]
                  go_wp2_with fail
                  refine HC.out.mono ?_
                  rintro e w2 ⟨rfl, b2⟩
                  have e0' : w2.cell? ⟨wr.heap.size, 0, none⟩ = some (.int .i64 x.kind) := (b2.cell (by exact hXs')).trans e0
                  have e1' : w2.cell? ⟨wr.heap.size, 1, none⟩ = some (.int .i64 x.n) := (b2.cell (by exact hXs')).trans e1
                  have e2' : w2.cell? ⟨wr.heap.size, 2, none⟩ = some (.string x.text) := (b2.cell (by exact hXs')).trans e2
                  have f0' : w2.cell? ⟨wr.heap.size + 1, 0, none⟩ = some (.int .i64 y.kind) := (b2.cell (by exact hXs)).trans f0
                  have f1' : w2.cell? ⟨wr.heap.size + 1, 1, none⟩ = some (.int .i64 y.n) := (b2.cell (by exact hXs)).trans f1
                  have f2' : w2.cell? ⟨wr.heap.size + 1, 2, none⟩ = some (.string y.text) := (b2.cell (by exact hXs)).trans f2
                  have B2 := Lib.hid (BX.out.trans (b2.mono BX.out.size))
                  clear b2 e0 e1 e2 e3 f0 f1 f2 f3
                  go_wp2_with fail
                  go_ret
                  exact outB_mk (HRf.out.trans S.out) (BW.out.trans (B2.out.mono BW.out.size))
              · have ta : (x.text.toList == y.text.toList) = false := by rw [beq_text]; exact decide_eq_false htt
                have tb : (x.text.toList != y.text.toList) = true := by rw [bne, ta]; rfl
                have S := Lib.hid (Bad.out fun e => htt (by rw [e]))
                clear hkk hnn htt Step Bad
                go_wp2_with fail
                rw [← HX.out]
                go_wp2_with fail
                refine HC.out.mono ?_
                rintro e w2 ⟨rfl, b2⟩
                have e0' : w2.cell? ⟨wr.heap.size, 0, none⟩ = some (.int .i64 x.kind) := (b2.cell (by exact hXs')).trans e0
                have e1' : w2.cell? ⟨wr.heap.size, 1, none⟩ = some (.int .i64 x.n) := (b2.cell (by exact hXs')).trans e1
                have e2' : w2.cell? ⟨wr.heap.size, 2, none⟩ = some (.string x.text) := (b2.cell (by exact hXs')).trans e2
                have f0' : w2.cell? ⟨wr.heap.size + 1, 0, none⟩ = some (.int .i64 y.kind) := (b2.cell (by exact hXs)).trans f0
                have f1' : w2.cell? ⟨wr.heap.size + 1, 1, none⟩ = some (.int .i64 y.n) := (b2.cell (by exact hXs)).trans f1
                have f2' : w2.cell? ⟨wr.heap.size + 1, 2, none⟩ = some (.string y.text) := (b2.cell (by exact hXs)).trans f2
                have B2 := Lib.hid (BX.out.trans (b2.mono BX.out.size))
                clear b2 e0 e1 e2 e3 f0 f1 f2 f3
                go_wp2_with fail
                go_ret
                exact outB_mk (HRf.out.trans S.out) (BW.out.trans (B2.out.mono BW.out.size))
            · have na : (x.n == y.n) = false := by rw [beq_eq_false_iff_ne]; exact hnn
              have nb : (x.n != y.n) = true := by rw [bne_iff_ne]; exact hnn
              have S := Lib.hid (Bad.out fun e => hnn (by rw [e]))
              clear hkk hnn Step Bad
              go_wp2_with fail
              rw [← HX.out]
              go_wp2_with fail
              refine HC.out.mono ?_
              rintro e w2 ⟨rfl, b2⟩
              have e0' : w2.cell? ⟨wr.heap.size, 0, none⟩ = some (.int .i64 x.kind) := (b2.cell (by exact hXs')).trans e0
              have e1' : w2.cell? ⟨wr.heap.size, 1, none⟩ = some (.int .i64 x.n) := (b2.cell (by exact hXs')).trans e1
              have e2' : w2.cell? ⟨wr.heap.size, 2, none⟩ = some (.string x.text) := (b2.cell (by exact hXs')).trans e2
              have f0' : w2.cell? ⟨wr.heap.size + 1, 0, none⟩ = some (.int .i64 y.kind) := (b2.cell (by exact hXs)).trans f0
              have f1' : w2.cell? ⟨wr.heap.size + 1, 1, none⟩ = some (.int .i64 y.n) := (b2.cell (by exact hXs)).trans f1
              have f2' : w2.cell? ⟨wr.heap.size + 1, 2, none⟩ = some (.string y.text) := (b2.cell (by exact hXs)).trans f2
              have B2 := Lib.hid (BX.out.trans (b2.mono BX.out.size))
              clear b2 e0 e1 e2 e3 f0 f1 f2 f3
              go_wp2_with fail
              go_ret
              exact outB_mk (HRf.out.trans S.out) (BW.out.trans (B2.out.mono BW.out.size))
          · have ka : (x.kind == y.kind) = false := by rw [beq_eq_false_iff_ne]; exact hkk
            have kb : (x.kind != y.kind) = true := by rw [bne_iff_ne]; exact hkk
            have S := Lib.hid (Bad.out fun e => hkk (by rw [e]))
            clear hkk Step Bad
            go_wp2_with fail
            rw [← HX.out]
            go_wp2_with fail
            refine HC.out.mono ?_
            rintro e w2 ⟨rfl, b2⟩
            have e0' : w2.cell? ⟨wr.heap.size, 0, none⟩ = some (.int .i64 x.kind) := (b2.cell (by exact hXs')).trans e0
            have e1' : w2.cell? ⟨wr.heap.size, 1, none⟩ = some (.int .i64 x.n) := (b2.cell (by exact hXs')).trans e1
            have e2' : w2.cell? ⟨wr.heap.size, 2, none⟩ = some (.string x.text) := (b2.cell (by exact hXs')).trans e2
            have f0' : w2.cell? ⟨wr.heap.size + 1, 0, none⟩ = some (.int .i64 y.kind) := (b2.cell (by exact hXs)).trans f0
            have f1' : w2.cell? ⟨wr.heap.size + 1, 1, none⟩ = some (.int .i64 y.n) := (b2.cell (by exact hXs)).trans f1
            have f2' : w2.cell? ⟨wr.heap.size + 1, 2, none⟩ = some (.string y.text) := (b2.cell (by exact hXs)).trans f2
            have B2 := Lib.hid (BX.out.trans (b2.mono BX.out.size))
            clear b2 e0 e1 e2 e3 f0 f1 f2 f3
            go_wp2_with fail
            go_ret
            exact outB_mk (HRf.out.trans S.out) (BW.out.trans (B2.out.mono BW.out.size))
        · have hkn : n = l.length := by omega
          have hs := Lib.hid (sameOps_all Hlen.out fun j h1 h2 => Hall.out j h1 h2 (by omega))
          subst hkn
          clear Hall hb
          go_wp2_with fail
          go_ret
          exact outB_mk (HRf.out.trans hs.out) HB.out
    · have hs := Lib.hid (sameOps_len hlen)
      have hle2 : ((l.length : Int) == (m.length : Int)) = false := by rw [beq_eq_false_iff_ne]; omega
      have hle3 : ((l.length : Int) != (m.length : Int)) = true := by rw [bne_iff_ne]; omega
      clear hlen
      go_enter Tryz.func20, Tryz.ntmps20
      go_wp2_with fail
      rw [← HW.out]
      go_wp2_with fail
      go_ret
      exact outB_mk (HRf.out.trans hs.out) BW.out
  · have k1 : (f == g) = false := by rw [beq_eq_false_iff_ne]; exact hf
    have k2 : (f != g) = true := by rw [bne_iff_ne]; exact hf
    have hR := Lib.hid (show sameCh f g l m = false from decide_eq_false fun e => hf e.1)
    clear hf
    go_enter Tryz.func20, Tryz.ntmps20
    go_wp2_with fail
    rw [← HW.out]
    go_wp2_with fail
    go_ret
    exact outB_mk hR.out BW.out
end Go.Proofs.YtacgkbdldbppjaaGreatDoor

/- The document's own normal form, by groups, plain: it is the one normal form. -/
namespace Go.Proofs.YtacgkbdldbppjaaGreatDoor
open Go.RowKit Ch

abbrev PA := OpD × Value
structure Grp where
  v : Value
  l : List PA
  g : Int
def dels (g : Int) : List PA := if 0 < g then [(delO g, .slice none 0 0)] else []
def rend : List Grp → List PA → List PA
  | G :: r, k :: ks => G.l ++ dels G.g ++ k :: rend r ks
  | _, _ => []
def fsts (l : List PA) : List OpD := l.map (·.1)
theorem fsts_len (l : List PA) : (fsts l).length = l.length := by simp [fsts]
theorem fsts_append (l m : List PA) : fsts (l ++ m) = fsts l ++ fsts m := by simp [fsts]
theorem fsts_snoc_rev (a l : List PA) (x : PA) : (fsts (a ++ (l ++ [x]))).reverse = x.1 :: (fsts (a ++ l)).reverse := by
  rw [← List.append_assoc, fsts_append, List.reverse_append]; rfl
theorem rend_snoc {init : List Grp} {ks : List PA} (h : init.length = ks.length) (G : Grp) (k : PA) : rend (init ++ [G]) (ks ++ [k]) = rend init ks ++ (G.l ++ dels G.g ++ [k]) := by
  induction init generalizing ks with
  | nil => cases ks with
    | nil => simp [rend]
    | cons _ _ => simp at h
  | cons x r ih => cases ks with
    | nil => simp at h
    | cons y s => simp only [List.cons_append, rend, ih (by simpa using h)]; simp
theorem nil_or_snoc {α : Type} (l : List α) : l = [] ∨ ∃ r x, l = r ++ [x] := by
  rcases List.eq_nil_or_concat l with h | ⟨r, x, h⟩
  · exact .inl h
  · exact .inr ⟨r, x, by simpa using h⟩

/-- The groups on the way stand for the state on the way. -/
structure Rel (init : List Grp) (ks cur : List PA) (g : Int) (s : List OpD × Int) : Prop where
  len : init.length = ks.length
  row : s.1 = (fsts (rend init ks ++ cur)).reverse
  gone : s.2 = g
  g0 : 0 ≤ g
  keep : ∀ k ∈ ks, k.1.kind = 1
  ins : ∀ x ∈ cur, x.1.kind = 2
theorem rel_start : Rel [] [] [] 0 ([], 0) := ⟨rfl, rfl, rfl, Int.le_refl _, (fun _ h => by cases h), (fun _ h => by cases h)⟩
/-- The row's head is the last of the inserts, or the keep ahead of them. -/
theorem Rel.head {init : List Grp} {ks cur : List PA} {g : Int} {s : List OpD × Int} (h : Rel init ks cur g s) :
    (cur = [] ∧ ks = [] ∧ s.1 = []) ∨ (cur = [] ∧ ∃ i0 G k0 k, init = i0 ++ [G] ∧ ks = k0 ++ [k] ∧ s.1 = k.1 :: (fsts (rend i0 k0 ++ (G.l ++ dels G.g))).reverse) ∨
      ∃ c0 x, cur = c0 ++ [x] ∧ s.1 = x.1 :: (fsts (rend init ks ++ c0)).reverse := by
  obtain ⟨h1, h2, _, _, _⟩ := h
  rcases nil_or_snoc cur with rfl | ⟨c0, x, rfl⟩
  · rcases nil_or_snoc ks with rfl | ⟨k0, k, rfl⟩
    · left
      have : init = [] := List.length_eq_zero_iff.1 h1
      subst this
      exact ⟨rfl, rfl, h2⟩
    · rcases nil_or_snoc init with rfl | ⟨i0, G, rfl⟩
      · simp at h1
      · have hl : i0.length = k0.length := by simpa using h1
        right; left
        refine ⟨rfl, i0, G, k0, k, rfl, rfl, ?_⟩
        rw [h2, List.append_nil, rend_snoc hl]
        have := fsts_snoc_rev (rend i0 k0) (G.l ++ dels G.g) k
        simpa [List.append_assoc] using this
  · right; right
    exact ⟨c0, x, rfl, by rw [h2, fsts_snoc_rev]⟩
theorem Rel.ins_new {init : List Grp} {ks cur : List PA} {g : Int} {s : List OpD × Int} (h : Rel init ks cur g s) {o : OpD} (hk : o.kind = 2) (ha : ∀ c0 x, cur = c0 ++ [x] → x.1.attrs ≠ o.attrs) (v : Value) :
    Rel init ks (cur ++ [(o, v)]) g (add s o) := by
  have e : add s o = (put s.1 o, s.2) := by unfold add; rw [if_neg (by omega), if_neg (by omega)]
  have hp : put s.1 o = o :: s.1 := put_fresh fun x r hx hh => by
    rcases h.head with ⟨_, _, h0⟩ | ⟨_, i0, G, k0, k, _, hks, h0⟩ | ⟨c0, y, hc, h0⟩
    · rw [h0] at hx; cases hx
    · rw [h0] at hx
      simp only [List.cons.injEq] at hx
      have := h.keep k (by rw [hks]; simp)
      rw [hx.1] at this
      omega
    · rw [h0] at hx
      simp only [List.cons.injEq] at hx
      exact ha c0 y hc (by rw [hx.1]; exact hh.2)
  rw [e, hp]
  exact ⟨h.len, by rw [fsts_snoc_rev, ← h.row], h.gone, h.g0, h.keep, fun x hx => by
    rcases List.mem_append.1 hx with hx | hx
    · exact h.ins x hx
    · simp only [List.mem_singleton] at hx; subst hx; exact hk⟩
theorem Rel.ins_join {init : List Grp} {ks c0 : List PA} {x : PA} {g : Int} {s : List OpD × Int} (h : Rel init ks (c0 ++ [x]) g s) {o : OpD} (hk : o.kind = 2) (hn : o.n = 0) (ha : x.1.attrs = o.attrs) :
    Rel init ks (c0 ++ [({ x.1 with text := cat x.1.text o.text }, x.2)]) g (add s o) := by
  have e : add s o = (put s.1 o, s.2) := by unfold add; rw [if_neg (by omega), if_neg (by omega)]
  have h2 : x.1.kind = 2 := h.ins x (by simp)
  have hr := h.row
  rw [fsts_snoc_rev] at hr
  have hp : put s.1 o = { x.1 with text := cat x.1.text o.text } :: (fsts (rend init ks ++ c0)).reverse := by
    rw [hr, put, if_pos ⟨by omega, ha⟩]
    have : x.1.n + o.n = x.1.n := by omega
    rw [this]
  rw [e, hp]
  exact ⟨h.len, by rw [fsts_snoc_rev], h.gone, h.g0, h.keep, fun y hy => by
    rcases List.mem_append.1 hy with hy | hy
    · exact h.ins y (List.mem_append_left _ hy)
    · simp only [List.mem_singleton] at hy; subst hy; exact h2⟩
theorem Rel.del {init : List Grp} {ks cur : List PA} {g : Int} {s : List OpD × Int} (h : Rel init ks cur g s) {o : OpD} (hk : o.kind = 3) (hn : 0 ≤ o.n) : Rel init ks cur (g + o.n) (add s o) := by
  have e : add s o = (s.1, s.2 + o.n) := by unfold add; rw [if_pos hk]
  rw [e]
  exact ⟨h.len, h.row, by rw [← h.gone], by have := h.g0; omega, h.keep, h.ins⟩
theorem Rel.flush {init : List Grp} {ks cur : List PA} {g : Int} {s : List OpD × Int} (h : Rel init ks cur g s) (hs : St s) : Ch.flush s = (fsts (rend init ks ++ (cur ++ dels g))).reverse := by
  unfold Ch.flush dels
  rw [h.gone]
  split
  · rw [put_fresh fun x r e h3 => hs.2 x r e h3.1, h.row, fsts_snoc_rev]
  · rw [h.row, List.append_nil]
theorem Rel.keep_join {init : List Grp} {k0 : List PA} {x : PA} {s : List OpD × Int} (h : Rel init (k0 ++ [x]) [] 0 s) (_hs : St s) {o : OpD} (hk : o.kind = 1) (ht : o.text.size = 0) (ha : x.1.attrs = o.attrs) :
    Rel init (k0 ++ [({ x.1 with n := x.1.n + o.n }, x.2)]) [] 0 (add s o) := by
  have h1 : x.1.kind = 1 := h.keep x (by simp)
  rcases nil_or_snoc init with rfl | ⟨i0, G, rfl⟩
  · have := h.len; simp at this
  have hl : i0.length = k0.length := by simpa using h.len
  have e : add s o = (put (Ch.flush s) o, 0) := by unfold add; rw [if_neg (by omega), if_pos hk]
  have hf : Ch.flush s = s.1 := by unfold Ch.flush; rw [if_neg (by rw [h.gone]; omega)]
  have hr : s.1 = x.1 :: (fsts (rend i0 k0 ++ (G.l ++ dels G.g))).reverse := by
    rw [h.row, List.append_nil, rend_snoc hl]
    have := fsts_snoc_rev (rend i0 k0) (G.l ++ dels G.g) x
    simpa [List.append_assoc] using this
  have hp : put (Ch.flush s) o = { x.1 with n := x.1.n + o.n } :: (fsts (rend i0 k0 ++ (G.l ++ dels G.g))).reverse := by
    rw [hf, hr, put, if_pos ⟨by omega, ha⟩, cat_nil ht]
  rw [e, hp]
  refine ⟨by simpa using h.len, ?_, rfl, Int.le_refl _, fun k hk' => ?_, fun y hy => by cases hy⟩
  · show _ = (fsts (rend (i0 ++ [G]) _ ++ [])).reverse
    rw [List.append_nil, rend_snoc hl]
    have := fsts_snoc_rev (rend i0 k0) (G.l ++ dels G.g) ({ x.1 with n := x.1.n + o.n }, x.2)
    simpa [List.append_assoc] using this.symm
  · rcases List.mem_append.1 hk' with hk' | hk'
    · exact h.keep k (List.mem_append_left _ hk')
    · simp only [List.mem_singleton] at hk'; subst hk'; exact h1
theorem Rel.keep_new {init : List Grp} {ks cur : List PA} {g : Int} {s : List OpD × Int} (h : Rel init ks cur g s) (hs : St s) {o : OpD} (hk : o.kind = 1)
    (ha : cur = [] → g = 0 → ∀ k0 x, ks = k0 ++ [x] → x.1.attrs ≠ o.attrs) (v v' : Value) : Rel (init ++ [⟨v, cur, g⟩]) (ks ++ [(o, v')]) [] 0 (add s o) := by
  have e : add s o = (put (Ch.flush s) o, 0) := by unfold add; rw [if_neg (by omega), if_pos hk]
  have hf := h.flush hs
  have hp : put (Ch.flush s) o = o :: Ch.flush s := put_fresh fun x r hx hh => by
    rw [hf] at hx
    by_cases hg : 0 < g
    · unfold dels at hx
      rw [if_pos hg, fsts_snoc_rev] at hx
      simp only [List.cons.injEq] at hx
      have h3 : (delO g).kind = 3 := rfl
      rw [hx.1] at h3
      omega
    · have hg0 : g = 0 := by have := h.g0; omega
      unfold dels at hx
      rw [if_neg hg, List.append_nil, ← h.row] at hx
      rcases h.head with ⟨_, _, h0⟩ | ⟨hc, i0, G, k0, k, _, hks, h0⟩ | ⟨c0, y, hc, h0⟩
      · rw [h0] at hx; cases hx
      · rw [h0] at hx
        simp only [List.cons.injEq] at hx
        exact ha hc hg0 k0 k hks (by rw [hx.1]; exact hh.2)
      · rw [h0] at hx
        simp only [List.cons.injEq] at hx
        have := h.ins y (by rw [hc]; simp)
        rw [hx.1] at this
        omega
  rw [e, hp, hf]
  refine ⟨by simp [h.len], ?_, rfl, Int.le_refl _, fun k hk' => ?_, fun y hy => by cases hy⟩
  · rw [List.append_nil, rend_snoc h.len]
    have := fsts_snoc_rev (rend init ks) (cur ++ dels g) (o, v')
    simpa [List.append_assoc] using this.symm
  · rcases List.mem_append.1 hk' with hk' | hk'
    · exact h.keep k hk'
    · simp only [List.mem_singleton] at hk'; subst hk'; exact hk
/-- What is put together in the end. -/
def trimF (l : List PA) : List PA := match l.getLast? with
  | some x => if x.1.kind = 1 ∧ x.1.attrs.length = 0 then l.dropLast else l
  | none => l
theorem trimF_nil : trimF [] = [] := rfl
theorem trimF_snoc (l : List PA) (x : PA) : trimF (l ++ [x]) = if x.1.kind = 1 ∧ x.1.attrs.length = 0 then l else l ++ [x] := by
  unfold trimF
  simp
theorem norm_of {init : List Grp} {ks cur : List PA} {g : Int} {ops : List OpD} (h : Rel init ks cur g (fold ops)) (hs : St (fold ops)) : norm ops = fsts (trimF (rend init ks ++ (cur ++ dels g))) := by
  unfold norm
  rw [h.flush hs]
  rcases nil_or_snoc (rend init ks ++ (cur ++ dels g)) with h0 | ⟨r, x, h0⟩
  · rw [h0]; rfl
  · rw [h0, trimF_snoc]
    have e : (fsts (r ++ [x])).reverse = x.1 :: (fsts r).reverse := by simp [fsts]
    rw [e, trim]
    split
    · rw [List.reverse_reverse]
    · rw [List.reverse_cons, List.reverse_reverse]; simp [fsts]
/-- How many there are on the way, and how large. -/
theorem Rel.lim {init : List Grp} {ks cur : List PA} {g : Int} {s : List OpD × Int} (h : Rel init ks cur g s) {k : Nat} (hl : Lim k s) (hk : k ≤ 2000) :
    cur.length ≤ 2000 ∧ ks.length ≤ 2000 ∧ g ≤ 40000000 ∧ (∀ x ∈ cur, x.1.text.size ≤ 160000000) ∧ (∀ x ∈ ks, 0 ≤ x.1.n ∧ x.1.n ≤ 40000000) := by
  have h1 : s.1.length ≤ 2000 := by have := hl.siz; unfold siz at this; omega
  have h2 : s.1.length = (rend init ks).length + cur.length := by rw [h.row]; simp [fsts_len]
  have hr : ∀ (i : List Grp) (l : List PA), i.length = l.length → l.length ≤ (rend i l).length ∧ ∀ x ∈ l, x ∈ rend i l := by
    intro i
    induction i with
    | nil => intro l hl; cases l with
      | nil => exact ⟨Nat.le_refl _, fun x hx => by cases hx⟩
      | cons _ _ => simp at hl
    | cons a r ih => intro l hl; cases l with
      | nil => simp at hl
      | cons y t =>
        obtain ⟨i1, i2⟩ := ih t (by simpa using hl)
        rw [rend]
        refine ⟨by simp; omega, fun x hx => ?_⟩
        rcases List.mem_cons.1 hx with rfl | hx
        · simp
        · exact List.mem_append_right _ (List.mem_cons_of_mem _ (i2 x hx))
  obtain ⟨r1, r2⟩ := hr init ks h.len
  have mem : ∀ x : PA, x ∈ rend init ks ++ cur → x.1 ∈ s.1 := fun x hx => by
    rw [h.row, List.mem_reverse]
    exact List.mem_map.2 ⟨x, hx, rfl⟩
  refine ⟨by omega, by omega, by have := hl.g1; rw [h.gone] at this; omega, fun x hx => ?_, fun x hx => ?_⟩
  · have := hl.ops x.1 (mem x (List.mem_append_right _ hx)); omega
  · have := hl.ops x.1 (mem x (List.mem_append_left _ (r2 x hx))); omega
end Go.Proofs.YtacgkbdldbppjaaGreatDoor

/- The document's copied and group.insert. -/
namespace Go.Proofs.YtacgkbdldbppjaaGreatDoor
open Go.RowKit Ch

/-- Two rows that do not lie in one block. -/
def Apart (u v : Value) : Prop := ∀ j, u.ownBlock = some j → v.ownBlock ≠ some j
theorem OwnP.keepO {w w' : World} {B C : Nat} {v ov ov' : Value} {l : List PA} (h : OwnP w B v l) (hk : KeepO C w w' ov ov') (ha : Apart v ov) : OwnP w' B v l ∧ Apart v ov' := by
  have ht : ∀ q ∈ l, w'.ownsRow B 52 2 q.2 q.1.attrs.length (flat q.1.attrs) := fun q hq => hk.keep.own (h.2 q hq) (by decide)
  rcases h.1.2 with ⟨hv, h0⟩ | ⟨g, cap, cur, hv, hb, hg, hr⟩
  · exact ⟨⟨⟨h.1.1, .inl ⟨hv, h0⟩⟩, ht⟩, fun j hj => by rw [hv] at hj; simp [Value.ownBlock] at hj⟩
  · have hne : ov.ownBlock ≠ some g := fun e => ha g (by rw [hv]; rfl) e
    obtain ⟨k1, k2⟩ := hk.ops g cur (0, 0) hg hne
    exact ⟨⟨⟨h.1.1, .inr ⟨g, cap, cur, hv, hb, k1, hr⟩⟩, ht⟩, fun j hj => by
      rw [hv] at hj
      simp only [Value.ownBlock, Option.some.injEq] at hj
      subst hj
      exact k2⟩
/-- 'append(own, one)' of operations, as a step of a region that draws. -/
theorem step_app_op {ops : Array Oper} {o : Oper} {a : Act} {w : World} {K : Act → World → Prop} {Q : Exit → Act → World → Prop} {E : Prop}
    (hg : o.guard = none) (s x : Operand) (hop : o.op = Op.call { callee := Callee.builtin Builtin.append, args := #[s, x], argTypes := #[22, 22] })
    (B : Nat) (v : Value) (ps : List PA) (hs : a.eval s = v) (H : OwnP w B v ps) (q : PA) (ad : Addr) (c : Nat) (hx : a.eval x = .slice (some ad) 1 c) (hc : ∀ j u, (opCells q)[j]? = some u → w.cell? (ad.add j) = some u)
    (hq : w.ownsRow B 52 2 q.2 q.1.attrs.length (flat q.1.attrs)) (hl : ps.length ≤ 100000) (hB : B ≤ w.heap.size)
    (hK : ∀ v' w', OwnP w' B v' (ps ++ [q]) → KeepO B w w' v v' → K (a.put o.dst v') w') :
    if Region.wanted o (yielded ops a.tmps) = true then Oper.wp Tryz.prog o a w K Q else E := by
  obtain ⟨i0, hi, hz0, hz1, hz2⟩ := info_parts infoOp
  refine step_append_new hg s x 22 hop 48 i0 (.agg #[.int .i64 0, .int .i64 0, .string ⟨#[]⟩, .slice none 0 0]) 4 56 Tryz.underlying22 hi hz0 hz1 hz2 rfl (by decide) B v ps.length (flatO ps) hs H.1 ad 1 c (opCells q) hx rfl hc ?_ (by unfold maxLen; omega) (by omega) hB fun v' w' o1 g1 n1 => ?_
  · intro u hu
    simp [opCells] at hu
    rcases hu with rfl | rfl | rfl | rfl
    · rfl
    · rfl
    · rfl
    · exact own_one hq
  · have kr := keep_row H.1 g1 (ts := [48]) (by simp) hB
    refine hK v' w' (ownP_mk (by rw [flatO_snoc]; exact o1) (fun y hy => kr.own (H.2 y hy) (by decide)) (kr.own hq (by decide))) (keepO_grown H.1 g1 hB n1)

set_option maxHeartbeats 1000000 in
theorem copied_any (v : Value) (l : List (ByteArray × ByteArray)) (w : World) (hv : AtRow w v l) (hp : Proper v) (hl : l.length ≤ 4096) :
    Calls Tryz.prog 53 #[v] w fun e w' => ∃ u, e = .returned u ∧ w'.ownsRow w.heap.size 52 2 u l.length (flat l) ∧ Below w.heap.size w w' := by
  have HV := Lib.hid hv
  obtain ⟨a, c, rfl⟩ := hv.shape
  have HP := Lib.hid hp
  have HL := Lib.hid hl
  clear hv hp hl
  have O0 := Lib.hid (show (w.alloc (.cells #[] 52)).ownsRow w.heap.size 52 2 (.slice (some ⟨w.heap.size, 0, none⟩) 0 0) 0 [] from World.ownsRow_lit w #[] 0 (Nat.le_refl _) (Nat.zero_le _) rfl)
  have B0 := Lib.hid (below_box w (.cells #[] 52))
  go_enter Tryz.func53, Tryz.ntmps53
  go_wp2_with (at_builtin; refine wpList_append_row rfl (.tmp 3) (.tmp 4) rfl w.heap.size (.slice (some ⟨w.heap.size, 0, none⟩) 0 0) (.slice a l.length c) 0 [] l rfl rfl O0.out (HV.out.below B0.out) HP.out l.length (flat l) (Nat.zero_add _) rfl HL.out B0.out.size ?_; intro u1 w1 o1 g1; obtain ⟨u2, u3, rfl⟩ := own_slice o1; have O1 := Lib.hid o1; have B1 := Lib.hid (B0.out.grown g1 B0.out.size (own_ge O0.out)); clear o1 g1)
  go_ret
  exact ⟨_, rfl, O1.out, B1.out⟩

def insO (t : ByteArray) (l : List (ByteArray × ByteArray)) : OpD := ⟨2, 0, t, l⟩
def JoinOut (w : World) (B : Nat) (cv : Value) (fr : List PA) (x : OpD) (xv : Value) (t : ByteArray) (e : Ending) (w' : World) : Prop :=
  e = .returned (.tuple #[]) ∧ KeepO B w w' cv cv ∧ OwnP w' B cv (fr ++ [({ x with text := cat x.text t }, xv)])
def InsOut (w : World) (B gb q : Nat) (cv : Value) (cur : List PA) (t : ByteArray) (l : List (ByteArray × ByteArray)) (e : Ending) (w' : World) : Prop :=
  e = .returned (.tuple #[]) ∧ ∃ w1 cv' av, w' = w1.setCell ⟨gb, q, none⟩ cv' ∧ KeepO B w w1 cv cv' ∧ OwnP w1 B cv' (cur ++ [(insO t l, av)])

set_option maxRecDepth 100000 in
set_option maxHeartbeats 4000000 in
theorem insert_join (B gb q : Nat) (cs : Array Value) (cv : Value) (fr : List PA) (x : OpD) (xv : Value) (t : ByteArray) (av : Value) (l : List (ByteArray × ByteArray)) (w : World) (hB : B ≤ gb) (hg : w.heap[gb]? = some (.cells cs 80 (0, 0))) (hc : cs[q]? = some cv)
    (hP : OwnP w B cv (fr ++ [(x, xv)])) (hv : AtRow w av l) (hl : fr.length ≤ 4000) (ht1 : x.text.size ≤ 1073741824) (ht2 : t.size ≤ 1073741824) (ha : x.attrs = l) :
    Calls Tryz.prog 52 #[.pointer (some ⟨gb, q, none⟩), .string t, av] w (JoinOut w B cv fr x xv t) := by
  have hBw : B ≤ w.heap.size := Nat.le_trans hB (Nat.le_of_lt (lt_of_heap hg))
  obtain ⟨gg, cap, hov⟩ := ownsRow_open hP.len (Nat.succ_pos _)
  subst hov
  obtain ⟨xa, xc, hxv⟩ : ∃ a c, xv = .slice a x.attrs.length c := own_slice (hP.2 (x, xv) (by simp))
  subst hxv
  obtain ⟨va, vc, rfl⟩ := hv.shape
  have HC := Lib.hid (refSameB_any (.slice xa x.attrs.length xc) (.slice va l.length vc) x.attrs l w (row_of_own (hP.2 (x, .slice xa x.attrs.length xc) (by simp))) hv)
  rw [show sameB x.attrs l = true from decide_eq_true ha] at HC
  have k0 : w.cell? ⟨gb, q, none⟩ = some (.slice (some ⟨gg, 0, none⟩) (fr.length + 1) cap) := by rw [Lib.cell_of_heap hg]; exact hc
  obtain ⟨q0, q1, q2, q3⟩ := last_cells hP.len
  have i1 : (0 : Int) ≤ (fr.length : Int) := by omega
  have i2 : (fr.length : Int) < (fr.length : Int) + 1 := by omega
  have i3 : decide ((0 : Int) ≤ (fr.length : Int)) = true := decide_eq_true (by omega)
  have hgw : gg < w.heap.size := by obtain ⟨_, cs, hcs⟩ := own_heap hP.len; exact lt_of_heap hcs
  have hgb : gb < w.heap.size := lt_of_heap hg
  have HP := Lib.hid hP
  have HBw := Lib.hid hBw
  clear hP hv hg hc ha hBw q0 q1
  go_enter Tryz.func52, Tryz.ntmps52
  go_wp2_with fail
  refine HC.out.mono ?_
  rintro e wB ⟨rfl, hb⟩
  have kB : wB.cell? ⟨gb, q, none⟩ = some (.slice (some ⟨gg, 0, none⟩) (fr.length + 1) cap) := (hb.cell (by exact hgb)).trans k0
  have qB : wB.cell? ⟨gg, fr.length * 4 + 2, none⟩ = some (.string x.text) := (hb.cell (by exact hgw)).trans q2
  have PB := HP.out.keep (keep_below (ts := []) hb (Nat.le_refl _)) (by simp) (by simp)
  have fB : wB.frozen? ⟨gg, fr.length * 4 + 2, none⟩ = false := PB.len.frozenAt _
  have hwr : (9223372036854775807 < x.text.size + t.size) = False := eq_false (by omega)
  have HPB := Lib.hid PB
  have HB := Lib.hid hb
  clear PB hb k0 q2 q3
  go_wp2_with fail
  go_region
  obtain ⟨P1, K1⟩ := OwnP.setLast (y := { x with text := cat x.text t }) HPB.out 2 (.string (x.text ++ t)) (by rw [cat_eq]; rfl) rfl
  have HP1 := Lib.hid P1
  have HK1 := Lib.hid ((keepO_below HB.out HBw.out (.slice (some ⟨gg, 0, none⟩) (fr.length + 1) cap)).trans K1)
  clear P1 K1
  go_wp2_with fail
  go_end0
  exact ⟨rfl, ⟨HK1.out.keep.drew, HK1.out.ops⟩, HP1.out⟩

set_option maxRecDepth 100000 in
set_option maxHeartbeats 4000000 in
theorem insert_first (B gb q : Nat) (cs : Array Value) (cv : Value) (cur : List PA) (t : ByteArray) (av : Value) (l : List (ByteArray × ByteArray)) (w : World) (hB : B ≤ gb) (hg : w.heap[gb]? = some (.cells cs 80 (0, 0))) (hc : cs[q]? = some cv)
    (hP : OwnP w B cv cur) (hv : AtRow w av l) (hpr : Proper av) (hla : l.length ≤ 4096) (h0 : cur = []) :
    Calls Tryz.prog 52 #[.pointer (some ⟨gb, q, none⟩), .string t, av] w (InsOut w B gb q cv cur t l) := by
  have hBw : B ≤ w.heap.size := Nat.le_trans hB (Nat.le_of_lt (lt_of_heap hg))
  obtain ⟨va, vc, rfl⟩ := hv.shape
  have hl : cur.length ≤ 100000 := by rw [h0]; exact Nat.zero_le _
  obtain ⟨ca, cc, rfl⟩ := own_slice hP.1
  have hcl : cur.length = 0 := by rw [h0]; rfl
  have Sw : w.drew.cell? ⟨gb, q, none⟩ = some (.slice ca cur.length cc) := by show w.cell? _ = _; rw [Lib.cell_of_heap hg]; exact hc
  have k0 : w.cell? ⟨gb, q, none⟩ = some (.slice ca 0 cc) := by rw [← hcl]; exact Sw
  have HC0 := Lib.hid hc
  have Hgw := Lib.hid hg
  have HVw := Lib.hid hv
  have HPR := Lib.hid hpr
  have HLA := Lib.hid hla
  have HPw := Lib.hid hP
  have HKw := Lib.hid (show KeepO B w w (.slice ca cur.length cc) (.slice ca cur.length cc) from keepO_below (Below.refl _ _) hBw _)
  have hwg : gb < w.heap.size := lt_of_heap hg
  have HCL := Lib.hid hcl
  clear hP hv hpr hla hc hg h0 hcl
  go_enter Tryz.func52, Tryz.ntmps52
  go_wp2_with fail
  refine wp_region_B (fun w' => w'.cell? ⟨gb, q, none⟩ = some (.slice ca cur.length cc)) [13] (by kernel_rfl) (?_ : wpAnyB _ _ _ _ _ _ 14 (Array.replicate 14 false) _ _)
  refine wpAnyB_free (fuel := 13) (i := 0) (v := ?_) rfl (by kernel_rfl) (by kernel_rfl) (by kernel_rfl) (by kernel_rfl) (fun _ _ _ h => h) (.inr Sw) ?_ (by rfl) ?_
  rotate_left
  · intro w'; go_simp; (try with_reducible rfl)
  simp only [Act.put, List.setIfInBounds_toArray]
  refine wpAnyB_free (fuel := 12) (i := 1) (v := ?_) rfl (by kernel_rfl) (by kernel_rfl) (by kernel_rfl) (by kernel_rfl) (fun _ _ _ h => h) (.inr Sw) ?_ (by rfl) ?_
  rotate_left
  · intro w'; go_simp; (try with_reducible rfl)
  simp only [Act.put]
  refine wpAnyB_free (fuel := 11) (i := 2) (v := ?_) rfl (by kernel_rfl) (by kernel_rfl) (by kernel_rfl) (by kernel_rfl) (fun _ _ _ h => h) (.inr Sw) ?_ (by rfl) ?_
  rotate_left
  · intro w'; go_simp; (try with_reducible rfl)
  simp only [Act.put]
  refine wpAnyB_free (fuel := 10) (i := 3) (v := ?_) rfl (by kernel_rfl) (by kernel_rfl) (by kernel_rfl) (by kernel_rfl) (fun _ _ _ h => h) (.inr Sw) ?_ (by rfl) ?_
  rotate_left
  · intro w'; go_simp; (try with_reducible rfl)
  simp only [Act.put]
  refine wpAnyB_load [4,10,11,12,13] (fuel := 9) (i := 4) (v := ?_) rfl (by kernel_rfl) (by kernel_rfl) (by kernel_rfl) (by kernel_rfl) (by kernel_rfl) (fun _ _ _ h => h) (.inr Sw) ?_ (by rfl) ?_
  rotate_left
  · intro w' hw'; go_simp; (try with_reducible rfl)
  simp only [Act.put]
  refine wpAnyB_free (fuel := 8) (i := 5) (v := ?_) rfl (by kernel_rfl) (by kernel_rfl) (by kernel_rfl) (by kernel_rfl) (fun _ _ _ h => h) (.inr Sw) ?_ (by rfl) ?_
  rotate_left
  · intro w'; go_simp; (try with_reducible rfl)
  simp only [Act.put]
  refine wpAnyB_free (fuel := 7) (i := 6) (v := ?_) rfl (by kernel_rfl) (by kernel_rfl) (by kernel_rfl) (by kernel_rfl) (fun _ _ _ h => h) (.inr Sw) ?_ (by rfl) ?_
  rotate_left
  · intro w'; go_simp; (try with_reducible rfl)
  simp only [Act.put]
  refine wpAnyB_one (fuel := 6) (i := 7) rfl (by kernel_rfl) ?_
  intro KB hKB
  go_simp
  refine (copied_any (.slice va l.length vc) l _ (HVw.out.below (Below.refl _ _).drew) HPR.out HLA.out).mono ?_
  rintro e wA ⟨u, rfl, oA, bA⟩
  obtain ⟨ua, uc, rfl⟩ := own_slice oA
  have BA : Below w.heap.size w wA := of_drew bA
  have OA := Lib.hid (own_base oA (show B ≤ w.drew.heap.size from hBw))
  have PA' := Lib.hid (HPw.out.keep (keep_below (ts := []) BA (Nat.le_refl _)) (by simp) (by simp))
  have KA := Lib.hid (HKw.out.trans (keepO_below BA hBw (.slice ca cur.length cc)))
  have gA := Lib.hid ((BA.block _ hwg).trans Hgw.out)
  have hBA : B ≤ wA.heap.size := Nat.le_trans hBw BA.size
  have SA : wA.cell? ⟨gb, q, none⟩ = some (.slice ca cur.length cc) := (BA.cell (by exact hwg)).trans Sw
  have hgA : gb < wA.heap.size := Nat.lt_of_lt_of_le hwg BA.size
  clear oA bA BA
  refine hKB _ _ (.inr SA) ?_
  (try simp only [Act.put, List.setIfInBounds_toArray, List.set_cons_zero, List.set_cons_succ])
  refine wpAnyB_free (fuel := 5) (i := 8) (v := ?_) rfl (by kernel_rfl) (by kernel_rfl) (by kernel_rfl) (by kernel_rfl) (fun _ _ _ h => h) (.inr SA) ?_ (by rfl) ?_
  rotate_left
  · intro w'; go_simp; (try with_reducible rfl)
  simp only [Act.put, List.setIfInBounds_toArray]
  refine wpAnyB_one (fuel := 4) (i := 9) rfl (by kernel_rfl) ?_
  intro KB hKB
  go_simp
  have BC : Below wA.heap.size wA (wA.alloc (.cells #[.int .i64 2, .int .i64 0, .string t, .slice ua l.length uc] 48)) := below_box _ _
  have SB : (wA.alloc (.cells #[.int .i64 2, .int .i64 0, .string t, .slice ua l.length uc] 48)).cell? ⟨gb, q, none⟩ = some (.slice ca cur.length cc) := (BC.cell (by exact hgA)).trans SA
  have HBC := Lib.hid BC
  clear BC
  refine hKB _ _ (.inr SB) ?_
  (try simp only [Act.put, List.setIfInBounds_toArray, List.set_cons_zero, List.set_cons_succ])
  refine wpAnyB_one (fuel := 3) (i := 10) rfl (by kernel_rfl) ?_
  intro KB hKB
  refine step_app_op rfl (.tmp 48) (.tmp 53) rfl B (.slice ca cur.length cc) cur rfl (PA'.out.keep (keep_below (ts := []) HBC.out (Nat.le_refl _)) (by simp) (by simp)) (insO t l, .slice ua l.length uc) ⟨wA.heap.size, 0, none⟩ 1 rfl (new_at4 _ _ _ _ _ _) ((keep_below (B := B) (ts := []) HBC.out hBA).own OA.out (by simp)) (by omega) (Nat.le_trans hBA HBC.out.size) ?_
  intro v' wC PC KC
  have gC := KC.keep.kept gb _ _ _ ((HBC.out.block _ hgA).trans gA.out) (by decide)
  have fC : wC.frozen? ⟨gb, q, none⟩ = false := Lib.frozen_of_heap gC q
  have SC : wC.cell? ⟨gb, q, none⟩ = some (.slice ca cur.length cc) := by rw [Lib.cell_of_heap gC]; exact HC0.out
  obtain ⟨oa', oc', rfl⟩ : ∃ a c, v' = .slice a (cur.length + 1) c := by have := own_slice PC.1; rwa [List.length_append] at this
  have HPC := Lib.hid PC
  have HKC := Lib.hid (KA.out.trans ((keepO_below HBC.out hBA _).trans KC))
  clear PC KC gC
  refine hKB _ _ (.inr SC) ?_
  (try simp only [Act.put, List.setIfInBounds_toArray])
  refine wpAnyB_free (fuel := 2) (i := 11) (v := ?_) rfl (by kernel_rfl) (by kernel_rfl) (by kernel_rfl) (by kernel_rfl) (fun _ _ _ h => h) (.inr SC) ?_ (by rfl) ?_
  rotate_left
  · intro w'; go_simp; (try with_reducible rfl)
  simp only [Act.put]
  refine wpAnyB_free (fuel := 1) (i := 12) (v := ?_) rfl (by kernel_rfl) (by kernel_rfl) (by kernel_rfl) (by kernel_rfl) (fun _ _ _ h => h) (.inr SC) ?_ (by rfl) ?_
  rotate_left
  · intro w'; go_simp; (try with_reducible rfl)
  simp only [Act.put]
  refine wpAnyB_one (fuel := 0) (i := 13) rfl (by kernel_rfl) ?_
  intro KB hKB
  go_simp
  refine hKB _ _ (.inl (by kernel_rfl)) ?_
  (try simp only [Act.put, List.setIfInBounds_toArray, List.set_cons_zero, List.set_cons_succ])
  refine wpAnyB_done (by kernel_rfl) ?_
  go_wp2_with fail
  go_end0
  exact ⟨rfl, wC, _, _, rfl, HKC.out, HPC.out⟩

set_option maxRecDepth 100000 in
set_option maxHeartbeats 4000000 in
theorem insert_next (B gb q : Nat) (cs : Array Value) (cv : Value) (fr : List PA) (x : OpD) (xv : Value) (t : ByteArray) (av : Value) (l : List (ByteArray × ByteArray)) (w : World) (hB : B ≤ gb) (hg : w.heap[gb]? = some (.cells cs 80 (0, 0))) (hc : cs[q]? = some cv)
    (hP : OwnP w B cv (fr ++ [(x, xv)])) (hv : AtRow w av l) (hpr : Proper av) (hla : l.length ≤ 4096) (hl0 : fr.length ≤ 4000) (ha : x.attrs ≠ l) :
    Calls Tryz.prog 52 #[.pointer (some ⟨gb, q, none⟩), .string t, av] w (InsOut w B gb q cv (fr ++ [(x, xv)]) t l) := by
  have hBw : B ≤ w.heap.size := Nat.le_trans hB (Nat.le_of_lt (lt_of_heap hg))
  obtain ⟨va, vc, rfl⟩ := hv.shape
  obtain ⟨gg, cap, hov⟩ := ownsRow_open hP.len (Nat.succ_pos _)
  subst hov
  obtain ⟨xa, xc, hxv⟩ : ∃ a c, xv = .slice a x.attrs.length c := own_slice (hP.2 (x, xv) (by simp))
  subst hxv
  have HC := Lib.hid (refSameB_any (.slice xa x.attrs.length xc) (.slice va l.length vc) x.attrs l w (row_of_own (hP.2 (x, .slice xa x.attrs.length xc) (by simp))) hv)
  rw [show sameB x.attrs l = false from decide_eq_false ha] at HC
  have k0 : w.cell? ⟨gb, q, none⟩ = some (.slice (some ⟨gg, 0, none⟩) (fr.length + 1) cap) := by rw [Lib.cell_of_heap hg]; exact hc
  obtain ⟨q0, q1, q2, q3⟩ := last_cells hP.len
  have i1 : (0 : Int) ≤ (fr.length : Int) := by omega
  have i2 : (fr.length : Int) < (fr.length : Int) + 1 := by omega
  have i3 : decide ((0 : Int) ≤ (fr.length : Int)) = true := decide_eq_true (by omega)
  have hgb : gb < w.heap.size := lt_of_heap hg
  have HC0' := Lib.hid hc
  have Hgw := Lib.hid hg
  have HVw := Lib.hid hv
  have HPR := Lib.hid hpr
  have HLA := Lib.hid hla
  have HPw := Lib.hid hP
  have HBw := Lib.hid hBw
  clear hP hv hpr hla hc hg hBw ha q0 q1 q2
  go_enter Tryz.func52, Tryz.ntmps52
  go_wp2_with fail
  refine HC.out.mono ?_
  rintro e wB ⟨rfl, hb⟩
  obtain ⟨cur, hcur⟩ : ∃ cur, cur = fr ++ [(x, Value.slice xa x.attrs.length xc)] := ⟨_, rfl⟩
  have hlen : fr.length + 1 = cur.length := by rw [hcur]; simp
  have hl : cur.length ≤ 100000 := by omega
  rw [← hcur]
  rw [← hcur] at HPw
  rw [hlen] at k0 HPw HC0'
  have HC0 := HC0'
  obtain ⟨ca, hca⟩ : ∃ ca, ca = some (⟨gg, 0, none⟩ : Addr) := ⟨_, rfl⟩
  obtain ⟨cc, hcc⟩ : ∃ cc, cc = cap := ⟨_, rfl⟩
  rw [hlen, ← hca, ← hcc]
  rw [← hca, ← hcc] at k0 HPw HC0
  have SwB : wB.drew.cell? ⟨gb, q, none⟩ = some (.slice ca cur.length cc) := (hb.cell (by exact hgb)).trans k0
  have kB : wB.cell? ⟨gb, q, none⟩ = some (.slice ca cur.length cc) := SwB
  have HPwB := Lib.hid (HPw.out.keep (keep_below (ts := []) hb (Nat.le_refl _)) (by simp) (by simp))
  have HgwB := Lib.hid ((hb.block _ hgb).trans Hgw.out)
  have HVwB := Lib.hid (HVw.out.below hb)
  have hBwB : B ≤ wB.heap.size := Nat.le_trans HBw.out hb.size
  have hwBg : gb < wB.heap.size := Nat.lt_of_lt_of_le hgb hb.size
  have HKwB := Lib.hid (keepO_below hb HBw.out (.slice ca cur.length cc))
  have HX := Lib.hid (And.intro hcur (And.intro hlen (And.intro hca hcc)))
  clear hb k0 q3 hcur hlen hca hcc
  go_wp2_with fail
  refine wp_region_B (fun w' => w'.cell? ⟨gb, q, none⟩ = some (.slice ca cur.length cc)) [13] (by kernel_rfl) (?_ : wpAnyB _ _ _ _ _ _ 14 (Array.replicate 14 false) _ _)
  refine wpAnyB_free (fuel := 13) (i := 0) (v := ?_) rfl (by kernel_rfl) (by kernel_rfl) (by kernel_rfl) (by kernel_rfl) (fun _ _ _ h => h) (.inr SwB) ?_ (by rfl) ?_
  rotate_left
  · intro w'; go_simp; (try with_reducible rfl)
  simp only [Act.put, List.setIfInBounds_toArray]
  refine wpAnyB_free (fuel := 12) (i := 1) (v := ?_) rfl (by kernel_rfl) (by kernel_rfl) (by kernel_rfl) (by kernel_rfl) (fun _ _ _ h => h) (.inr SwB) ?_ (by rfl) ?_
  rotate_left
  · intro w'; go_simp; (try with_reducible rfl)
  simp only [Act.put]
  refine wpAnyB_free (fuel := 11) (i := 2) (v := ?_) rfl (by kernel_rfl) (by kernel_rfl) (by kernel_rfl) (by kernel_rfl) (fun _ _ _ h => h) (.inr SwB) ?_ (by rfl) ?_
  rotate_left
  · intro w'; go_simp; (try with_reducible rfl)
  simp only [Act.put]
  refine wpAnyB_free (fuel := 10) (i := 3) (v := ?_) rfl (by kernel_rfl) (by kernel_rfl) (by kernel_rfl) (by kernel_rfl) (fun _ _ _ h => h) (.inr SwB) ?_ (by rfl) ?_
  rotate_left
  · intro w'; go_simp; (try with_reducible rfl)
  simp only [Act.put]
  refine wpAnyB_load [4,10,11,12,13] (fuel := 9) (i := 4) (v := ?_) rfl (by kernel_rfl) (by kernel_rfl) (by kernel_rfl) (by kernel_rfl) (by kernel_rfl) (fun _ _ _ h => h) (.inr SwB) ?_ (by rfl) ?_
  rotate_left
  · intro w' hw'; go_simp; (try with_reducible rfl)
  simp only [Act.put]
  refine wpAnyB_free (fuel := 8) (i := 5) (v := ?_) rfl (by kernel_rfl) (by kernel_rfl) (by kernel_rfl) (by kernel_rfl) (fun _ _ _ h => h) (.inr SwB) ?_ (by rfl) ?_
  rotate_left
  · intro w'; go_simp; (try with_reducible rfl)
  simp only [Act.put]
  refine wpAnyB_free (fuel := 7) (i := 6) (v := ?_) rfl (by kernel_rfl) (by kernel_rfl) (by kernel_rfl) (by kernel_rfl) (fun _ _ _ h => h) (.inr SwB) ?_ (by rfl) ?_
  rotate_left
  · intro w'; go_simp; (try with_reducible rfl)
  simp only [Act.put]
  refine wpAnyB_one (fuel := 6) (i := 7) rfl (by kernel_rfl) ?_
  intro KB hKB
  go_simp
  refine (copied_any (.slice va l.length vc) l _ (HVwB.out.below (Below.refl _ _).drew) HPR.out HLA.out).mono ?_
  rintro e wA ⟨u, rfl, oA, bA⟩
  obtain ⟨ua, uc, rfl⟩ := own_slice oA
  have BA : Below wB.heap.size wB wA := of_drew bA
  have OA := Lib.hid (own_base oA (show B ≤ wB.drew.heap.size from hBwB))
  have PA' := Lib.hid (HPwB.out.keep (keep_below (ts := []) BA (Nat.le_refl _)) (by simp) (by simp))
  have KA := Lib.hid (HKwB.out.trans (keepO_below BA hBwB (.slice ca cur.length cc)))
  have gA := Lib.hid ((BA.block _ hwBg).trans HgwB.out)
  have hBA : B ≤ wA.heap.size := Nat.le_trans hBwB BA.size
  have SA : wA.cell? ⟨gb, q, none⟩ = some (.slice ca cur.length cc) := (BA.cell (by exact hwBg)).trans SwB
  have hgA : gb < wA.heap.size := Nat.lt_of_lt_of_le hwBg BA.size
  clear oA bA BA
  refine hKB _ _ (.inr SA) ?_
  (try simp only [Act.put, List.setIfInBounds_toArray, List.set_cons_zero, List.set_cons_succ])
  refine wpAnyB_free (fuel := 5) (i := 8) (v := ?_) rfl (by kernel_rfl) (by kernel_rfl) (by kernel_rfl) (by kernel_rfl) (fun _ _ _ h => h) (.inr SA) ?_ (by rfl) ?_
  rotate_left
  · intro w'; go_simp; (try with_reducible rfl)
  simp only [Act.put, List.setIfInBounds_toArray]
  refine wpAnyB_one (fuel := 4) (i := 9) rfl (by kernel_rfl) ?_
  intro KB hKB
  go_simp
  have BC : Below wA.heap.size wA (wA.alloc (.cells #[.int .i64 2, .int .i64 0, .string t, .slice ua l.length uc] 48)) := below_box _ _
  have SB : (wA.alloc (.cells #[.int .i64 2, .int .i64 0, .string t, .slice ua l.length uc] 48)).cell? ⟨gb, q, none⟩ = some (.slice ca cur.length cc) := (BC.cell (by exact hgA)).trans SA
  have HBC := Lib.hid BC
  clear BC
  refine hKB _ _ (.inr SB) ?_
  (try simp only [Act.put, List.setIfInBounds_toArray, List.set_cons_zero, List.set_cons_succ])
  refine wpAnyB_one (fuel := 3) (i := 10) rfl (by kernel_rfl) ?_
  intro KB hKB
  refine step_app_op rfl (.tmp 48) (.tmp 53) rfl B (.slice ca cur.length cc) cur rfl (PA'.out.keep (keep_below (ts := []) HBC.out (Nat.le_refl _)) (by simp) (by simp)) (insO t l, .slice ua l.length uc) ⟨wA.heap.size, 0, none⟩ 1 rfl (new_at4 _ _ _ _ _ _) ((keep_below (B := B) (ts := []) HBC.out hBA).own OA.out (by simp)) (by omega) (Nat.le_trans hBA HBC.out.size) ?_
  intro v' wC PC KC
  have gC := KC.keep.kept gb _ _ _ ((HBC.out.block _ hgA).trans gA.out) (by decide)
  have fC : wC.frozen? ⟨gb, q, none⟩ = false := Lib.frozen_of_heap gC q
  have SC : wC.cell? ⟨gb, q, none⟩ = some (.slice ca cur.length cc) := by rw [Lib.cell_of_heap gC]; exact HC0.out
  obtain ⟨oa', oc', rfl⟩ : ∃ a c, v' = .slice a (cur.length + 1) c := by have := own_slice PC.1; rwa [List.length_append] at this
  have HPC := Lib.hid PC
  have HKC := Lib.hid (KA.out.trans ((keepO_below HBC.out hBA _).trans KC))
  clear PC KC gC
  refine hKB _ _ (.inr SC) ?_
  (try simp only [Act.put, List.setIfInBounds_toArray])
  refine wpAnyB_free (fuel := 2) (i := 11) (v := ?_) rfl (by kernel_rfl) (by kernel_rfl) (by kernel_rfl) (by kernel_rfl) (fun _ _ _ h => h) (.inr SC) ?_ (by rfl) ?_
  rotate_left
  · intro w'; go_simp; (try with_reducible rfl)
  simp only [Act.put]
  refine wpAnyB_free (fuel := 1) (i := 12) (v := ?_) rfl (by kernel_rfl) (by kernel_rfl) (by kernel_rfl) (by kernel_rfl) (fun _ _ _ h => h) (.inr SC) ?_ (by rfl) ?_
  rotate_left
  · intro w'; go_simp; (try with_reducible rfl)
  simp only [Act.put]
  refine wpAnyB_one (fuel := 0) (i := 13) rfl (by kernel_rfl) ?_
  intro KB hKB
  go_simp
  refine hKB _ _ (.inl (by kernel_rfl)) ?_
  (try simp only [Act.put, List.setIfInBounds_toArray, List.set_cons_zero, List.set_cons_succ])
  refine wpAnyB_done (by kernel_rfl) ?_
  go_wp2_with fail
  go_end0
  obtain ⟨e1, e2, e3, e4⟩ := HX.out
  have kk := HKC.out
  have pk := HPC.out
  rw [e3, e4] at kk
  refine ⟨rfl, wC, .slice oa' (cur.length + 1) oc', .slice ua l.length uc, rfl, ?_, ?_⟩
  · rw [e2]; exact kk
  · rw [← e1]; exact pk
end Go.Proofs.YtacgkbdldbppjaaGreatDoor

/- The document's Normal on the way, in memory: its groups, its keeps. -/
namespace Go.Proofs.YtacgkbdldbppjaaGreatDoor
open Go.RowKit Ch

theorem Apart.symm {u v : Value} (h : Apart u v) : Apart v u := fun j hv hu => h j hu hv
theorem apart_nil (v : Value) : Apart v (.slice none 0 0) := fun j _ h => by simp [Value.ownBlock] at h
def grpCells (G : Grp) : List Value := [G.v, .int .i64 G.g]
def flatG (gs : List Grp) : List Value := gs.flatMap grpCells
theorem flatG_len (gs : List Grp) : (flatG gs).length = gs.length * 2 := by
  induction gs with
  | nil => rfl
  | cons x r ih => simp [flatG, grpCells] at ih ⊢; omega
theorem flatG_snoc (gs : List Grp) (G : Grp) : flatG (gs ++ [G]) = flatG gs ++ grpCells G := by simp [flatG]
theorem flatG_at {gs : List Grp} {i : Nat} (h : i < gs.length) (j : Nat) (hj : j < 2) : (flatG gs)[i * 2 + j]? = (grpCells gs[i])[j]? := by
  induction gs generalizing i with
  | nil => simp at h
  | cons x r ih =>
    have e : flatG (x :: r) = grpCells x ++ flatG r := rfl
    have hx : (grpCells x).length = 2 := rfl
    rw [e]
    cases i with
    | zero => rw [List.getElem?_append_left (by omega)]; simp
    | succ i =>
      rw [List.getElem?_append_right (by omega), hx]
      have e2 : (i + 1) * 2 + j - 2 = i * 2 + j := by omega
      rw [e2, ih (by simpa using h)]
      rfl
theorem infoGrp : (Tryz.prog.info? 80).map (fun i => (i.zero, i.size, i.bytes)) = some (some (.agg #[.slice none 0 0, .int .i64 0]), 2, 32) := by kernel_rfl

structure RSt (w : World) (B : Nat) (gv kv : Value) (gs : List Grp) (ks : List PA) : Prop where
  gr : w.ownsRow B 80 2 gv gs.length (flatG gs)
  kr : OwnP w B kv ks
  gi : ∀ G ∈ gs, OwnP w B G.v G.l
  ap : ∀ G ∈ gs, Apart kv G.v
  pw : gs.Pairwise fun a b => Apart a.v b.v
theorem RSt.keep {w w' : World} {B C : Nat} {ts : List TypeId} {gv kv : Value} {gs : List Grp} {ks : List PA} (h : RSt w B gv kv gs ks) (hk : Keep C ts w w') (h1 : 48 ∉ ts) (h2 : 52 ∉ ts) (h3 : 80 ∉ ts) : RSt w' B gv kv gs ks :=
  ⟨hk.own h.gr h3, h.kr.keep hk h1 h2, fun G hG => (h.gi G hG).keep hk h1 h2, h.ap, h.pw⟩
theorem RSt.below {w w' : World} {B : Nat} {gv kv : Value} {gs : List Grp} {ks : List PA} (h : RSt w B gv kv gs ks) (hb : Below w.heap.size w w') : RSt w' B gv kv gs ks :=
  h.keep (keep_below (ts := []) hb (Nat.le_refl _)) (by simp) (by simp) (by simp)
theorem pw_snoc {gs : List Grp} {G : Grp} : ((gs ++ [G]).Pairwise fun a b => Apart a.v b.v) ↔ (gs.Pairwise fun a b => Apart a.v b.v) ∧ ∀ x ∈ gs, Apart x.v G.v := by
  rw [List.pairwise_append]
  simp
/-- The last group: where it lies. -/
theorem RSt.last {w : World} {B : Nat} {gv kv : Value} {gs : List Grp} {G : Grp} {ks : List PA} (h : RSt w B gv kv (gs ++ [G]) ks) :
    ∃ gb gc cs, gv = .slice (some ⟨gb, 0, none⟩) (gs.length + 1) gc ∧ B ≤ gb ∧ w.heap[gb]? = some (.cells cs 80 (0, 0)) ∧ cs[gs.length * 2]? = some G.v ∧ cs[gs.length * 2 + 1]? = some (.int .i64 G.g) := by
  have h0 := h.gr
  rw [List.length_append, List.length_singleton] at h0
  obtain ⟨gb, gc, rfl⟩ := ownsRow_open h0 (Nat.succ_pos _)
  obtain ⟨hB, cs, hcs⟩ := own_heap h0
  have e : ∀ j, j < 2 → cs[gs.length * 2 + j]? = (grpCells G)[j]? := fun j hj => by
    have := h0.cellAt (gs.length * 2 + j) (by omega)
    rw [Lib.cell_of_heap hcs] at this
    rw [this, flatG_snoc, List.getElem?_append_right (by rw [flatG_len]; omega), flatG_len]
    congr 1
    omega
  exact ⟨gb, gc, cs, rfl, hB, hcs, e 0 (by omega), e 1 (by omega)⟩
theorem RSt.lastRow {w : World} {B gb gc : Nat} {kv : Value} {gs : List Grp} {G : Grp} {ks : List PA} (h : RSt w B (.slice (some ⟨gb, 0, none⟩) (gs.length + 1) gc) kv (gs ++ [G]) ks) :
    w.ownsRow B 80 2 (.slice (some ⟨gb, 0, none⟩) (gs.length + 1) gc) (gs.length + 1) (flatG gs ++ grpCells G) := by
  have h0 := h.gr
  rwa [List.length_append, List.length_singleton, flatG_snoc] at h0
theorem grp_set {w : World} {B gb gc : Nat} {gs : List Grp} {G H : Grp} (h : w.ownsRow B 80 2 (.slice (some ⟨gb, 0, none⟩) (gs.length + 1) gc) (gs.length + 1) (flatG gs ++ grpCells G)) (j : Nat) (u : Value) (hq : (grpCells G).set j u = grpCells H) :
    (w.setCell ⟨gb, gs.length * 2 + j, none⟩ u).ownsRow B 80 2 (.slice (some ⟨gb, 0, none⟩) (gs.length + 1) gc) (gs ++ [H]).length (flatG (gs ++ [H])) := by
  have := (h.stored (gs.length * 2 + j) u).1
  have e : (flatG gs ++ grpCells G).set (gs.length * 2 + j) u = flatG (gs ++ [H]) := by
    rw [flatG_snoc, List.set_append_right _ _ (by rw [flatG_len]; omega), flatG_len, ← hq]
    congr 2
    omega
  rw [e] at this
  rw [List.length_append, List.length_singleton]
  exact this
theorem keep_grp {w : World} {B gb gc : Nat} {n : Nat} {xs : List Value} (h : w.ownsRow B 80 2 (.slice (some ⟨gb, 0, none⟩) n gc) n xs) (j : Nat) (u : Value) : Keep B [80] w (w.setCell ⟨gb, j, none⟩ u) :=
  keep_set (own_heap h).2.choose_spec (by simp) (own_heap h).1 ⟨gb, j, none⟩ rfl u
/-- The last group's inserts have changed. -/
theorem RSt.others {w w1 : World} {B C : Nat} {gv kv cv' : Value} {gs : List Grp} {G : Grp} {ks : List PA} (h : RSt w B gv kv (gs ++ [G]) ks) (hk : KeepO C w w1 G.v cv') :
    OwnP w1 B kv ks ∧ Apart kv cv' ∧ (∀ x ∈ gs, OwnP w1 B x.v x.l ∧ Apart x.v cv') := by
  have h1 := h.kr.keepO hk (h.ap G (by simp))
  have h2 := (pw_snoc.1 h.pw).2
  exact ⟨h1.1, h1.2, fun x hx => (h.gi x (by simp [hx])).keepO hk (h2 x hx)⟩
theorem RSt.join {w w1 : World} {B C gb gc : Nat} {kv : Value} {gs : List Grp} {G : Grp} {ks cur' : List PA} (h : RSt w B (.slice (some ⟨gb, 0, none⟩) (gs.length + 1) gc) kv (gs ++ [G]) ks) (hk : KeepO C w w1 G.v G.v) (hP : OwnP w1 B G.v cur') :
    RSt w1 B (.slice (some ⟨gb, 0, none⟩) (gs.length + 1) gc) kv (gs ++ [⟨G.v, cur', G.g⟩]) ks := by
  obtain ⟨h1, _, h3⟩ := h.others hk
  refine ⟨?_, h1, fun x hx => ?_, fun x hx => ?_, pw_snoc.2 ⟨(pw_snoc.1 h.pw).1, fun x hx => (h3 x hx).2⟩⟩
  · have := hk.keep.own h.lastRow (by decide)
    rw [List.length_append, List.length_singleton, flatG_snoc]
    exact this
  · rcases List.mem_append.1 hx with hx | hx
    · exact (h3 x hx).1
    · rw [List.mem_singleton.1 hx]; exact hP
  · rcases List.mem_append.1 hx with hx | hx
    · exact h.ap x (List.mem_append_left _ hx)
    · rw [List.mem_singleton.1 hx]; exact h.ap G (by simp)
theorem RSt.ins {w w1 : World} {B C gb gc : Nat} {kv cv' : Value} {gs : List Grp} {G : Grp} {ks cur' : List PA} (h : RSt w B (.slice (some ⟨gb, 0, none⟩) (gs.length + 1) gc) kv (gs ++ [G]) ks) (hk : KeepO C w w1 G.v cv') (hP : OwnP w1 B cv' cur') :
    RSt (w1.setCell ⟨gb, gs.length * 2, none⟩ cv') B (.slice (some ⟨gb, 0, none⟩) (gs.length + 1) gc) kv (gs ++ [⟨cv', cur', G.g⟩]) ks ∧ Keep B [80] w1 (w1.setCell ⟨gb, gs.length * 2, none⟩ cv') := by
  obtain ⟨h1, h2, h3⟩ := h.others hk
  have hr := hk.keep.own h.lastRow (by decide)
  have kk := keep_grp hr (gs.length * 2) cv'
  refine ⟨⟨grp_set hr 0 cv' rfl, h1.keep kk (by decide) (by decide), fun x hx => ?_, fun x hx => ?_, pw_snoc.2 ⟨(pw_snoc.1 h.pw).1, fun x hx => (h3 x hx).2⟩⟩, kk⟩
  · rcases List.mem_append.1 hx with hx | hx
    · exact (h3 x hx).1.keep kk (by decide) (by decide)
    · rw [List.mem_singleton.1 hx]; exact hP.keep kk (by decide) (by decide)
  · rcases List.mem_append.1 hx with hx | hx
    · exact h.ap x (List.mem_append_left _ hx)
    · rw [List.mem_singleton.1 hx]; exact h2
theorem RSt.del {w : World} {B gb gc : Nat} {kv : Value} {gs : List Grp} {G : Grp} {ks : List PA} (h : RSt w B (.slice (some ⟨gb, 0, none⟩) (gs.length + 1) gc) kv (gs ++ [G]) ks) (g' : Int) :
    RSt (w.setCell ⟨gb, gs.length * 2 + 1, none⟩ (.int .i64 g')) B (.slice (some ⟨gb, 0, none⟩) (gs.length + 1) gc) kv (gs ++ [⟨G.v, G.l, g'⟩]) ks ∧ Keep B [80] w (w.setCell ⟨gb, gs.length * 2 + 1, none⟩ (.int .i64 g')) := by
  have hr := h.lastRow
  have kk := keep_grp hr (gs.length * 2 + 1) (.int .i64 g')
  refine ⟨⟨grp_set hr 1 (.int .i64 g') rfl, h.kr.keep kk (by decide) (by decide), fun x hx => ?_, fun x hx => ?_, pw_snoc.2 ⟨(pw_snoc.1 h.pw).1, (pw_snoc.1 h.pw).2⟩⟩, kk⟩
  · rcases List.mem_append.1 hx with hx | hx
    · exact (h.gi x (List.mem_append_left _ hx)).keep kk (by decide) (by decide)
    · rw [List.mem_singleton.1 hx]; exact (h.gi G (by simp)).keep kk (by decide) (by decide)
  · rcases List.mem_append.1 hx with hx | hx
    · exact h.ap x (List.mem_append_left _ hx)
    · rw [List.mem_singleton.1 hx]; exact h.ap G (by simp)
/-- The keeps have changed. -/
theorem RSt.keeps {w w1 : World} {B C : Nat} {gv kv kv' : Value} {gs : List Grp} {ks ks' : List PA} (h : RSt w B gv kv gs ks) (hk : KeepO C w w1 kv kv') (hP : OwnP w1 B kv' ks') : RSt w1 B gv kv' gs ks' := by
  have h2 : ∀ x ∈ gs, OwnP w1 B x.v x.l ∧ Apart x.v kv' := fun x hx => (h.gi x hx).keepO hk (h.ap x hx).symm
  exact ⟨hk.keep.own h.gr (by decide), hP, fun x hx => (h2 x hx).1, fun x hx => (h2 x hx).2.symm, h.pw⟩
/-- A new group. -/
theorem RSt.more {w w1 : World} {B C : Nat} {gv gv' kv : Value} {gs : List Grp} {ks : List PA} (h : RSt w B gv kv gs ks) (hk : Keep C [80] w w1) (hr : w1.ownsRow B 80 2 gv' (gs.length + 1) (flatG gs ++ [.slice none 0 0, .int .i64 0])) :
    RSt w1 B gv' kv (gs ++ [⟨.slice none 0 0, [], 0⟩]) ks := by
  refine ⟨by rw [List.length_append, List.length_singleton, flatG_snoc]; exact hr, h.kr.keep hk (by decide) (by decide), fun x hx => ?_, fun x hx => ?_, pw_snoc.2 ⟨h.pw, fun x _ => apart_nil _⟩⟩
  · rcases List.mem_append.1 hx with hx | hx
    · exact (h.gi x hx).keep hk (by decide) (by decide)
    · rw [List.mem_singleton.1 hx]; exact ⟨World.ownsRow_nil _ _ _ _, fun _ h => by cases h⟩
  · rcases List.mem_append.1 hx with hx | hx
    · exact h.ap x hx
    · rw [List.mem_singleton.1 hx]; exact apart_nil _

/-- What is put together of the first groups. -/
def part (gs : List Grp) (ks : List PA) : Nat → List PA
  | 0 => []
  | i + 1 => rend (gs.take i) (ks.take i) ++ (match gs[i]? with | some G => G.l ++ dels G.g | none => [])
theorem part_succ {gs : List Grp} {ks : List PA} {i : Nat} (h : i < gs.length) : part gs ks (i + 1) = rend (gs.take i) (ks.take i) ++ (gs[i].l ++ dels gs[i].g) := by
  rw [part, List.getElem?_eq_getElem h]
theorem part_one {gs : List Grp} {ks : List PA} (h : 0 < gs.length) : part gs ks 1 = gs[0].l ++ dels gs[0].g := by
  rw [part_succ h]; simp [rend]
theorem part_step {gs : List Grp} {ks : List PA} {i : Nat} (h : i + 1 < gs.length) (hk : i < ks.length) : part gs ks (i + 2) = (part gs ks (i + 1) ++ [ks[i]]) ++ gs[i + 1].l ++ dels gs[i + 1].g := by
  rw [part_succ h, part_succ (by omega), List.take_succ_eq_append_getElem (show i < gs.length by omega), List.take_succ_eq_append_getElem hk, rend_snoc (by rw [List.length_take, List.length_take]; omega)]
  simp [List.append_assoc]
theorem part_all {init : List Grp} {ks cur : List PA} {g : Int} (cv : Value) (h : init.length = ks.length) : part (init ++ [⟨cv, cur, g⟩]) ks (init.length + 1) = rend init ks ++ (cur ++ dels g) := by
  rw [part_succ (by simp)]
  have e1 : (init ++ [(⟨cv, cur, g⟩ : Grp)]).take init.length = init := by simp
  have e2 : ks.take init.length = ks := by rw [h, List.take_length]
  rw [e1, e2]
  simp
theorem part_le {gs : List Grp} {ks : List PA} (hk : gs.length = ks.length + 1) : ∀ (d i : Nat), i + d ≤ gs.length → (part gs ks i).length ≤ (part gs ks (i + d)).length := by
  intro d
  induction d with
  | zero => intro i _; exact Nat.le_refl _
  | succ d ih =>
    intro i h
    refine Nat.le_trans (ih i (by omega)) ?_
    rw [← Nat.add_assoc]
    cases hi : i + d with
    | zero => simp [part]
    | succ n =>
      rw [part_step (by omega) (by omega)]
      simp only [List.length_append]
      omega
theorem dels_len (g : Int) : (dels g).length ≤ 1 := by unfold dels; split <;> simp

/-- 'append(own, row...)' of operations, as a step of a region that draws. -/
theorem step_app_row {ops : Array Oper} {o : Oper} {a : Act} {w : World} {K : Act → World → Prop} {Q : Exit → Act → World → Prop} {E : Prop}
    (hg : o.guard = none) (s x : Operand) (hop : o.op = Op.call { callee := Callee.builtin Builtin.append, args := #[s, x], argTypes := #[22, 22] })
    (B : Nat) (v : Value) (ps : List PA) (hs : a.eval s = v) (H : OwnP w B v ps) (u : Value) (qs : List PA) (hx : a.eval x = u) (Hu : OwnP w B u qs) (hl : ps.length + qs.length ≤ 100000) (hB : B ≤ w.heap.size)
    (hK : ∀ v' w', OwnP w' B v' (ps ++ qs) → KeepO B w w' v v' → K (a.put o.dst v') w') :
    if Region.wanted o (yielded ops a.tmps) = true then Oper.wp Tryz.prog o a w K Q else E := by
  obtain ⟨i0, hi, hz0, hz1, hz2⟩ := info_parts infoOp
  rcases Hu.1.2 with ⟨rfl, h0⟩ | ⟨g, cap, cur, rfl, hb, hgh, hr⟩
  · have hq : qs = [] := List.length_eq_zero_iff.1 h0
    subst hq
    have hw : Region.wanted o (yielded ops a.tmps) = true := by simp [Region.wanted, hg]
    rw [if_pos hw]
    have hrun := run_append_owned_none (P := Tryz.prog) (w := w) B 22 o.type 48 i0 4 Tryz.underlying22 hi v ps.length (flatO ps) H.1
    unfold Oper.wp
    simp [execOp, hop, resolve, invoke, builtin, hs, hx, hrun, Result.andThen]
    exact hK v w (by rw [List.append_nil]; exact H) (keepO_below (Below.refl _ _) hB v)
  · refine step_append_new hg s x 22 hop 48 i0 (.agg #[.int .i64 0, .int .i64 0, .string ⟨#[]⟩, .slice none 0 0]) 4 56 Tryz.underlying22 hi hz0 hz1 hz2 rfl (by decide) B v ps.length (flatO ps) hs H.1 ⟨g, 0, none⟩ qs.length cap (flatO qs) hx (flatO_len qs) ?_ (flatO_one fun q hq => own_one (Hu.2 q hq)) (by unfold maxLen; omega) (by omega) hB fun v' w' o1 g1 n1 => ?_
    · intro j y hj
      have := Hu.1.cells (g := g) rfl j y hj
      exact this
    · have kr := keep_row H.1 g1 (ts := [48]) (by simp) hB
      refine hK v' w' ⟨?_, fun y hy => ?_⟩ (keepO_grown H.1 g1 hB n1)
      · have e : flatO (ps ++ qs) = flatO ps ++ flatO qs := by simp [flatO]
        rw [List.length_append, e]
        exact o1
      · rcases List.mem_append.1 hy with hy | hy
        · exact kr.own (H.2 y hy) (by decide)
        · exact kr.own (Hu.2 y hy) (by decide)

/-- While it is put together. -/
structure OSt (w : World) (B ob rb : Nat) (f : Int) (gv kv ov : Value) (gs : List Grp) (ks out : List PA) : Prop where
  box : w.heap[ob]? = some (.cells #[.int .i64 f, ov] 24 (0, 0))
  res : w.heap[rb]? = some (.cells #[.int .i64 0, .slice none 0 0] 24 (0, 0))
  st : RSt w B gv kv gs ks
  own : OwnP w B ov out
  ak : Apart kv ov
  ag : ∀ G ∈ gs, Apart G.v ov
theorem OSt.keep {w w' : World} {B C ob rb : Nat} {f : Int} {gv kv ov : Value} {gs : List Grp} {ks out : List PA} {ts : List TypeId} (h : OSt w B ob rb f gv kv ov gs ks out) (hk : Keep C ts w w') (h1 : 48 ∉ ts) (h2 : 52 ∉ ts) (h3 : 80 ∉ ts) (h4 : 24 ∉ ts) : OSt w' B ob rb f gv kv ov gs ks out :=
  ⟨hk.kept _ _ _ _ h.box h4, hk.kept _ _ _ _ h.res h4, h.st.keep hk h1 h2 h3, h.own.keep hk h1 h2, h.ak, h.ag⟩
theorem OSt.app {w w1 : World} {B C ob rb : Nat} {f : Int} {gv kv ov ov' : Value} {gs : List Grp} {ks out out' : List PA} (h : OSt w B ob rb f gv kv ov gs ks out) (hB : B ≤ ob) (hne : ob ≠ rb) (hk : KeepO C w w1 ov ov') (hP : OwnP w1 B ov' out') :
    OSt (w1.setCell ⟨ob, 1, none⟩ ov') B ob rb f gv kv ov' gs ks out' ∧ Keep B [24] w1 (w1.setCell ⟨ob, 1, none⟩ ov') := by
  have b1 := hk.keep.kept _ _ _ _ h.box (by decide)
  have r1 := hk.keep.kept _ _ _ _ h.res (by decide)
  have kk : Keep B [24] w1 (w1.setCell ⟨ob, 1, none⟩ ov') := keep_set b1 (by simp) hB _ rfl _
  have k2 := h.st.kr.keepO hk h.ak
  have g2 : ∀ G ∈ gs, OwnP w1 B G.v G.l ∧ Apart G.v ov' := fun G hG => (h.st.gi G hG).keepO hk (h.ag G hG)
  refine ⟨⟨nblk_set b1, ?_, ⟨kk.own (hk.keep.own h.st.gr (by decide)) (by decide), k2.1.keep kk (by decide) (by decide), fun G hG => (g2 G hG).1.keep kk (by decide) (by decide), h.st.ap, h.st.pw⟩, hP.keep kk (by decide) (by decide), k2.2, fun G hG => (g2 G hG).2⟩, kk⟩
  rw [Below.heap_setCell _ _ _ _ (show rb ≠ ob from fun e => hne e.symm)]
  exact r1
theorem OSt.cell {w : World} {B ob rb : Nat} {f : Int} {gv kv ov : Value} {gs : List Grp} {ks out : List PA} (h : OSt w B ob rb f gv kv ov gs ks out) : w.cell? ⟨ob, 1, none⟩ = some ov ∧ w.frozen? ⟨ob, 1, none⟩ = false ∧ ob < w.heap.size :=
  ⟨(Lib.cell_of_heap h.box 1).trans rfl, Lib.frozen_of_heap h.box 1, lt_of_heap h.box⟩
/-- Where a keep, a group lie. -/
theorem OwnP.at {w : World} {B : Nat} {v : Value} {ks : List PA} (h : OwnP w B v ks) {i : Nat} (hi : i < ks.length) : ∃ kb kc, v = .slice (some ⟨kb, 0, none⟩) ks.length kc ∧ kb < w.heap.size ∧
    w.cell? ⟨kb, i * 4, none⟩ = some (.int .i64 ks[i].1.kind) ∧ w.cell? ⟨kb, i * 4 + 1, none⟩ = some (.int .i64 ks[i].1.n) ∧ w.cell? ⟨kb, i * 4 + 2, none⟩ = some (.string ks[i].1.text) ∧ w.cell? ⟨kb, i * 4 + 3, none⟩ = some ks[i].2 := by
  obtain ⟨kb, kc, rfl⟩ := ownsRow_open h.1 (by omega)
  obtain ⟨_, cs, hcs⟩ := own_heap h.1
  have e : ∀ j, j < 4 → w.cell? ⟨kb, i * 4 + j, none⟩ = (opCells ks[i])[j]? := fun j hj => by
    rw [h.1.cellAt _ (by omega), flatO_at hi j hj]
  exact ⟨kb, kc, rfl, lt_of_heap hcs, e 0 (by omega), e 1 (by omega), e 2 (by omega), e 3 (by omega)⟩
theorem RSt.at {w : World} {B : Nat} {gv kv : Value} {gs : List Grp} {ks : List PA} (h : RSt w B gv kv gs ks) {i : Nat} (hi : i < gs.length) : ∃ gb gc, gv = .slice (some ⟨gb, 0, none⟩) gs.length gc ∧ gb < w.heap.size ∧
    w.cell? ⟨gb, i * 2, none⟩ = some gs[i].v ∧ w.cell? ⟨gb, i * 2 + 1, none⟩ = some (.int .i64 gs[i].g) := by
  obtain ⟨gb, gc, rfl⟩ := ownsRow_open h.gr (by omega)
  obtain ⟨_, cs, hcs⟩ := own_heap h.gr
  have e : ∀ j, j < 2 → w.cell? ⟨gb, i * 2 + j, none⟩ = (grpCells gs[i])[j]? := fun j hj => by
    rw [h.gr.cellAt _ (by omega), flatG_at hi j hj]
  exact ⟨gb, gc, rfl, lt_of_heap hcs, e 0 (by omega), e 1 (by omega)⟩
end Go.Proofs.YtacgkbdldbppjaaGreatDoor

/- Plain lists: decoding by hand, as the document's own answer does it, is the model's decoding. -/
namespace Go.Proofs.YtacgkbdldbppjaaGreatDoor
namespace Rn

/-- What the first byte says: how many follow, the least rune, the first bits. -/
def cls (b : Nat) : Option (Nat × Nat × Nat) :=
  if b < 128 then some (0, 0, b) else if b < 192 then none else if b < 224 then some (1, 128, b - 192) else if b < 240 then some (2, 2048, b - 224) else if b < 248 then some (3, 65536, b - 240) else none
/-- The rune's bits behind j bytes that follow. -/
def acc (c : Nat) (l : List UInt8) : Nat → Nat
  | 0 => c
  | j + 1 => acc c l j * 64 + (l.getD (j + 1) 0).toNat - 128
theorem acc_zero (c : Nat) (l : List UInt8) : acc c l 0 = c := rfl
theorem acc_succ (c : Nat) (l : List UInt8) (j : Nat) : acc c l (j + 1) = acc c l j * 64 + (l.getD (j + 1) 0).toNat - 128 := rfl
theorem acc_one (c : Nat) (l : List UInt8) : acc c l 1 = c * 64 + (l.getD 1 0).toNat - 128 := by
  have h := acc_succ c l 0
  rw [acc_zero] at h
  exact h
theorem acc_two (c : Nat) (l : List UInt8) : acc c l 2 = (c * 64 + (l.getD 1 0).toNat - 128) * 64 + (l.getD 2 0).toNat - 128 := by
  have h := acc_succ c l 1
  rw [acc_one] at h
  exact h
theorem acc_three (c : Nat) (l : List UInt8) : acc c l 3 = ((c * 64 + (l.getD 1 0).toNat - 128) * 64 + (l.getD 2 0).toNat - 128) * 64 + (l.getD 3 0).toNat - 128 := by
  have h := acc_succ c l 2
  rw [acc_two] at h
  exact h
def isCont (b : Nat) : Prop := 128 ≤ b ∧ b ≤ 191
instance (b : Nat) : Decidable (isCont b) := by unfold isCont; infer_instance
theorem cont_iff (b : Nat) : (b / 64 == 2) = decide (isCont b) := by
  unfold isCont
  by_cases h : 128 ≤ b ∧ b ≤ 191
  · rw [decide_eq_true h, beq_iff_eq]; omega
  · rw [decide_eq_false h, beq_eq_false_iff_ne]; omega
theorem cls_some {b n least c : Nat} (h : cls b = some (n, least, c)) :
    (n = 0 ∧ least = 0 ∧ c = b ∧ b < 128) ∨ (n = 1 ∧ least = 128 ∧ 192 ≤ b ∧ b < 224 ∧ c = b - 192) ∨ (n = 2 ∧ least = 2048 ∧ 224 ≤ b ∧ b < 240 ∧ c = b - 224) ∨ (n = 3 ∧ least = 65536 ∧ 240 ≤ b ∧ b < 248 ∧ c = b - 240) := by
  unfold cls at h
  by_cases h1 : b < 128
  · rw [if_pos h1] at h; simp only [Option.some.injEq, Prod.mk.injEq] at h; omega
  rw [if_neg h1] at h
  by_cases h2 : b < 192
  · rw [if_pos h2] at h; cases h
  rw [if_neg h2] at h
  by_cases h3 : b < 224
  · rw [if_pos h3] at h; simp only [Option.some.injEq, Prod.mk.injEq] at h; omega
  rw [if_neg h3] at h
  by_cases h4 : b < 240
  · rw [if_pos h4] at h; simp only [Option.some.injEq, Prod.mk.injEq] at h; omega
  rw [if_neg h4] at h
  by_cases h5 : b < 248
  · rw [if_pos h5] at h; simp only [Option.some.injEq, Prod.mk.injEq] at h; omega
  · rw [if_neg h5] at h; cases h
theorem cls_none {b : Nat} (h : cls b = none) : (128 ≤ b ∧ b < 192) ∨ 248 ≤ b := by
  unfold cls at h
  by_cases h1 : b < 128
  · rw [if_pos h1] at h; cases h
  rw [if_neg h1] at h
  by_cases h2 : b < 192
  · omega
  rw [if_neg h2] at h
  by_cases h3 : b < 224
  · rw [if_pos h3] at h; cases h
  rw [if_neg h3] at h
  by_cases h4 : b < 240
  · rw [if_pos h4] at h; cases h
  rw [if_neg h4] at h
  by_cases h5 : b < 248
  · rw [if_pos h5] at h; cases h
  · omega

theorem dec_none (l : List UInt8) (h : cls (l.getD 0 0).toNat = none) : dec l = (65533, 1) := by
  have hb : (l.getD 0 0).toNat < 256 := UInt8.toNat_lt _
  rcases cls_none h with h | h
  all_goals
    unfold dec decN
    have e1 : ((l.getD 0 0).toNat / 32 == 6) = false := by rw [beq_eq_false_iff_ne]; omega
    have e2 : ((l.getD 0 0).toNat / 16 == 14) = false := by rw [beq_eq_false_iff_ne]; omega
    have e3 : ((l.getD 0 0).toNat / 8 == 30) = false := by rw [beq_eq_false_iff_ne]; omega
    rw [if_neg (by omega), e1, e2, e3]
    rfl

/-- Of a first byte that may be one: the bytes that follow, and the number, decide. -/
def good (l : List UInt8) (n least c : Nat) : Prop := n < l.length ∧ (∀ j, 1 ≤ j → j ≤ n → isCont (l.getD j 0).toNat) ∧ least ≤ acc c l n ∧ ok (acc c l n)
theorem dec_good (l : List UInt8) (n least c : Nat) (h : cls (l.getD 0 0).toNat = some (n, least, c)) (hg : good l n least c) : dec l = (acc c l n, n + 1) := by
  obtain ⟨g1, g2, g3, g4⟩ := hg
  have hv := ok_valid (acc c l n)
  rw [decide_eq_true g4] at hv
  have hcls := cls_some h
  clear h
  rcases hcls with ⟨en, el, ec, h⟩ | ⟨en, el, ha, hb, ec⟩ | ⟨en, el, ha, hb, ec⟩ | ⟨en, el, ha, hb, ec⟩
  all_goals subst en
  · unfold dec decN; rw [if_pos h, ← ec]; rfl
  · have k1 := g2 1 (by omega) (by omega)
    unfold dec decN
    rw [if_neg (by omega), cont_iff (l.getD 1 0).toNat, decide_eq_true k1, decide_eq_true (show 1 < l.length by omega)]
    have e1 : ((l.getD 0 0).toNat / 32 == 6) = true := by rw [beq_iff_eq]; omega
    rw [e1, if_pos (by rfl)]
    unfold isCont at k1
    have e2 : (l.getD 0 0).toNat % 32 * 64 + (l.getD 1 0).toNat % 64 = c * 64 + (l.getD 1 0).toNat - 128 := by clear hv g3 g4; omega
    rw [← acc_one] at e2
    rw [e2, if_pos (by omega)]
  · have k1 := g2 1 (by omega) (by omega)
    have k2 := g2 2 (by omega) (by omega)
    unfold dec decN
    rw [if_neg (by omega), cont_iff (l.getD 1 0).toNat, cont_iff (l.getD 2 0).toNat, decide_eq_true k1, decide_eq_true k2, decide_eq_true (show 1 < l.length by omega), decide_eq_true (show 2 < l.length by omega)]
    have e1 : ((l.getD 0 0).toNat / 32 == 6) = false := by rw [beq_eq_false_iff_ne]; omega
    have e3 : ((l.getD 0 0).toNat / 16 == 14) = true := by rw [beq_iff_eq]; omega
    rw [e1, e3, if_neg (by simp), if_pos (by rfl)]
    unfold isCont at k1 k2
    have e2 : (l.getD 0 0).toNat % 16 * 4096 + (l.getD 1 0).toNat % 64 * 64 + (l.getD 2 0).toNat % 64 = acc c l 2 := by clear hv g3 g4; simp only [acc_two]; omega
    rw [e2, hv, decide_eq_true (show acc c l 2 ≥ 2048 by omega), if_pos (by rfl)]
  · have k1 := g2 1 (by omega) (by omega)
    have k2 := g2 2 (by omega) (by omega)
    have k3 := g2 3 (by omega) (by omega)
    unfold dec decN
    rw [if_neg (by omega), cont_iff (l.getD 1 0).toNat, cont_iff (l.getD 2 0).toNat, cont_iff (l.getD 3 0).toNat, decide_eq_true k1, decide_eq_true k2, decide_eq_true k3, decide_eq_true (show 1 < l.length by omega), decide_eq_true (show 2 < l.length by omega), decide_eq_true (show 3 < l.length by omega)]
    have e1 : ((l.getD 0 0).toNat / 32 == 6) = false := by rw [beq_eq_false_iff_ne]; omega
    have e3 : ((l.getD 0 0).toNat / 16 == 14) = false := by rw [beq_eq_false_iff_ne]; omega
    have e4 : ((l.getD 0 0).toNat / 8 == 30) = true := by rw [beq_iff_eq]; omega
    rw [e1, e3, e4, if_neg (by simp), if_neg (by simp), if_pos (by rfl)]
    unfold isCont at k1 k2 k3
    have e2 : (l.getD 0 0).toNat % 8 * 262144 + (l.getD 1 0).toNat % 64 * 4096 + (l.getD 2 0).toNat % 64 * 64 + (l.getD 3 0).toNat % 64 = acc c l 3 := by clear hv g3 g4; simp only [acc_three]; omega
    rw [e2, hv, decide_eq_true (show acc c l 3 ≥ 65536 by omega), if_pos (by rfl)]
/-- A rune's own bytes are good. -/
theorem good_dec (l : List UInt8) (hl : l ≠ []) (n least c : Nat) (h : cls (l.getD 0 0).toNat = some (n, least, c)) (hn : dec l ≠ (65533, 1)) : good l n least c := by
  have hb : ∀ k, (l.getD k 0).toNat < 256 := fun k => UInt8.toNat_lt _
  have hpos : 0 < l.length := List.length_pos_iff.2 hl
  have hcls := cls_some h
  clear h
  rcases hcls with ⟨en, el, ec, h⟩ | ⟨en, el, ha, hb', ec⟩ | ⟨en, el, ha, hb', ec⟩ | ⟨en, el, ha, hb', ec⟩
  all_goals subst en
  · exact ⟨hpos, fun j h1 h2 => by omega, (by omega), Or.inl (by simp only [acc_zero]; omega)⟩
  · unfold dec decN at hn
    rw [if_neg (by omega)] at hn
    have e1 : ((l.getD 0 0).toNat / 32 == 6) = true := by rw [beq_iff_eq]; omega
    have e3 : ((l.getD 0 0).toNat / 16 == 14) = false := by rw [beq_eq_false_iff_ne]; omega
    have e4 : ((l.getD 0 0).toNat / 8 == 30) = false := by rw [beq_eq_false_iff_ne]; omega
    rw [e1, e3, e4, cont_iff (l.getD 1 0).toNat] at hn
    simp only [Bool.true_and, Bool.false_and, Bool.false_eq_true, if_false, Bool.and_eq_true, decide_eq_true_eq] at hn
    by_cases k : 1 < l.length ∧ isCont (l.getD 1 0).toNat
    · rw [if_pos k] at hn
      have k2 := k.2
      unfold isCont at k2
      have e2 : (l.getD 0 0).toNat % 32 * 64 + (l.getD 1 0).toNat % 64 = acc c l 1 := by simp only [acc_one]; omega
      rw [e2] at hn
      by_cases k3 : acc c l 1 ≥ 128
      · refine ⟨k.1, fun j h1 h2 => by rw [show j = 1 from by omega]; exact k.2, (by omega), Or.inl ?_⟩
        simp only [acc_one]; omega
      · rw [if_neg k3] at hn; exact absurd rfl hn
    · rw [if_neg k] at hn; exact absurd rfl hn
  · unfold dec decN at hn
    rw [if_neg (by omega)] at hn
    have e1 : ((l.getD 0 0).toNat / 32 == 6) = false := by rw [beq_eq_false_iff_ne]; omega
    have e3 : ((l.getD 0 0).toNat / 16 == 14) = true := by rw [beq_iff_eq]; omega
    have e4 : ((l.getD 0 0).toNat / 8 == 30) = false := by rw [beq_eq_false_iff_ne]; omega
    rw [e1, e3, e4, cont_iff (l.getD 1 0).toNat, cont_iff (l.getD 2 0).toNat] at hn
    simp only [Bool.true_and, Bool.false_and, Bool.false_eq_true, if_false, Bool.and_eq_true, decide_eq_true_eq] at hn
    by_cases k : (1 < l.length ∧ isCont (l.getD 1 0).toNat) ∧ 2 < l.length ∧ isCont (l.getD 2 0).toNat
    · rw [if_pos k] at hn
      obtain ⟨⟨_, k2⟩, k0, k3⟩ := k
      have k2' := k2; have k3' := k3
      unfold isCont at k2' k3'
      have e2 : (l.getD 0 0).toNat % 16 * 4096 + (l.getD 1 0).toNat % 64 * 64 + (l.getD 2 0).toNat % 64 = acc c l 2 := by simp only [acc_two]; omega
      rw [e2, ok_valid] at hn
      simp only [decide_eq_true_eq] at hn
      by_cases k4 : acc c l 2 ≥ 2048 ∧ ok (acc c l 2)
      · exact ⟨k0, fun j h1 h2 => by rcases (show j = 1 ∨ j = 2 by omega) with rfl | rfl; exact k2; exact k3, (by have := k4.1; omega), k4.2⟩
      · rw [if_neg k4] at hn; exact absurd rfl hn
    · rw [if_neg k] at hn; exact absurd rfl hn
  · unfold dec decN at hn
    rw [if_neg (by omega)] at hn
    have e1 : ((l.getD 0 0).toNat / 32 == 6) = false := by rw [beq_eq_false_iff_ne]; omega
    have e3 : ((l.getD 0 0).toNat / 16 == 14) = false := by rw [beq_eq_false_iff_ne]; omega
    have e4 : ((l.getD 0 0).toNat / 8 == 30) = true := by rw [beq_iff_eq]; omega
    rw [e1, e3, e4, cont_iff (l.getD 1 0).toNat, cont_iff (l.getD 2 0).toNat, cont_iff (l.getD 3 0).toNat] at hn
    simp only [Bool.true_and, Bool.false_and, Bool.false_eq_true, if_false, Bool.and_eq_true, decide_eq_true_eq] at hn
    by_cases k : ((1 < l.length ∧ isCont (l.getD 1 0).toNat) ∧ 2 < l.length ∧ isCont (l.getD 2 0).toNat) ∧ 3 < l.length ∧ isCont (l.getD 3 0).toNat
    · rw [if_pos k] at hn
      obtain ⟨⟨⟨_, k2⟩, _, k3⟩, k0, k5⟩ := k
      have k2' := k2; have k3' := k3; have k5' := k5
      unfold isCont at k2' k3' k5'
      have e2 : (l.getD 0 0).toNat % 8 * 262144 + (l.getD 1 0).toNat % 64 * 4096 + (l.getD 2 0).toNat % 64 * 64 + (l.getD 3 0).toNat % 64 = acc c l 3 := by simp only [acc_three]; omega
      rw [e2, ok_valid] at hn
      simp only [decide_eq_true_eq] at hn
      by_cases k4 : acc c l 3 ≥ 65536 ∧ ok (acc c l 3)
      · exact ⟨k0, fun j h1 h2 => by rcases (show j = 1 ∨ j = 2 ∨ j = 3 by omega) with rfl | rfl | rfl; exact k2; exact k3; exact k5, (by have := k4.1; omega), k4.2⟩
      · rw [if_neg k4] at hn; exact absurd rfl hn
    · rw [if_neg k] at hn; exact absurd rfl hn
theorem dec_bad (l : List UInt8) (hl : l ≠ []) (n least c : Nat) (h : cls (l.getD 0 0).toNat = some (n, least, c)) (hg : ¬ good l n least c) : dec l = (65533, 1) :=
  Decidable.byContradiction fun hn => hg (good_dec l hl n least c h hn)
/-- The numbers on the way stay small. -/
theorem acc_le {l : List UInt8} {n least c : Nat} (h : cls (l.getD 0 0).toNat = some (n, least, c)) (j : Nat) (hj : j ≤ n) (hc : ∀ i, 1 ≤ i → i ≤ j → isCont (l.getD i 0).toNat) : acc c l j ≤ 2097151 ∧ (j < n → acc c l j ≤ 32767) := by
  unfold isCont at hc
  have hcls := cls_some h
  clear h
  rcases hcls with ⟨en, el, ec, h⟩ | ⟨en, el, ha, hb, ec⟩ | ⟨en, el, ha, hb, ec⟩ | ⟨en, el, ha, hb, ec⟩
  all_goals subst en
  · rw [show j = 0 from by omega]; simp only [acc_zero]; omega
  · rcases (show j = 0 ∨ j = 1 by omega) with rfl | rfl
    · simp only [acc_zero]; omega
    · have := hc 1 (by omega) (by omega)
      simp only [acc_one]; omega
  · rcases (show j = 0 ∨ j = 1 ∨ j = 2 by omega) with rfl | rfl | rfl
    · simp only [acc_zero]; omega
    · have := hc 1 (by omega) (by omega)
      simp only [acc_one]; omega
    · have := hc 1 (by omega) (by omega); have := hc 2 (by omega) (by omega)
      simp only [acc_two]; omega
  · rcases (show j = 0 ∨ j = 1 ∨ j = 2 ∨ j = 3 by omega) with rfl | rfl | rfl | rfl
    · simp only [acc_zero]; omega
    · have := hc 1 (by omega) (by omega)
      simp only [acc_one]; omega
    · have := hc 1 (by omega) (by omega); have := hc 2 (by omega) (by omega)
      simp only [acc_two]; omega
    · have := hc 1 (by omega) (by omega); have := hc 2 (by omega) (by omega); have := hc 3 (by omega) (by omega)
      simp only [acc_three]; omega
end Rn
end Go.Proofs.YtacgkbdldbppjaaGreatDoor

/- The document's own reading of a text: at every string of at most 2^20 bytes. -/
namespace Go.Proofs.YtacgkbdldbppjaaGreatDoor
open Go.RowKit Rn

def intVals (cs : List Nat) : List Value := cs.map fun (c : Nat) => Value.int .i64 (c : Int)
/-- The way out: the runes in a row of the call's own, or none. -/
def ReadPost (w : World) (l : List UInt8) (e : Ending) (w' : World) : Prop := Below w.heap.size w w' ∧
  ((runes l = none ∧ e = .returned (.tuple #[.slice none 0 0, .bool false])) ∨
    ∃ cs v, runes l = some cs ∧ e = .returned (.tuple #[v, .bool (decide ((cs.length : Int) ≤ 20000))]) ∧ w'.ownsRow w.heap.size 3 1 v cs.length (intVals cs))

theorem int_eq {k : IntKind} {a b : Int} (h : a = b) : Value.int k a = Value.int k b := by rw [h]
theorem read_stop {l r : List UInt8} {done : List Nat} (hok : allOk done) (hl : l = txt done ++ r) (hr : r ≠ []) (hb : dec r = (65533, 1)) : runes l = none := by
  rw [hl, runes_append done hok, runes_bad r hr hb]; rfl
theorem good_step {l rest : List UInt8} {done : List Nat} {z n : Nat} (hok : allOk done) (hl : l = txt done ++ rest) (hd : dec rest = (z, n + 1)) (hz : ok z) (hne : rest ≠ []) (hnb : n = 0 → z < 128) :
    (txt (done ++ [z])).length = (txt done).length + n + 1 ∧ l = txt (done ++ [z]) ++ l.drop (txt (done ++ [z])).length ∧ allOk (done ++ [z]) := by
  rcases dec_cases rest hne with hb | ⟨_, h2, h3⟩
  · rw [hd] at hb
    simp only [Prod.mk.injEq] at hb
    have := hnb (by omega)
    omega
  · rw [hd] at h2 h3
    simp only at h2 h3
    have e1 : txt [z] = enc z := by simp [txt]
    have e2 : (txt (done ++ [z])).length = (txt done).length + n + 1 := by rw [txt_append, e1, List.length_append]; omega
    refine ⟨e2, ?_, fun c hc => ?_⟩
    · have e3 : l.drop (txt (done ++ [z])).length = rest.drop (n + 1) := by
        rw [e2, hl, Nat.add_assoc, ← List.drop_drop, List.drop_left]
      rw [e3, txt_append, e1, List.append_assoc, ← h3]
      exact hl
    · rcases List.mem_append.1 hc with hc | hc
      · exact hok c hc
      · rw [List.mem_singleton] at hc; subst hc; exact hz
theorem owns_shape {w : World} {B : Nat} {e : TypeId} {v : Value} {n : Nat} {xs : List Value} (h : w.ownsRow B e 1 v n xs) : ∃ a cap, v = .slice a n cap := by
  obtain ⟨_, h2⟩ := h
  rcases h2 with ⟨hv, h2⟩ | ⟨g, cap, cur, hv, _⟩
  · subst h2; exact ⟨_, _, hv⟩
  · exact ⟨_, _, hv⟩
theorem drop_ne' {s : ByteArray} {pos : Nat} (h : pos < s.size) : s.data.toList.drop pos ≠ [] := by
  intro e
  have := congrArg List.length e
  simp at this
  have h2 : s.data.size = s.size := rfl
  omega
theorem byte_at (s : ByteArray) (pos k : Nat) (h : pos + k < s.size) : (s[pos + k]'h).toNat = ((s.data.toList.drop pos).getD k 0).toNat := by
  rw [List.getD_eq_getElem?_getD, List.getElem?_drop, List.getElem?_eq_getElem (by simpa using h)]
  rfl
theorem byte_zero (s : ByteArray) (pos : Nat) (h : pos < s.size) : (s[pos]'h).toNat = ((s.data.toList.drop pos).getD 0 0).toNat := byte_at s pos 0 h
theorem drop_len (s : ByteArray) (pos : Nat) : (s.data.toList.drop pos).length = s.size - pos := by simp

theorem infoInt : (Tryz.prog.info? 3).map (fun i => (i.zero, i.size, i.bytes)) = some (some (.int .i64 0), 1, 8) := by kernel_rfl

set_option maxRecDepth 100000 in
set_option maxHeartbeats 2000000 in
theorem read_any (s : ByteArray) (w : World) (hs : s.size ≤ 1048576) :
    Calls Tryz.prog 64 #[.string s] w (ReadPost w s.data.toList) := by
  go_enter Tryz.func64, Tryz.ntmps64
  go_wp2_with fail
  go_loopg [4, 5] s.size (fun gk v i wr => ∃ (done : List Nat), s.size ≤ gk + (txt done).length ∧ i = .int .i64 ((txt done).length : Int) ∧ allOk done ∧ s.data.toList = txt done ++ s.data.toList.drop (txt done).length ∧ (txt done).length ≤ s.size ∧ wr.ownsRow w.heap.size 3 1 v done.length (intVals done) ∧ Below w.heap.size w wr)
  case atStart => exact ⟨[], by simp, rfl, fun c h => (by cases h), by simp [txt_nil], by simp [txt_nil], World.ownsRow_nil _ _ _ _, Below.refl _ _⟩
  case round =>
    obtain ⟨done, hgk, rfl, hok, hl, hp, hown, hbw⟩ := hrel
    obtain ⟨pos, hpos⟩ : ∃ pos, pos = (txt done).length := ⟨_, rfl⟩
    rw [← hpos] at hl hp hgk ⊢
    have Hl := Lib.hid hl
    have Hpos := Lib.hid hpos
    clear hl hpos
    have Hown := Lib.hid hown
    clear hown
    by_cases hlt : pos < s.size
    · have hlt' : (pos : Int) < (s.size : Int) := by omega
      have hb : s[pos].toNat < 256 := UInt8.toNat_lt _
      have Hb := Lib.hid (byte_zero s pos hlt)
      have hne := drop_ne' hlt
      have hlen := drop_len s pos
      obtain ⟨rest, hrest⟩ : ∃ rest, rest = s.data.toList.drop pos := ⟨_, rfl⟩
      rw [← hrest] at Hb Hl hne hlen
      have Hrest := Lib.hid hrest
      clear hrest
      have Hlen := Lib.hid hlen
      clear hlen
      go_upto_block 2 with fail
      go_cut [6, 7, 8] (fun s6 s7 s8 wx => ∃ n least c : Nat, cls s[pos].toNat = some (n, least, c) ∧ s6 = .int .i64 (c : Int) ∧ s7 = .int .i64 (n : Int) ∧ s8 = .int .i64 (least : Int) ∧ wx = wr)
      case first =>
        go_wp2_with fail
        · have h1 : (s[pos].toNat : Int) < 128 := by assumption
          go_meet
          exact ⟨0, 0, s[pos].toNat, by unfold cls; rw [if_pos (by omega)], rfl, rfl, rfl, rfl⟩
        · have h1 : (192 : Int) ≤ s[pos].toNat := by assumption
          have h2 : (s[pos].toNat : Int) < 224 := by assumption
          go_meet
          exact ⟨1, 128, s[pos].toNat - 192, by unfold cls; rw [if_neg (by omega), if_neg (by omega), if_pos (by omega)], int_eq (by omega), rfl, rfl, rfl⟩
        · have h1 : (224 : Int) ≤ s[pos].toNat := by assumption
          have h2 : (s[pos].toNat : Int) < 240 := by assumption
          go_meet
          exact ⟨2, 2048, s[pos].toNat - 224, by unfold cls; rw [if_neg (by omega), if_neg (by omega), if_neg (by omega), if_pos (by omega)], int_eq (by omega), rfl, rfl, rfl⟩
        · have h1 : (240 : Int) ≤ s[pos].toNat := by assumption
          have h2 : (s[pos].toNat : Int) < 248 := by assumption
          go_meet
          exact ⟨3, 65536, s[pos].toNat - 240, by unfold cls; rw [if_neg (by omega), if_neg (by omega), if_neg (by omega), if_neg (by omega), if_pos (by omega)], int_eq (by omega), rfl, rfl, rfl⟩
        · have h1 : (248 : Int) ≤ s[pos].toNat := by assumption
          go_ret2
          refine ⟨hbw, Or.inl ⟨read_stop hok Hl.out hne (dec_none rest ?_), rfl⟩⟩
          rw [← Hb.out]; unfold cls; rw [if_neg (by omega), if_neg (by omega), if_neg (by omega), if_neg (by omega), if_neg (by omega)]
        · have h1 : (128 : Int) ≤ s[pos].toNat := by assumption
          have h2 : (s[pos].toNat : Int) < 192 := by assumption
          go_ret2
          refine ⟨hbw, Or.inl ⟨read_stop hok Hl.out hne (dec_none rest ?_), rfl⟩⟩
          rw [← Hb.out]; unfold cls; rw [if_neg (by omega), if_pos (by omega)]
      case rest =>
        obtain ⟨n, least, c, hcls, rfl, rfl, rfl, rfl⟩ := hcut
        have Hcls := Lib.hid hcls
        clear hcls
        have hn3 : n ≤ 3 := by rcases cls_some Hcls.out with h | h | h | h <;> omega
        by_cases hn : pos + n < s.size
        · have hn' : (pos : Int) + n < s.size := by omega
          go_wp2_with fail
          go_loopg [6, 9] n (fun gi v6 v9 wx => ∃ k : Nat, n ≤ gi + k ∧ v9 = .int .i64 ((k : Int) + 1) ∧ k ≤ n ∧ v6 = .int .i64 (acc c rest k : Nat) ∧ Hid (∀ j, 1 ≤ j → j ≤ k → isCont (rest.getD j 0).toNat) ∧ wx = wc)
          case atStart => exact ⟨0, by omega, rfl, Nat.zero_le _, rfl, fun j h1 h2 => by omega, rfl⟩
          case round =>
            obtain ⟨k, hgi, rfl, hk, rfl, hcont, rfl⟩ := hrel
            have hb0 := acc_le (by rw [← Hb.out]; exact Hcls.out) k hk hcont.out
            by_cases hkn : k < n
            · have hkn' : (k : Int) + 1 ≤ (n : Int) := by omega
              have hpk : pos + (k + 1) < s.size := by omega
              have hpk' : (pos : Int) + ((k : Int) + 1) < (s.size : Int) := by omega
              have hb1 : ((acc c rest k : Nat) : Int) ≤ 32767 := by have := hb0.2 hkn; omega
              have hb2 : s[pos + (k + 1)].toNat < 256 := UInt8.toNat_lt _
              have Hb1 : Hid (s[pos + (k + 1)].toNat = (rest.getD (k + 1) 0).toNat) := by
                show _ = _
                rw [Hrest.out]; exact byte_at s pos (k + 1) hpk
              clear hb0
              by_cases hc1 : 128 ≤ s[pos + (k + 1)].toNat
              · by_cases hc2 : s[pos + (k + 1)].toNat ≤ 191
                · go_wp2_with fail
                  go_roundg (gk - 1)
                  case measure => omega
                  case rel =>
                    refine ⟨k + 1, by omega, int_eq (by omega), by omega, int_eq ?_, fun j h1 h2 => ?_, rfl⟩
                    · rw [acc_succ, ← Hb1.out]; omega
                    · rcases Nat.lt_or_eq_of_le h2 with h3 | h3
                      · exact hcont.out j h1 (by omega)
                      · rw [h3, ← Hb1.out]; exact ⟨hc1, hc2⟩
                · go_wp2_with fail
                  go_ret2
                  refine ⟨hbw, Or.inl ⟨read_stop hok Hl.out hne (dec_bad rest hne n least c (by rw [← Hb.out]; exact Hcls.out) fun hg => ?_), rfl⟩⟩
                  have := hg.2.1 (k + 1) (by omega) (by omega)
                  rw [← Hb1.out] at this
                  exact hc2 this.2
              · go_wp2_with fail
                go_ret2
                refine ⟨hbw, Or.inl ⟨read_stop hok Hl.out hne (dec_bad rest hne n least c (by rw [← Hb.out]; exact Hcls.out) fun hg => ?_), rfl⟩⟩
                have := hg.2.1 (k + 1) (by omega) (by omega)
                rw [← Hb1.out] at this
                exact hc1 this.1
            · have hkn2 : n = k := by omega
              subst hkn2
              obtain ⟨z, hz⟩ : ∃ z, z = acc c rest n := ⟨_, rfl⟩
              rw [← hz] at hb0 ⊢
              have Hz := Lib.hid hz
              clear hz
              have hz1 : z ≤ 2097151 := hb0.1
              clear hb0
              have Hbad : Hid (¬ (least ≤ z ∧ ok z) → runes s.data.toList = none) := fun hx => read_stop hok Hl.out hne (dec_bad rest hne n least c (by rw [← Hb.out]; exact Hcls.out) fun hg => hx (by have := hg.2.2; rw [← Hz.out] at this; exact this))
              by_cases g1 : z < least
              · have g1' : (z : Int) < least := by omega
                go_wp2_with fail
                go_ret2
                exact ⟨hbw, Or.inl ⟨Hbad.out (by omega), rfl⟩⟩
              · by_cases g2 : 55296 ≤ z ∧ z ≤ 57343
                · obtain ⟨g2, g3⟩ := g2
                  go_wp2_with fail
                  go_ret2
                  exact ⟨hbw, Or.inl ⟨Hbad.out (fun hx => by have := hx.2; unfold ok at this; omega), rfl⟩⟩
                · by_cases g4 : 1114111 < z
                  · by_cases g5 : 55296 ≤ z
                    · have g6 : 57343 < z := by omega
                      clear g2
                      go_wp2_with fail
                      go_ret2
                      exact ⟨hbw, Or.inl ⟨Hbad.out (fun hx => by have := hx.2; unfold ok at this; omega), rfl⟩⟩
                    · omega
                  · have Hgood : Hid (dec rest = (z, n + 1) ∧ ok z) := by
                      have e := dec_good rest n least c (by rw [← Hb.out]; exact Hcls.out) ⟨by have := Hlen.out; omega, hcont.out, by rw [← Hz.out]; omega, by rw [← Hz.out]; unfold ok; omega⟩
                      rw [← Hz.out] at e
                      exact ⟨e, by unfold ok; omega⟩
                    clear Hbad
                    have g5 : z < 55296 ∨ 57343 < z := by omega
                    clear g2
                    obtain ⟨i0, hi, hz0, hz1, hz2⟩ := info_parts infoInt
                    have hown := Hown.out
                    have hdl : done.length ≤ 1048576 := by have := (txt_len done).1; have := Hpos.out; omega
                    rcases g5 with g5 | g5
                    all_goals
                      go_wp2_with (first | (at_builtin; refine wpList_append_own _ rfl _ _ 102 rfl w.heap.size 3 i0 (.int .i64 0) 1 8 Tryz.underlying102 hi hz0 hz1 hz2 rfl (by decide) _ _ _ rfl (hown.alloc _) ⟨wr.heap.size, 0, none⟩ 1 1 [.int .i64 (z : Int)] rfl rfl ?_ ?_ ?_ ?_ ?_ ?_))
                    all_goals
                      first
                        | rfl
                        | (intro u hu; simp at hu; subst hu; rfl)
                        | (unfold maxLen; omega)
                        | omega
                        | (have := hbw.size; simp; omega)
                        | (intro j u hj
                           match j, hj with
                           | 0, hj => simp at hj; subst hj; simp [Addr.add])
                        | (intro v' w1 hown' hgrow _
                           clear hown hi hz0 hz1 hz2
                           have Hown' := Lib.hid hown'
                           clear hown'
                           go_wp2_with fail
                           have hst := good_step hok Hl.out Hgood.out.1 Hgood.out.2 hne (by
                             intro e
                             have hc0 := cls_some Hcls.out
                             have hz0 := Hz.out
                             subst e
                             rw [acc_zero] at hz0
                             rcases hc0 with h | h | h | h <;> omega)
                           rw [← Hpos.out] at hst
                           go_roundg (s.size - (pos + n + 1))
                           case measure => omega
                           case rel =>
                             refine ⟨done ++ [z], by rw [hst.1]; omega, int_eq (by rw [hst.1]; omega), hst.2.2, hst.2.1, by rw [hst.1]; omega, ?_, (hbw.alloc hbw.size _).grown hgrow (by have := hbw.size; simp; omega) (fun k hk => (Hown.out.lt k hk).1)⟩
                             have e : intVals (done ++ [z]) = intVals done ++ [.int .i64 (z : Int)] := by simp [intVals]
                             rw [e, List.length_append]
                             exact Hown'.out)
        · have hn' : ¬ (pos : Int) + n < s.size := by omega
          go_wp2_with fail
          go_ret2
          refine ⟨hbw, Or.inl ⟨read_stop hok Hl.out hne (dec_bad rest hne n least c (by rw [← Hb.out]; exact Hcls.out) fun hg => ?_), rfl⟩⟩
          have := hg.1
          have := Hlen.out
          omega
    · have hps : pos = s.size := by omega
      have hdone : s.data.toList = txt done := by
        have := Hl.out
        rw [List.drop_eq_nil_of_le (by simp; have : s.data.size = s.size := rfl; omega), List.append_nil] at this
        exact this
      have hr : runes s.data.toList = some done := by rw [hdone]; exact runes_txt done hok
      have Hr := Lib.hid hr
      clear hr hdone hps
      have hown := Hown.out
      obtain ⟨a, cap, rfl⟩ := owns_shape hown
      have Hown2 := Lib.hid hown
      clear hown Hown
      go_wp2_with fail
      go_ret2
      exact ⟨hbw, Or.inr ⟨done, _, Hr.out, rfl, Hown2.out⟩⟩
end Go.Proofs.YtacgkbdldbppjaaGreatDoor

/- The document's own reading of a text, as Count answers it. -/
namespace Go.Proofs.YtacgkbdldbppjaaGreatDoor
open Go.RowKit Rn

/-- A row of whole numbers, nil or not. -/
def Row (w : World) (v : Value) (cs : List Nat) : Prop :=
  (v = .slice none 0 0 ∧ cs = []) ∨ ∃ g off cap, v = .slice (some ⟨g, off, none⟩) cs.length cap ∧ cs.length ≤ cap ∧ cap ≤ maxLen ∧ g < w.heap.size ∧ ∀ i, i < cs.length → w.cell? ⟨g, off + i, none⟩ = some (.int .i64 (cs.getD i 0 : Nat))
theorem Row.shape {w : World} {v : Value} {cs : List Nat} (h : Row w v cs) : ∃ a cap, v = .slice a cs.length cap := by
  rcases h with ⟨rfl, rfl⟩ | ⟨g, off, cap, rfl, _⟩
  · exact ⟨none, 0, rfl⟩
  · exact ⟨_, cap, rfl⟩
theorem Row.below {w w' : World} {v : Value} {cs : List Nat} (h : Row w v cs) (hb : Below w.heap.size w w') : Row w' v cs := by
  rcases h with h | ⟨g, off, cap, rfl, h1, h2, h3, h4⟩
  · exact Or.inl h
  · exact Or.inr ⟨g, off, cap, rfl, h1, h2, Nat.lt_of_lt_of_le h3 hb.size, fun i hi => by rw [hb.cell (by exact h3)]; exact h4 i hi⟩
theorem Row.of {w : World} {B : Nat} {v : Value} {cs : List Nat} (h : w.ownsRow B 3 1 v cs.length (intVals cs)) : Row w v cs := by
  have h2 := h.2
  rcases h2 with ⟨hv, h2⟩ | ⟨g, cap, cur, hv, _, hg, h3, h4, h5, h6⟩
  · exact Or.inl ⟨hv, List.eq_nil_of_length_eq_zero h2⟩
  · refine Or.inr ⟨g, 0, cap, hv, h3, h4, lt_of_block hg, fun i hi => ?_⟩
    subst hv
    have := h.cells rfl i (.int .i64 (cs.getD i 0 : Nat)) (by simp [intVals, hi, List.getD_eq_getElem?_getD])
    have e : ((⟨g, 0, none⟩ : Addr).add i) = ⟨g, 0 + i, none⟩ := by cases i <;> simp [Addr.add]
    rw [e] at this
    exact this

def ReadPost2 (w : World) (l : List UInt8) (e : Ending) (w' : World) : Prop := Below w.heap.size w w' ∧
  ((rd l = none ∧ ∃ v, e = .returned (.tuple #[v, .bool false])) ∨ ∃ cs v, rd l = some cs ∧ e = .returned (.tuple #[v, .bool true]) ∧ Row w' v cs)
theorem read2 (s : ByteArray) (w : World) (hs : s.size ≤ 1048576) : Calls Tryz.prog 64 #[.string s] w (ReadPost2 w s.data.toList) := by
  refine (read_any s w hs).mono ?_
  rintro e w' ⟨hb, ⟨h, rfl⟩ | ⟨cs, v, h, rfl, ho⟩⟩
  · exact ⟨hb, Or.inl ⟨by unfold rd; rw [h], _, rfl⟩⟩
  · by_cases hl : cs.length ≤ 20000
    · refine ⟨hb, Or.inr ⟨cs, v, by unfold rd; rw [h]; simp only [if_pos hl], ?_, Row.of ho⟩⟩
      rw [decide_eq_true (show (cs.length : Int) ≤ 20000 by omega)]
    · refine ⟨hb, Or.inl ⟨by unfold rd; rw [h]; simp only [if_neg hl], v, ?_⟩⟩
      rw [decide_eq_false (show ¬ (cs.length : Int) ≤ 20000 by omega)]

set_option maxHeartbeats 400000 in
theorem refCount_any (s : ByteArray) (w : World) (hs : s.size ≤ 1048576) :
    Calls Tryz.prog 80 #[.string s] w fun e w' => e = .returned (.tuple #[.int .i64 (cnt s.data.toList), .int .i64 (er s.data.toList)]) ∧ Below w.heap.size w w' := by
  go_enter Tryz.func80, Tryz.ntmps80
  go_wp2_with fail
  refine (read2 s _ hs).mono ?_
  rintro e w1 ⟨hb, ⟨h, v, rfl⟩ | ⟨cs, v, h, rfl, ho⟩⟩
  · have H := Lib.hid h
    clear h
    go_wp2_with fail
    go_ret2
    rw [cnt_none H.out, er_none H.out]
    exact ⟨rfl, hb⟩
  · have H := Lib.hid h
    clear h
    obtain ⟨a, cap, rfl⟩ := ho.shape
    have HO := Lib.hid ho
    clear ho
    go_wp2_with fail
    go_ret2
    rw [cnt_some H.out, er_some H.out]
    exact ⟨rfl, hb⟩
end Go.Proofs.YtacgkbdldbppjaaGreatDoor
