/- The law's own: are two rows the same; bytes lent, with marks behind them; were they kept. -/
import Derived.Test.YtbnkpbphahjomaaDoorSo
import Derived.Laws.OwnMore
namespace Go.Proofs.YtbnkpbphahjomaaDoor
open Go.RowKit Su

theorem tx_list (l : List UInt8) : (txB l).toList = l := by rw [ByteArray.toList_eq]; rfl
theorem tx_beq (l m : List UInt8) : ((txB l).toList == (txB m).toList) = decide (l = m) := by
  rw [tx_list, tx_list]
  by_cases h : l = m
  · simp [h]
  · simp [h]
set_option maxRecDepth 100000 in
set_option maxHeartbeats 2000000 in
theorem same_any (v u : Value) (l m : List UInt8) (w : World) (h : BRow w v l) (h' : BRow w u m) :
    Calls Tryd.prog 18 #[v, u] w fun e w' => e = .returned (.bool (decide (l = m))) ∧ w = w' := by
  have c1 := conv_row h
  have c2 := conv_row h'
  obtain ⟨a, cap, rfl⟩ : ∃ a c, v = .slice a l.length c := by obtain ⟨a, c, h, _⟩ := h; exact ⟨a, c, h⟩
  obtain ⟨a', cap', rfl⟩ : ∃ a c, u = .slice a m.length c := by obtain ⟨a, c, h, _⟩ := h'; exact ⟨a, c, h⟩
  have e := tx_beq l m
  obtain ⟨E, hE⟩ : ∃ E, E = decide (l = m) := ⟨_, rfl⟩
  rw [← hE] at e ⊢
  clear h h' hE
  go_enter Tryd.func18, Tryd.ntmps18
  go_wp2_with fail
  go_ret
  exact ⟨rfl, by trivial⟩

/-- Bytes lent: a row of one's own, and two marks behind it. -/
def LentU (w : World) (B : Nat) (v : Value) (l : List UInt8) : Prop :=
  ∃ g cap, v = .slice (some ⟨g, 0, none⟩) l.length cap ∧ OwnU w B (.slice (some ⟨g, 0, none⟩) (l.length + 2) cap) (l ++ [171, 172])
theorem LentU.row {w : World} {B : Nat} {v : Value} {l : List UInt8} (h : LentU w B v l) : BRow w v l := by
  obtain ⟨g, cap, rfl, h⟩ := h
  obtain ⟨a, cap', e, h1, h2, h3, h5⟩ := h.row
  simp only [Value.slice.injEq] at e
  obtain ⟨rfl, _, rfl⟩ := e
  rw [List.length_append] at h1
  refine ⟨_, cap, rfl, by simp at h1; omega, h2, h3, fun i hi => ?_⟩
  obtain ⟨b, off, e, hb, hc⟩ := h5 i (by rw [List.length_append]; omega)
  refine ⟨b, off, e, hb, ?_⟩
  rw [List.getElem_append_left hi] at hc
  exact hc
theorem OwnU.grown {w w' : World} {B : Nat} {v : Value} {l : List UInt8} {row : Option Nat} (h : OwnU w B v l) (hg : w.grownBy w' row) (hne : ∀ g, v.ownBlock = some g → row ≠ some g) : OwnU w' B v l :=
  ⟨h.1, h.2.imp id fun ⟨g, cap, cur, e, hB, hh, r⟩ => ⟨g, cap, cur, e, hB, by
    rw [hg.block g (Array.getElem?_eq_some_iff.1 hh).1 (fun e' => hne g (by rw [e]; rfl) e'.symm)]; exact hh, r⟩⟩
theorem OwnU.below {w w' : World} {B : Nat} {v : Value} {l : List UInt8} (h : OwnU w B v l) (hb : Below w.heap.size w w') : OwnU w' B v l :=
  ⟨h.1, h.2.imp id fun ⟨g, cap, cur, e, hB, hh, r⟩ => ⟨g, cap, cur, e, hB, by
    rw [hb.block g (Array.getElem?_eq_some_iff.1 hh).1]; exact hh, r⟩⟩
theorem LentU.below {w w' : World} {B : Nat} {v : Value} {l : List UInt8} (h : LentU w B v l) (hb : Below w.heap.size w w') : LentU w' B v l := by
  obtain ⟨g, cap, e, h⟩ := h
  exact ⟨g, cap, e, h.below hb⟩
theorem own_cap {w : World} {B n cap : Nat} {a : Option Addr} {l : List UInt8} (h : OwnU w B (.slice a n cap) l) : l.length ≤ cap ∧ cap ≤ 9223372036854775807 := by
  obtain ⟨a', cap', e, h1, h2, _⟩ := h.row
  simp only [Value.slice.injEq] at e
  obtain ⟨_, _, rfl⟩ := e
  exact ⟨h1, by simpa [maxLen] using h2⟩
theorem own_open {w : World} {B : Nat} {v : Value} {l : List UInt8} (h : OwnU w B v l) (hn : l ≠ []) : ∃ g cap, v = .slice (some ⟨g, 0, none⟩) l.length cap := by
  rcases h.2 with ⟨_, h0⟩ | ⟨g, cap, cur, rfl, _⟩
  · exact absurd (List.length_eq_zero_iff.1 h0) hn
  · exact ⟨g, cap, rfl⟩
theorem own_marks {w : World} {B : Nat} {v : Value} {l : List UInt8} (h : OwnU w B v (l ++ [171, 172])) : ∃ g c, v = .slice (some ⟨g, 0, none⟩) (l.length + 2) c ∧ OwnU w B (.slice (some ⟨g, 0, none⟩) (l.length + 2) c) (l ++ [171, 172]) ∧ (l.length : Int) ≤ (c : Int) ∧ c ≤ 9223372036854775807 := by
  obtain ⟨g, c, rfl⟩ := own_open h (by simp)
  obtain ⟨h1, h2⟩ := own_cap h
  have e : (l ++ [171, 172]).length = l.length + 2 := by simp
  rw [e] at h h1
  exact ⟨g, c, by rw [e], h, by omega, h2⟩
set_option maxRecDepth 100000 in
set_option maxHeartbeats 4000000 in
theorem lent_any (v : Value) (l : List UInt8) (w : World) (h : BRow w v l) (hn : l.length + 2 ≤ 140737488355328) :
    Calls Tryd.prog 8 #[v] w fun e w' => ∃ v', e = .returned v' ∧ LentU w' w.heap.size v' l ∧ Below w.heap.size w w' := by
  have H := Lib.hid h
  obtain ⟨a, cap, rfl⟩ : ∃ a c, v = .slice a l.length c := by obtain ⟨a, c, h, _⟩ := h; exact ⟨a, c, h⟩
  obtain ⟨i0, hi, hz0, hz1, hz2⟩ := info_parts infoByte
  have Hi := Lib.hid (And.intro hi (And.intro hz0 (And.intro hz1 hz2)))
  have b1 : i0.bytes * (l.length + 2) ≤ 281474976710656 := by rw [hz2]; omega
  have b2 : l.length + 2 ≤ maxLen := by unfold maxLen; omega
  have Hb := Lib.hid (And.intro b1 b2)
  clear h hi hz0 hz1 hz2 b1 b2
  go_enter Tryd.func8, Tryd.ntmps8
  go_wp2_with (first
    | (at_make; refine wpList_make_own _ rfl _ _ 22 rfl w.heap.size 5 i0 (.int .u8 0) 1 Tryd.underlying22 Hi.out.1 Hi.out.2.1 Hi.out.2.2.1 .i64 .i64 _ (l.length + 2) rfl rfl rfl Hb.out.1 Hb.out.2 (Nat.le_refl _) ?_; intro w1 o1 g1; have O1 := Lib.hid (show OwnU w1 w.heap.size (.slice (some ⟨w.heap.size, 0, none⟩) 0 (l.length + 2)) [] from o1); have B1 := Lib.hid ((Below.refl w.heap.size w).grown g1 (Nat.le_refl _) (fun k hk => by cases hk)); clear o1 g1)
    | (refine wpList_append_bytes rfl _ _ rfl w.heap.size (.slice ua l.length uc) (.slice (some ⟨w2.heap.size, 0, none⟩) 2 2) l [171, 172] rfl rfl (OwnU.alloc O2.out _) (brow_lit (l := [171, 172]) (heap_alloc_last w2 _) rfl (by simp [maxLen]) rfl) (by simp; omega) (by simp; have := B2.out.size; omega) ?_; intro u3 w3 own3 gr3; obtain ⟨g3, c3, rfl, own4, hc3, hc4⟩ := own_marks own3; have HL3 := Lib.hid own4; have B3 := Lib.hid ((B2.out.alloc B2.out.size _).grown gr3 (by simp; have := B2.out.size; omega) (fun k hk => (O2.out.lt k hk).1)); clear own3 own4 gr3)
    | (refine wpList_append_bytes rfl _ _ rfl w.heap.size (.slice (some ⟨w.heap.size, 0, none⟩) 0 (l.length + 2)) (.slice a l.length cap) [] l rfl rfl O1.out (H.out.below B1.out) (by simp; omega) (B1.out.size) ?_; intro u w2 own2 gr2; rw [List.nil_append] at own2; obtain ⟨ua, uc, rfl⟩ := own2.shape; have O2 := Lib.hid own2; have B2 := Lib.hid (B1.out.grown gr2 B1.out.size (fun k hk => (O1.out.lt k hk).1)); clear own2 gr2))
  go_ret
  exact ⟨_, rfl, ⟨g3, c3, rfl, HL3.out⟩, B3.out⟩

theorem own_put {w : World} {B g n cap : Nat} {xs : List UInt8} (h : OwnU w B (.slice (some ⟨g, 0, none⟩) n cap) xs) (hn : xs.length = n) (k : Nat) (x : UInt8) :
    OwnU (w.setCell ⟨g, k, none⟩ (.int .u8 (x.toNat : Int))) B (.slice (some ⟨g, 0, none⟩) n cap) (xs.set k x) := by
  subst hn
  have h2 := (World.ownsRow.stored h k (.int .u8 (x.toNat : Int))).1
  unfold OwnU
  rw [List.length_set]
  have e : Lib.byteCells (xs.set k x) = (Lib.byteCells xs).set k (.int .u8 (x.toNat : Int)) := by simp [Lib.byteCells, List.map_set]
  rw [e]
  exact h2
theorem own_at {w : World} {B g n cap : Nat} {xs : List UInt8} (h : OwnU w B (.slice (some ⟨g, 0, none⟩) n cap) xs) (hn : xs.length = n) (k : Nat) (hk : k < xs.length) : w.cell? ⟨g, k, none⟩ = some (.int .u8 (xs[k].toNat : Int)) ∧ w.frozen? ⟨g, k, none⟩ = false := by
  subst hn
  exact ⟨by rw [World.ownsRow.cellAt h k (by omega)]; exact byteCells_at xs k hk, World.ownsRow.frozenAt h k⟩
theorem flip_eq (x : UInt8) : bits .xor .u8 (x.toNat : Int) 255 = ((UInt8.ofNat (x.toNat ^^^ 255)).toNat : Int) := by
  have hx := u8_lt x
  have h := u8_xor_nat x.toNat 255 hx (by omega)
  have hl : x.toNat ^^^ 255 < 256 := Nat.xor_lt_two_pow (n := 8) (by omega) (by omega)
  rw [show (255 : Int) = ((255 : Nat) : Int) from rfl, h, UInt8.toNat_ofNat', Nat.mod_eq_of_lt hl]
theorem grown_refl (w : World) (row : Option Nat) : w.grownBy w row := ⟨rfl, rfl, rfl, Nat.le_refl _, fun _ _ _ => rfl⟩
theorem only_setCell {a w : World} {g : Nat} (h : a.grownBy w (some g)) {p : Addr} (hp : p.block = g) (u : Value) : a.grownBy (w.setCell p u) (some g) :=
  ⟨h.os, h.tape, h.output, by simpa [World.setCell] using h.size, fun i hi hne => (Below.heap_setCell w p u i (by rintro rfl; exact hne (by rw [hp]))).trans (h.block i hi hne)⟩
set_option maxRecDepth 100000 in
set_option maxHeartbeats 4000000 in
theorem kept_any (v u : Value) (B : Nat) (l : List UInt8) (w : World) (h : LentU w B v l) (h' : BRow w u l) (hn : l.length + 2 ≤ 140737488355328) :
    Calls Tryd.prog 13 #[v, u] w fun e w' => e = .returned (.bool true) ∧ ∃ g, v.ownBlock = some g ∧ w.grownBy w' (some g) := by
  have HS := Lib.hid (same_any v u l l w h.row h')
  obtain ⟨g, cap, rfl, ho⟩ := h
  obtain ⟨a', cap', rfl⟩ : ∃ a c, u = .slice a l.length c := by obtain ⟨a, c, h, _⟩ := h'; exact ⟨a, c, h⟩
  obtain ⟨hc1, hc2⟩ := own_cap ho
  rw [List.length_append, show [(171 : UInt8), 172].length = 2 from rfl] at hc1
  have hl2 : (l ++ [171, 172]).length = l.length + 2 := by simp
  obtain ⟨m1, f1⟩ := own_at ho hl2 l.length (by omega)
  obtain ⟨m2, f2⟩ := own_at ho hl2 (l.length + 1) (by omega)
  rw [List.getElem_append_right (by omega)] at m1 m2
  simp only [Nat.sub_self, Nat.add_sub_cancel_left, List.getElem_cons_zero, List.getElem_cons_succ] at m1 m2
  have m1 : w.cell? ⟨g, l.length, none⟩ = some (.int .u8 171) := m1
  have m2 : w.cell? ⟨g, l.length + 1, none⟩ = some (.int .u8 172) := m2
  have hs : ∀ W, (Instr.sliceAt 22 (.slice (some ⟨g, 0, none⟩) l.length cap) none (some (.int .i64 ((l.length : Int) + 2))) none).run Tryd.prog W = .ok (.slice (some ⟨g, 0, none⟩) (l.length + 2) cap) W := fun W => by
    have e : (l.length : Int) + 2 = ((l.length + 2 : Nat) : Int) := by omega
    rw [e, run_head _ _ _ _ hc1]
    unfold sliced
    rw [if_neg (by omega)]
    simp [add_at]
  have HO := Lib.hid ho
  have HL2 := Lib.hid hl2
  rw [decide_eq_true rfl] at HS
  clear ho h' hl2 f1 f2
  go_enter Tryd.func13, Tryd.ntmps13
  go_wp2_with fail
  refine HS.out.mono ?_
  rintro e w1 ⟨rfl, rfl⟩
  go_wp2_with fail
  go_loopw [8] (fun i wr => ∃ (k : Nat) (ys : List UInt8), i = .int .i64 (k : Int) ∧ k ≤ l.length + 2 ∧ ys.length = l.length + 2 ∧ OwnU wr B (.slice (some ⟨g, 0, none⟩) (l.length + 2) cap) ys ∧ w.grownBy wr (some g)) (fun i _ => l.length + 2 - (intOf i).toNat)
  case atStart => exact ⟨0, _, rfl, Nat.zero_le _, HL2.out, HO.out, grown_refl _ _⟩
  case round =>
    obtain ⟨k, ys, rfl, hk, hy, hown, hg⟩ := hrel
    clear m1 m2
    by_cases hlt : k < l.length + 2
    · have hlt' : (k : Int) < (l.length : Int) + 2 := by omega
      obtain ⟨c1, f1⟩ := own_at hown hy k (by omega)
      have q1 := flip_eq (ys[k]'(by omega))
      have HZ := Lib.hid (own_put hown hy k (UInt8.ofNat ((ys[k]'(by omega)).toNat ^^^ 255)))
      have HG := Lib.hid (only_setCell hg (p := ⟨g, k, none⟩) rfl (.int .u8 ((UInt8.ofNat ((ys[k]'(by omega)).toNat ^^^ 255)).toNat : Int)))
      have HY := Lib.hid (show (ys.set k (UInt8.ofNat ((ys[k]'(by omega)).toNat ^^^ 255))).length = l.length + 2 by rw [List.length_set]; exact hy)
      generalize UInt8.ofNat ((ys[k]'(by omega)).toNat ^^^ 255) = z at *
      generalize (ys[k]'(by omega)) = x at *
      clear hown hg hy
      go_wp2_with fail
      refine ⟨⟨k + 1, _, by rw [Int.natCast_add]; rfl, by omega, HY.out, HZ.out, HG.out⟩, ?_⟩
      simp only [intOf]
      omega
    · have HG := Lib.hid hg
      have hge : ¬ (k : Int) < (l.length : Int) + 2 := by omega
      clear hown hg hy
      go_wp2_with fail
      go_ret
      exact ⟨rfl, g, rfl, HG.out⟩
end Go.Proofs.YtbnkpbphahjomaaDoor
