/- The program's size: how many runes an operation keeps, inserts or deletes, or its error. -/
import Derived.Test.YthcpagpiphemgaaChRow
import Derived.Deep.RegionHeld3
namespace Go.Proofs.Ythcpagpiphemgaa
open Go.RowKit Ch

def SizeOut (w : World) (o : OpD) (e : Ending) (w' : World) : Prop := ∃ n, e = .returned (.tuple #[.int .i64 n, .int .i64 (opE o)]) ∧ (opE o = 0 → n = opSz o) ∧ Below w.heap.size w w'
theorem sizeOut_bad {w w' : World} {o : OpD} {n : Int} (h : opE o = 30) (hb : Below w.heap.size w w') : SizeOut w o (.returned (.tuple #[.int .i64 n, .int .i64 30])) w' :=
  ⟨n, by rw [h], fun h0 => by omega, hb⟩
theorem sizeOut_mk {w w' : World} {o : OpD} {n E : Int} (h : opE o = E) (hn : E = 0 → n = opSz o) (hb : Below w.heap.size w w') : SizeOut w o (.returned (.tuple #[.int .i64 n, .int .i64 E])) w' :=
  ⟨n, by rw [h], fun h0 => hn (h.symm.trans h0), hb⟩

set_option maxRecDepth 100000 in
set_option maxHeartbeats 2000000 in
theorem size_any (o : OpD) (av : Value) (w : World) (hv : AtRow w av o.attrs) (ht : o.text.size ≤ maxLen) (hz : Sized o.attrs) :
    Calls Try.prog 28 #[opAgg o av] w (SizeOut w o) := by
  have Hv := Lib.hid hv
  have Hz := Lib.hid hz
  have Ht := Lib.hid ht
  obtain ⟨aa, acap, rfl, _⟩ := hv
  obtain ⟨W, hW⟩ : ∃ W, W = w.alloc (.cells #[.int .i64 o.kind, .int .i64 o.n, .string o.text, .slice aa o.attrs.length acap] 40) := ⟨_, rfl⟩
  have BW := Lib.hid (show Below w.heap.size w W by rw [hW]; exact (Below.refl _ _).alloc (Nat.le_refl _) _)
  have c0 : W.cell? ⟨w.heap.size, 0, none⟩ = some (.int .i64 o.kind) := by rw [hW]; go_simp
  have c1 : W.cell? ⟨w.heap.size, 1, none⟩ = some (.int .i64 o.n) := by rw [hW]; go_simp
  have c2 : W.cell? ⟨w.heap.size, 2, none⟩ = some (.string o.text) := by rw [hW]; go_simp
  have c3 : W.cell? ⟨w.heap.size, 3, none⟩ = some (.slice aa o.attrs.length acap) := by rw [hW]; go_simp
  have hlt : w.heap.size < W.heap.size := by rw [hW]; simp
  have HW := Lib.hid hW
  clear hz hW
  by_cases hk1 : o.kind = 1
  · have k1 : (o.kind == 1) = true := by rw [hk1]; rfl
    by_cases hn : o.n < 1
    · have e30 := Lib.hid (show opE o = 30 by unfold opE; rw [if_pos hk1, if_pos (.inl hn)])
      clear hk1
      go_enter Try.func28, Try.ntmps28
      go_wp2_with fail
      rw [← HW.out]
      go_wp2_with fail
      go_ret2
      exact sizeOut_bad e30.out BW.out
    · have hn1 : 1 ≤ o.n := by omega
      by_cases ht0 : o.text.size = 0
      · obtain ⟨t1, t2⟩ := text_empty ht0
        have e1 := Lib.hid (show opE o = chgE o.attrs by unfold opE; rw [if_pos hk1, if_neg (by omega)])
        have e2 := Lib.hid (show opSz o = o.n by unfold opSz; rw [if_neg (by omega)])
        have T := Lib.hid t2
        clear hk1 hn ht0 t2
        go_enter Try.func28, Try.ntmps28
        go_wp2_with fail
        rw [← HW.out]
        go_wp2_with fail
        go_region_held3 (fun w' => w'.cell? ⟨w.heap.size, 1, none⟩ = some (.int .i64 o.n) ∧ w'.cell? ⟨w.heap.size, 3, none⟩ = some (.slice aa o.attrs.length acap))
          (first
            | exact ⟨c1, c3⟩
            | exact ⟨(BA.cell (by exact hlt)).trans c1, (BA.cell (by exact hlt)).trans c3⟩)
          (first
            | (go_at_call_of 43 (Value.slice aa o.attrs.length acap); refine (changeD_any _ o.attrs _ (Hv.out.below ((BW.out.drew).trans ((Below.refl _ _).mono BW.out.size))) Hz.out).mono ?_; rintro e wA ⟨rfl, hbA⟩; have BA : Below W.heap.size W wA := of_drew hbA))
        go_wp2_with fail
        go_ret2
        exact sizeOut_mk e1.out (fun _ => e2.out.symm) (BW.out.trans (BA.mono BW.out.size))
      · have t1 := text_full ht0
        have e30 := Lib.hid (show opE o = 30 by unfold opE; rw [if_pos hk1, if_pos (.inr ht0)])
        clear hk1 hn ht0
        go_enter Try.func28, Try.ntmps28
        go_wp2_with fail
        rw [← HW.out]
        go_wp2_with fail
        go_ret2
        exact sizeOut_bad e30.out BW.out
  · have k1 : (o.kind == 1) = false := by rw [beq_eq_false_iff_ne]; exact hk1
    by_cases hk2 : o.kind = 2
    · have k2 : (o.kind == 2) = true := by rw [hk2]; rfl
      by_cases hn : o.n = 0
      · have n0 : (o.n != 0) = false := by rw [hn]; rfl
        by_cases ht0 : o.text.size = 0
        · obtain ⟨t1, t2⟩ := text_empty ht0
          have e30 := Lib.hid (show opE o = 30 by unfold opE; rw [if_neg hk1, if_pos hk2, if_pos (.inr ht0)])
          clear hk1 hk2 hn ht0 t2
          go_enter Try.func28, Try.ntmps28
          go_wp2_with fail
          rw [← HW.out]
          go_wp2_with fail
          go_ret2
          exact sizeOut_bad e30.out BW.out
        · have t1 := text_full ht0
          have e0 : opE o = if er o.text.data.toList ≠ 0 then er o.text.data.toList else rgtE o.attrs := by unfold opE; rw [if_neg hk1, if_pos hk2, if_neg (by omega)]
          have e2 := Lib.hid (show opSz o = cnt o.text.data.toList by unfold opSz; rw [if_pos hk2])
          by_cases he : er o.text.data.toList = 0
          · have e1 := Lib.hid (show opE o = rgtE o.attrs by rw [e0, if_neg (by simpa using he)])
            have Hcnt : ∀ W : World, Calls Try.prog 44 #[.string o.text] W fun e w' => e = .returned (.tuple #[.int .i64 (cnt o.text.data.toList), .int .i64 0]) ∧ Below W.heap.size W w' := fun W => by have := count_any o.text W Ht.out; rw [he] at this; exact this
            have HC := Lib.hid Hcnt
            clear hk1 hk2 hn ht0 he e0 Hcnt
            go_enter Try.func28, Try.ntmps28
            go_wp2_with fail
            rw [← HW.out]
            go_wp2_with fail
            refine (HC.out _).mono ?_
            rintro e w1 ⟨rfl, b1⟩
            have d3 : w1.cell? ⟨w.heap.size, 3, none⟩ = some (.slice aa o.attrs.length acap) := (b1.cell (by exact hlt)).trans c3
            have B1 := Lib.hid (BW.out.trans (b1.mono BW.out.size))
            clear b1
            go_wp2_with fail
            refine (rightD_any _ o.attrs _ (Hv.out.below B1.out) Hz.out).mono ?_
            rintro e w2 ⟨rfl, b2⟩
            have B2 := Lib.hid (B1.out.trans (b2.mono B1.out.size))
            clear b2
            go_wp2_with fail
            go_ret2
            exact sizeOut_mk e1.out (fun _ => e2.out.symm) B2.out
          · have h10 : er o.text.data.toList = 10 := (er_cases _).resolve_left he
            have e1 := Lib.hid (show opE o = 10 by rw [e0, if_pos (by simpa using he), h10])
            have Hcnt : ∀ W : World, Calls Try.prog 44 #[.string o.text] W fun e w' => e = .returned (.tuple #[.int .i64 (cnt o.text.data.toList), .int .i64 10]) ∧ Below W.heap.size W w' := fun W => by have := count_any o.text W Ht.out; rw [h10] at this; exact this
            have HC := Lib.hid Hcnt
            clear hk1 hk2 hn ht0 he e0 Hcnt h10
            go_enter Try.func28, Try.ntmps28
            go_wp2_with fail
            rw [← HW.out]
            go_wp2_with fail
            refine (HC.out _).mono ?_
            rintro e w1 ⟨rfl, b1⟩
            have B1 := Lib.hid (BW.out.trans (b1.mono BW.out.size))
            clear b1
            go_wp2_with fail
            go_ret2
            exact sizeOut_mk e1.out (fun h0 => absurd h0 (by decide)) B1.out
      · have n0 : (o.n != 0) = true := by rw [bne_iff_ne]; exact hn
        have e30 := Lib.hid (show opE o = 30 by unfold opE; rw [if_neg hk1, if_pos hk2, if_pos (.inl hn)])
        clear hk1 hk2 hn
        go_enter Try.func28, Try.ntmps28
        go_wp2_with fail
        rw [← HW.out]
        go_wp2_with fail
        go_ret2
        exact sizeOut_bad e30.out BW.out
    · have k2 : (o.kind == 2) = false := by rw [beq_eq_false_iff_ne]; exact hk2
      by_cases hk3 : o.kind = 3
      · have k3 : (o.kind == 3) = true := by rw [hk3]; rfl
        by_cases hn : o.n < 1
        · have e30 := Lib.hid (show opE o = 30 by unfold opE; rw [if_neg hk1, if_neg hk2, if_pos hk3, if_pos (.inl hn)])
          clear hk1 hk2 hk3
          go_enter Try.func28, Try.ntmps28
          go_wp2_with fail
          rw [← HW.out]
          go_wp2_with fail
          go_ret2
          exact sizeOut_bad e30.out BW.out
        · have hn1 : 1 ≤ o.n := by omega
          by_cases ht0 : o.text.size = 0
          · obtain ⟨t1, t2⟩ := text_empty ht0
            by_cases ha : o.attrs.length = 0
            · have l0 : decide ((0 : Int) < (o.attrs.length : Int)) = false := decide_eq_false (by omega)
              have l1 : decide (0 < o.attrs.length) = false := decide_eq_false (by omega)
              have e1 := Lib.hid (show opE o = 0 by unfold opE; rw [if_neg hk1, if_neg hk2, if_pos hk3, if_neg (by omega)])
              have e2 := Lib.hid (show opSz o = o.n by unfold opSz; rw [if_neg hk2])
              clear hk1 hk2 hk3 hn ht0 ha t2
              go_enter Try.func28, Try.ntmps28
              go_wp2_with fail
              rw [← HW.out]
              go_wp2_with fail
              go_ret2
              exact sizeOut_mk e1.out (fun _ => e2.out.symm) BW.out
            · have l0 : decide ((0 : Int) < (o.attrs.length : Int)) = true := decide_eq_true (by omega)
              have l1 : decide (0 < o.attrs.length) = true := decide_eq_true (by omega)
              have l2 : 0 < o.attrs.length := by omega
              have e30 := Lib.hid (show opE o = 30 by unfold opE; rw [if_neg hk1, if_neg hk2, if_pos hk3, if_pos (.inr (.inr ha))])
              clear hk1 hk2 hk3 hn ht0 ha t2
              go_enter Try.func28, Try.ntmps28
              go_wp2_with fail
              rw [← HW.out]
              go_wp2_with fail
              go_ret2
              exact sizeOut_bad e30.out BW.out
          · have t1 := text_full ht0
            have e30 := Lib.hid (show opE o = 30 by unfold opE; rw [if_neg hk1, if_neg hk2, if_pos hk3, if_pos (.inr (.inl ht0))])
            clear hk1 hk2 hk3 hn ht0
            go_enter Try.func28, Try.ntmps28
            go_wp2_with fail
            rw [← HW.out]
            go_wp2_with fail
            go_ret2
            exact sizeOut_bad e30.out BW.out
      · have k3 : (o.kind == 3) = false := by rw [beq_eq_false_iff_ne]; exact hk3
        have e30 := Lib.hid (show opE o = 30 by unfold opE; rw [if_neg hk1, if_neg hk2, if_neg hk3])
        clear hk1 hk2 hk3
        go_enter Try.func28, Try.ntmps28
        go_wp2_with fail
        rw [← HW.out]
        go_wp2_with fail
        go_ret2
        exact sizeOut_bad e30.out BW.out
end Go.Proofs.Ythcpagpiphemgaa
