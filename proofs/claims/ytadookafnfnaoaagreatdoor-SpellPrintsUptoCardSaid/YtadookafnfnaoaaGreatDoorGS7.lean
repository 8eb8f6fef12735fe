import Derived.Test.YtadookafnfnaoaaGreatDoorGS6
/- The program's deleted and add. -/
namespace Go.Proofs.YtadookafnfnaoaaGreatDoor
open Go.RowKit Ch

theorem put_any (B b : Nat) (ov : Value) (l : List OpD) (g : Int) (o : OpD) (av : Value) (w : World) (h : NSt w B b ov l g) (hB : B ≤ b) (hf : Fits l o) (hv : ∀ w', Keep B TS w w' → AtRow w' av o.attrs) :
    Calls Tryz.prog 86 #[.pointer (some ⟨b, 0, none⟩), opAgg o av] w (PutOut w B b ov l o g) := by
  cases l with
  | nil => exact put_empty B b ov [] g o av w h hB hf hv rfl
  | cons x r =>
    by_cases hal : x.kind = o.kind ∧ x.attrs = o.attrs
    · exact put_alike B b ov (x :: r) g o av w h hB hf hv x r rfl hal
    · exact put_other B b ov (x :: r) g o av w h hB hf hv x r rfl hal

theorem NSt.cell3 {w : World} {B b : Nat} {ov : Value} {l : List OpD} {g : Int} (h : NSt w B b ov l g) : w.cell? ⟨b, 3, none⟩ = some (.int .i64 g) ∧ w.frozen? ⟨b, 3, none⟩ = false := by
  obtain ⟨_, _, _, _, hN, _⟩ := h
  exact ⟨hN.cells.2.2.2.1, hN.cells.2.2.2.2 3⟩
theorem NSt.setG {w : World} {B b : Nat} {ov : Value} {l : List OpD} {g : Int} (h : NSt w B b ov l g) (hB : B ≤ b) (k : Int) : NSt (w.setCell ⟨b, 3, none⟩ (.int .i64 k)) B b ov l k ∧ KeepO B w (w.setCell ⟨b, 3, none⟩ (.int .i64 k)) ov ov := by
  obtain ⟨ps, ad, bv, bt, h1, h2, h3, h4, h5⟩ := h
  have hk : Keep B [90] w (w.setCell ⟨b, 3, none⟩ (.int .i64 k)) := keep_set h1 (by simp) hB _ rfl _
  exact ⟨⟨ps, ad, bv, bt, h1.set3, h2, h3.keep hk (by decide) (by decide), ⟨hk.own h4.1 (by decide), h4.2⟩, h5⟩, keepO_of hk (by simp) (by decide) _⟩
theorem NSt.drew {w : World} {B b : Nat} {ov : Value} {l : List OpD} {g : Int} (h : NSt w B b ov l g) : NSt w.drew B b ov l g := h
theorem KeepO.of_drew {B : Nat} {a w : World} {u v : Value} (h : KeepO B a.drew w u v) : KeepO B a w u v := ⟨of_drewK h.keep, h.ops⟩

def DelOut (w : World) (B b : Nat) (ov : Value) (l : List OpD) (g : Int) (e : Ending) (w' : World) : Prop := e = .returned (.tuple #[]) ∧ ∃ ov', NSt w' B b ov' (flush (l, g)) 0 ∧ KeepO B w w' ov ov'

set_option maxHeartbeats 2000000 in
set_option maxRecDepth 100000 in
theorem deleted_any (B b : Nat) (ov : Value) (l : List OpD) (g : Int) (w : World) (h : NSt w B b ov l g) (hB : B ≤ b) (hg : 0 ≤ g) (hf : Fits l (delO g)) :
    Calls Tryz.prog 85 #[.pointer (some ⟨b, 0, none⟩)] w (DelOut w B b ov l g) := by
  have c3 := h.cell3.1
  have HS := Lib.hid h
  have HF := Lib.hid hf
  have hBw := Lib.hid (show B ≤ w.heap.size from Nat.le_trans hB (Nat.le_of_lt h.lt))
  by_cases hp : 0 < g
  · have hfl : flush (l, g) = put l (delO g) := by unfold flush; rw [if_pos (by exact hp)]
    have HP := Lib.hid (fun W (hW : NSt W B b ov l g) => put_any B b ov l g (delO g) (.slice none 0 0) W hW hB hf (fun w' _ => ⟨none, 0, rfl, Nat.le_refl _, Nat.zero_le _, fun i hi => absurd hi (Nat.not_lt_zero _)⟩))
    have HFL := Lib.hid hfl
    clear h hf hfl
    go_enter Tryz.func85, Tryz.ntmps85
    go_wp2_with fail
    go_region_held3 (fun w' => w'.cell? ⟨b, 3, none⟩ = some (.int .i64 g))
      (first
        | exact c3
        | exact c3A)
      (first
        | (go_at_call 86; refine (HP.out _ (by exact HS.out)).mono ?_; rintro e wA ⟨rfl, ovA, NA, KA⟩; have c3A := NA.cell3.1))
    obtain ⟨N2, K2⟩ := NA.setG hB 0
    have f3 := NA.cell3.2
    have FIN : ∃ ov', NSt (wA.setCell ⟨b, 3, none⟩ (.int .i64 0)) B b ov' (flush (l, g)) 0 ∧ KeepO B w (wA.setCell ⟨b, 3, none⟩ (.int .i64 0)) ov ov' := ⟨ovA, by rw [HFL.out]; exact N2, (KeepO.of_drew KA).trans K2⟩
    have HFIN := Lib.hid FIN
    clear N2 K2 FIN KA NA
    go_wp2_with fail
    go_end0
    exact ⟨rfl, HFIN.out⟩
  · have hg0 : g = 0 := by omega
    subst hg0
    have hfl : flush (l, 0) = l := by unfold flush; rw [if_neg (by show ¬ (0 : Int) < 0; omega)]
    have FIN : ∃ ov', NSt w B b ov' (flush (l, 0)) 0 ∧ KeepO B w w ov ov' := ⟨ov, by rw [hfl]; exact h, keepO_below (Below.refl _ _) hBw.out _⟩
    have HFIN := Lib.hid FIN
    clear h hf hfl FIN hp hg
    go_enter Tryz.func85, Tryz.ntmps85
    go_wp2_with fail
    go_end0
    exact ⟨rfl, HFIN.out⟩

/-- What an add asks of the state and of the operation. -/
structure FitsS (s : List OpD × Int) (o : OpD) : Prop where
  g0 : 0 ≤ s.2
  g1 : s.2 ≤ 536870912
  del : Fits s.1 (delO s.2)
  ins : Fits s.1 o
  keep : Fits (flush s) o
  o1 : o.n ≤ 536870912
def AddOut (w : World) (B b : Nat) (ov : Value) (s : List OpD × Int) (o : OpD) (e : Ending) (w' : World) : Prop := e = .returned (.tuple #[]) ∧ ∃ ov', NSt w' B b ov' (Ch.add s o).1 (Ch.add s o).2 ∧ KeepO B w w' ov ov'

set_option maxHeartbeats 4000000 in
set_option maxRecDepth 100000 in
theorem add_n (B b : Nat) (ov : Value) (s : List OpD × Int) (o : OpD) (av : Value) (w : World) (h : NSt w B b ov s.1 s.2) (hB : B ≤ b) (hf : FitsS s o) (hv : ∀ w', Keep B TS w w' → AtRow w' av o.attrs) (tn : (o.n == 0) = false) :
    Calls Tryz.prog 57 #[.pointer (some ⟨b, 0, none⟩), opAgg o av] w (AddOut w B b ov s o) := by
  obtain ⟨l, g⟩ := s
  have hBw : B ≤ w.heap.size := Nat.le_trans hB (Nat.le_of_lt h.lt)
  obtain ⟨ar, cr, rfl⟩ := (hv w (Keep.refl _ _ _)).shape
  obtain ⟨W, hW⟩ : ∃ W, W = w.alloc (.cells #[.int .i64 o.kind, .int .i64 o.n, .string o.text, .slice ar o.attrs.length cr] 48) := ⟨_, rfl⟩
  have BW : Below w.heap.size w W := by rw [hW]; exact below_box _ _
  have hbox : W.heap[w.heap.size]? = some (.cells #[.int .i64 o.kind, .int .i64 o.n, .string o.text, .slice ar o.attrs.length cr] 48 (0, 0)) := by rw [hW]; exact heap_new _ _
  have HNE := Lib.hid (show ov.ownBlock ≠ some w.heap.size from fun e => by have := h.ov_lt _ e; omega)
  have HBX := Lib.hid hbox
  have HBW := Lib.hid BW
  have HS := Lib.hid (h.below BW)
  have HV := Lib.hid hv
  have HF := Lib.hid hf
  have HW := Lib.hid hW
  have HBw := Lib.hid hBw
  have hblw := h.lt
  have p3 := h.cell3.1
  have k3 := HS.out.cell3.1
  have f3 := HS.out.cell3.2
  have c0 : W.cell? ⟨w.heap.size, 0, none⟩ = some (.int .i64 o.kind) := by rw [Lib.cell_of_heap hbox]; rfl
  have c1 : W.cell? ⟨w.heap.size, 1, none⟩ = some (.int .i64 o.n) := by rw [Lib.cell_of_heap hbox]; rfl
  have c2 : W.cell? ⟨w.heap.size, 2, none⟩ = some (.string o.text) := by rw [Lib.cell_of_heap hbox]; rfl
  have c3 : W.cell? ⟨w.heap.size, 3, none⟩ = some (.slice ar o.attrs.length cr) := by rw [Lib.cell_of_heap hbox]; rfl
  by_cases hk3 : o.kind = 3
  · have t3 : (o.kind == 3) = true := by rw [hk3]; rfl
    have hR : add (l, g) o = (l, g + o.n) := by unfold add; rw [if_pos hk3]
    have hwr : IntKind.i64.wrap (g + o.n) = g + o.n := by
      have h1 := hf.g0
      have h2 := hf.g1
      have h3 := hf.o1
      have h4 := hf.ins.n0
      exact IntWalk.i64_in _ (by simp only at h1 h2; omega)
    obtain ⟨N2, K2⟩ := HS.out.setG hB (g + o.n)
    have FIN : ∃ ov', NSt (W.setCell ⟨b, 3, none⟩ (.int .i64 (g + o.n))) B b ov' (add (l, g) o).1 (add (l, g) o).2 ∧ KeepO B w (W.setCell ⟨b, 3, none⟩ (.int .i64 (g + o.n))) ov ov' := ⟨ov, by rw [hR]; exact N2, (keepO_below BW hBw _).trans K2⟩
    have HFIN := Lib.hid FIN
    clear h hf hv hW BW hbox hBw hk3 hR N2 K2 FIN
    go_enter Tryz.func57, Tryz.ntmps57
    go_wp2_with fail
    rw [← HW.out]
    go_wp2_with fail
    go_region
    go_wp2_with fail
    go_end0
    obtain ⟨ov', a1, a2⟩ := HFIN.out
    exact ⟨rfl, ov', a1, ⟨a2.keep.drew, a2.ops⟩⟩
  · have t3 : (o.kind == 3) = false := by rw [beq_eq_false_iff_ne]; exact hk3
    by_cases hk1 : o.kind = 1
    · have t1 : (o.kind == 1) = true := by rw [hk1]; rfl
      have HR := Lib.hid (show add (l, g) o = (put (flush (l, g)) o, 0) by unfold add; rw [if_neg hk3, if_pos hk1])
      clear h hf hv hW BW hbox hBw hk3 hk1 p3 k3 f3
      go_enter Tryz.func57, Tryz.ntmps57
      go_wp2_with fail
      rw [← HW.out]
      go_wp2_with fail
      refine (deleted_any B b ov l g _ HS.out hB HF.out.g0 HF.out.del).mono ?_
      rintro e wA ⟨rfl, ovA, NA, KA⟩
      have bA := (KA.ops w.heap.size _ _ HBX.out HNE.out)
      have a0 : wA.cell? ⟨w.heap.size, 0, none⟩ = some (.int .i64 o.kind) := by rw [Lib.cell_of_heap bA.1]; rfl
      have a1 : wA.cell? ⟨w.heap.size, 1, none⟩ = some (.int .i64 o.n) := by rw [Lib.cell_of_heap bA.1]; rfl
      have a2 : wA.cell? ⟨w.heap.size, 2, none⟩ = some (.string o.text) := by rw [Lib.cell_of_heap bA.1]; rfl
      have a3 : wA.cell? ⟨w.heap.size, 3, none⟩ = some (.slice ar o.attrs.length cr) := by rw [Lib.cell_of_heap bA.1]; rfl
      have KWA := Lib.hid ((keepO_below HBW.out HBw.out ov).trans KA)
      have HNA := Lib.hid NA
      have HbA := Lib.hid bA
      clear NA KA bA c0 c1 c2 c3
      go_wp2_with fail
      go_region_held3 (fun w' => w'.cell? ⟨w.heap.size, 0, none⟩ = some (.int .i64 o.kind) ∧ w'.cell? ⟨w.heap.size, 1, none⟩ = some (.int .i64 o.n) ∧ w'.cell? ⟨w.heap.size, 2, none⟩ = some (.string o.text) ∧ w'.cell? ⟨w.heap.size, 3, none⟩ = some (.slice ar o.attrs.length cr))
        (first
          | exact ⟨a0, a1, a2, a3⟩
          | exact cC)
        (first
          | (go_at_call 86; refine (put_any B b _ _ 0 o _ wA.drew (by exact HNA.out) hB HF.out.keep (fun w' hb => HV.out w' (KWA.out.keep.trans (of_drewK hb)))).mono ?_; rintro e wC ⟨rfl, ovC, NC, KC⟩; have bC := (KC.ops w.heap.size _ _ HbA.out.1 HbA.out.2).1; have cC : wC.cell? ⟨w.heap.size, 0, none⟩ = some (.int .i64 o.kind) ∧ wC.cell? ⟨w.heap.size, 1, none⟩ = some (.int .i64 o.n) ∧ wC.cell? ⟨w.heap.size, 2, none⟩ = some (.string o.text) ∧ wC.cell? ⟨w.heap.size, 3, none⟩ = some (.slice ar o.attrs.length cr) := ⟨by rw [Lib.cell_of_heap bC]; rfl, by rw [Lib.cell_of_heap bC]; rfl, by rw [Lib.cell_of_heap bC]; rfl, by rw [Lib.cell_of_heap bC]; rfl⟩))
      have FIN : ∃ ov', NSt wC B b ov' (add (l, g) o).1 (add (l, g) o).2 ∧ KeepO B w wC ov ov' := ⟨ovC, by rw [HR.out]; exact NC, KWA.out.trans (KeepO.of_drew KC)⟩
      have HFIN := Lib.hid FIN
      clear FIN NC KC bC cC
      go_wp2_with fail
      go_end0
      exact ⟨rfl, HFIN.out⟩
    · have t1 : (o.kind == 1) = false := by rw [beq_eq_false_iff_ne]; exact hk1
      have HR := Lib.hid (show add (l, g) o = (put l o, g) by unfold add; rw [if_neg hk3, if_neg hk1])
      clear h hf hv hW BW hbox hBw hk3 hk1 p3 k3 f3
      go_enter Tryz.func57, Tryz.ntmps57
      go_wp2_with fail
      rw [← HW.out]
      go_wp2_with fail
      go_region_held3 (fun w' => w'.cell? ⟨w.heap.size, 0, none⟩ = some (.int .i64 o.kind) ∧ w'.cell? ⟨w.heap.size, 1, none⟩ = some (.int .i64 o.n) ∧ w'.cell? ⟨w.heap.size, 2, none⟩ = some (.string o.text) ∧ w'.cell? ⟨w.heap.size, 3, none⟩ = some (.slice ar o.attrs.length cr))
        (first
          | exact ⟨c0, c1, c2, c3⟩
          | exact cC)
        (first
          | (go_at_call 86; refine (put_any B b _ l g o _ W.drew (by exact HS.out) hB HF.out.ins (fun w' hb => HV.out w' ((keep_below HBW.out HBw.out).trans (of_drewK hb)))).mono ?_; rintro e wC ⟨rfl, ovC, NC, KC⟩; have bC := (KC.ops w.heap.size _ _ (by exact HBX.out) HNE.out).1; have cC : wC.cell? ⟨w.heap.size, 0, none⟩ = some (.int .i64 o.kind) ∧ wC.cell? ⟨w.heap.size, 1, none⟩ = some (.int .i64 o.n) ∧ wC.cell? ⟨w.heap.size, 2, none⟩ = some (.string o.text) ∧ wC.cell? ⟨w.heap.size, 3, none⟩ = some (.slice ar o.attrs.length cr) := ⟨by rw [Lib.cell_of_heap bC]; rfl, by rw [Lib.cell_of_heap bC]; rfl, by rw [Lib.cell_of_heap bC]; rfl, by rw [Lib.cell_of_heap bC]; rfl⟩))
      have FIN : ∃ ov', NSt wC B b ov' (add (l, g) o).1 (add (l, g) o).2 ∧ KeepO B w wC ov ov' := ⟨ovC, by rw [HR.out]; exact NC, (keepO_below HBW.out HBw.out ov).trans (KeepO.of_drew KC)⟩
      have HFIN := Lib.hid FIN
      clear FIN NC KC bC cC
      go_wp2_with fail
      go_end0
      exact ⟨rfl, HFIN.out⟩

set_option maxHeartbeats 4000000 in
set_option maxRecDepth 100000 in
theorem add_t (B b : Nat) (ov : Value) (s : List OpD × Int) (o : OpD) (av : Value) (w : World) (h : NSt w B b ov s.1 s.2) (hB : B ≤ b) (hf : FitsS s o) (hv : ∀ w', Keep B TS w w' → AtRow w' av o.attrs) (tn : (o.n == 0) = true) (_tt : o.text.toList.isEmpty = false) (tt2 : (o.text.toList == []) = false) :
    Calls Tryz.prog 57 #[.pointer (some ⟨b, 0, none⟩), opAgg o av] w (AddOut w B b ov s o) := by
  obtain ⟨l, g⟩ := s
  have hBw : B ≤ w.heap.size := Nat.le_trans hB (Nat.le_of_lt h.lt)
  obtain ⟨ar, cr, rfl⟩ := (hv w (Keep.refl _ _ _)).shape
  obtain ⟨W, hW⟩ : ∃ W, W = w.alloc (.cells #[.int .i64 o.kind, .int .i64 o.n, .string o.text, .slice ar o.attrs.length cr] 48) := ⟨_, rfl⟩
  have BW : Below w.heap.size w W := by rw [hW]; exact below_box _ _
  have hbox : W.heap[w.heap.size]? = some (.cells #[.int .i64 o.kind, .int .i64 o.n, .string o.text, .slice ar o.attrs.length cr] 48 (0, 0)) := by rw [hW]; exact heap_new _ _
  have HNE := Lib.hid (show ov.ownBlock ≠ some w.heap.size from fun e => by have := h.ov_lt _ e; omega)
  have HBX := Lib.hid hbox
  have HBW := Lib.hid BW
  have HS := Lib.hid (h.below BW)
  have HV := Lib.hid hv
  have HF := Lib.hid hf
  have HW := Lib.hid hW
  have HBw := Lib.hid hBw
  have hblw := h.lt
  have p3 := h.cell3.1
  have k3 := HS.out.cell3.1
  have f3 := HS.out.cell3.2
  have c0 : W.cell? ⟨w.heap.size, 0, none⟩ = some (.int .i64 o.kind) := by rw [Lib.cell_of_heap hbox]; rfl
  have c1 : W.cell? ⟨w.heap.size, 1, none⟩ = some (.int .i64 o.n) := by rw [Lib.cell_of_heap hbox]; rfl
  have c2 : W.cell? ⟨w.heap.size, 2, none⟩ = some (.string o.text) := by rw [Lib.cell_of_heap hbox]; rfl
  have c3 : W.cell? ⟨w.heap.size, 3, none⟩ = some (.slice ar o.attrs.length cr) := by rw [Lib.cell_of_heap hbox]; rfl
  by_cases hk3 : o.kind = 3
  · have t3 : (o.kind == 3) = true := by rw [hk3]; rfl
    have hR : add (l, g) o = (l, g + o.n) := by unfold add; rw [if_pos hk3]
    have hwr : IntKind.i64.wrap (g + o.n) = g + o.n := by
      have h1 := hf.g0
      have h2 := hf.g1
      have h3 := hf.o1
      have h4 := hf.ins.n0
      exact IntWalk.i64_in _ (by simp only at h1 h2; omega)
    obtain ⟨N2, K2⟩ := HS.out.setG hB (g + o.n)
    have FIN : ∃ ov', NSt (W.setCell ⟨b, 3, none⟩ (.int .i64 (g + o.n))) B b ov' (add (l, g) o).1 (add (l, g) o).2 ∧ KeepO B w (W.setCell ⟨b, 3, none⟩ (.int .i64 (g + o.n))) ov ov' := ⟨ov, by rw [hR]; exact N2, (keepO_below BW hBw _).trans K2⟩
    have HFIN := Lib.hid FIN
    clear h hf hv hW BW hbox hBw hk3 hR N2 K2 FIN
    go_enter Tryz.func57, Tryz.ntmps57
    go_wp2_with fail
    rw [← HW.out]
    go_wp2_with fail
    go_region
    go_wp2_with fail
    go_end0
    obtain ⟨ov', a1, a2⟩ := HFIN.out
    exact ⟨rfl, ov', a1, ⟨a2.keep.drew, a2.ops⟩⟩
  · have t3 : (o.kind == 3) = false := by rw [beq_eq_false_iff_ne]; exact hk3
    by_cases hk1 : o.kind = 1
    · have t1 : (o.kind == 1) = true := by rw [hk1]; rfl
      have HR := Lib.hid (show add (l, g) o = (put (flush (l, g)) o, 0) by unfold add; rw [if_neg hk3, if_pos hk1])
      clear h hf hv hW BW hbox hBw hk3 hk1 p3 k3 f3
      go_enter Tryz.func57, Tryz.ntmps57
      go_wp2_with fail
      rw [← HW.out]
      go_wp2_with fail
      refine (deleted_any B b ov l g _ HS.out hB HF.out.g0 HF.out.del).mono ?_
      rintro e wA ⟨rfl, ovA, NA, KA⟩
      have bA := (KA.ops w.heap.size _ _ HBX.out HNE.out)
      have a0 : wA.cell? ⟨w.heap.size, 0, none⟩ = some (.int .i64 o.kind) := by rw [Lib.cell_of_heap bA.1]; rfl
      have a1 : wA.cell? ⟨w.heap.size, 1, none⟩ = some (.int .i64 o.n) := by rw [Lib.cell_of_heap bA.1]; rfl
      have a2 : wA.cell? ⟨w.heap.size, 2, none⟩ = some (.string o.text) := by rw [Lib.cell_of_heap bA.1]; rfl
      have a3 : wA.cell? ⟨w.heap.size, 3, none⟩ = some (.slice ar o.attrs.length cr) := by rw [Lib.cell_of_heap bA.1]; rfl
      have KWA := Lib.hid ((keepO_below HBW.out HBw.out ov).trans KA)
      have HNA := Lib.hid NA
      have HbA := Lib.hid bA
      clear NA KA bA c0 c1 c2 c3
      go_wp2_with fail
      go_region_held3 (fun w' => w'.cell? ⟨w.heap.size, 0, none⟩ = some (.int .i64 o.kind) ∧ w'.cell? ⟨w.heap.size, 1, none⟩ = some (.int .i64 o.n) ∧ w'.cell? ⟨w.heap.size, 2, none⟩ = some (.string o.text) ∧ w'.cell? ⟨w.heap.size, 3, none⟩ = some (.slice ar o.attrs.length cr))
        (first
          | exact ⟨a0, a1, a2, a3⟩
          | exact cC)
        (first
          | (go_at_call 86; refine (put_any B b _ _ 0 o _ wA.drew (by exact HNA.out) hB HF.out.keep (fun w' hb => HV.out w' (KWA.out.keep.trans (of_drewK hb)))).mono ?_; rintro e wC ⟨rfl, ovC, NC, KC⟩; have bC := (KC.ops w.heap.size _ _ HbA.out.1 HbA.out.2).1; have cC : wC.cell? ⟨w.heap.size, 0, none⟩ = some (.int .i64 o.kind) ∧ wC.cell? ⟨w.heap.size, 1, none⟩ = some (.int .i64 o.n) ∧ wC.cell? ⟨w.heap.size, 2, none⟩ = some (.string o.text) ∧ wC.cell? ⟨w.heap.size, 3, none⟩ = some (.slice ar o.attrs.length cr) := ⟨by rw [Lib.cell_of_heap bC]; rfl, by rw [Lib.cell_of_heap bC]; rfl, by rw [Lib.cell_of_heap bC]; rfl, by rw [Lib.cell_of_heap bC]; rfl⟩))
      have FIN : ∃ ov', NSt wC B b ov' (add (l, g) o).1 (add (l, g) o).2 ∧ KeepO B w wC ov ov' := ⟨ovC, by rw [HR.out]; exact NC, KWA.out.trans (KeepO.of_drew KC)⟩
      have HFIN := Lib.hid FIN
      clear FIN NC KC bC cC
      go_wp2_with fail
      go_end0
      exact ⟨rfl, HFIN.out⟩
    · have t1 : (o.kind == 1) = false := by rw [beq_eq_false_iff_ne]; exact hk1
      have HR := Lib.hid (show add (l, g) o = (put l o, g) by unfold add; rw [if_neg hk3, if_neg hk1])
      clear h hf hv hW BW hbox hBw hk3 hk1 p3 k3 f3
      go_enter Tryz.func57, Tryz.ntmps57
      go_wp2_with fail
      rw [← HW.out]
      go_wp2_with fail
      go_region_held3 (fun w' => w'.cell? ⟨w.heap.size, 0, none⟩ = some (.int .i64 o.kind) ∧ w'.cell? ⟨w.heap.size, 1, none⟩ = some (.int .i64 o.n) ∧ w'.cell? ⟨w.heap.size, 2, none⟩ = some (.string o.text) ∧ w'.cell? ⟨w.heap.size, 3, none⟩ = some (.slice ar o.attrs.length cr))
        (first
          | exact ⟨c0, c1, c2, c3⟩
          | exact cC)
        (first
          | (go_at_call 86; refine (put_any B b _ l g o _ W.drew (by exact HS.out) hB HF.out.ins (fun w' hb => HV.out w' ((keep_below HBW.out HBw.out).trans (of_drewK hb)))).mono ?_; rintro e wC ⟨rfl, ovC, NC, KC⟩; have bC := (KC.ops w.heap.size _ _ (by exact HBX.out) HNE.out).1; have cC : wC.cell? ⟨w.heap.size, 0, none⟩ = some (.int .i64 o.kind) ∧ wC.cell? ⟨w.heap.size, 1, none⟩ = some (.int .i64 o.n) ∧ wC.cell? ⟨w.heap.size, 2, none⟩ = some (.string o.text) ∧ wC.cell? ⟨w.heap.size, 3, none⟩ = some (.slice ar o.attrs.length cr) := ⟨by rw [Lib.cell_of_heap bC]; rfl, by rw [Lib.cell_of_heap bC]; rfl, by rw [Lib.cell_of_heap bC]; rfl, by rw [Lib.cell_of_heap bC]; rfl⟩))
      have FIN : ∃ ov', NSt wC B b ov' (add (l, g) o).1 (add (l, g) o).2 ∧ KeepO B w wC ov ov' := ⟨ovC, by rw [HR.out]; exact NC, (keepO_below HBW.out HBw.out ov).trans (KeepO.of_drew KC)⟩
      have HFIN := Lib.hid FIN
      clear FIN NC KC bC cC
      go_wp2_with fail
      go_end0
      exact ⟨rfl, HFIN.out⟩

set_option maxHeartbeats 4000000 in
set_option maxRecDepth 100000 in
/-- An operation of no runes adds nothing. -/
theorem add_none (B b : Nat) (ov : Value) (s : List OpD × Int) (o : OpD) (av : Value) (w : World) (h : NSt w B b ov s.1 s.2) (hB : B ≤ b) (hv : ∃ a c, av = .slice a o.attrs.length c) (tn : (o.n == 0) = true) (_tt : o.text.toList.isEmpty = true) (tt2 : (o.text.toList == []) = true) :
    Calls Tryz.prog 57 #[.pointer (some ⟨b, 0, none⟩), opAgg o av] w fun e w' => e = .returned (.tuple #[]) ∧ NSt w' B b ov s.1 s.2 ∧ KeepO B w w' ov ov := by
  have hBw : B ≤ w.heap.size := Nat.le_trans hB (Nat.le_of_lt h.lt)
  obtain ⟨ar, cr, rfl⟩ := hv
  have HB := Lib.hid (below_box w (.cells #[.int .i64 o.kind, .int .i64 o.n, .string o.text, .slice ar o.attrs.length cr] 48))
  have HS := Lib.hid h
  clear h
  go_enter Tryz.func57, Tryz.ntmps57
  go_wp2_with fail
  refine bodyPost_ret (results_none rfl _ _ _) rfl ?_
  exact ⟨rfl, HS.out.below HB.out, keepO_below HB.out hBw _⟩
def addG (s : List OpD × Int) (o : OpD) : List OpD × Int := if o.n = 0 ∧ o.text.size = 0 then s else add s o
def AddGOut (w : World) (B b : Nat) (ov : Value) (s : List OpD × Int) (o : OpD) (e : Ending) (w' : World) : Prop := e = .returned (.tuple #[]) ∧ ∃ ov', NSt w' B b ov' (addG s o).1 (addG s o).2 ∧ KeepO B w w' ov ov'
theorem addG_any (B b : Nat) (ov : Value) (s : List OpD × Int) (o : OpD) (av : Value) (w : World) (h : NSt w B b ov s.1 s.2) (hB : B ≤ b) (hf : FitsS s o) (hv : ∀ w', Keep B TS w w' → AtRow w' av o.attrs) :
    Calls Tryz.prog 57 #[.pointer (some ⟨b, 0, none⟩), opAgg o av] w (AddGOut w B b ov s o) := by
  unfold AddGOut addG
  by_cases hn : o.n = 0
  · have tn : (o.n == 0) = true := by rw [hn]; rfl
    by_cases ht : o.text.size = 0
    · rw [if_pos ⟨hn, ht⟩]
      have := text_empty ht
      exact (add_none B b ov s o av w h hB (hv w (Keep.refl _ _ _)).shape tn this.1 (by rw [this.2]; rfl)).mono fun e w' ⟨h1, h2, h3⟩ => ⟨h1, ov, h2, h3⟩
    · rw [if_neg fun h => ht h.2]
      have := text_full ht
      exact add_t B b ov s o av w h hB hf hv tn this (by cases hx : o.text.toList with | nil => rw [hx] at this; cases this | cons _ _ => rfl)
  · rw [if_neg fun h => hn h.1]
    exact add_n B b ov s o av w h hB hf hv (by rw [beq_eq_false_iff_ne]; exact hn)
end Go.Proofs.YtadookafnfnaoaaGreatDoor
/- How large the normal form's parts are on the way. -/
namespace Go.Proofs.YtadookafnfnaoaaGreatDoor
open Go.RowKit Ch Rn

structure VOp (o : OpD) : Prop where
  n0 : 0 ≤ o.n
  n1 : o.n ≤ 20000
  text : o.text.size ≤ 80000
  kind : o.kind = 1 ∨ o.kind = 2 ∨ o.kind = 3
  attrs : SmallA o.attrs
theorem small_chg {l : List (ByteArray × ByteArray)} (h : chgE l = 0) : SmallA l := by
  unfold chgE at h
  split at h
  · rename_i hb
    obtain ⟨h1, h2⟩ := of_decide_eq_true hb
    refine ⟨by omega, fun x hx => ?_⟩
    obtain ⟨i, hi, rfl⟩ := List.getElem_of_mem hx
    have h3 := h2 i hi
    unfold chgOne at h3
    rw [Bool.and_eq_true, Bool.and_eq_true] at h3
    have hk := h3.1.1
    have hv := h3.1.2
    unfold keyB at hk
    unfold valB at hv
    simp only [decide_eq_true_eq] at hk hv
    omega
  · omega
theorem small_rgt {l : List (ByteArray × ByteArray)} (h : rgtE l = 0) : SmallA l := by
  unfold rgtE at h
  split at h
  · rename_i hb
    obtain ⟨h1, h2⟩ := of_decide_eq_true hb
    refine ⟨by omega, fun x hx => ?_⟩
    obtain ⟨i, hi, rfl⟩ := List.getElem_of_mem hx
    have h3 := h2 i hi
    unfold rgtOne at h3
    rw [Bool.and_eq_true, Bool.and_eq_true] at h3
    have hk := h3.1.1
    have hv := h3.1.2
    unfold keyB at hk
    unfold valNE valB at hv
    simp only [Bool.and_eq_true, decide_eq_true_eq] at hk hv
    omega
  · omega
theorem text_lim {s : ByteArray} (h : er s.data.toList = 0) : s.size ≤ 80000 := by
  cases hr : rd s.data.toList with
  | none => rw [er_none hr] at h; omega
  | some cs =>
    rw [rd_T hr, T_size]
    have h1 := (rd_some hr).2.2
    have h2 := (txt_len cs).2
    omega
theorem n_le_kd {ops : List OpD} (h : allE ops) : ∀ o ∈ ops, o.kind ≠ 2 → o.n ≤ kd ops := by
  induction ops with
  | nil => intro o ho; cases ho
  | cons x r ih =>
    intro o ho hk
    have hr : allE r := fun y hy => h y (List.mem_cons_of_mem _ hy)
    have h0 := kd_nonneg hr
    rw [kd]
    rcases List.mem_cons.1 ho with rfl | ho
    · rw [if_neg hk]; omega
    · have := ih hr o ho hk
      split
      · omega
      · have := opE_n (h x (List.mem_cons_self ..)) (by assumption); omega
theorem vop_of {f : Int} {ops : List OpD} (h : OkC f ops) {o : OpD} (ho : o ∈ ops) : VOp o := by
  obtain ⟨h1, h2, _, h4, h5, _⟩ := h
  have he := h4 o ho
  rcases opE_kind he with k | k | k
  · obtain ⟨a, b, c⟩ := (opE_keep k).1 he
    have := n_le_kd h4 o ho (by omega)
    exact ⟨by omega, by omega, by omega, .inl k, small_chg c⟩
  · obtain ⟨a, b, c, d⟩ := (opE_put k).1 he
    exact ⟨by omega, by omega, text_lim c, .inr (.inl k), small_rgt d⟩
  · obtain ⟨a, b, c⟩ := (opE_cut k).1 he
    have := n_le_kd h4 o ho (by omega)
    refine ⟨by omega, by omega, by omega, .inr (.inr k), ?_⟩
    rw [List.length_eq_zero_iff.1 c]
    exact ⟨by simp, fun x hx => by cases hx⟩

def InB (a : Int) (c : Nat) (l : List OpD) : Prop := ∀ x ∈ l, 0 ≤ x.n ∧ x.n ≤ a ∧ x.text.size ≤ c
theorem put_in {a a' : Int} {c c' : Nat} {l : List OpD} {o : OpD} (hl : InB a c l) (h0 : 0 ≤ o.n) (h1 : o.n ≤ a') (h2 : o.text.size ≤ c') (ha : 0 ≤ a) : InB (a + a') (c + c') (put l o) := by
  cases l with
  | nil =>
    intro y hy
    simp only [put, List.mem_singleton] at hy
    subst hy
    omega
  | cons x r =>
    have hx := hl x (List.mem_cons_self ..)
    rw [put]
    split
    · intro y hy
      rcases List.mem_cons.1 hy with rfl | hy
      · refine ⟨by show 0 ≤ x.n + o.n; omega, by show x.n + o.n ≤ _; omega, ?_⟩
        show (cat x.text o.text).size ≤ _
        rw [cat_size]
        omega
      · have := hl y (List.mem_cons_of_mem _ hy); omega
    · intro y hy
      rcases List.mem_cons.1 hy with rfl | hy
      · omega
      · have := hl y hy; omega
/-- How large a state is behind k operations. -/
structure Lim (k : Nat) (s : List OpD × Int) : Prop where
  ops : InB (20000 * k) (80000 * k) s.1
  g0 : 0 ≤ s.2
  g1 : s.2 ≤ 20000 * k
  siz : siz s ≤ k
theorem flush_in {k : Nat} {s : List OpD × Int} (h : Lim k s) (hs : St s) : InB (20000 * k) (80000 * k) (flush s) := by
  unfold flush
  split
  · rw [put_fresh fun x r e h3 => hs.2 x r e h3.1]
    intro y hy
    rcases List.mem_cons.1 hy with rfl | hy
    · refine ⟨h.g0, h.g1, ?_⟩
      show (0 : Nat) ≤ _
      omega
    · exact h.ops y hy
  · exact h.ops
theorem lim_add {k : Nat} {s : List OpD × Int} {o : OpD} (h : Lim k s) (hs : St s) (ho : VOp o) : Lim (k + 1) (Ch.add s o) := by
  have hz := Nat.le_trans (siz_add s o) (Nat.add_le_add_right h.siz 1)
  have hg0 := h.g0
  have hg1 := h.g1
  have e1 : (20000 : Int) * ((k + 1 : Nat) : Int) = 20000 * k + 20000 := by omega
  have e2 : 80000 * (k + 1) = 80000 * k + 80000 := by omega
  have hk : (0 : Int) ≤ 20000 * (k : Int) := by omega
  have n0 := ho.n0
  have n1 := ho.n1
  by_cases h3 : o.kind = 3
  · have e : Ch.add s o = (s.1, s.2 + o.n) := by unfold Ch.add; rw [if_pos h3]
    rw [e] at hz ⊢
    refine ⟨fun x hx => ?_, by show 0 ≤ s.2 + o.n; omega, by show s.2 + o.n ≤ _; omega, hz⟩
    have := h.ops x hx
    rw [e1, e2]; omega
  · by_cases h1 : o.kind = 1
    · have e : Ch.add s o = (put (flush s) o, 0) := by unfold Ch.add; rw [if_neg h3, if_pos h1]
      rw [e] at hz ⊢
      refine ⟨?_, Int.le_refl _, by show (0 : Int) ≤ _; omega, hz⟩
      rw [e1, e2]
      exact put_in (flush_in h hs) n0 n1 ho.text hk
    · have e : Ch.add s o = (put s.1 o, s.2) := by unfold Ch.add; rw [if_neg h3, if_neg h1]
      rw [e] at hz ⊢
      refine ⟨?_, hg0, by show s.2 ≤ _; omega, hz⟩
      rw [e1, e2]
      exact put_in h.ops n0 n1 ho.text hk
theorem small_nil : SmallA [] := ⟨by simp, fun x hx => by cases hx⟩
/-- Behind k operations of a right changeset. -/
theorem lim_fold {f : Int} {ops : List OpD} (h : OkC f ops) (k : Nat) (hk : k ≤ ops.length) : Lim k (fold (ops.take k)) ∧ St (fold (ops.take k)) := by
  induction k with
  | zero => exact ⟨⟨(fun x hx => by cases hx), Int.le_refl _, Int.le_refl _, Nat.le_refl _⟩, trivial, (fun x r e => by cases e)⟩
  | succ k ih =>
    obtain ⟨h1, h2⟩ := ih (by omega)
    have hlt : k < ops.length := by omega
    rw [List.take_succ_eq_append_getElem hlt, fold_snoc]
    have hv := vop_of h (List.getElem_mem hlt)
    exact ⟨lim_add h1 h2 hv, h2.add hv.kind⟩
end Go.Proofs.YtadookafnfnaoaaGreatDoor
