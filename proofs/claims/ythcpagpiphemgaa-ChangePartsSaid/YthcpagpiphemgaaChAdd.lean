/- The program's deleted and add. -/
import Derived.Test.YthcpagpiphemgaaChPut2
import Derived.Test.YthcpagpiphemgaaChPut3
namespace Go.Proofs.Ythcpagpiphemgaa
open Go.RowKit Ch

theorem put_any (B b : Nat) (ov : Value) (l : List OpD) (g : Int) (o : OpD) (av : Value) (w : World) (h : NSt w B b ov l g) (hB : B ≤ b) (hf : Fits l o) (hv : ∀ w', Below B w w' → AtRow w' av o.attrs) :
    Calls Try.prog 52 #[.pointer (some ⟨b, 0, none⟩), opAgg o av] w (PutOut w B b ov l o g) := by
  cases l with
  | nil => exact put_empty B b ov [] g o av w h hB hf hv rfl
  | cons x r =>
    by_cases hal : x.kind = o.kind ∧ x.attrs = o.attrs
    · exact put_alike B b ov (x :: r) g o av w h hB hf hv x r rfl hal
    · exact put_other B b ov (x :: r) g o av w h hB hf hv x r rfl hal

theorem NSt.cell3 {w : World} {B b : Nat} {ov : Value} {l : List OpD} {g : Int} (h : NSt w B b ov l g) : w.cell? ⟨b, 3, none⟩ = some (.int .i64 g) ∧ w.frozen? ⟨b, 3, none⟩ = false := by
  obtain ⟨_, _, _, _, hN, _⟩ := h
  exact ⟨hN.cells.2.2.2.1, hN.cells.2.2.2.2 3⟩
theorem NSt.setG {w : World} {B b : Nat} {ov : Value} {l : List OpD} {g : Int} (h : NSt w B b ov l g) (hB : B ≤ b) (k : Int) : NSt (w.setCell ⟨b, 3, none⟩ (.int .i64 k)) B b ov l k ∧ KeepO B w (w.setCell ⟨b, 3, none⟩ (.int .i64 k)) ov ov := by
  obtain ⟨ps, ad, bv, bt, h1, h2, h3, h4, h5⟩ := h
  have hk : Keep B [60] w (w.setCell ⟨b, 3, none⟩ (.int .i64 k)) := keep_set h1 (by simp) hB _ rfl _
  exact ⟨⟨ps, ad, bv, bt, h1.set3, h2, h3.keep hk (by decide) (by decide), ⟨hk.own h4.1 (by decide), h4.2⟩, h5⟩, keepO_of hk (by simp) (by decide) _⟩
theorem NSt.drew {w : World} {B b : Nat} {ov : Value} {l : List OpD} {g : Int} (h : NSt w B b ov l g) : NSt w.drew B b ov l g := h
theorem KeepO.of_drew {B : Nat} {a w : World} {u v : Value} (h : KeepO B a.drew w u v) : KeepO B a w u v := ⟨of_drewK h.keep, h.ops⟩

def DelOut (w : World) (B b : Nat) (ov : Value) (l : List OpD) (g : Int) (e : Ending) (w' : World) : Prop := e = .returned (.tuple #[]) ∧ ∃ ov', NSt w' B b ov' (flush (l, g)) 0 ∧ KeepO B w w' ov ov'

set_option maxHeartbeats 2000000 in
set_option maxRecDepth 100000 in
theorem deleted_any (B b : Nat) (ov : Value) (l : List OpD) (g : Int) (w : World) (h : NSt w B b ov l g) (hB : B ≤ b) (hg : 0 ≤ g) (hf : Fits l (delO g)) :
    Calls Try.prog 51 #[.pointer (some ⟨b, 0, none⟩)] w (DelOut w B b ov l g) := by
  have c3 := h.cell3.1
  have HS := Lib.hid h
  have HF := Lib.hid hf
  have hBw := Lib.hid (show B ≤ w.heap.size from Nat.le_trans hB (Nat.le_of_lt h.lt))
  by_cases hp : 0 < g
  · have hfl : flush (l, g) = put l (delO g) := by unfold flush; rw [if_pos (by exact hp)]
    have HP := Lib.hid (fun W (hW : NSt W B b ov l g) => put_any B b ov l g (delO g) (.slice none 0 0) W hW hB hf (fun w' _ => ⟨none, 0, rfl, Nat.le_refl _, Nat.zero_le _, fun i hi => absurd hi (Nat.not_lt_zero _)⟩))
    have HFL := Lib.hid hfl
    clear h hf hfl
    go_enter Try.func51, Try.ntmps51
    go_wp2_with fail
    go_region_held3 (fun w' => w'.cell? ⟨b, 3, none⟩ = some (.int .i64 g))
      (first
        | exact c3
        | exact c3A)
      (first
        | (go_at_call 52; refine (HP.out _ (by exact HS.out)).mono ?_; rintro e wA ⟨rfl, ovA, NA, KA⟩; have c3A := NA.cell3.1))
    obtain ⟨N2, K2⟩ := NA.setG hB 0
    have f3 := NA.cell3.2
    have FIN : ∃ ov', NSt (wA.setCell ⟨b, 3, none⟩ (.int .i64 0)) B b ov' (flush (l, g)) 0 ∧ KeepO B w (wA.setCell ⟨b, 3, none⟩ (.int .i64 0)) ov ov' := ⟨ovA, by rw [HFL.out]; exact N2, (KeepO.of_drew KA).trans K2⟩
    have HFIN := Lib.hid FIN
    clear N2 K2 FIN KA NA
    go_wp2_with fail
    go_end0
    exact ⟨rfl, HFIN.out⟩
  · have hg0 : g = 0 := by omega
    subst hg0
    have hfl : flush (l, 0) = l := by unfold flush; rw [if_neg (by show ¬ (0 : Int) < 0; omega)]
    have FIN : ∃ ov', NSt w B b ov' (flush (l, 0)) 0 ∧ KeepO B w w ov ov' := ⟨ov, by rw [hfl]; exact h, keepO_below (Below.refl _ _) hBw.out _⟩
    have HFIN := Lib.hid FIN
    clear h hf hfl FIN hp hg
    go_enter Try.func51, Try.ntmps51
    go_wp2_with fail
    go_end0
    exact ⟨rfl, HFIN.out⟩

/-- What an add asks of the state and of the operation. -/
structure FitsS (s : List OpD × Int) (o : OpD) : Prop where
  g0 : 0 ≤ s.2
  g1 : s.2 ≤ 536870912
  del : Fits s.1 (delO s.2)
  ins : Fits s.1 o
  keep : Fits (flush s) o
  o1 : o.n ≤ 536870912
def AddOut (w : World) (B b : Nat) (ov : Value) (s : List OpD × Int) (o : OpD) (e : Ending) (w' : World) : Prop := e = .returned (.tuple #[]) ∧ ∃ ov', NSt w' B b ov' (Ch.add s o).1 (Ch.add s o).2 ∧ KeepO B w w' ov ov'

set_option maxHeartbeats 4000000 in
set_option maxRecDepth 100000 in
theorem add_any (B b : Nat) (ov : Value) (s : List OpD × Int) (o : OpD) (av : Value) (w : World) (h : NSt w B b ov s.1 s.2) (hB : B ≤ b) (hf : FitsS s o) (hv : ∀ w', Below B w w' → AtRow w' av o.attrs) :
    Calls Try.prog 35 #[.pointer (some ⟨b, 0, none⟩), opAgg o av] w (AddOut w B b ov s o) := by
  obtain ⟨l, g⟩ := s
  have hBw : B ≤ w.heap.size := Nat.le_trans hB (Nat.le_of_lt h.lt)
  obtain ⟨ar, cr, rfl⟩ := (hv w (Below.refl _ _)).shape
  obtain ⟨W, hW⟩ : ∃ W, W = w.alloc (.cells #[.int .i64 o.kind, .int .i64 o.n, .string o.text, .slice ar o.attrs.length cr] 40) := ⟨_, rfl⟩
  have BW : Below w.heap.size w W := by rw [hW]; exact below_box _ _
  have hbox : W.heap[w.heap.size]? = some (.cells #[.int .i64 o.kind, .int .i64 o.n, .string o.text, .slice ar o.attrs.length cr] 40 (0, 0)) := by rw [hW]; exact heap_new _ _
  have HNE := Lib.hid (show ov.ownBlock ≠ some w.heap.size from fun e => by have := h.ov_lt _ e; omega)
  have HBX := Lib.hid hbox
  have HBW := Lib.hid BW
  have HS := Lib.hid (h.below BW)
  have HV := Lib.hid hv
  have HF := Lib.hid hf
  have HW := Lib.hid hW
  have HBw := Lib.hid hBw
  have hblw := h.lt
  have p3 := h.cell3.1
  have k3 := HS.out.cell3.1
  have f3 := HS.out.cell3.2
  have c0 : W.cell? ⟨w.heap.size, 0, none⟩ = some (.int .i64 o.kind) := by rw [Lib.cell_of_heap hbox]; rfl
  have c1 : W.cell? ⟨w.heap.size, 1, none⟩ = some (.int .i64 o.n) := by rw [Lib.cell_of_heap hbox]; rfl
  have c2 : W.cell? ⟨w.heap.size, 2, none⟩ = some (.string o.text) := by rw [Lib.cell_of_heap hbox]; rfl
  have c3 : W.cell? ⟨w.heap.size, 3, none⟩ = some (.slice ar o.attrs.length cr) := by rw [Lib.cell_of_heap hbox]; rfl
  by_cases hk3 : o.kind = 3
  · have t3 : (o.kind == 3) = true := by rw [hk3]; rfl
    have hR : add (l, g) o = (l, g + o.n) := by unfold add; rw [if_pos hk3]
    have hwr : IntKind.i64.wrap (g + o.n) = g + o.n := by
      have h1 := hf.g0
      have h2 := hf.g1
      have h3 := hf.o1
      have h4 := hf.ins.n0
      exact IntWalk.i64_in _ (by simp only at h1 h2; omega)
    obtain ⟨N2, K2⟩ := HS.out.setG hB (g + o.n)
    have FIN : ∃ ov', NSt (W.setCell ⟨b, 3, none⟩ (.int .i64 (g + o.n))) B b ov' (add (l, g) o).1 (add (l, g) o).2 ∧ KeepO B w (W.setCell ⟨b, 3, none⟩ (.int .i64 (g + o.n))) ov ov' := ⟨ov, by rw [hR]; exact N2, (keepO_below BW hBw _).trans K2⟩
    have HFIN := Lib.hid FIN
    clear h hf hv hW BW hbox hBw hk3 hR N2 K2 FIN
    go_enter Try.func35, Try.ntmps35
    go_wp2_with fail
    rw [← HW.out]
    go_wp2_with fail
    go_region
    go_wp2_with fail
    go_end0
    obtain ⟨ov', a1, a2⟩ := HFIN.out
    exact ⟨rfl, ov', a1, ⟨a2.keep.drew, a2.ops⟩⟩
  · have t3 : (o.kind == 3) = false := by rw [beq_eq_false_iff_ne]; exact hk3
    by_cases hk1 : o.kind = 1
    · have t1 : (o.kind == 1) = true := by rw [hk1]; rfl
      have HR := Lib.hid (show add (l, g) o = (put (flush (l, g)) o, 0) by unfold add; rw [if_neg hk3, if_pos hk1])
      clear h hf hv hW BW hbox hBw hk3 hk1 p3 k3 f3
      go_enter Try.func35, Try.ntmps35
      go_wp2_with fail
      rw [← HW.out]
      go_wp2_with fail
      refine (deleted_any B b ov l g _ HS.out hB HF.out.g0 HF.out.del).mono ?_
      rintro e wA ⟨rfl, ovA, NA, KA⟩
      have bA := (KA.ops w.heap.size _ _ HBX.out HNE.out)
      have a0 : wA.cell? ⟨w.heap.size, 0, none⟩ = some (.int .i64 o.kind) := by rw [Lib.cell_of_heap bA.1]; rfl
      have a1 : wA.cell? ⟨w.heap.size, 1, none⟩ = some (.int .i64 o.n) := by rw [Lib.cell_of_heap bA.1]; rfl
      have a2 : wA.cell? ⟨w.heap.size, 2, none⟩ = some (.string o.text) := by rw [Lib.cell_of_heap bA.1]; rfl
      have a3 : wA.cell? ⟨w.heap.size, 3, none⟩ = some (.slice ar o.attrs.length cr) := by rw [Lib.cell_of_heap bA.1]; rfl
      have KWA := Lib.hid ((keepO_below HBW.out HBw.out ov).trans KA)
      have HNA := Lib.hid NA
      have HbA := Lib.hid bA
      clear NA KA bA c0 c1 c2 c3
      go_wp2_with fail
      go_region_held3 (fun w' => w'.cell? ⟨w.heap.size, 0, none⟩ = some (.int .i64 o.kind) ∧ w'.cell? ⟨w.heap.size, 1, none⟩ = some (.int .i64 o.n) ∧ w'.cell? ⟨w.heap.size, 2, none⟩ = some (.string o.text) ∧ w'.cell? ⟨w.heap.size, 3, none⟩ = some (.slice ar o.attrs.length cr))
        (first
          | exact ⟨a0, a1, a2, a3⟩
          | exact cC)
        (first
          | (go_at_call 52; refine (put_any B b _ _ 0 o _ wA.drew (by exact HNA.out) hB HF.out.keep (fun w' hb => HV.out w' (KWA.out.keep.below.trans ⟨hb.os, hb.tape, hb.output, hb.size, hb.block⟩))).mono ?_; rintro e wC ⟨rfl, ovC, NC, KC⟩; have bC := (KC.ops w.heap.size _ _ HbA.out.1 HbA.out.2).1; have cC : wC.cell? ⟨w.heap.size, 0, none⟩ = some (.int .i64 o.kind) ∧ wC.cell? ⟨w.heap.size, 1, none⟩ = some (.int .i64 o.n) ∧ wC.cell? ⟨w.heap.size, 2, none⟩ = some (.string o.text) ∧ wC.cell? ⟨w.heap.size, 3, none⟩ = some (.slice ar o.attrs.length cr) := ⟨by rw [Lib.cell_of_heap bC]; rfl, by rw [Lib.cell_of_heap bC]; rfl, by rw [Lib.cell_of_heap bC]; rfl, by rw [Lib.cell_of_heap bC]; rfl⟩))
      have FIN : ∃ ov', NSt wC B b ov' (add (l, g) o).1 (add (l, g) o).2 ∧ KeepO B w wC ov ov' := ⟨ovC, by rw [HR.out]; exact NC, KWA.out.trans (KeepO.of_drew KC)⟩
      have HFIN := Lib.hid FIN
      clear FIN NC KC bC cC
      go_wp2_with fail
      go_end0
      exact ⟨rfl, HFIN.out⟩
    · have t1 : (o.kind == 1) = false := by rw [beq_eq_false_iff_ne]; exact hk1
      have HR := Lib.hid (show add (l, g) o = (put l o, g) by unfold add; rw [if_neg hk3, if_neg hk1])
      clear h hf hv hW BW hbox hBw hk3 hk1 p3 k3 f3
      go_enter Try.func35, Try.ntmps35
      go_wp2_with fail
      rw [← HW.out]
      go_wp2_with fail
      go_region_held3 (fun w' => w'.cell? ⟨w.heap.size, 0, none⟩ = some (.int .i64 o.kind) ∧ w'.cell? ⟨w.heap.size, 1, none⟩ = some (.int .i64 o.n) ∧ w'.cell? ⟨w.heap.size, 2, none⟩ = some (.string o.text) ∧ w'.cell? ⟨w.heap.size, 3, none⟩ = some (.slice ar o.attrs.length cr))
        (first
          | exact ⟨c0, c1, c2, c3⟩
          | exact cC)
        (first
          | (go_at_call 52; refine (put_any B b _ l g o _ W.drew (by exact HS.out) hB HF.out.ins (fun w' hb => HV.out w' ((HBW.out.mono HBw.out).trans ⟨hb.os, hb.tape, hb.output, hb.size, hb.block⟩))).mono ?_; rintro e wC ⟨rfl, ovC, NC, KC⟩; have bC := (KC.ops w.heap.size _ _ (by exact HBX.out) HNE.out).1; have cC : wC.cell? ⟨w.heap.size, 0, none⟩ = some (.int .i64 o.kind) ∧ wC.cell? ⟨w.heap.size, 1, none⟩ = some (.int .i64 o.n) ∧ wC.cell? ⟨w.heap.size, 2, none⟩ = some (.string o.text) ∧ wC.cell? ⟨w.heap.size, 3, none⟩ = some (.slice ar o.attrs.length cr) := ⟨by rw [Lib.cell_of_heap bC]; rfl, by rw [Lib.cell_of_heap bC]; rfl, by rw [Lib.cell_of_heap bC]; rfl, by rw [Lib.cell_of_heap bC]; rfl⟩))
      have FIN : ∃ ov', NSt wC B b ov' (add (l, g) o).1 (add (l, g) o).2 ∧ KeepO B w wC ov ov' := ⟨ovC, by rw [HR.out]; exact NC, (keepO_below HBW.out HBw.out ov).trans (KeepO.of_drew KC)⟩
      have HFIN := Lib.hid FIN
      clear FIN NC KC bC cC
      go_wp2_with fail
      go_end0
      exact ⟨rfl, HFIN.out⟩
end Go.Proofs.Ythcpagpiphemgaa
