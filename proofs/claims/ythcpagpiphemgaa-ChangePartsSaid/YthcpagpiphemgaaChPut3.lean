/- put as one with the last -/
import Derived.Test.YthcpagpiphemgaaChPut
import Derived.BigRegion
namespace Go.Proofs.Ythcpagpiphemgaa
open Go.RowKit Ch

set_option maxHeartbeats 4000000 in
set_option maxRecDepth 100000 in
theorem put_alike (B b : Nat) (ov : Value) (l : List OpD) (g : Int) (o : OpD) (av : Value) (w : World) (h : NSt w B b ov l g) (hB : B ≤ b) (hf : Fits l o) (hv : ∀ w', Below B w w' → AtRow w' av o.attrs) (x : OpD) (r : List OpD) (hl : l = x :: r) (hal : x.kind = o.kind ∧ x.attrs = o.attrs) :
    Calls Try.prog 52 #[.pointer (some ⟨b, 0, none⟩), opAgg o av] w (PutOut w B b ov l o g) := by
  have hBw : B ≤ w.heap.size := Nat.le_trans hB (Nat.le_of_lt h.lt)
  obtain ⟨ar, cr, rfl⟩ := (hv w (Below.refl _ _)).shape
  obtain ⟨W, hW⟩ : ∃ W, W = w.alloc (.cells #[.int .i64 o.kind, .int .i64 o.n, .string o.text, .slice ar o.attrs.length cr] 40) := ⟨_, rfl⟩
  have BW : Below w.heap.size w W := by rw [hW]; exact below_box _ _
  have HBW := Lib.hid BW
  have hbox : W.heap[w.heap.size]? = some (.cells #[.int .i64 o.kind, .int .i64 o.n, .string o.text, .slice ar o.attrs.length cr] 40 (0, 0)) := by rw [hW]; exact heap_new _ _
  have HBX := Lib.hid hbox
  have HNE := Lib.hid (show ov.ownBlock ≠ some w.heap.size from fun e => by have := h.ov_lt _ e; omega)
  have HS := Lib.hid (h.below BW)
  have HV := Lib.hid hv
  have HF := Lib.hid hf
  have HW := Lib.hid hW
  have HBw := Lib.hid hBw
  obtain ⟨ps0, ad0, bv0, bt0, hN0, hA0, hP0, hH0, hcase⟩ := h
  have hblw := lt_of_heap hN0
  obtain ⟨fr, xv, rfl, hfr, rfl⟩ : ∃ fr xv, ps0 = fr ++ [(noText x, xv)] ∧ fr.map (·.1) = r.reverse ∧ bt0 = x.text.data.toList := by
    rcases hcase with ⟨h, _⟩ | ⟨x', r', fr, xv, h, h2, h3, h4⟩
    · rw [hl] at h; cases h
    · rw [hl] at h
      simp only [List.cons.injEq] at h
      obtain ⟨rfl, rfl⟩ := h
      exact ⟨fr, xv, h2, h3, h4⟩
  subst hl
  obtain ⟨gg, cap, hov⟩ := ownsRow_open hP0.len (Nat.succ_pos _)
  subst hov
  obtain ⟨xa, xc, hxv⟩ : ∃ a c, xv = .slice a (noText x).attrs.length c := own_slice (hP0.2 (noText x, xv) (by simp))
  subst hxv
  have p0 : w.cell? ⟨b, 0, none⟩ = some (.slice (some ⟨gg, 0, none⟩) (fr.length + 1) cap) := hN0.cells.1
  have hm : fr.length ≤ 4000 := by
    have h1 := congrArg List.length hfr
    rw [List.length_map, List.length_reverse] at h1
    have := hf.len
    rw [List.length_cons] at this
    omega
  have NW : NBlk W b _ ad0 bv0 g := hN0.keep (keep_below (ts := []) BW (Nat.le_refl _)) (by simp)
  have PW := hP0.keep (keep_below (ts := []) BW (Nat.le_refl _)) (by simp) (by simp)
  have k0 : W.cell? ⟨b, 0, none⟩ = some (.slice (some ⟨gg, 0, none⟩) (fr.length + 1) cap) := NW.cells.1
  obtain ⟨q0, q1, q2, q3⟩ := last_cells PW.len
  have c0 : W.cell? ⟨w.heap.size, 0, none⟩ = some (.int .i64 o.kind) := by rw [Lib.cell_of_heap hbox]; rfl
  have c1 : W.cell? ⟨w.heap.size, 1, none⟩ = some (.int .i64 o.n) := by rw [Lib.cell_of_heap hbox]; rfl
  have c2 : W.cell? ⟨w.heap.size, 2, none⟩ = some (.string o.text) := by rw [Lib.cell_of_heap hbox]; rfl
  have c3 : W.cell? ⟨w.heap.size, 3, none⟩ = some (.slice ar o.attrs.length cr) := by rw [Lib.cell_of_heap hbox]; rfl
  have hbW : b < W.heap.size := lt_of_heap NW
  have hgW : gg < W.heap.size := by obtain ⟨_, cs, hcs⟩ := own_heap PW.len; exact lt_of_heap hcs
  have hxW : w.heap.size < W.heap.size := lt_of_heap hbox
  have i1 : (0 : Int) ≤ (fr.length : Int) := by omega
  have i2 : (fr.length : Int) < (fr.length : Int) + 1 := by omega
  have i3 : decide ((0 : Int) ≤ (fr.length : Int)) = true := decide_eq_true (by omega)
  have HPW := Lib.hid PW
  have HNW := Lib.hid NW
  have HFR := Lib.hid hfr
  have HM := Lib.hid hm
  have HA0 := Lib.hid hA0
  have HH0 := Lib.hid (show Holds8 W B bv0 x.text.data.toList from ⟨(keep_below (B := B) (ts := []) BW hBw).own hH0.1 (by simp), hH0.2⟩)
  have HAL := Lib.hid (fun W' (hb : Below W.heap.size W W') => alike_any (noText x) o (.slice xa (noText x).attrs.length xc) (.slice ar o.attrs.length cr) W' (row_of_own ((keep_below (B := B) (ts := []) hb (Nat.le_trans hBw BW.size)).own (PW.2 (noText x, .slice xa (noText x).attrs.length xc) (by simp)) (by simp))) (hv W' ((BW.mono hBw).trans (hb.mono (Nat.le_trans hBw BW.size)))))
  rw [show alikeB (noText x) o = true from decide_eq_true hal] at HAL
  have HNA := Lib.hid hal
  clear hf hv hW BW hbox hBw hN0 hA0 hP0 hH0 hcase NW PW hfr hal
  go_enter Try.func52, Try.ntmps52
  go_wp2_with fail
  rw [← HW.out]
  go_wp2_with fail
  go_region_held3 (fun w' => w'.cell? ⟨b, 0, none⟩ = some (.slice (some ⟨gg, 0, none⟩) (fr.length + 1) cap) ∧ w'.cell? ⟨gg, fr.length * 4, none⟩ = some (.int .i64 (noText x).kind) ∧ w'.cell? ⟨gg, fr.length * 4 + 1, none⟩ = some (.int .i64 (noText x).n) ∧ w'.cell? ⟨gg, fr.length * 4 + 2, none⟩ = some (.string (noText x).text) ∧ w'.cell? ⟨gg, fr.length * 4 + 3, none⟩ = some (.slice xa (noText x).attrs.length xc) ∧ w'.cell? ⟨w.heap.size, 0, none⟩ = some (.int .i64 o.kind) ∧ w'.cell? ⟨w.heap.size, 1, none⟩ = some (.int .i64 o.n) ∧ w'.cell? ⟨w.heap.size, 2, none⟩ = some (.string o.text) ∧ w'.cell? ⟨w.heap.size, 3, none⟩ = some (.slice ar o.attrs.length cr))
    (first
      | exact ⟨k0, q0, q1, q2, q3, c0, c1, c2, c3⟩
      | exact ⟨(BB.cell (by exact hbW)).trans k0, (BB.cell (by exact hgW)).trans q0, (BB.cell (by exact hgW)).trans q1, (BB.cell (by exact hgW)).trans q2, (BB.cell (by exact hgW)).trans q3, (BB.cell (by exact hxW)).trans c0, (BB.cell (by exact hxW)).trans c1, (BB.cell (by exact hxW)).trans c2, (BB.cell (by exact hxW)).trans c3⟩)
    (first
      | (go_at_call 31; refine (HAL.out _ (Below.refl _ _).drew).mono ?_; rintro e wB ⟨rfl, hbB⟩; have BB : Below W.heap.size W wB := of_drew hbB))
  have HBB := Lib.hid BB
  have HBX2 := Lib.hid ((BB.block _ hxW).trans HBX.out)
  have kB : wB.cell? ⟨b, 0, none⟩ = some (.slice (some ⟨gg, 0, none⟩) (fr.length + 1) cap) := (BB.cell (by exact hbW)).trans k0
  have qB : wB.cell? ⟨gg, fr.length * 4 + 1, none⟩ = some (.int .i64 (noText x).n) := (BB.cell (by exact hgW)).trans q1
  have cB : wB.cell? ⟨w.heap.size, 1, none⟩ = some (.int .i64 o.n) := (BB.cell (by exact hxW)).trans c1
  have PB := HPW.out.keep (keep_below (ts := []) BB (Nat.le_refl _)) (by simp) (by simp)
  have NB := HNW.out.keep (keep_below (ts := []) BB (Nat.le_refl _)) (by simp)
  have HB8 := Lib.hid (show Holds8 wB B bv0 x.text.data.toList from ⟨(keep_below (B := B) (ts := []) BB (Nat.le_trans HBw.out HBW.out.size)).own HH0.out.1 (by simp), HH0.out.2⟩)
  have fB : wB.frozen? ⟨gg, fr.length * 4 + 1, none⟩ = false := PB.len.frozenAt _
  have hwr : IntKind.i64.wrap ((noText x).n + o.n) = (noText x).n + o.n := by
    have h1 := HF.out.last x r rfl
    have h2 := HF.out.n0
    have h3 := HF.out.n1
    have h4 : (noText x).n = x.n := rfl
    exact IntWalk.i64_in _ (by omega)
  have HPB := Lib.hid PB
  have HNB := Lib.hid NB
  clear BB hbB k0 q0 q1 q2 q3 c0 c1 c2 c3 p0 PB NB
  go_wp2_with fail
  go_region
  obtain ⟨P1, K1⟩ := OwnP.setLast (y := noText { x with n := x.n + o.n, text := cat x.text o.text }) HPB.out 1 (.int .i64 ((noText x).n + o.n)) rfl rfl
  have KS : Keep B [40] wB (wB.setCell ⟨gg, fr.length * 4 + 1, none⟩ (.int .i64 ((noText x).n + o.n))) := keep_set (own_heap HPB.out.len).2.choose_spec (by simp) (own_heap HPB.out.len).1 ⟨gg, fr.length * 4 + 1, none⟩ rfl _
  have N1 := HNB.out.keep KS (by decide)
  have hgx : gg ≠ w.heap.size := fun e => HNE.out (by rw [e]; rfl)
  have b1 : (wB.setCell ⟨gg, fr.length * 4 + 1, none⟩ (.int .i64 ((noText x).n + o.n))).heap[w.heap.size]? = _ := (Below.heap_setCell _ _ _ _ (fun e => hgx e.symm)).trans HBX2.out
  have H1 : Holds8 (wB.setCell ⟨gg, fr.length * 4 + 1, none⟩ (.int .i64 ((noText x).n + o.n))) B bv0 x.text.data.toList := ⟨KS.own HB8.out.1 (by decide), HB8.out.2⟩
  have K2 : KeepO B w (wB.setCell ⟨gg, fr.length * 4 + 1, none⟩ (.int .i64 ((noText x).n + o.n))) (.slice (some ⟨gg, 0, none⟩) (fr.length + 1) cap) (.slice (some ⟨gg, 0, none⟩) (fr.length + 1) cap) := (keepO_below (HBW.out.trans (HBB.out.mono HBW.out.size)) HBw.out _).trans K1
  obtain ⟨wS, hwS⟩ : ∃ wS, wS = wB.setCell ⟨gg, fr.length * 4 + 1, none⟩ (.int .i64 ((noText x).n + o.n)) := ⟨_, rfl⟩
  rw [← hwS] at P1 N1 b1 H1 K2 ⊢
  have HP1 := Lib.hid P1
  have HN1 := Lib.hid N1
  have HH1 := Lib.hid H1
  have HK2 := Lib.hid K2
  have HB1 := Lib.hid b1
  have c2 : wS.cell? ⟨w.heap.size, 2, none⟩ = some (.string o.text) := by rw [Lib.cell_of_heap b1]; rfl
  clear P1 N1 H1 K2 KS K1 b1 hwS hgx kB qB cB fB hwr
  go_wp2_with fail
  go_region_held3 (fun w' => w'.cell? ⟨w.heap.size, 2, none⟩ = some (.string o.text))
    (first
      | exact c2
      | exact cE)
    (first
      | (go_at_call 63; refine (writeString_any B b _ ad0 bv0 g x.text.data.toList o.text _ (by exact HN1.out) HA0.out hB (by exact HH1.out) (by have h1 := HF.out.text; have h2 := (HF.out.last x r rfl).2.2; have h3 : x.text.data.toList.length = x.text.size := rfl; omega)).mono ?_; rintro e wE ⟨⟨nE, rfl⟩, ⟨bE, NE, HE⟩, KE⟩; have kbE := KE.kept (w := wS.drew.drew) _ _ _ _ HB1.out (by decide); have cE : wE.cell? ⟨w.heap.size, 2, none⟩ = some (.string o.text) := by rw [Lib.cell_of_heap kbE]; rfl))
  have KE2 : Keep B [60, 5] wS wE := of_drewK (of_drewK KE)
  have OE := HP1.out.keep KE2 (by decide) (by decide)
  have FIN : ∃ ov', NSt wE B b ov' (put (x :: r) o) g ∧ KeepO B w wE (.slice (some ⟨gg, 0, none⟩) (fr.length + 1) cap) ov' := by
    rw [show put (x :: r) o = { x with n := x.n + o.n, text := cat x.text o.text } :: r by rw [put, if_pos HNA.out]]
    exact ⟨_, ⟨_, _, _, _, NE, .inr rfl, OE, HE, .inr ⟨{ x with n := x.n + o.n, text := cat x.text o.text }, r, fr, _, rfl, rfl, HFR.out, rfl⟩⟩, HK2.out.trans (keepO_of KE2 (by simp) (by decide) _)⟩
  have HFIN := Lib.hid FIN
  clear FIN OE KE2 KE kbE cE NE HE c2
  go_wp2_with fail
  go_end0
  exact ⟨rfl, HFIN.out⟩
end Go.Proofs.Ythcpagpiphemgaa
