import Derived.Test.YtchceolbbkhnnaaGM1
namespace Go.Proofs.Ytchceolbbkhnnaa
open Go.RowKit Rn Ch At
open Lib (hid)
set_option maxRecDepth 100000 in
set_option maxHeartbeats 40000000 in
theorem take5_first (B rb : Nat) (gA gB : Option Nat) (A C : List QV5) (ab : Nat) (al : OpD → OpD → Int) (w : World) (h : Rows5 w B rb gA gB A C (aloneV ab))
 (hal : ∀ W, Rest5 rb gA gB w W → ∀ x y : QV5, Calls Try.prog 48 #[op5 x, op5 y, .pointer (some ⟨ab, 0, none⟩)] W fun e w' => e = .returned (.int .i64 (al x.1 y.1)) ∧ Below W.heap.size W w')
 (c1 : al (nxt5 A).1 (nxt5 C).1 = 1) :
 Calls Try.prog 72 #[.pointer (some ⟨rb, 0, none⟩)] w fun e w' =>
  e = .returned (.tuple #[op5 (stepM al A C).1.1, op5 (stepM al A C).1.2]) ∧ Rows5 w' B rb gA gB (stepM al A C).2.1 (stepM al A C).2.2 (aloneV ab) ∧ Rest5 rb gA gB w w' ∧ Below B w w' := by
 have HROWS := hid h; obtain ⟨⟨rc, vA, vC, hrb, hvA, hvC, hva, hA, hC⟩, hra, hrc, hsep, ⟨hB, hBA, hBC⟩, hoA, hoC⟩ := h; have hlt := lt_of_heap hrb; obtain ⟨W, hW⟩ : ∃ W, W = (w.alloc (.cells #[.int .i64 0, .int .i64 0, .string ⟨#[]⟩, .slice none 0 0, .int .i64 0] 86)).alloc (.cells #[.int .i64 0, .int .i64 0, .string ⟨#[]⟩, .slice none 0 0, .int .i64 0] 86) := ⟨_, rfl⟩; have bW : Below w.heap.size w W := by rw [hW]; exact ((Below.refl _ w).alloc (Nat.le_refl _) _).alloc (by simp) _
 have kc : ∀ (X : World) (p : Nat) (v : Value), Below w.heap.size w X → rc[p]? = some v → X.cell? ⟨rb, p, none⟩ = some v := fun X p v hb hv => by
  have := (hb.block _ hlt).trans hrb; simp [World.cell?, this, hv]
 have HTA := hid (fun X (hb : Below w.heap.size w X) (m : Nat) (hm : (m : Int) ≤ szO (nxt5 A).1) => rowTake_any B rb 0 gA vA rc A m X ((hb.block _ hlt).trans hrb) hvA (hA.below hb) (hra.below hlt hb) hoA hm hB fun b e => (hBA b e).1)
 have HTC := hid (fun X (rc' : Array Value) (h1 : X.heap[rb]? = some (.cells rc' 92 (0, 0))) (h2 : ∀ j, j ≠ 0 → rc'[j]? = rc[j]?) (h3 : ∀ b, gB = some b → X.heap[b]? = w.heap[b]?) (m : Nat) (hm : (m : Int) ≤ szO (nxt5 C).1) =>
  rowTake_any B rb 6 gB vC rc' C m X h1 ((h2 6 (by omega)).trans hvC) (hC.keep fun b e o ho => (h3 b e).trans ho) (hrc.keep fun j h1' h5' => by rw [Lib.cell_of_heap h1, Lib.cell_of_heap hrb, h2 _ (by omega)]) hoC hm hB fun b e => (hBC b e).1)
 have HHAL := hid hal; have HPA := hid (show 0 ≤ szO (nxt5 A).1 by cases hAA : A with | nil => show 0 ≤ szO restQ5.1; rw [szO_rest]; decide | cons q s => exact (hoA q (by rw [hAA]; exact List.mem_cons_self ..)).sz.1); have HPC := hid (show 0 ≤ szO (nxt5 C).1 by cases hCC : C with | nil => show 0 ≤ szO restQ5.1; rw [szO_rest]; decide | cons q s => exact (hoC q (by rw [hCC]; exact List.mem_cons_self ..)).sz.1); have HRC := hid (And.intro hrb (And.intro hvA (And.intro hvC hva))); have HR5 := hid (And.intro hA (And.intro hC (And.intro hra hrc))); have HSEP := hid (And.intro hsep (And.intro hBA (And.intro hBC (And.intro hoA hoC)))); have HN1 := hid (fun X (hb : Below w.heap.size w X) => next5_any rb 0 gA vA A X (kc X 0 vA hb hvA) (hA.below hb) (hra.below hlt hb)); have HN2 := hid (fun X (hb : Below w.heap.size w X) => next5_any rb 6 gB vC C X (kc X 6 vC hb hvC) (hC.below hb) (hrc.below hlt hb))
 have BW := hid bW; have K2 := hid (show W.heap[w.heap.size]? = some (.cells #[.int .i64 0, .int .i64 0, .string ⟨#[]⟩, .slice none 0 0, .int .i64 0] 86 (0, 0)) by rw [hW]; exact (Below.heap_alloc _ _ _ (by simp)).trans (heap_new _ _)); have K3 := hid (show W.heap[w.heap.size + 1]? = some (.cells #[.int .i64 0, .int .i64 0, .string ⟨#[]⟩, .slice none 0 0, .int .i64 0] 86 (0, 0)) by
  rw [hW]; have := heap_new (w.alloc (.cells #[.int .i64 0, .int .i64 0, .string ⟨#[]⟩, .slice none 0 0, .int .i64 0] 86)) (.cells #[.int .i64 0, .int .i64 0, .string ⟨#[]⟩, .slice none 0 0, .int .i64 0] 86)
  rwa [World.size_alloc] at this)
 have HW := hid hW; clear hW bW; go_enter Try.func72, Try.ntmps72
 go_wp2_with fail
 rw [← HW.out]
 go_region_with (first
  | (go_at_call 91; refine (HN2.out _ B1.out.1).mono ?_; rintro e w2 ⟨rfl, b2⟩; have B2 := hid (And.intro (B1.out.1.trans (b2.mono B1.out.1.size)) (B1.out.2.trans (b2.mono B1.out.2.size))); have k2 := (B2.out.2.block _ (lt_of_heap K2.out)).trans K2.out; have k3 := (B2.out.2.block _ (lt_of_heap K3.out)).trans K3.out; have l2 := lt_of_heap k2; have l3 := lt_of_heap k3
     have x20 : ∀ j, j < 5 → w2.cell? ⟨w.heap.size, j, none⟩ = (#[.int .i64 0, .int .i64 0, .string ⟨#[]⟩, .slice none 0 0, .int .i64 0] : Array Value)[j]? := fun j hj => by simp [World.cell?, k2]
     have x30 : ∀ j, j < 5 → w2.cell? ⟨w.heap.size + 1, j, none⟩ = (#[.int .i64 0, .int .i64 0, .string ⟨#[]⟩, .slice none 0 0, .int .i64 0] : Array Value)[j]? := fun j hj => by simp [World.cell?, k3]
     have x21 := x20 0 (by omega); have x22 := x20 1 (by omega); have x23 := x20 2 (by omega); have x24 := x20 3 (by omega); have x25 := x20 4 (by omega); have x31 := x30 0 (by omega); have x32 := x30 1 (by omega); have x33 := x30 2 (by omega); have x34 := x30 3 (by omega); have x35 := x30 4 (by omega); simp only [List.getElem?_toArray, List.getElem?_cons_zero, List.getElem?_cons_succ] at x21 x22 x23 x24 x25 x31 x32 x33 x34 x35; have f2 : ∀ j, w2.frozen? ⟨w.heap.size, j, none⟩ = false := fun j => by simp [World.frozen?, k2]
     have f3 : ∀ j, w2.frozen? ⟨w.heap.size + 1, j, none⟩ = false := fun j => by simp [World.frozen?, k3]
     clear b2 x20 x30)
  | (go_at_call 91; refine (HN1.out _ BW.out.drew).mono ?_; rintro e w1 ⟨rfl, b1⟩; have B1 := hid (And.intro (BW.out.drew.trans (b1.mono BW.out.size)) (show Below W.heap.size W w1 from (Below.refl _ W).drew.trans b1)); clear b1))
 go_wp2_with fail
 obtain ⟨x, hx⟩ : ∃ x, x = nxt5 A := ⟨_, rfl⟩; obtain ⟨y, hy⟩ : ∃ y, y = nxt5 C := ⟨_, rfl⟩
 obtain ⟨W4, hW4, z2, z3, z4⟩ : ∃ W4, W4 = set5 (set5 w2 w.heap.size (.int .i64 x.1.kind) (.int .i64 x.1.n) (.string x.1.text) (.slice x.2.1 x.1.attrs.length x.2.2) (.int .i64 (szO x.1))) (w.heap.size + 1) (.int .i64 y.1.kind) (.int .i64 y.1.n) (.string y.1.text) (.slice y.2.1 y.1.attrs.length y.2.2) (.int .i64 (szO y.1)) ∧
  W4.heap[w.heap.size]? = some (.cells (cell5 x) 86 (0, 0)) ∧ W4.heap[w.heap.size + 1]? = some (.cells (cell5 y) 86 (0, 0)) ∧ Below w.heap.size w W4 :=
  ⟨_, rfl, (set5_other (by omega)).trans (set5_same k2), set5_same ((set5_other (by omega)).trans k3), set5_below (set5_below B2.out.1 (Nat.le_refl _)) (by omega)⟩
 unfold set5 at hW4; rw [← hx, ← hy, ← hW4]; have Z2 := hid z2; have Z3 := hid z3; have Z4 := hid z4; have HXY := hid (And.intro hx hy); have l2 := lt_of_heap z2; have l3 := lt_of_heap z3; clear hW4 hx hy B1 B2 k2 k3 x21 x22 x23 x24 x25 x31 x32 x33 x34 x35 f2 f3 HN1 HN2 K2 K3 BW HW; have HL := hid (fun (q : QV5) W => length_any5 q.1 q.2.1 q.1.attrs.length q.2.2 (szO q.1) W); have ML := fun v => meth_length v; have cx := c5 z2; have cy := c5 z3; clear z2 z3 z4
 go_region_held3 (fun w' => w'.cell? ⟨w.heap.size, 0, none⟩ = some (.int .i64 x.1.kind) ∧ w'.cell? ⟨w.heap.size, 1, none⟩ = some (.int .i64 x.1.n) ∧ w'.cell? ⟨w.heap.size, 2, none⟩ = some (.string x.1.text) ∧ w'.cell? ⟨w.heap.size, 3, none⟩ = some (.slice x.2.1 x.1.attrs.length x.2.2) ∧ w'.cell? ⟨w.heap.size, 4, none⟩ = some (.int .i64 (szO x.1)) ∧
  w'.cell? ⟨w.heap.size + 1, 0, none⟩ = some (.int .i64 y.1.kind) ∧ w'.cell? ⟨w.heap.size + 1, 1, none⟩ = some (.int .i64 y.1.n) ∧ w'.cell? ⟨w.heap.size + 1, 2, none⟩ = some (.string y.1.text) ∧ w'.cell? ⟨w.heap.size + 1, 3, none⟩ = some (.slice y.2.1 y.1.attrs.length y.2.2) ∧ w'.cell? ⟨w.heap.size + 1, 4, none⟩ = some (.int .i64 (szO y.1)))
  (first
   | exact ⟨cx.1, cx.2.1, cx.2.2.1, cx.2.2.2.1, cx.2.2.2.2, cy.1, cy.2.1, cy.2.2.1, cy.2.2.2.1, cy.2.2.2.2⟩
   | exact S5
   | exact S6)
  (first
   | (go_at_call 134; refine (HL.out y _).mono ?_; rintro e w6 ⟨rfl, b6⟩; have B6 := hid (B5.out.trans (b6.mono B5.out.size)); have cx6 := c5 ((B6.out.block _ (lt_of_heap Z2.out)).trans Z2.out); have cy6 := c5 ((B6.out.block _ (lt_of_heap Z3.out)).trans Z3.out); have S6 := And.intro cx6.1 (And.intro cx6.2.1 (And.intro cx6.2.2.1 (And.intro cx6.2.2.2.1 (And.intro cx6.2.2.2.2 cy6)))); clear b6 S5)
   | (go_at_call 134; refine (HL.out x _).mono ?_; rintro e w5 ⟨rfl, b5⟩; have B5 := hid ((Below.refl W4.heap.size W4).drew.trans b5); have cx5 := c5 ((B5.out.block _ (lt_of_heap Z2.out)).trans Z2.out); have cy5 := c5 ((B5.out.block _ (lt_of_heap Z3.out)).trans Z3.out); have S5 := And.intro cx5.1 (And.intro cx5.2.1 (And.intro cx5.2.2.1 (And.intro cx5.2.2.2.1 (And.intro cx5.2.2.2.2 cy5)))); clear b5 cx cy))
 go_wp2_with fail
 have BX6 := hid (Z4.out.trans (B6.out.mono Z4.out.size)); have v12 : w6.cell? ⟨rb, 12, none⟩ = some (aloneV ab) := by
  have := (BX6.out.block _ hlt).trans HRC.out.1; simp [World.cell?, this, HRC.out.2.2.2]
 have HCALL := hid (HHAL.out w6.drew (show Rest5 rb gA gB w w6.drew from ⟨BX6.out.size, fun i hi _ _ _ => BX6.out.block i hi⟩) x y); have l6 := lt_of_heap ((B6.out.block _ (lt_of_heap Z2.out)).trans Z2.out); have l7 := lt_of_heap ((B6.out.block _ (lt_of_heap Z3.out)).trans Z3.out); have rl6 : rb < w6.heap.size := by omega
 clear hrb hvA hvC hva hA hC hra hrc hsep hBA hBC hoA hoC hal
 go_region_held3 (fun w' => w'.cell? ⟨rb, 12, none⟩ = some (aloneV ab) ∧ w'.cell? ⟨w.heap.size, 0, none⟩ = some (.int .i64 x.1.kind) ∧ w'.cell? ⟨w.heap.size, 1, none⟩ = some (.int .i64 x.1.n) ∧ w'.cell? ⟨w.heap.size, 2, none⟩ = some (.string x.1.text) ∧ w'.cell? ⟨w.heap.size, 3, none⟩ = some (.slice x.2.1 x.1.attrs.length x.2.2) ∧ w'.cell? ⟨w.heap.size, 4, none⟩ = some (.int .i64 (szO x.1)) ∧
  w'.cell? ⟨w.heap.size + 1, 0, none⟩ = some (.int .i64 y.1.kind) ∧ w'.cell? ⟨w.heap.size + 1, 1, none⟩ = some (.int .i64 y.1.n) ∧ w'.cell? ⟨w.heap.size + 1, 2, none⟩ = some (.string y.1.text) ∧ w'.cell? ⟨w.heap.size + 1, 3, none⟩ = some (.slice y.2.1 y.1.attrs.length y.2.2) ∧ w'.cell? ⟨w.heap.size + 1, 4, none⟩ = some (.int .i64 (szO y.1)))
  (first
   | exact And.intro v12 S6
   | exact S7)
  (first
   | (go_at_call 48; refine HCALL.out.mono ?_; rintro e w7 ⟨rfl, b7⟩; have B7 := hid (B6.out.trans ((Below.refl w6.heap.size w6).drew.trans b7 |>.mono B6.out.size)); have BX7 := hid (BX6.out.trans ((Below.refl w6.heap.size w6).drew.trans b7 |>.mono BX6.out.size)); have cx7 := c5 ((B7.out.block _ (lt_of_heap Z2.out)).trans Z2.out); have cy7 := c5 ((B7.out.block _ (lt_of_heap Z3.out)).trans Z3.out)
      have v7 : w7.cell? ⟨rb, 12, none⟩ = some (aloneV ab) := by
       have := (BX7.out.block _ hlt).trans HRC.out.1; simp [World.cell?, this, HRC.out.2.2.2]
      have S7 := And.intro v7 (And.intro cx7.1 (And.intro cx7.2.1 (And.intro cx7.2.2.1 (And.intro cx7.2.2.2.1 (And.intro cx7.2.2.2.2 cy7))))); clear b7 S6 v12))
 have hmin : min (szO x.1) (szO y.1) = ((minN A C : Nat) : Int) := by
  unfold minN; rw [HXY.out.1, HXY.out.2]; have := HPA.out; have := HPC.out; omega
 rw [hmin]; have hsz1 : szO x.1 = ((szO (nxt5 A).1).toNat : Int) := by rw [HXY.out.1]; have := HPA.out; omega
 have hsz2 : szO y.1 = ((szO (nxt5 C).1).toNat : Int) := by rw [HXY.out.2]; have := HPC.out; omega
 have h1 : al x.1 y.1 = 1 := by rw [HXY.out.1, HXY.out.2]; exact c1
 clear c1; have t1 : (al x.1 y.1 == 1) = true := by rw [h1]; rfl
 have hst : stepM al A C = ((firstCut A (szO (nxt5 A).1).toNat, zeroQ5), rowTake A (szO (nxt5 A).1).toNat, C) := by
  unfold stepM; rw [← HXY.out.1, ← HXY.out.2, if_pos h1]
 have HST := hid hst; have hmA : (((szO (nxt5 A).1).toNat : Nat) : Int) ≤ szO (nxt5 A).1 := by rw [← hsz1, HXY.out.1]; omega
 have HM := hid hmA; clear h1 hst hmin hsz2 hmA l6 l7; generalize (szO (nxt5 A).1).toNat = m at HST HM hsz1 ⊢; have HT1 := hid (fun X hb => HTA.out X hb m HM.out); rw [← hsz1] at HT1; have HSZ := hid hsz1; clear hsz1; have d2 := (B7.out.block _ (lt_of_heap Z2.out)).trans Z2.out; have d3 := (B7.out.block _ (lt_of_heap Z3.out)).trans Z3.out; have l2 := lt_of_heap d2; have l3 := lt_of_heap d3; obtain ⟨p0, p1, p2, p3, p4⟩ := c5 d2; have D7 := hid (And.intro d2 d3); clear d2 d3 cx7 cy7 S7 v7 rl6 HTA HTC HHAL HCALL HPA HPC Z2 Z3 Z4 B6 BX6 B7; go_wp2_with fail
 go_region_with (first
  | (go_at_call 92; (with_reducible refine (HT1.out wl BL.out.1).mono ?_); rintro e wt ⟨rfl, ⟨v8, rc8, hr8, hv8, ho8, hrow8⟩, hf8, hb8⟩
     have T8 := hid (And.intro hr8 (And.intro hv8 (And.intro ho8 (And.intro hrow8 (And.intro (show ∀ i, i < wl.heap.size → i ≠ rb → gA ≠ some i → wt.heap[i]? = wl.heap[i]? from hf8) (And.intro (show Below B wl wt from hb8) (show w.heap.size ≤ wl.heap.size from BL.out.1.size))))))); have k2 := (hf8 _ (lt_of_heap BL.out.2.1) (by omega) (fun e => by have := (HSEP.out.2.1 _ e).2.1; omega)).trans BL.out.2.1; have k3 := (hf8 _ (lt_of_heap BL.out.2.2) (by omega) (fun e => by have := (HSEP.out.2.1 _ e).2.1; omega)).trans BL.out.2.2; have D9 := hid (And.intro k2 k3); obtain ⟨r0, r1, r2, r3, r4⟩ := c5 k2; obtain ⟨s0, s1, s2, s3, s4⟩ := c5 k3; have m2 := lt_of_heap k2; have m3 := lt_of_heap k3; have f2 : ∀ j, wt.frozen? ⟨w.heap.size, j, none⟩ = false := fun j => by simp [World.frozen?, k2]
     have f3 : ∀ j, wt.frozen? ⟨w.heap.size + 1, j, none⟩ = false := fun j => by simp [World.frozen?, k3]
     (try
      have kz := (hf8 _ (lt_of_heap ZL.out) (by have := ZLn.out; omega) (fun e => by have := (HSEP.out.2.1 _ e).2.1; have := ZLn.out; omega)).trans ZL.out; obtain ⟨u0, u1, u2, u3, u4⟩ := z5 kz; have mz := lt_of_heap kz)
     clear hr8 hv8 ho8 hrow8 hf8 hb8 k2 k3)
  | (go_at_call 92; (with_reducible refine (HT1.out (wl.alloc (.cells #[.int .i64 0, .int .i64 0, .string ⟨#[]⟩, .slice none 0 0, .int .i64 0] 86)) (BL.out.1.alloc BL.out.1.size _)).mono ?_); rintro e wt ⟨rfl, ⟨v8, rc8, hr8, hv8, ho8, hrow8⟩, hf8, hb8⟩
     have bA := Below.heap_alloc wl (.cells #[.int .i64 0, .int .i64 0, .string ⟨#[]⟩, .slice none 0 0, .int .i64 0] 86); have T8 := hid (And.intro hr8 (And.intro hv8 (And.intro ho8 (And.intro hrow8 (And.intro (show ∀ i, i < wl.heap.size → i ≠ rb → gA ≠ some i → wt.heap[i]? = wl.heap[i]? from fun i hi a b => (hf8 i (by simp; omega) a b).trans (bA i (by omega))) (And.intro (show Below B wl wt from (((Below.refl wl.heap.size wl).alloc (Nat.le_refl _) _).mono (by have := BL.out.1.size; omega)).trans hb8) (show w.heap.size ≤ wl.heap.size from BL.out.1.size))))))); have k2 := (hf8 _ (by have := lt_of_heap BL.out.2.1; simp; omega) (by omega) (fun e => by have := (HSEP.out.2.1 _ e).2.1; omega)).trans ((bA _ (by have := lt_of_heap BL.out.2.1; omega)).trans BL.out.2.1); have k3 := (hf8 _ (by have := lt_of_heap BL.out.2.2; simp; omega) (by omega) (fun e => by have := (HSEP.out.2.1 _ e).2.1; omega)).trans ((bA _ (by have := lt_of_heap BL.out.2.2; omega)).trans BL.out.2.2)
     have n3 := lt_of_heap BL.out.2.2; have kz := (hf8 wl.heap.size (by simp) (by have := BL.out.1.size; omega) (fun e => by have := (HSEP.out.2.1 _ e).2.1; have := BL.out.1.size; omega)).trans (heap_new wl (.cells #[.int .i64 0, .int .i64 0, .string ⟨#[]⟩, .slice none 0 0, .int .i64 0] 86)); have D9 := hid (And.intro k2 k3); obtain ⟨r0, r1, r2, r3, r4⟩ := c5 k2; obtain ⟨s0, s1, s2, s3, s4⟩ := c5 k3; obtain ⟨u0, u1, u2, u3, u4⟩ := z5 kz; have mz := lt_of_heap kz; have m2 := lt_of_heap k2; have m3 := lt_of_heap k3; have f2 : ∀ j, wt.frozen? ⟨w.heap.size, j, none⟩ = false := fun j => by simp [World.frozen?, k2]
     have f3 : ∀ j, wt.frozen? ⟨w.heap.size + 1, j, none⟩ = false := fun j => by simp [World.frozen?, k3]
     clear hr8 hv8 ho8 hrow8 hf8 hb8 k2 k3 kz bA)
  | (go_at_call 134; (with_reducible refine (HL.out x w7.drew).mono ?_); rintro e wl ⟨rfl, bl⟩
     have BL := hid (And.intro (BX7.out.drew.trans (bl.mono BX7.out.size)) (And.intro ((bl.block _ (lt_of_heap D7.out.1)).trans D7.out.1) ((bl.block _ (lt_of_heap D7.out.2)).trans D7.out.2))); clear bl)
  | (go_at_call 134; (with_reducible refine (HL.out x _).mono ?_); rintro e wl ⟨rfl, bl⟩
     have hs7 := BX7.out.size; have bA := Below.heap_alloc w7 (.cells #[.int .i64 0, .int .i64 0, .string ⟨#[]⟩, .slice none 0 0, .int .i64 0] 86); have BL := hid (And.intro (show Below w.heap.size w wl from Below.trans (by first | exact (BX7.out.alloc BX7.out.size _).drew | exact (BX7.out.drew).alloc BX7.out.size _) (bl.mono (by simp; omega))) (And.intro ((bl.block _ (by have := lt_of_heap D7.out.1; simp; omega)).trans ((bA _ (by have := lt_of_heap D7.out.1; omega)).trans D7.out.1)) ((bl.block _ (by have := lt_of_heap D7.out.2; simp; omega)).trans ((bA _ (by have := lt_of_heap D7.out.2; omega)).trans D7.out.2)))); have ZL := hid ((bl.block w7.heap.size (by simp)).trans (heap_new w7 (.cells #[.int .i64 0, .int .i64 0, .string ⟨#[]⟩, .slice none 0 0, .int .i64 0] 86))); have ZLn := hid hs7; obtain ⟨g0, g1, g2, g3, g4⟩ := z5 ZL.out; have gz := lt_of_heap ZL.out; clear bl hs7 bA))
 all_goals go_wp2_with fail
 all_goals first
 | (obtain ⟨hr8, hv8, ho8, hrow8, hf8, hb8, hs8⟩ := T8.out
    have hs9 := hb8.size
    obtain ⟨Z, hZ, z2, z3, zo, zs, zb⟩ : ∃ Z, Z = set5 (set5 wt w.heap.size (.int .i64 (firstCut A m).1.kind) (.int .i64 (firstCut A m).1.n) (.string (firstCut A m).1.text) (qv (firstCut A m)) (.int .i64 (szO (firstCut A m).1))) (w.heap.size + 1) (.int .i64 0) (.int .i64 0) (.string ⟨#[]⟩) (.slice none 0 0) (.int .i64 0) ∧
     Z.heap[w.heap.size]? = some (.cells (cell5 (firstCut A m)) 86 (0, 0)) ∧ Z.heap[w.heap.size + 1]? = some (.cells #[.int .i64 0, .int .i64 0, .string ⟨#[]⟩, .slice none 0 0, .int .i64 0] 86 (0, 0)) ∧ (∀ i, i < w.heap.size → Z.heap[i]? = wt.heap[i]?) ∧ wt.heap.size ≤ Z.heap.size ∧ Below B w Z :=
     ⟨_, rfl, (set5_other (by omega)).trans (set5_same D9.out.1), set5_same ((set5_other (by omega)).trans D9.out.2), fun i hi => (set5_other (by omega)).trans (set5_other (by omega)), by simp, set5_below (set5_below ((BL.out.1.mono (by omega)).trans hb8) (by omega)) (by omega)⟩
    unfold set5 at hZ; rw [← hZ]; clear hZ; refine bodyPost_ret (results_op2 rfl rfl rfl z2 z3) rfl ?_; have hfin := fin_first HROWS.out HRC.out.1 BL.out.1 hr8 hv8 ho8 hrow8 hf8 HM.out zo (by omega); rw [HST.out]; refine ⟨?_, hfin.1, hfin.2, zb⟩; show _ = Ending.returned (.tuple #[_, op5 zeroQ5])
    rw [op5_zero])
 | (obtain ⟨hr8, hv8, ho8, hrow8, hf8, hb8, hs8⟩ := T8.out
    have hs9 := hb8.size
    obtain ⟨Z, hZ, z2, z3, zo, zs, zb⟩ : ∃ Z, Z = (set5 (set5 wt w.heap.size (.int .i64 (firstCut A m).1.kind) (.int .i64 (firstCut A m).1.n) (.string (firstCut A m).1.text) (qv (firstCut A m)) (.int .i64 (szO (firstCut A m).1))) (w.heap.size + 1) (.int .i64 0) (.int .i64 0) (.string ⟨#[]⟩) (.slice none 0 0) (.int .i64 0)).alloc (.cells #[.int .i64 0, .int .i64 0, .string ⟨#[]⟩, .slice none 0 0, .int .i64 0] 86) ∧
     Z.heap[w.heap.size]? = some (.cells (cell5 (firstCut A m)) 86 (0, 0)) ∧ Z.heap[w.heap.size + 1]? = some (.cells #[.int .i64 0, .int .i64 0, .string ⟨#[]⟩, .slice none 0 0, .int .i64 0] 86 (0, 0)) ∧ (∀ i, i < w.heap.size → Z.heap[i]? = wt.heap[i]?) ∧ wt.heap.size ≤ Z.heap.size ∧ Below B w Z :=
     ⟨_, rfl, (Below.heap_alloc _ _ _ (by simp; omega)).trans ((set5_other (by omega)).trans (set5_same D9.out.1)), (Below.heap_alloc _ _ _ (by simp; omega)).trans (set5_same ((set5_other (by omega)).trans D9.out.2)), fun i hi => (Below.heap_alloc _ _ _ (by simp; omega)).trans ((set5_other (by omega)).trans (set5_other (by omega))), by simp, (set5_below (set5_below ((BL.out.1.mono (by omega)).trans hb8) (by omega)) (by omega)).alloc (by simp; omega) _⟩
    unfold set5 at hZ; rw [← hZ]; clear hZ; refine bodyPost_ret (results_op2 rfl rfl rfl z2 z3) rfl ?_; have hfin := fin_first HROWS.out HRC.out.1 BL.out.1 hr8 hv8 ho8 hrow8 hf8 HM.out zo (by omega); rw [HST.out]; refine ⟨?_, hfin.1, hfin.2, zb⟩; show _ = Ending.returned (.tuple #[_, op5 zeroQ5])
    rw [op5_zero])
end Go.Proofs.Ytchceolbbkhnnaa
