import Derived.Test.YtchceolbbkhnnaaGL2
import Derived.Test.YtchceolbbkhnnaaGF7
namespace Go.Proofs.Ytchceolbbkhnnaa
section
open Go.RowKit Rn Ch
open At hiding put
open Cp (atms)
end
section
open Go.RowKit Rn Ch
open At hiding put
open Cp (atms)
structure ThreeF (f g k : Int) (A B C : List OpD) : Prop where
 all : allF f [(f, A), (g, B), (k, C)] = (cmpE f k (cmpR f g A B) C, if cmpE f k (cmpR f g A B) C = 0 then f else 0, cmpR f k (cmpR f g A B) C)
 l : cmpE f k (cmpR f g A B) C ≠ 31
 r : cmpE f g A (cmpR g k B C) ≠ 31
 same : cmpE f k (cmpR f g A B) C = 0 → cmpE f g A (cmpR g k B C) = 0 → cmpR f k (cmpR f g A B) C = cmpR f g A (cmpR g k B C)
end
section
open Go.RowKit Rn Ch
open At hiding put
open Cp (atms FolF folN sizF)
open Lib (hid)
structure FolG (fi : Bool) (f g : Int) (A C R : List OpD) : Prop where
 a : toE f A = 0
 c : toE g C = 0
 same : f = g
 eq : R = folN fi (norm A) (norm C)
 ok : OkC (toN f A) R
 once : norm R = R
 size : toN (toN f A) R = sizF fi f (norm A) (norm C)
 F : FolF f (norm A) (norm C)
def folR (fi : Bool) (f g : Int) (A C : List OpD) : List OpD := if folE fi f g A C = 0 then folN fi (norm A) (norm C) else []
theorem FolG.toE {fi : Bool} {f g : Int} {A C R : List OpD} (h : FolG fi f g A C R) : toE (toN f A) R = 0 := (toE_iff _ _).2 h.ok
theorem FolG.sized {fi : Bool} {f g : Int} {A C R : List OpD} (h : FolG fi f g A C R) : OSized R := okc_sized7 h.ok
theorem folF_of {f : Int} {A C : List OpD} (h1 : toE f A = 0) (h2 : toE f C = 0) : FolF f (norm A) (norm C) ∧ toN f A = f - dl (norm A) + Ch.ins (norm A) := by
 have h3 := norm_to h1; exact ⟨⟨(norm_ok ((toE_iff _ _).1 h1)).1, (norm_ok ((toE_iff _ _).1 h2)).1⟩, by rw [← h3.2, toN_ok h3.1]⟩
theorem fol_ok {fi : Bool} {f g : Int} {A C : List OpD} (h : folE fi f g A C = 0) : FolG fi f g A C (folR fi f g A C) := by
 have h0 : nrmF f g A C = 0 := by
  refine Classical.byContradiction fun hn => ?_; unfold folE at h; rw [if_pos hn] at h; exact hn h
 obtain ⟨h1, h2, h3⟩ := nrmF_zero h0; subst h3; obtain ⟨hF, hn⟩ := folF_of h1 h2; have h4 : ¬ 20000 < sizF fi f (norm A) (norm C) := fun hb => by
  unfold folE at h; rw [if_neg (by rw [h0]; simp), if_pos hb] at h; omega
 have h5 : ¬ 2000 < (folN fi (norm A) (norm C)).length := fun hb => by
  unfold folE at h; rw [if_neg (by rw [h0]; simp), if_neg h4, if_pos hb] at h; omega
 obtain ⟨_, _, a3, a4, a5, a6, a7, a8⟩ := hF.all fi; have ok := a8 (by omega) (by omega); unfold folR; rw [if_pos h]; rw [← hn] at ok a7; exact ⟨h1, h2, rfl, rfl, ok, a3, by rw [toN_ok ((toE_iff _ _).2 ok), a7], hF⟩
theorem folR_bad {fi : Bool} {f g : Int} {A C : List OpD} (h : folE fi f g A C ≠ 0) : folR fi f g A C = [] := by unfold folR; rw [if_neg h]
theorem folO {fi : Bool} {f g : Int} {va vb : Value} {A C : List OpD} {w : World} (hv : OpRow w va A) (hz : OSized A) (hu : OpRow w vb C) (hy : OSized C) :
 Calls Try.prog 15 #[chAgg f va, chAgg g vb, .bool fi] w (ChOwn w (if folE fi f g A C = 0 then toN f A else 0) (folE fi f g A C) (folR fi f g A C)) :=
 (follow_any fi f g va vb A C w hv hz hu hy).mono fun e w' ⟨b, a, n, c, h1, h2⟩ => by
  have hr : OpRow w' (.slice a n c) (folR fi f g A C) := OwnOps.row h2; obtain ⟨a2, c2, h3⟩ := hr.shape; injection h3 with e1 e2 e3; subst e2; exact ⟨a, c, h1, h2, b⟩
theorem folH_okR {fi : Bool} {f g n : Int} {va vb : Value} {A C R : List OpD} {w : World} (hv : OpRow w va A) (hz : OSized A) (hu : OpRow w vb C) (hy : OSized C) (h : folE fi f g A C = 0) (hn : toN f A = n) (hr : folR fi f g A C = R) :
 Calls Try.prog 15 #[chAgg f va, chAgg g vb, .bool fi] w (ChOwn w n 0 R) := by
 have := folO (fi := fi) (f := f) (g := g) hv hz hu hy
 rwa [h, if_pos rfl, hn, hr] at this
theorem folH_badE {fi : Bool} {f g E : Int} {va vb : Value} {A C : List OpD} {w : World} (hv : OpRow w va A) (hz : OSized A) (hu : OpRow w vb C) (hy : OSized C) (h : folE fi f g A C ≠ 0) (he : folE fi f g A C = E) :
 Calls Try.prog 15 #[chAgg f va, chAgg g vb, .bool fi] w (ChOwn w 0 E []) := by
 have := folO (fi := fi) (f := f) (g := g) hv hz hu hy
 rwa [if_neg h, folR_bad h, he] at this
def e7a : List OpD := [⟨2, 0, xText, []⟩]
def e7b : List OpD := [⟨2, 0, yText, []⟩]
def e7r : List OpD := [bareO 1 1, ⟨2, 0, yText, []⟩]
theorem e7_to : toE 3 e7a = 0 ∧ toN 3 e7a = 4 ∧ toE 3 e7b = 0 ∧ toE 2 [] = 0 := by decide +kernel
theorem e7_norm : norm e7a = e7a ∧ norm e7b = e7b := by decide +kernel
theorem e7_atms : atms e7a = [.ins 120 []] ∧ atms e7b = [.ins 121 []] := ⟨by rfl, by rfl⟩
theorem e7_fol : Cp.fol false [.ins 120 []] [.ins 121 []] = [.keep [], .ins 121 []] ∧ Cp.fol true [.ins 120 []] [.ins 121 []] = [.ins 121 [], .keep []] := by
 rw [Cp.fol_iif, Cp.fol_nil, Cp.fol_iit, Cp.fol_in, Cp.fol_nil]; exact ⟨rfl, rfl⟩
theorem e7_nrm : Cp.normA [.keep [], .ins 121 []] = e7r ∧ Cp.normA [.ins 121 [], .keep []] = e7b := by decide +kernel
theorem e7_N : folN false (norm e7a) (norm e7b) = e7r ∧ folN true (norm e7a) (norm e7b) = e7b := by
 unfold folN; rw [e7_norm.1, e7_norm.2, e7_atms.1, e7_atms.2, e7_fol.1, e7_fol.2]; exact e7_nrm
theorem e7_siz : sizF false 3 (norm e7a) (norm e7b) = 5 ∧ sizF true 3 (norm e7a) (norm e7b) = 5 := by
 unfold sizF; rw [e7_norm.1, e7_norm.2, e7_atms.1, e7_atms.2, e7_fol.1, e7_fol.2]; have h : dl e7a = 0 ∧ Ch.ins e7a = 1 := by decide +kernel
 rw [h.1, h.2]; exact ⟨rfl, rfl⟩
theorem e7_ok (fi : Bool) : folE fi 3 3 e7a e7b = 0 := by
 have h : nrmF 3 3 e7a e7b = 0 := by unfold nrmF; rw [if_neg (by rw [e7_to.1]; simp), if_neg (by rw [e7_to.2.2.1]; simp), if_neg (by simp)]
 unfold folE; rw [if_neg (by rw [h]; simp)]; cases fi with
 | true => rw [e7_siz.2, e7_N.2, if_neg (by decide), if_neg (by decide)]
 | false => rw [e7_siz.1, e7_N.1, if_neg (by decide), if_neg (by decide)]
theorem e7_bad : folE true 3 2 e7a [] = 31 := by
 have h : nrmF 3 2 e7a [] = 31 := by unfold nrmF; rw [if_neg (by rw [e7_to.1]; simp), if_neg (by rw [e7_to.2.2.2]; simp), if_pos (by decide)]
 unfold folE; rw [h, if_pos (by decide)]
theorem e7_R : folR false 3 3 e7a e7b = e7r ∧ folR true 3 3 e7a e7b = e7b := by
 unfold folR; rw [if_pos (e7_ok _), if_pos (e7_ok _)]; exact e7_N
theorem e7a_sized : OSized e7a := okc_sized7 ((toE_iff _ _).1 e7_to.1)
theorem e7b_sized : OSized e7b := okc_sized7 ((toE_iff _ _).1 e7_to.2.2.1)
theorem e7aRow (w : World) (t : ByteArray) : OpRow (w.alloc (.cells #[.int .i64 2, .int .i64 0, .string t, .slice none 0 0] 40)) (.slice (some ⟨w.heap.size, 0, none⟩) 1 1) [⟨2, 0, t, []⟩] :=
 opRow_new w [(⟨2, 0, t, []⟩, nilV)] (fun p hp => by rw [List.mem_singleton.1 hp]; exact ⟨rfl, rfl⟩) (by show 1 ≤ maxLen; decide)
set_option maxRecDepth 100000 in
set_option maxHeartbeats 4000000 in
theorem awake7_any (w : World) : Calls Try.prog 14 #[] w (OutB w true) := by
 go_enter Try.func14, Try.ntmps14
 have B0 := hid (Below.refl w.heap.size w); go_wp2_with fail
 refine (lawPut_any ⟨#[120]⟩ _).mono ?_; rintro e w1 ⟨rfl, b⟩
 obtain ⟨W3, hW3, r3, x3, b3⟩ : ∃ W3, W3 = (w1.alloc (.cells #[.int .i64 2, .int .i64 0, .string xText, .slice none 0 0] 40)).alloc (.cells #[.int .i64 3, .slice (some ⟨w1.heap.size, 0, none⟩) 1 1] 24) ∧
  OpRow W3 (.slice (some ⟨w1.heap.size, 0, none⟩) 1 1) e7a ∧ W3.heap[w1.heap.size + 1]? = some (.cells #[.int .i64 3, .slice (some ⟨w1.heap.size, 0, none⟩) 1 1] 24 (0, 0)) ∧ Below w1.heap.size w1 W3 :=
  ⟨_, rfl, (e7aRow w1 xText).below (below_box _ _), (box2 _ _ _).2.1, (box2 _ _ _).2.2⟩
 have B3 := hid ((B0.out.trans (b.mono B0.out.size)).trans (b3.mono b.size)); have R3 := hid r3; have X3 := hid x3; have HW3 := hid hW3; clear hW3 r3 x3 b3 b; go_wp2_with fail
 rw [← HW3.out]; refine (lawPut_any ⟨#[121]⟩ _).mono ?_; rintro e w4 ⟨rfl, b⟩
 obtain ⟨W7, hW7, r7, x7, b7⟩ : ∃ W7, W7 = (w4.alloc (.cells #[.int .i64 2, .int .i64 0, .string yText, .slice none 0 0] 40)).alloc (.cells #[.int .i64 3, .slice (some ⟨w4.heap.size, 0, none⟩) 1 1] 24) ∧
  OpRow W7 (.slice (some ⟨w4.heap.size, 0, none⟩) 1 1) e7b ∧ W7.heap[w4.heap.size + 1]? = some (.cells #[.int .i64 3, .slice (some ⟨w4.heap.size, 0, none⟩) 1 1] 24 (0, 0)) ∧ Below w4.heap.size w4 W7 :=
  ⟨_, rfl, (e7aRow w4 yText).below (below_box _ _), (box2 _ _ _).2.1, (box2 _ _ _).2.2⟩
 have B7 := hid (b.trans (b7.mono b.size)); have R7 := hid (And.intro (R3.out.below B7.out) r7); obtain ⟨c0, c1, l3⟩ := box_at (heap_up X3.out b); have l4 : w1.heap.size < w4.heap.size := by omega
 have X7 := hid (And.intro (heap_up X3.out B7.out) x7); have HW7 := hid hW7; have D7 := hid (B3.out.trans (B7.out.mono B3.out.size)); clear b b7 r7 x7 hW7; go_wp2_with fail
 rw [← HW7.out]; refine (folH_okR (fi := false) (f := 3) (g := 3) R7.out.1 e7a_sized R7.out.2 e7b_sized (e7_ok _) e7_to.2.1 e7_R.1).mono ?_; rintro e w8 ⟨ra, rc, rfl, o8, b8⟩; obtain ⟨kb, off, rfl, hkb, _, _, _, g2⟩ := row_at o8.row 1 (by decide); obtain ⟨c0', c1', l8⟩ := box_at (heap_up X7.out.1 b8); obtain ⟨d0', d1', l8'⟩ := box_at (heap_up X7.out.2 b8); have D8 := hid (D7.out.trans (b8.mono D7.out.size)); have R8 := hid (And.intro (R7.out.1.below b8) (R7.out.2.below b8)); have G8 := hid (And.intro hkb g2); have X8 := hid (And.intro (heap_up X7.out.1 b8) (heap_up X7.out.2 b8)); clear b8 o8 g2 c0 c1 l3 l4; obtain ⟨X9, hX9, x9, bX⟩ : ∃ X, X = w8.alloc (.cells #[.int .i64 4, .slice (some ⟨kb, off, none⟩) e7r.length rc] 24) ∧ X.heap[w8.heap.size]? = some (.cells #[.int .i64 4, .slice (some ⟨kb, off, none⟩) e7r.length rc] 24 (0, 0)) ∧ Below w8.heap.size w8 X := ⟨_, rfl, heap_new _ _, below_box _ _⟩
 have B9 := hid bX; have HX9 := hid hX9; have H9 := hid x9; clear bX hX9 x9; go_wp2_with fail
 rw [← HX9.out]; refine (folH_okR (fi := true) (f := 3) (g := 3) (R8.out.1.below B9.out) e7a_sized (R8.out.2.below B9.out) e7b_sized (e7_ok _) e7_to.2.1 e7_R.2).mono ?_; rintro e w10 ⟨sa, sc, rfl, _, b10⟩; have B810 := hid (B9.out.trans (b10.mono B9.out.size)); obtain ⟨m0, m1, ml⟩ := box_at (heap_up X8.out.1 B810.out); have H10 := hid (heap_up H9.out b10); have D10 := hid (D8.out.trans (B810.out.mono D8.out.size)); obtain ⟨Z, hZ, z9, bZ⟩ : ∃ X, X = w10.alloc (.cells #[.int .i64 4, .slice sa e7b.length sc] 24) ∧ X.heap[w10.heap.size]? = some (.cells #[.int .i64 4, .slice sa e7b.length sc] 24 (0, 0)) ∧ Below w10.heap.size w10 X := ⟨_, rfl, heap_new _ _, below_box _ _⟩; have BZ := hid bZ; have HZ := hid hZ; have HZ9 := hid z9; have HB := hid (folH_badE (fi := true) (f := 3) (g := 2) (w := Z) ((R8.out.1.below B810.out).below bZ) e7a_sized (OpRow.nil Z) nil_sized (by rw [e7_bad]; decide) e7_bad)
 clear b10 c0' c1' l8 d0' d1' l8' bZ hZ z9; go_wp2_with fail
 rw [← HZ.out]; refine HB.out.mono ?_; rintro e w11 ⟨qa, qc, rfl, _, b11⟩; obtain ⟨n0, n1, nl⟩ := box_at (heap_up (heap_up H10.out BZ.out) b11); obtain ⟨o0, o1, ol⟩ := box_at (heap_up HZ9.out b11); have b811 := (B810.out.trans (BZ.out.mono B810.out.size)).trans (b11.mono (Nat.le_trans B810.out.size BZ.out.size)); have g2 : w11.cell? ⟨kb, off + 6, none⟩ = some (.string ⟨#[121]⟩) := (b811.cell (by exact G8.out.1)).trans G8.out.2; have lk : kb < w11.heap.size := Nat.lt_of_lt_of_le G8.out.1 b811.size; have D11 := hid (D8.out.trans (b811.mono D8.out.size)); clear b11 m0 m1 ml b811; go_wp2_with fail
 go_ret
 refine ⟨rfl, (D11.out.alloc D11.out.size _)⟩
end
section
open Go.RowKit Rn Ch
open At hiding put
open Cp (atms FolF folN sizF)
structure MeetF (fi : Bool) (f n m : Int) (A C X Y : List OpD) : Prop where
 l : cmpE f n A X ≠ 31
 r : cmpE f m C Y ≠ 31
 same : cmpE f n A X = 0 → cmpE f m C Y = 0 → cmpR f n A X = cmpR f m C Y
 long : toN n X = toN m Y
end
section
open Go.RowKit Rn Ch
open At hiding put
open Cp (atms FolF folN sizF)
open Lib (hid)
def pastR : List (Int × List OpD) → Int → List OpD → Int × Int × List OpD
 | [], f, R => (0, f, R)
 | c :: L, f, R => if folE false c.1 f c.2 R = 0 then pastR L (toN c.1 c.2) (folR false c.1 f c.2 R) else (folE false c.1 f c.2 R, 0, [])
theorem pastR_ok {c : Int × List OpD} {L : List (Int × List OpD)} {f : Int} {R : List OpD} (h : folE false c.1 f c.2 R = 0) : pastR (c :: L) f R = pastR L (toN c.1 c.2) (folR false c.1 f c.2 R) := by rw [pastR, if_pos h]
theorem pastR_bad {c : Int × List OpD} {L : List (Int × List OpD)} {f : Int} {R : List OpD} (h : folE false c.1 f c.2 R ≠ 0) : pastR (c :: L) f R = (folE false c.1 f c.2 R, 0, []) := by rw [pastR, if_neg h]
def pastF (f : Int) (B : List OpD) (L : List (Int × List OpD)) : Int × Int × List OpD := if toE f B = 0 then pastR L f (norm B) else (toE f B, 0, [])
theorem folR_sized (fi : Bool) (f g : Int) (A C : List OpD) : OSized (folR fi f g A C) := by
 by_cases h : folE fi f g A C = 0
 ·exact (fol_ok h).sized
 ·rw [folR_bad h]
  exact nil_sized
set_option maxRecDepth 100000 in
set_option maxHeartbeats 4000000 in
theorem past_any (v : Value) (L : List (Int × List OpD)) (f : Int) (vb : Value) (B : List OpD) (w : World) (hv : ChsRow w v L) (hz : CsSized L) (hu : OpRow w vb B) (hy : OSized B) :
 Calls Try.prog 17 #[v, chAgg f vb] w (ChOwn w (pastF f B L).2.1 (pastF f B L).1 (pastF f B L).2.2) := by
 obtain ⟨E0, F0, R0, hfin⟩ : ∃ E0 F0 R0, pastF f B L = (E0, F0, R0) := ⟨_, _, _, rfl⟩; rw [hfin]; have HV := hid hv; have HZ := hid hz; obtain ⟨la, lc, rfl, l1, l2, _⟩ := hv; obtain ⟨ub, tb, rfl⟩ := hu.shape; obtain ⟨W, hW, k0, r0, bW⟩ : ∃ W, W = (w.alloc (.cells #[.int .i64 f, .slice ub B.length tb] 24)).alloc (.cells #[.int .i64 0, .slice none 0 0] 24) ∧ W.heap[w.heap.size]? = some (.cells #[.int .i64 f, .slice ub B.length tb] 24 (0, 0)) ∧ W.heap[w.heap.size + 1]? = some (.cells #[.int .i64 0, .slice none 0 0] 24 (0, 0)) ∧ Below w.heap.size w W := ⟨_, rfl, (box2 _ _ _).1, (box2 _ _ _).2.1, (box2 _ _ _).2.2⟩; have HW := hid hW; have HR0 := hid (And.intro k0 r0); have BW := hid bW; have HNM := hid (normal_any f _ B W (hu.below bW) hy); have hL : L.length ≤ 9223372036854775807 := Nat.le_trans l1 l2; clear hW k0 r0 bW hz l1 l2 hu hy; go_enter Try.func17, Try.ntmps17
 go_wp2_with fail
 rw [← HW.out]; refine HNM.out.mono ?_; rintro e w1 he; obtain ⟨E1, F1, R1, a1, c1, he1, ho1, hs1, hF1, b1⟩ : ∃ E1 F1 R1 a1 c1, e = .returned (.tuple #[chAgg F1 (.slice a1 (R1 : List OpD).length c1), .int .i64 E1]) ∧ OwnOps w1 w.heap.size (.slice a1 R1.length c1) R1 ∧ OSized R1 ∧ (if E1 = 0 then pastR L F1 R1 else (E1, F1, R1)) = (E0, F0, R0) ∧ Below W.heap.size W w1 := by
  rcases he with ⟨h1, h2, h3⟩ | ⟨h1, u, h2, h3, h4⟩
  ·refine ⟨_, _, [], none, 0, h2, ownOps_nil _ _, nil_sized, ?_, h3⟩
   rw [if_neg h1, ← hfin]; unfold pastF; rw [if_neg h1]
  ·obtain ⟨a, c, rfl⟩ := h3.row.shape
   refine ⟨_, _, norm B, a, c, h2, h3.base BW.out.size, okc_sized7 (norm_ok ((toE_iff _ _).1 h1)).1, ?_, h4⟩; rw [if_pos rfl, ← hfin]; unfold pastF; rw [if_pos h1]
 subst he1; have B1 := hid (BW.out.trans (b1.mono BW.out.size)); have HF1 := hid hF1; have z0 := heap_up HR0.out.1 b1; have z1 := heap_up HR0.out.2 b1; obtain ⟨p0, p1, pl⟩ := box_at z0; have g0 := (cells2 z0).2.2.1; have g1 := (cells2 z0).2.2.2; obtain ⟨q0, q1, ql⟩ := box_at z1; obtain ⟨Y, hY, y0, y1, yk⟩ : ∃ Y, Y = (w1.setCell ⟨w.heap.size, 0, none⟩ (.int .i64 F1)).setCell ⟨w.heap.size, 1, none⟩ (.slice a1 R1.length c1) ∧ Y.heap[w.heap.size]? = some (.cells #[.int .i64 F1, .slice a1 R1.length c1] 24 (0, 0)) ∧ Y.heap[w.heap.size + 1]? = some (.cells #[.int .i64 0, .slice none 0 0] 24 (0, 0)) ∧ Keep w.heap.size [24] w1 Y := by
  obtain ⟨u1, u2, u3⟩ := agg_set (.int .i64 F1) (.slice a1 R1.length c1) z0; exact ⟨_, rfl, u1, (u3 _ (by omega)).trans z1, u2⟩
 have HYE := hid hY; have HYS := hid (And.intro y0 y1); have HO1 := hid (ho1.keep7 yk (by decide) (by decide)); have HS1 := hid hs1; have BY := hid (B1.out.trans yk.below); clear b1 he hfin hF1 z0 z1 hY y0 y1 yk ho1 hs1; go_wp2_with fail
 rw [← HYE.out]
 go_loopw [6, 7] (fun ev iv wr => ∃ (k : Nat) (E F : Int) (R : List OpD) (ra : Option Addr) (rc : Nat), ev = .int .i64 E ∧ iv = .int .i64 (k : Int) ∧ k ≤ L.length ∧ wr.heap[w.heap.size]? = some (.cells #[.int .i64 F, .slice ra R.length rc] 24 (0, 0)) ∧ OwnOps wr w.heap.size (.slice ra R.length rc) R ∧ OSized R ∧
  (if E = 0 then pastR (L.drop k) F R else (E, F, R)) = (E0, F0, R0) ∧ wr.heap[w.heap.size + 1]? = some (.cells #[.int .i64 0, .slice none 0 0] 24 (0, 0)) ∧ Below w.heap.size w wr) (fun _ iv _ => L.length - (intOf iv).toNat)
 case atStart => exact ⟨0, E1, F1, R1, a1, c1, rfl, rfl, Nat.zero_le _, HYS.out.1, HO1.out, HS1.out, by rw [List.drop_zero]; exact HF1.out, HYS.out.2, BY.out⟩
 case round =>
  obtain ⟨k, E, F, R, ra, rc, rfl, rfl, hk, hbx, hrow, hsz, hfn, hres, hbel⟩ := hrel; obtain ⟨x0, x1, xl⟩ := box_at hbx; have f0 : wr.frozen? ⟨w.heap.size, 0, none⟩ = false := (cells2 hbx).2.2.1; have f1 : wr.frozen? ⟨w.heap.size, 1, none⟩ = false := (cells2 hbx).2.2.2; have HBX := hid hbx; have HRW := hid hrow; have HSZ := hid hsz; have HRS := hid hres; have HBL := hid hbel
  by_cases hkl : k < L.length
  ·have c1 : (k : Int) < (L.length : Int) := by omega
   by_cases hE : E = 0
   ·subst hE
    rw [if_pos rfl, List.drop_eq_getElem_cons hkl] at hfn; have HFN := hid hfn; obtain ⟨b, off, u, e1, hlt, y0, y1, yr⟩ := (HV.out.below HBL.out).at k hkl; subst e1; have hk0 : (0 : Int) ≤ (k : Int) := by omega
    have HY := hid yr; obtain ⟨ua, uc, rfl⟩ := yr.shape; have HZk := hid (HZ.out _ (List.getElem_mem hkl)); have HC := hid (folO (fi := false) (f := L[k].1) (g := F) (w := wr.drew) (HY.out : OpRow wr _ _) HZk.out (HRW.out.row : OpRow wr _ R) HSZ.out); have HAL := hid (And.intro (pastR_ok (c := L[k]) (L := L.drop (k + 1)) (f := F) (R := R)) (pastR_bad (c := L[k]) (L := L.drop (k + 1)) (f := F) (R := R))); have HCS := hid (folR_sized false L[k].1 F L[k].2 R); have hcr : folE false L[k].1 F L[k].2 R ≠ 0 → folR false L[k].1 F L[k].2 R = [] := folR_bad; have HCR := hid hcr; generalize L[k] = ck at *; obtain ⟨g, C⟩ := ck; simp only at *; generalize folE false g F C R = E2 at *; generalize folR false g F C R = R2 at *; generalize hTN : toN g C = TN at *; obtain ⟨F2, hF2⟩ : ∃ F2, F2 = if E2 = 0 then TN else 0 := ⟨_, rfl⟩; rw [← hF2] at HC; have HF2 := hid hF2; clear hF2 hTN; generalize hL2 : List.drop (k + 1) L = L2 at *
    have HL2 := hid hL2; clear hL2; clear hfn hbx hrow hsz hres hbel hk hcr yr; go_wp2_with fail
    go_region_with (first
     | (go_at_call 15; (with_reducible refine HC.out.mono ?_); rintro e w2 ⟨a2, c2, rfl, O2, b2⟩; have B2 := hid ((Below.refl wr.heap.size wr).drew.trans b2); have HO2 := hid O2; obtain ⟨x0', x1', xl'⟩ := box_at (heap_up HBX.out B2.out); have f0' : w2.frozen? ⟨w.heap.size, 0, none⟩ = false := (cells2 (heap_up HBX.out B2.out)).2.2.1; have f1' : w2.frozen? ⟨w.heap.size, 1, none⟩ = false := (cells2 (heap_up HBX.out B2.out)).2.2.2; clear O2 b2))
    all_goals
     (obtain ⟨q1, q2, q3⟩ := agg_set (.int .i64 F2) (.slice a2 R2.length c2) (heap_up HBX.out B2.out)
      have hs2 := q2.below.size; have FIN : _ ∧ _ ∧ _ ∧ _ := ⟨q1, (HO2.out.base (Nat.le_trans HBL.out.size (Nat.le_refl _))).keep7 q2 (by decide) (by decide), (q3 _ (by omega)).trans (heap_up HRS.out B2.out), (HBL.out.trans (B2.out.mono HBL.out.size)).trans (q2.below.mono (by omega))⟩; have HFIN := hid FIN; clear q1 q2 q3 FIN x0 x1 xl x0' x1' f0' f1' y0 y1; go_wp2_with fail
      go_roundw
      case rel =>
       refine ⟨k + 1, E2, F2, R2, a2, c2, rfl, by go_num, by omega, HFIN.out.1, HFIN.out.2.1, HCS.out, ?_, HFIN.out.2.2.1, HFIN.out.2.2.2⟩; rw [HF2.out]
       by_cases h0 : E2 = 0
       ·rw [if_pos h0, if_pos h0, HL2.out, ← HFN.out]
        exact (HAL.out.1 h0).symm
       ·rw [if_neg h0, if_neg h0, ← HFN.out, HCR.out h0]
        exact (HAL.out.2 h0).symm
      case measure => simp [intOf]; omega)
   ·have c2 := not_int hE
    rw [if_neg hE] at hfn; have HFN := hid hfn; obtain ⟨z0, z1, zl⟩ := box_at HRS.out; have g0 : wr.frozen? ⟨w.heap.size + 1, 0, none⟩ = false := (cells2 HRS.out).2.2.1; have g1 : wr.frozen? ⟨w.heap.size + 1, 1, none⟩ = false := (cells2 HRS.out).2.2.2; clear hfn hbx hrow hsz hres hbel hk; go_wp2_with fail
    obtain ⟨q1, q2, q3⟩ := agg_set (.int .i64 F) (.slice ra R.length rc) HRS.out; refine bodyPost_ret (results_all rfl rfl rfl (cells2 q1).1 (cells2 q1).2.1) rfl ?_; have hfn := HFN.out; simp only [Prod.mk.injEq] at hfn; obtain ⟨rfl, rfl, rfl⟩ := hfn; exact ⟨ra, rc, rfl, HRW.out.keep7 q2 (by decide) (by decide), HBL.out.trans (q2.below.mono (by omega))⟩
  ·have c1 : ¬ (k : Int) < (L.length : Int) := by omega
   have hfn' : (E, F, R) = (E0, F0, R0) := by
    rw [← hfn, List.drop_of_length_le (by omega)]; split
    ·rename_i h0
     rw [h0]; rfl
    ·rfl
   have HFN := hid hfn'; clear hfn'; obtain ⟨z0, z1, zl⟩ := box_at HRS.out; have g0 : wr.frozen? ⟨w.heap.size + 1, 0, none⟩ = false := (cells2 HRS.out).2.2.1; have g1 : wr.frozen? ⟨w.heap.size + 1, 1, none⟩ = false := (cells2 HRS.out).2.2.2; clear hfn hbx hrow hsz hres hbel hk; go_wp2_with fail
   obtain ⟨q1, q2, q3⟩ := agg_set (.int .i64 F) (.slice ra R.length rc) HRS.out; refine bodyPost_ret (results_all rfl rfl rfl (cells2 q1).1 (cells2 q1).2.1) rfl ?_; have hfn := HFN.out; simp only [Prod.mk.injEq] at hfn; obtain ⟨rfl, rfl, rfl⟩ := hfn; exact ⟨ra, rc, rfl, HRW.out.keep7 q2 (by decide) (by decide), HBL.out.trans (q2.below.mono (by omega))⟩
end
end Go.Proofs.Ytchceolbbkhnnaa
