/- Texts of this seat, put together: Ga, Gb. -/
import Derived.Test.YtlfodemmdfaeeaaDoorGF5
import Derived.Test.YtlfodemmdfaeeaaDoorGL2
/- Follow, as the laws' walks take it; layer 7's awake: the document's examples. -/
namespace Go.Proofs.YtlfodemmdfaeeaaDoor
open Go.RowKit Rn Ch
open At hiding put
open Cp (atms FolF folN sizF)

/-- Where Follow tells no error. -/
structure FolG (fi : Bool) (f g : Int) (A C R : List OpD) : Prop where
  a : toE f A = 0
  c : toE g C = 0
  same : f = g
  eq : R = folN fi (norm A) (norm C)
  ok : OkC (toN f A) R
  once : norm R = R
  size : toN (toN f A) R = sizF fi f (norm A) (norm C)
  F : FolF f (norm A) (norm C)
def folR (fi : Bool) (f g : Int) (A C : List OpD) : List OpD := if folE fi f g A C = 0 then folN fi (norm A) (norm C) else []
theorem FolG.toE {fi : Bool} {f g : Int} {A C R : List OpD} (h : FolG fi f g A C R) : toE (toN f A) R = 0 := (toE_iff _ _).2 h.ok
theorem FolG.is {fi : Bool} {f g : Int} {A C R : List OpD} (h : FolG fi f g A C R) : isB (toN f A) R = true := decide_eq_true ⟨h.toE, h.once.symm⟩
theorem FolG.sized {fi : Bool} {f g : Int} {A C R : List OpD} (h : FolG fi f g A C R) : OSized R := okc_sized7 h.ok
theorem folF_of {f : Int} {A C : List OpD} (h1 : toE f A = 0) (h2 : toE f C = 0) : FolF f (norm A) (norm C) ∧ toN f A = f - dl (norm A) + Ch.ins (norm A) := by
  have h3 := norm_to h1
  exact ⟨⟨(norm_ok ((toE_iff _ _).1 h1)).1, (norm_ok ((toE_iff _ _).1 h2)).1⟩, by rw [← h3.2, toN_ok h3.1]⟩
theorem fol_ok {fi : Bool} {f g : Int} {A C : List OpD} (h : folE fi f g A C = 0) : FolG fi f g A C (folR fi f g A C) := by
  have h0 : nrmF f g A C = 0 := by
    refine Classical.byContradiction fun hn => ?_
    unfold folE at h
    rw [if_pos hn] at h
    exact hn h
  obtain ⟨h1, h2, h3⟩ := nrmF_zero h0
  subst h3
  obtain ⟨hF, hn⟩ := folF_of h1 h2
  have h4 : ¬ 20000 < sizF fi f (norm A) (norm C) := fun hb => by
    unfold folE at h
    rw [if_neg (by rw [h0]; simp), if_pos hb] at h
    omega
  have h5 : ¬ 2000 < (folN fi (norm A) (norm C)).length := fun hb => by
    unfold folE at h
    rw [if_neg (by rw [h0]; simp), if_neg h4, if_pos hb] at h
    omega
  obtain ⟨_, _, a3, a4, a5, a6, a7, a8⟩ := hF.all fi
  have ok := a8 (by omega) (by omega)
  unfold folR
  rw [if_pos h]
  rw [← hn] at ok a7
  exact ⟨h1, h2, rfl, rfl, ok, a3, by rw [toN_ok ((toE_iff _ _).2 ok), a7], hF⟩
theorem folR_bad {fi : Bool} {f g : Int} {A C : List OpD} (h : folE fi f g A C ≠ 0) : folR fi f g A C = [] := by unfold folR; rw [if_neg h]
theorem folO {fi : Bool} {f g : Int} {va vb : Value} {A C : List OpD} {w : World} (hv : OpRow w va A) (hz : OSized A) (hu : OpRow w vb C) (hy : OSized C) :
    Calls Tryd.prog 13 #[chAgg f va, chAgg g vb, .bool fi] w (ChOwn w (if folE fi f g A C = 0 then toN f A else 0) (folE fi f g A C) (folR fi f g A C)) :=
  (follow_any fi f g va vb A C w hv hz hu hy).mono fun e w' ⟨b, a, n, c, h1, h2⟩ => by
    have hr : OpRow w' (.slice a n c) (folR fi f g A C) := OwnOps.row h2
    obtain ⟨a2, c2, h3⟩ := hr.shape
    injection h3 with e1 e2 e3
    subst e2
    exact ⟨a, c, h1, h2, b⟩
theorem folH_okR {fi : Bool} {f g n : Int} {va vb : Value} {A C R : List OpD} {w : World} (hv : OpRow w va A) (hz : OSized A) (hu : OpRow w vb C) (hy : OSized C) (h : folE fi f g A C = 0) (hn : toN f A = n) (hr : folR fi f g A C = R) :
    Calls Tryd.prog 13 #[chAgg f va, chAgg g vb, .bool fi] w (ChOwn w n 0 R) := by
  have := folO (fi := fi) (f := f) (g := g) hv hz hu hy
  rwa [h, if_pos rfl, hn, hr] at this
theorem folH_badE {fi : Bool} {f g E : Int} {va vb : Value} {A C : List OpD} {w : World} (hv : OpRow w va A) (hz : OSized A) (hu : OpRow w vb C) (hy : OSized C) (h : folE fi f g A C ≠ 0) (he : folE fi f g A C = E) :
    Calls Tryd.prog 13 #[chAgg f va, chAgg g vb, .bool fi] w (ChOwn w 0 E []) := by
  have := folO (fi := fi) (f := f) (g := g) hv hz hu hy
  rwa [if_neg h, folR_bad h, he] at this
theorem folH_eq {fi : Bool} {f g F E : Int} {va vb : Value} {A C R : List OpD} {w : World} (hv : OpRow w va A) (hz : OSized A) (hu : OpRow w vb C) (hy : OSized C) (hF : (if folE fi f g A C = 0 then toN f A else 0) = F) (hE : folE fi f g A C = E) (hR : folR fi f g A C = R) :
    Calls Tryd.prog 13 #[chAgg f va, chAgg g vb, .bool fi] w (ChOwn w F E R) := by
  rw [← hF, ← hE, ← hR]
  exact folO hv hz hu hy

def e7a : List OpD := [⟨2, 0, xText, []⟩]
def e7b : List OpD := [⟨2, 0, yText, []⟩]
def e7r : List OpD := [bareO 1 1, ⟨2, 0, yText, []⟩]
theorem e7_to : toE 3 e7a = 0 ∧ toN 3 e7a = 4 ∧ toE 3 e7b = 0 ∧ toE 2 [] = 0 := by decide +kernel
theorem e7_norm : norm e7a = e7a ∧ norm e7b = e7b := by decide +kernel
theorem e7_atms : atms e7a = [.ins 120 []] ∧ atms e7b = [.ins 121 []] := ⟨by rfl, by rfl⟩
theorem e7_fol : Cp.fol false [.ins 120 []] [.ins 121 []] = [.keep [], .ins 121 []] ∧ Cp.fol true [.ins 120 []] [.ins 121 []] = [.ins 121 [], .keep []] := by
  rw [Cp.fol_iif, Cp.fol_nil, Cp.fol_iit, Cp.fol_in, Cp.fol_nil]
  exact ⟨rfl, rfl⟩
theorem e7_nrm : Cp.normA [.keep [], .ins 121 []] = e7r ∧ Cp.normA [.ins 121 [], .keep []] = e7b := by decide +kernel
theorem e7_N : folN false (norm e7a) (norm e7b) = e7r ∧ folN true (norm e7a) (norm e7b) = e7b := by
  unfold folN
  rw [e7_norm.1, e7_norm.2, e7_atms.1, e7_atms.2, e7_fol.1, e7_fol.2]
  exact e7_nrm
theorem e7_siz : sizF false 3 (norm e7a) (norm e7b) = 5 ∧ sizF true 3 (norm e7a) (norm e7b) = 5 := by
  unfold sizF
  rw [e7_norm.1, e7_norm.2, e7_atms.1, e7_atms.2, e7_fol.1, e7_fol.2]
  have h : dl e7a = 0 ∧ Ch.ins e7a = 1 := by decide +kernel
  rw [h.1, h.2]
  exact ⟨rfl, rfl⟩
theorem e7_ok (fi : Bool) : folE fi 3 3 e7a e7b = 0 := by
  have h : nrmF 3 3 e7a e7b = 0 := by unfold nrmF; rw [if_neg (by rw [e7_to.1]; simp), if_neg (by rw [e7_to.2.2.1]; simp), if_neg (by simp)]
  unfold folE
  rw [if_neg (by rw [h]; simp)]
  cases fi with
  | true => rw [e7_siz.2, e7_N.2, if_neg (by decide), if_neg (by decide)]
  | false => rw [e7_siz.1, e7_N.1, if_neg (by decide), if_neg (by decide)]
theorem e7_bad : folE true 3 2 e7a [] = 31 := by
  have h : nrmF 3 2 e7a [] = 31 := by unfold nrmF; rw [if_neg (by rw [e7_to.1]; simp), if_neg (by rw [e7_to.2.2.2]; simp), if_pos (by decide)]
  unfold folE
  rw [h, if_pos (by decide)]
theorem e7_R : folR false 3 3 e7a e7b = e7r ∧ folR true 3 3 e7a e7b = e7b := by
  unfold folR
  rw [if_pos (e7_ok _), if_pos (e7_ok _)]
  exact e7_N
theorem e7a_sized : OSized e7a := okc_sized7 ((toE_iff _ _).1 e7_to.1)
theorem e7b_sized : OSized e7b := okc_sized7 ((toE_iff _ _).1 e7_to.2.2.1)
theorem e7aRow (w : World) (t : ByteArray) : OpRow (w.alloc (.cells #[.int .i64 2, .int .i64 0, .string t, .slice none 0 0] 45)) (.slice (some ⟨w.heap.size, 0, none⟩) 1 1) [⟨2, 0, t, []⟩] :=
  opRow_new w [(⟨2, 0, t, []⟩, nilV)] (fun p hp => by rw [List.mem_singleton.1 hp]; exact ⟨rfl, rfl⟩) (by show 1 ≤ maxLen; decide)
set_option maxRecDepth 100000 in
set_option maxHeartbeats 4000000 in
theorem awake7_any (w : World) : Calls Tryd.prog 12 #[] w (OutB w true) := by
  go_enter Tryd.func12, Tryd.ntmps12
  have B0 := Lib.hid (Below.refl w.heap.size w)
  go_wp2_with fail
  refine (lawPut_any ⟨#[120]⟩ _).mono ?_
  rintro e w1 ⟨rfl, b⟩
  obtain ⟨W3, hW3, r3, x3, b3⟩ : ∃ W3, W3 = (w1.alloc (.cells #[.int .i64 2, .int .i64 0, .string xText, .slice none 0 0] 45)).alloc (.cells #[.int .i64 3, .slice (some ⟨w1.heap.size, 0, none⟩) 1 1] 25) ∧
      OpRow W3 (.slice (some ⟨w1.heap.size, 0, none⟩) 1 1) e7a ∧ W3.heap[w1.heap.size + 1]? = some (.cells #[.int .i64 3, .slice (some ⟨w1.heap.size, 0, none⟩) 1 1] 25 (0, 0)) ∧ Below w1.heap.size w1 W3 :=
    ⟨_, rfl, (e7aRow w1 xText).below (below_box _ _), (box2 _ _ _).2.1, (box2 _ _ _).2.2⟩
  have B3 := Lib.hid ((B0.out.trans (b.mono B0.out.size)).trans (b3.mono b.size))
  have R3 := Lib.hid r3
  have X3 := Lib.hid x3
  have HW3 := Lib.hid hW3
  clear hW3 r3 x3 b3 b
  go_wp2_with fail
  rw [← HW3.out]
  refine (lawPut_any ⟨#[121]⟩ _).mono ?_
  rintro e w4 ⟨rfl, b⟩
  obtain ⟨W7, hW7, r7, x7, b7⟩ : ∃ W7, W7 = (w4.alloc (.cells #[.int .i64 2, .int .i64 0, .string yText, .slice none 0 0] 45)).alloc (.cells #[.int .i64 3, .slice (some ⟨w4.heap.size, 0, none⟩) 1 1] 25) ∧
      OpRow W7 (.slice (some ⟨w4.heap.size, 0, none⟩) 1 1) e7b ∧ W7.heap[w4.heap.size + 1]? = some (.cells #[.int .i64 3, .slice (some ⟨w4.heap.size, 0, none⟩) 1 1] 25 (0, 0)) ∧ Below w4.heap.size w4 W7 :=
    ⟨_, rfl, (e7aRow w4 yText).below (below_box _ _), (box2 _ _ _).2.1, (box2 _ _ _).2.2⟩
  have B7 := Lib.hid (b.trans (b7.mono b.size))
  have R7 := Lib.hid (And.intro (R3.out.below B7.out) r7)
  obtain ⟨c0, c1, l3⟩ := box_at (heap_up X3.out b)
  have l4 : w1.heap.size < w4.heap.size := by omega
  have X7 := Lib.hid (And.intro (heap_up X3.out B7.out) x7)
  have HW7 := Lib.hid hW7
  have D7 := Lib.hid (B3.out.trans (B7.out.mono B3.out.size))
  clear b b7 r7 x7 hW7
  go_wp2_with fail
  rw [← HW7.out]
  refine (folH_okR (fi := false) (f := 3) (g := 3) R7.out.1 e7a_sized R7.out.2 e7b_sized (e7_ok _) e7_to.2.1 e7_R.1).mono ?_
  rintro e w8 ⟨ra, rc, rfl, o8, b8⟩
  obtain ⟨kb, off, rfl, hkb, _, _, _, g2⟩ := row_at o8.row 1 (by decide)
  obtain ⟨c0', c1', l8⟩ := box_at (heap_up X7.out.1 b8)
  obtain ⟨d0', d1', l8'⟩ := box_at (heap_up X7.out.2 b8)
  have D8 := Lib.hid (D7.out.trans (b8.mono D7.out.size))
  have R8 := Lib.hid (And.intro (R7.out.1.below b8) (R7.out.2.below b8))
  have G8 := Lib.hid (And.intro hkb g2)
  have X8 := Lib.hid (And.intro (heap_up X7.out.1 b8) (heap_up X7.out.2 b8))
  clear b8 o8 g2 c0 c1 l3 l4
  obtain ⟨X9, hX9, x9, bX⟩ : ∃ X, X = w8.alloc (.cells #[.int .i64 4, .slice (some ⟨kb, off, none⟩) e7r.length rc] 25) ∧ X.heap[w8.heap.size]? = some (.cells #[.int .i64 4, .slice (some ⟨kb, off, none⟩) e7r.length rc] 25 (0, 0)) ∧ Below w8.heap.size w8 X := ⟨_, rfl, heap_new _ _, below_box _ _⟩
  have B9 := Lib.hid bX
  have HX9 := Lib.hid hX9
  have H9 := Lib.hid x9
  clear bX hX9 x9
  go_wp2_with fail
  rw [← HX9.out]
  refine (folH_okR (fi := true) (f := 3) (g := 3) (R8.out.1.below B9.out) e7a_sized (R8.out.2.below B9.out) e7b_sized (e7_ok _) e7_to.2.1 e7_R.2).mono ?_
  rintro e w10 ⟨sa, sc, rfl, _, b10⟩
  have B810 := Lib.hid (B9.out.trans (b10.mono B9.out.size))
  obtain ⟨m0, m1, ml⟩ := box_at (heap_up X8.out.1 B810.out)
  have H10 := Lib.hid (heap_up H9.out b10)
  have D10 := Lib.hid (D8.out.trans (B810.out.mono D8.out.size))
  obtain ⟨Z, hZ, z9, bZ⟩ : ∃ X, X = w10.alloc (.cells #[.int .i64 4, .slice sa e7b.length sc] 25) ∧ X.heap[w10.heap.size]? = some (.cells #[.int .i64 4, .slice sa e7b.length sc] 25 (0, 0)) ∧ Below w10.heap.size w10 X := ⟨_, rfl, heap_new _ _, below_box _ _⟩
  have BZ := Lib.hid bZ
  have HZ := Lib.hid hZ
  have HZ9 := Lib.hid z9
  have HB := Lib.hid (folH_badE (fi := true) (f := 3) (g := 2) (w := Z) ((R8.out.1.below B810.out).below bZ) e7a_sized (OpRow.nil Z) nil_sized (by rw [e7_bad]; decide) e7_bad)
  clear b10 c0' c1' l8 d0' d1' l8' bZ hZ z9
  go_wp2_with fail
  rw [← HZ.out]
  refine HB.out.mono ?_
  rintro e w11 ⟨qa, qc, rfl, _, b11⟩
  obtain ⟨n0, n1, nl⟩ := box_at (heap_up (heap_up H10.out BZ.out) b11)
  obtain ⟨o0, o1, ol⟩ := box_at (heap_up HZ9.out b11)
  have b811 := (B810.out.trans (BZ.out.mono B810.out.size)).trans (b11.mono (Nat.le_trans B810.out.size BZ.out.size))
  have g2 : w11.cell? ⟨kb, off + 6, none⟩ = some (.string ⟨#[121]⟩) := (b811.cell (by exact G8.out.1)).trans G8.out.2
  have lk : kb < w11.heap.size := Nat.lt_of_lt_of_le G8.out.1 b811.size
  have D11 := Lib.hid (D8.out.trans (b811.mono D8.out.size))
  clear b11 m0 m1 ml b811
  go_wp2_with fail
  go_ret
  refine ⟨rfl, (D11.out.alloc D11.out.size _)⟩
end Go.Proofs.YtlfodemmdfaeeaaDoor


namespace Go.Proofs.YtlfodemmdfaeeaaDoor
open Go.RowKit Rn Ch
open At hiding put
open Cp (atms FolF folN sizF)

/-- Two beside each other, where each may follow the other. -/
structure MeetF (fi : Bool) (f n m : Int) (A C X Y : List OpD) : Prop where
  l : cmpE f n A X ≠ 31
  r : cmpE f m C Y ≠ 31
  same : cmpE f n A X = 0 → cmpE f m C Y = 0 → cmpR f n A X = cmpR f m C Y
  long : toN n X = toN m Y
end Go.Proofs.YtlfodemmdfaeeaaDoor
