/- Texts of this seat, put together: Ga, Gb. -/
import Derived.Test.YtlgpihboojgpmaaGF5
import Derived.Test.YtlgpihboojgpmaaGL3
/- Follow, as the laws' walks take it; layer 7's awake: the document's examples. -/
namespace Go.Proofs.Ytlgpihboojgpmaa
open Go.RowKit Rn Ch
open At hiding put
open Cp (atms FolF folN sizF)

/-- Where Follow tells no error. -/
structure FolG (fi : Bool) (f g : Int) (A C R : List OpD) : Prop where
  a : toE f A = 0
  c : toE g C = 0
  same : f = g
  eq : R = folN fi (norm A) (norm C)
  ok : OkC (toN f A) R
  once : norm R = R
  size : toN (toN f A) R = sizF fi f (norm A) (norm C)
  F : FolF f (norm A) (norm C)
def folR (fi : Bool) (f g : Int) (A C : List OpD) : List OpD := if folE fi f g A C = 0 then folN fi (norm A) (norm C) else []
theorem FolG.toE {fi : Bool} {f g : Int} {A C R : List OpD} (h : FolG fi f g A C R) : toE (toN f A) R = 0 := (toE_iff _ _).2 h.ok
theorem FolG.is {fi : Bool} {f g : Int} {A C R : List OpD} (h : FolG fi f g A C R) : isB (toN f A) R = true := decide_eq_true ⟨h.toE, h.once.symm⟩
theorem FolG.sized {fi : Bool} {f g : Int} {A C R : List OpD} (h : FolG fi f g A C R) : OSized R := okc_sized7 h.ok
theorem folF_of {f : Int} {A C : List OpD} (h1 : toE f A = 0) (h2 : toE f C = 0) : FolF f (norm A) (norm C) ∧ toN f A = f - dl (norm A) + Ch.ins (norm A) := by
  have h3 := norm_to h1
  exact ⟨⟨(norm_ok ((toE_iff _ _).1 h1)).1, (norm_ok ((toE_iff _ _).1 h2)).1⟩, by rw [← h3.2, toN_ok h3.1]⟩
theorem fol_ok {fi : Bool} {f g : Int} {A C : List OpD} (h : folE fi f g A C = 0) : FolG fi f g A C (folR fi f g A C) := by
  have h0 : nrmF f g A C = 0 := by
    refine Classical.byContradiction fun hn => ?_
    unfold folE at h
    rw [if_pos hn] at h
    exact hn h
  obtain ⟨h1, h2, h3⟩ := nrmF_zero h0
  subst h3
  obtain ⟨hF, hn⟩ := folF_of h1 h2
  have h4 : ¬ 20000 < sizF fi f (norm A) (norm C) := fun hb => by
    unfold folE at h
    rw [if_neg (by rw [h0]; simp), if_pos hb] at h
    omega
  have h5 : ¬ 2000 < (folN fi (norm A) (norm C)).length := fun hb => by
    unfold folE at h
    rw [if_neg (by rw [h0]; simp), if_neg h4, if_pos hb] at h
    omega
  obtain ⟨_, _, a3, a4, a5, a6, a7, a8⟩ := hF.all fi
  have ok := a8 (by omega) (by omega)
  unfold folR
  rw [if_pos h]
  rw [← hn] at ok a7
  exact ⟨h1, h2, rfl, rfl, ok, a3, by rw [toN_ok ((toE_iff _ _).2 ok), a7], hF⟩
theorem folR_bad {fi : Bool} {f g : Int} {A C : List OpD} (h : folE fi f g A C ≠ 0) : folR fi f g A C = [] := by unfold folR; rw [if_neg h]
theorem folO {fi : Bool} {f g : Int} {va vb : Value} {A C : List OpD} {w : World} (hv : OpRow w va A) (hz : OSized A) (hu : OpRow w vb C) (hy : OSized C) :
    Calls Try.prog 27 #[chAgg f va, chAgg g vb, .bool fi] w (ChOwn w (if folE fi f g A C = 0 then toN f A else 0) (folE fi f g A C) (folR fi f g A C)) :=
  (follow_any fi f g va vb A C w hv hz hu hy).mono fun e w' ⟨b, a, n, c, h1, h2⟩ => by
    have hr : OpRow w' (.slice a n c) (folR fi f g A C) := OwnOps.row h2
    obtain ⟨a2, c2, h3⟩ := hr.shape
    injection h3 with e1 e2 e3
    subst e2
    exact ⟨a, c, h1, h2, b⟩
theorem folH_okR {fi : Bool} {f g n : Int} {va vb : Value} {A C R : List OpD} {w : World} (hv : OpRow w va A) (hz : OSized A) (hu : OpRow w vb C) (hy : OSized C) (h : folE fi f g A C = 0) (hn : toN f A = n) (hr : folR fi f g A C = R) :
    Calls Try.prog 27 #[chAgg f va, chAgg g vb, .bool fi] w (ChOwn w n 0 R) := by
  have := folO (fi := fi) (f := f) (g := g) hv hz hu hy
  rwa [h, if_pos rfl, hn, hr] at this
theorem folH_badE {fi : Bool} {f g E : Int} {va vb : Value} {A C : List OpD} {w : World} (hv : OpRow w va A) (hz : OSized A) (hu : OpRow w vb C) (hy : OSized C) (h : folE fi f g A C ≠ 0) (he : folE fi f g A C = E) :
    Calls Try.prog 27 #[chAgg f va, chAgg g vb, .bool fi] w (ChOwn w 0 E []) := by
  have := folO (fi := fi) (f := f) (g := g) hv hz hu hy
  rwa [if_neg h, folR_bad h, he] at this
theorem folH_eq {fi : Bool} {f g F E : Int} {va vb : Value} {A C R : List OpD} {w : World} (hv : OpRow w va A) (hz : OSized A) (hu : OpRow w vb C) (hy : OSized C) (hF : (if folE fi f g A C = 0 then toN f A else 0) = F) (hE : folE fi f g A C = E) (hR : folR fi f g A C = R) :
    Calls Try.prog 27 #[chAgg f va, chAgg g vb, .bool fi] w (ChOwn w F E R) := by
  rw [← hF, ← hE, ← hR]
  exact folO hv hz hu hy

def e7a : List OpD := [⟨2, 0, xText, []⟩]
def e7b : List OpD := [⟨2, 0, yText, []⟩]
def e7r : List OpD := [bareO 1 1, ⟨2, 0, yText, []⟩]
theorem e7_to : toE 3 e7a = 0 ∧ toN 3 e7a = 4 ∧ toE 3 e7b = 0 ∧ toE 2 [] = 0 := by decide +kernel
theorem e7_norm : norm e7a = e7a ∧ norm e7b = e7b := by decide +kernel
theorem e7_atms : atms e7a = [.ins 120 []] ∧ atms e7b = [.ins 121 []] := ⟨by rfl, by rfl⟩
theorem e7_fol : Cp.fol false [.ins 120 []] [.ins 121 []] = [.keep [], .ins 121 []] ∧ Cp.fol true [.ins 120 []] [.ins 121 []] = [.ins 121 [], .keep []] := by
  rw [Cp.fol_iif, Cp.fol_nil, Cp.fol_iit, Cp.fol_in, Cp.fol_nil]
  exact ⟨rfl, rfl⟩
theorem e7_nrm : Cp.normA [.keep [], .ins 121 []] = e7r ∧ Cp.normA [.ins 121 [], .keep []] = e7b := by decide +kernel
theorem e7_N : folN false (norm e7a) (norm e7b) = e7r ∧ folN true (norm e7a) (norm e7b) = e7b := by
  unfold folN
  rw [e7_norm.1, e7_norm.2, e7_atms.1, e7_atms.2, e7_fol.1, e7_fol.2]
  exact e7_nrm
theorem e7_siz : sizF false 3 (norm e7a) (norm e7b) = 5 ∧ sizF true 3 (norm e7a) (norm e7b) = 5 := by
  unfold sizF
  rw [e7_norm.1, e7_norm.2, e7_atms.1, e7_atms.2, e7_fol.1, e7_fol.2]
  have h : dl e7a = 0 ∧ Ch.ins e7a = 1 := by decide +kernel
  rw [h.1, h.2]
  exact ⟨rfl, rfl⟩
theorem e7_ok (fi : Bool) : folE fi 3 3 e7a e7b = 0 := by
  have h : nrmF 3 3 e7a e7b = 0 := by unfold nrmF; rw [if_neg (by rw [e7_to.1]; simp), if_neg (by rw [e7_to.2.2.1]; simp), if_neg (by simp)]
  unfold folE
  rw [if_neg (by rw [h]; simp)]
  cases fi with
  | true => rw [e7_siz.2, e7_N.2, if_neg (by decide), if_neg (by decide)]
  | false => rw [e7_siz.1, e7_N.1, if_neg (by decide), if_neg (by decide)]
theorem e7_bad : folE true 3 2 e7a [] = 31 := by
  have h : nrmF 3 2 e7a [] = 31 := by unfold nrmF; rw [if_neg (by rw [e7_to.1]; simp), if_neg (by rw [e7_to.2.2.2]; simp), if_pos (by decide)]
  unfold folE
  rw [h, if_pos (by decide)]
theorem e7_R : folR false 3 3 e7a e7b = e7r ∧ folR true 3 3 e7a e7b = e7b := by
  unfold folR
  rw [if_pos (e7_ok _), if_pos (e7_ok _)]
  exact e7_N
theorem e7a_sized : OSized e7a := okc_sized7 ((toE_iff _ _).1 e7_to.1)
theorem e7b_sized : OSized e7b := okc_sized7 ((toE_iff _ _).1 e7_to.2.2.1)
theorem e7aRow (w : World) (t : ByteArray) : OpRow (w.alloc (.cells #[.int .i64 2, .int .i64 0, .string t, .slice none 0 0] 49)) (.slice (some ⟨w.heap.size, 0, none⟩) 1 1) [⟨2, 0, t, []⟩] :=
  opRow_new w [(⟨2, 0, t, []⟩, nilV)] (fun p hp => by rw [List.mem_singleton.1 hp]; exact ⟨rfl, rfl⟩) (by show 1 ≤ maxLen; decide)
set_option maxRecDepth 100000 in
set_option maxHeartbeats 4000000 in
theorem awake7_any (w : World) : Calls Try.prog 26 #[] w (OutB w true) := by
  go_enter Try.func26, Try.ntmps26
  have B0 := Lib.hid (Below.refl w.heap.size w)
  go_wp2_with fail
  refine (lawPut_any ⟨#[120]⟩ _).mono ?_
  rintro e w1 ⟨rfl, b⟩
  obtain ⟨W3, hW3, r3, x3, b3⟩ : ∃ W3, W3 = (w1.alloc (.cells #[.int .i64 2, .int .i64 0, .string xText, .slice none 0 0] 49)).alloc (.cells #[.int .i64 3, .slice (some ⟨w1.heap.size, 0, none⟩) 1 1] 24) ∧
      OpRow W3 (.slice (some ⟨w1.heap.size, 0, none⟩) 1 1) e7a ∧ W3.heap[w1.heap.size + 1]? = some (.cells #[.int .i64 3, .slice (some ⟨w1.heap.size, 0, none⟩) 1 1] 24 (0, 0)) ∧ Below w1.heap.size w1 W3 :=
    ⟨_, rfl, (e7aRow w1 xText).below (below_box _ _), (box2 _ _ _).2.1, (box2 _ _ _).2.2⟩
  have B3 := Lib.hid ((B0.out.trans (b.mono B0.out.size)).trans (b3.mono b.size))
  have R3 := Lib.hid r3
  have X3 := Lib.hid x3
  have HW3 := Lib.hid hW3
  clear hW3 r3 x3 b3 b
  go_wp2_with fail
  rw [← HW3.out]
  refine (lawPut_any ⟨#[121]⟩ _).mono ?_
  rintro e w4 ⟨rfl, b⟩
  obtain ⟨W7, hW7, r7, x7, b7⟩ : ∃ W7, W7 = (w4.alloc (.cells #[.int .i64 2, .int .i64 0, .string yText, .slice none 0 0] 49)).alloc (.cells #[.int .i64 3, .slice (some ⟨w4.heap.size, 0, none⟩) 1 1] 24) ∧
      OpRow W7 (.slice (some ⟨w4.heap.size, 0, none⟩) 1 1) e7b ∧ W7.heap[w4.heap.size + 1]? = some (.cells #[.int .i64 3, .slice (some ⟨w4.heap.size, 0, none⟩) 1 1] 24 (0, 0)) ∧ Below w4.heap.size w4 W7 :=
    ⟨_, rfl, (e7aRow w4 yText).below (below_box _ _), (box2 _ _ _).2.1, (box2 _ _ _).2.2⟩
  have B7 := Lib.hid (b.trans (b7.mono b.size))
  have R7 := Lib.hid (And.intro (R3.out.below B7.out) r7)
  obtain ⟨c0, c1, l3⟩ := box_at (heap_up X3.out b)
  have l4 : w1.heap.size < w4.heap.size := by omega
  have X7 := Lib.hid (And.intro (heap_up X3.out B7.out) x7)
  have HW7 := Lib.hid hW7
  have D7 := Lib.hid (B3.out.trans (B7.out.mono B3.out.size))
  clear b b7 r7 x7 hW7
  go_wp2_with fail
  rw [← HW7.out]
  refine (folH_okR (fi := false) (f := 3) (g := 3) R7.out.1 e7a_sized R7.out.2 e7b_sized (e7_ok _) e7_to.2.1 e7_R.1).mono ?_
  rintro e w8 ⟨ra, rc, rfl, o8, b8⟩
  obtain ⟨kb, off, rfl, hkb, _, _, _, g2⟩ := row_at o8.row 1 (by decide)
  obtain ⟨c0', c1', l8⟩ := box_at (heap_up X7.out.1 b8)
  obtain ⟨d0', d1', l8'⟩ := box_at (heap_up X7.out.2 b8)
  have D8 := Lib.hid (D7.out.trans (b8.mono D7.out.size))
  have R8 := Lib.hid (And.intro (R7.out.1.below b8) (R7.out.2.below b8))
  have G8 := Lib.hid (And.intro hkb g2)
  have X8 := Lib.hid (And.intro (heap_up X7.out.1 b8) (heap_up X7.out.2 b8))
  clear b8 o8 g2 c0 c1 l3 l4
  obtain ⟨X9, hX9, x9, bX⟩ : ∃ X, X = w8.alloc (.cells #[.int .i64 4, .slice (some ⟨kb, off, none⟩) e7r.length rc] 24) ∧ X.heap[w8.heap.size]? = some (.cells #[.int .i64 4, .slice (some ⟨kb, off, none⟩) e7r.length rc] 24 (0, 0)) ∧ Below w8.heap.size w8 X := ⟨_, rfl, heap_new _ _, below_box _ _⟩
  have B9 := Lib.hid bX
  have HX9 := Lib.hid hX9
  have H9 := Lib.hid x9
  clear bX hX9 x9
  go_wp2_with fail
  rw [← HX9.out]
  refine (folH_okR (fi := true) (f := 3) (g := 3) (R8.out.1.below B9.out) e7a_sized (R8.out.2.below B9.out) e7b_sized (e7_ok _) e7_to.2.1 e7_R.2).mono ?_
  rintro e w10 ⟨sa, sc, rfl, _, b10⟩
  have B810 := Lib.hid (B9.out.trans (b10.mono B9.out.size))
  obtain ⟨m0, m1, ml⟩ := box_at (heap_up X8.out.1 B810.out)
  have H10 := Lib.hid (heap_up H9.out b10)
  have D10 := Lib.hid (D8.out.trans (B810.out.mono D8.out.size))
  obtain ⟨Z, hZ, z9, bZ⟩ : ∃ X, X = w10.alloc (.cells #[.int .i64 4, .slice sa e7b.length sc] 24) ∧ X.heap[w10.heap.size]? = some (.cells #[.int .i64 4, .slice sa e7b.length sc] 24 (0, 0)) ∧ Below w10.heap.size w10 X := ⟨_, rfl, heap_new _ _, below_box _ _⟩
  have BZ := Lib.hid bZ
  have HZ := Lib.hid hZ
  have HZ9 := Lib.hid z9
  have HB := Lib.hid (folH_badE (fi := true) (f := 3) (g := 2) (w := Z) ((R8.out.1.below B810.out).below bZ) e7a_sized (OpRow.nil Z) nil_sized (by rw [e7_bad]; decide) e7_bad)
  clear b10 c0' c1' l8 d0' d1' l8' bZ hZ z9
  go_wp2_with fail
  rw [← HZ.out]
  refine HB.out.mono ?_
  rintro e w11 ⟨qa, qc, rfl, _, b11⟩
  obtain ⟨n0, n1, nl⟩ := box_at (heap_up (heap_up H10.out BZ.out) b11)
  obtain ⟨o0, o1, ol⟩ := box_at (heap_up HZ9.out b11)
  have b811 := (B810.out.trans (BZ.out.mono B810.out.size)).trans (b11.mono (Nat.le_trans B810.out.size BZ.out.size))
  have g2 : w11.cell? ⟨kb, off + 6, none⟩ = some (.string ⟨#[121]⟩) := (b811.cell (by exact G8.out.1)).trans G8.out.2
  have lk : kb < w11.heap.size := Nat.lt_of_lt_of_le G8.out.1 b811.size
  have D11 := Lib.hid (D8.out.trans (b811.mono D8.out.size))
  clear b11 m0 m1 ml b811
  go_wp2_with fail
  go_ret
  refine ⟨rfl, (D11.out.alloc D11.out.size _)⟩
end Go.Proofs.Ytlgpihboojgpmaa

/- The laws FollowMeets and FollowLong, walked. -/
namespace Go.Proofs.Ytlgpihboojgpmaa
open Go.RowKit Rn Ch
open At hiding put
open Cp (atms FolF folN sizF)

theorem toH_n {f n : Int} {v : Value} {ops : List OpD} {w : World} (hv : OpRow w v ops) (hz : OSized ops) (he : toE f ops = 0) (hn : n = toN f ops) :
    Calls Try.prog 21 #[chAgg f v] w fun e w' => e = .returned (.tuple #[.int .i64 n, .int .i64 0]) ∧ Below w.heap.size w w' := by
  rw [hn]
  exact toH hv hz he
theorem isH {f : Int} {v : Value} {ops : List OpD} {w : World} (hv : OpRow w v ops) (hz : OSized ops) (h : isB f ops = true) : Calls Try.prog 25 #[chAgg f v] w (OutB w true) := by
  have := is_any f v ops w hv hz
  rwa [h] at this
/-- Two beside each other, where each may follow the other. -/
structure MeetF (fi : Bool) (f n m : Int) (A C X Y : List OpD) : Prop where
  l : cmpE f n A X ≠ 31
  r : cmpE f m C Y ≠ 31
  same : cmpE f n A X = 0 → cmpE f m C Y = 0 → cmpR f n A X = cmpR f m C Y
  long : toN n X = toN m Y
theorem meet_f {fi : Bool} {f : Int} {A C X Y : List OpD} (h1 : FolG fi f f A C X) (h2 : FolG (!fi) f f C A Y) : MeetF fi f (toN f A) (toN f C) A C X Y := by
  refine ⟨?_, ?_, fun e1 e2 => ?_, ?_⟩
  · have := cmpE_cases (nrmE_mk h1.a h1.toE rfl)
    omega
  · have := cmpE_cases (nrmE_mk h2.a h2.toE rfl)
    omega
  · unfold cmpR
    rw [if_pos e1, if_pos e2, h1.once, h2.once, h1.eq, h2.eq]
    exact h1.F.meet fi
  · rw [h1.size, h2.size]
    exact h1.F.long fi
set_option maxRecDepth 100000 in
set_option maxHeartbeats 8000000 in
theorem fmeets_walk (f : Int) (va : Value) (A : List OpD) (g : Int) (vb : Value) (C : List OpD) (fi : Bool) (w : World) (hva : OpRow w va A) (hza : OSized A) (hvb : OpRow w vb C) (hzb : OSized C) :
    Calls Try.prog 8 #[chAgg f va, chAgg g vb, .bool fi] w (OutB w true) := by
  obtain ⟨ua, ta, rfl⟩ := hva.shape
  obtain ⟨ub, tb, rfl⟩ := hvb.shape
  obtain ⟨W, hW, ka, kb, bW⟩ : ∃ W, W = ((w.alloc (.cells #[.int .i64 f, .slice ua A.length ta] 24)).alloc (.cells #[.int .i64 g, .slice ub C.length tb] 24)) ∧ W.heap[w.heap.size]? = some (.cells #[.int .i64 f, .slice ua A.length ta] 24 (0, 0)) ∧ W.heap[w.heap.size + 1]? = some (.cells #[.int .i64 g, .slice ub C.length tb] 24 (0, 0)) ∧ Below w.heap.size w W := ⟨_, rfl, (box2 _ _ _).1, (box2 _ _ _).2.1, (box2 _ _ _).2.2⟩
  have Ra := Lib.hid (hva.below bW)
  have Za := Lib.hid hza
  have Ha := Lib.hid ka
  have Ja := Lib.hid (Below.refl W.heap.size W)
  have Rb := Lib.hid (hvb.below bW)
  have Zb := Lib.hid hzb
  have Hb := Lib.hid kb
  have Jb := Lib.hid (Below.refl W.heap.size W)
  have J0 := Lib.hid (Below.refl W.heap.size W)
  have BW := Lib.hid bW
  have HW := Lib.hid hW
  clear hva hza ka hvb hzb kb bW hW
  go_enter Try.func8, Try.ntmps8
  go_wp2_with fail
  rw [← HW.out]
  refine (awake7_any _).mono ?_
  rintro e y1 ⟨rfl, d1⟩
  have Ja := Lib.hid (Ja.out.trans (d1.mono Ja.out.size))
  have Jb := Lib.hid (Jb.out.trans (d1.mono Jb.out.size))
  have J0 := Lib.hid (J0.out.trans (d1.mono J0.out.size))
  obtain ⟨c0a, c1a, cla⟩ := box_at (heap_up Ha.out Ja.out)
  obtain ⟨c0b, c1b, clb⟩ := box_at (heap_up Hb.out Jb.out)
  clear d1
  go_wp2_with fail
  by_cases hE : folE fi f g A C = 0
  · by_cases hF : folE (!fi) g f C A = 0
    · obtain rfl : f = g := (fol_ok hE).same
      obtain ⟨XR, hX⟩ : ∃ XR, XR = folR fi f f A C := ⟨_, rfl⟩
      obtain ⟨YR, hY⟩ : ∃ YR, YR = folR (!fi) f f C A := ⟨_, rfl⟩
      have gx := fol_ok hE
      have gy := fol_ok hF
      rw [← hX] at gx
      rw [← hY] at gy
      obtain ⟨n, hn⟩ : ∃ n, n = toN f A := ⟨_, rfl⟩
      obtain ⟨m, hm⟩ : ∃ m, m = toN f C := ⟨_, rfl⟩
      have HMF := meet_f gx gy
      rw [← hn, ← hm] at HMF
      have SX := Lib.hid gx.sized
      have SY := Lib.hid gy.sized
      have GXI := Lib.hid gx
      have GYI := Lib.hid gy
      have TL := HMF.l
      have TR := HMF.r
      have HMF := Lib.hid HMF
      have HE := Lib.hid hE
      have HF := Lib.hid hF
      have HX := Lib.hid hX
      have HY := Lib.hid hY
      have Hn := Lib.hid hn
      have Hm := Lib.hid hm
      clear hE hF hX hY hn hm gx gy
      refine (folH_okR (Ra.out.below Ja.out) Za.out (Rb.out.below Jb.out) Zb.out HE.out Hn.out.symm HX.out.symm).mono ?_
      rintro e y2 ⟨a2, n2, rfl, r2, d2⟩
      have Ja := Lib.hid (Ja.out.trans (d2.mono Ja.out.size))
      have Jb := Lib.hid (Jb.out.trans (d2.mono Jb.out.size))
      have J0 := Lib.hid (J0.out.trans (d2.mono J0.out.size))
      clear c0a c1a cla c0b c1b clb
      obtain ⟨c0a, c1a, cla⟩ := box_at (heap_up Ha.out Ja.out)
      obtain ⟨c0b, c1b, clb⟩ := box_at (heap_up Hb.out Jb.out)
      obtain ⟨Xx, hX, x, bX⟩ : ∃ X, X = y2.alloc (.cells #[.int .i64 (n), .slice a2 (XR).length n2] 24) ∧ X.heap[y2.heap.size]? = some (.cells #[.int .i64 (n), .slice a2 (XR).length n2] 24 (0, 0)) ∧ Below y2.heap.size y2 X := ⟨_, rfl, heap_new _ _, below_box _ _⟩
      have Ex := Lib.hid hX
      have Hx := Lib.hid x
      have Rx := Lib.hid (show OpRow Xx (.slice a2 (XR).length n2) (XR) from r2.row.below bX)
      have Ja := Lib.hid (Ja.out.trans (bX.mono Ja.out.size))
      have Jb := Lib.hid (Jb.out.trans (bX.mono Jb.out.size))
      have J0 := Lib.hid (J0.out.trans (bX.mono J0.out.size))
      have Jx := Lib.hid (Below.refl Xx.heap.size Xx)
      clear d2 hX x bX r2
      go_wp2_with fail
      rw [← Ex.out]
      refine (folH_okR (Rb.out.below Jb.out) Zb.out (Ra.out.below Ja.out) Za.out HF.out Hm.out.symm HY.out.symm).mono ?_
      rintro e y3 ⟨a3, n3, rfl, r3, d3⟩
      have Ja := Lib.hid (Ja.out.trans (d3.mono Ja.out.size))
      have Jb := Lib.hid (Jb.out.trans (d3.mono Jb.out.size))
      have Jx := Lib.hid (Jx.out.trans (d3.mono Jx.out.size))
      have J0 := Lib.hid (J0.out.trans (d3.mono J0.out.size))
      clear c0a c1a cla c0b c1b clb
      obtain ⟨c0a, c1a, cla⟩ := box_at (heap_up Ha.out Ja.out)
      obtain ⟨c0b, c1b, clb⟩ := box_at (heap_up Hb.out Jb.out)
      obtain ⟨c0x, c1x, clx⟩ := box_at (heap_up Hx.out Jx.out)
      obtain ⟨Xy, hX, x, bX⟩ : ∃ X, X = y3.alloc (.cells #[.int .i64 (m), .slice a3 (YR).length n3] 24) ∧ X.heap[y3.heap.size]? = some (.cells #[.int .i64 (m), .slice a3 (YR).length n3] 24 (0, 0)) ∧ Below y3.heap.size y3 X := ⟨_, rfl, heap_new _ _, below_box _ _⟩
      have Ey := Lib.hid hX
      have Hy := Lib.hid x
      have Ry := Lib.hid (show OpRow Xy (.slice a3 (YR).length n3) (YR) from r3.row.below bX)
      have Ja := Lib.hid (Ja.out.trans (bX.mono Ja.out.size))
      have Jb := Lib.hid (Jb.out.trans (bX.mono Jb.out.size))
      have Jx := Lib.hid (Jx.out.trans (bX.mono Jx.out.size))
      have J0 := Lib.hid (J0.out.trans (bX.mono J0.out.size))
      have Jy := Lib.hid (Below.refl Xy.heap.size Xy)
      clear d3 hX x bX r3
      go_wp2_with fail
      rw [← Ey.out]
      by_cases hG : cmpE f n A XR = 0
      · by_cases hH : cmpE f m C YR = 0
        · have HG := Lib.hid hG
          refine (cmpH_okR (Ra.out.below Ja.out) Za.out (Rx.out.below Jx.out) SX.out HG.out rfl).mono ?_
          rintro e y4 ⟨a4, n4, rfl, r4, d4⟩
          have Ja := Lib.hid (Ja.out.trans (d4.mono Ja.out.size))
          have Jb := Lib.hid (Jb.out.trans (d4.mono Jb.out.size))
          have Jx := Lib.hid (Jx.out.trans (d4.mono Jx.out.size))
          have Jy := Lib.hid (Jy.out.trans (d4.mono Jy.out.size))
          have J0 := Lib.hid (J0.out.trans (d4.mono J0.out.size))
          clear c0a c1a cla c0b c1b clb c0x c1x clx
          obtain ⟨c0a, c1a, cla⟩ := box_at (heap_up Ha.out Ja.out)
          obtain ⟨c0b, c1b, clb⟩ := box_at (heap_up Hb.out Jb.out)
          obtain ⟨c0x, c1x, clx⟩ := box_at (heap_up Hx.out Jx.out)
          obtain ⟨c0y, c1y, cly⟩ := box_at (heap_up Hy.out Jy.out)
          obtain ⟨Xp, hX, x, bX⟩ : ∃ X, X = y4.alloc (.cells #[.int .i64 (f), .slice a4 (cmpR f n A XR).length n4] 24) ∧ X.heap[y4.heap.size]? = some (.cells #[.int .i64 (f), .slice a4 (cmpR f n A XR).length n4] 24 (0, 0)) ∧ Below y4.heap.size y4 X := ⟨_, rfl, heap_new _ _, below_box _ _⟩
          have Ep := Lib.hid hX
          have Hp := Lib.hid x
          have Rp := Lib.hid (show OpRow Xp (.slice a4 (cmpR f n A XR).length n4) (cmpR f n A XR) from r4.below bX)
          have Ja := Lib.hid (Ja.out.trans (bX.mono Ja.out.size))
          have Jb := Lib.hid (Jb.out.trans (bX.mono Jb.out.size))
          have Jx := Lib.hid (Jx.out.trans (bX.mono Jx.out.size))
          have Jy := Lib.hid (Jy.out.trans (bX.mono Jy.out.size))
          have J0 := Lib.hid (J0.out.trans (bX.mono J0.out.size))
          have Jp := Lib.hid (Below.refl Xp.heap.size Xp)
          clear d4 hX x bX r4
          go_wp2_with fail
          rw [← Ep.out]
          have HH := Lib.hid hH
          refine (cmpH_okR (Rb.out.below Jb.out) Zb.out (Ry.out.below Jy.out) SY.out HH.out rfl).mono ?_
          rintro e y5 ⟨a5, n5, rfl, r5, d5⟩
          have Ja := Lib.hid (Ja.out.trans (d5.mono Ja.out.size))
          have Jb := Lib.hid (Jb.out.trans (d5.mono Jb.out.size))
          have Jx := Lib.hid (Jx.out.trans (d5.mono Jx.out.size))
          have Jy := Lib.hid (Jy.out.trans (d5.mono Jy.out.size))
          have Jp := Lib.hid (Jp.out.trans (d5.mono Jp.out.size))
          have J0 := Lib.hid (J0.out.trans (d5.mono J0.out.size))
          clear c0a c1a cla c0b c1b clb c0x c1x clx c0y c1y cly
          obtain ⟨c0a, c1a, cla⟩ := box_at (heap_up Ha.out Ja.out)
          obtain ⟨c0b, c1b, clb⟩ := box_at (heap_up Hb.out Jb.out)
          obtain ⟨c0x, c1x, clx⟩ := box_at (heap_up Hx.out Jx.out)
          obtain ⟨c0y, c1y, cly⟩ := box_at (heap_up Hy.out Jy.out)
          obtain ⟨c0p, c1p, clp⟩ := box_at (heap_up Hp.out Jp.out)
          obtain ⟨Xq, hX, x, bX⟩ : ∃ X, X = y5.alloc (.cells #[.int .i64 (f), .slice a5 (cmpR f m C YR).length n5] 24) ∧ X.heap[y5.heap.size]? = some (.cells #[.int .i64 (f), .slice a5 (cmpR f m C YR).length n5] 24 (0, 0)) ∧ Below y5.heap.size y5 X := ⟨_, rfl, heap_new _ _, below_box _ _⟩
          have Eq := Lib.hid hX
          have Hq := Lib.hid x
          have Rq := Lib.hid (show OpRow Xq (.slice a5 (cmpR f m C YR).length n5) (cmpR f m C YR) from r5.below bX)
          have Ja := Lib.hid (Ja.out.trans (bX.mono Ja.out.size))
          have Jb := Lib.hid (Jb.out.trans (bX.mono Jb.out.size))
          have Jx := Lib.hid (Jx.out.trans (bX.mono Jx.out.size))
          have Jy := Lib.hid (Jy.out.trans (bX.mono Jy.out.size))
          have Jp := Lib.hid (Jp.out.trans (bX.mono Jp.out.size))
          have J0 := Lib.hid (J0.out.trans (bX.mono J0.out.size))
          have Jq := Lib.hid (Below.refl Xq.heap.size Xq)
          clear d5 hX x bX r5
          go_wp2_with fail
          rw [← Eq.out]
          have SE : cmpR f m C YR = cmpR f n A XR := (HMF.out.same HG.out HH.out).symm
          have RY := Rq.out
          rw [SE] at RY ⊢
          have RY := Lib.hid RY
          clear SE
          refine (sameH (Rp.out.below Jp.out) (RY.out.below Jq.out)).mono ?_
          rintro e y6 ⟨rfl, d6⟩
          have Ja := Lib.hid (Ja.out.trans (d6.mono Ja.out.size))
          have Jb := Lib.hid (Jb.out.trans (d6.mono Jb.out.size))
          have Jx := Lib.hid (Jx.out.trans (d6.mono Jx.out.size))
          have Jy := Lib.hid (Jy.out.trans (d6.mono Jy.out.size))
          have Jp := Lib.hid (Jp.out.trans (d6.mono Jp.out.size))
          have Jq := Lib.hid (Jq.out.trans (d6.mono Jq.out.size))
          have J0 := Lib.hid (J0.out.trans (d6.mono J0.out.size))
          clear c0a c1a cla c0b c1b clb c0x c1x clx c0y c1y cly c0p c1p clp
          obtain ⟨c0a, c1a, cla⟩ := box_at (heap_up Ha.out Ja.out)
          obtain ⟨c0b, c1b, clb⟩ := box_at (heap_up Hb.out Jb.out)
          obtain ⟨c0x, c1x, clx⟩ := box_at (heap_up Hx.out Jx.out)
          obtain ⟨c0y, c1y, cly⟩ := box_at (heap_up Hy.out Jy.out)
          obtain ⟨c0p, c1p, clp⟩ := box_at (heap_up Hp.out Jp.out)
          obtain ⟨c0q, c1q, clq⟩ := box_at (heap_up Hq.out Jq.out)
          clear d6
          have BF := BW.out.trans (J0.out.mono BW.out.size)
          have BG := Lib.hid BF
          clear BF
          go_wp2_with fail
          go_ret
          exact ⟨rfl, BG.out⟩
        · have HG := Lib.hid hG
          refine (cmpH_okR (Ra.out.below Ja.out) Za.out (Rx.out.below Jx.out) SX.out HG.out rfl).mono ?_
          rintro e y4 ⟨a4, n4, rfl, r4, d4⟩
          have Ja := Lib.hid (Ja.out.trans (d4.mono Ja.out.size))
          have Jb := Lib.hid (Jb.out.trans (d4.mono Jb.out.size))
          have Jx := Lib.hid (Jx.out.trans (d4.mono Jx.out.size))
          have Jy := Lib.hid (Jy.out.trans (d4.mono Jy.out.size))
          have J0 := Lib.hid (J0.out.trans (d4.mono J0.out.size))
          clear c0a c1a cla c0b c1b clb c0x c1x clx
          obtain ⟨c0a, c1a, cla⟩ := box_at (heap_up Ha.out Ja.out)
          obtain ⟨c0b, c1b, clb⟩ := box_at (heap_up Hb.out Jb.out)
          obtain ⟨c0x, c1x, clx⟩ := box_at (heap_up Hx.out Jx.out)
          obtain ⟨c0y, c1y, cly⟩ := box_at (heap_up Hy.out Jy.out)
          obtain ⟨Xp, hX, x, bX⟩ : ∃ X, X = y4.alloc (.cells #[.int .i64 (f), .slice a4 (cmpR f n A XR).length n4] 24) ∧ X.heap[y4.heap.size]? = some (.cells #[.int .i64 (f), .slice a4 (cmpR f n A XR).length n4] 24 (0, 0)) ∧ Below y4.heap.size y4 X := ⟨_, rfl, heap_new _ _, below_box _ _⟩
          have Ep := Lib.hid hX
          have Hp := Lib.hid x
          have Rp := Lib.hid (show OpRow Xp (.slice a4 (cmpR f n A XR).length n4) (cmpR f n A XR) from r4.below bX)
          have Ja := Lib.hid (Ja.out.trans (bX.mono Ja.out.size))
          have Jb := Lib.hid (Jb.out.trans (bX.mono Jb.out.size))
          have Jx := Lib.hid (Jx.out.trans (bX.mono Jx.out.size))
          have Jy := Lib.hid (Jy.out.trans (bX.mono Jy.out.size))
          have J0 := Lib.hid (J0.out.trans (bX.mono J0.out.size))
          have Jp := Lib.hid (Below.refl Xp.heap.size Xp)
          clear d4 hX x bX r4
          go_wp2_with fail
          rw [← Ep.out]
          have HH := Lib.hid hH
          refine (cmpH_badE (Rb.out.below Jb.out) Zb.out (Ry.out.below Jy.out) SY.out HH.out rfl).mono ?_
          rintro e y5 ⟨a5, n5, rfl, r5, d5⟩
          have Ja := Lib.hid (Ja.out.trans (d5.mono Ja.out.size))
          have Jb := Lib.hid (Jb.out.trans (d5.mono Jb.out.size))
          have Jx := Lib.hid (Jx.out.trans (d5.mono Jx.out.size))
          have Jy := Lib.hid (Jy.out.trans (d5.mono Jy.out.size))
          have Jp := Lib.hid (Jp.out.trans (d5.mono Jp.out.size))
          have J0 := Lib.hid (J0.out.trans (d5.mono J0.out.size))
          clear c0a c1a cla c0b c1b clb c0x c1x clx c0y c1y cly
          obtain ⟨c0a, c1a, cla⟩ := box_at (heap_up Ha.out Ja.out)
          obtain ⟨c0b, c1b, clb⟩ := box_at (heap_up Hb.out Jb.out)
          obtain ⟨c0x, c1x, clx⟩ := box_at (heap_up Hx.out Jx.out)
          obtain ⟨c0y, c1y, cly⟩ := box_at (heap_up Hy.out Jy.out)
          obtain ⟨c0p, c1p, clp⟩ := box_at (heap_up Hp.out Jp.out)
          clear d5 r5
          have t1 : (cmpE f m C YR != 0) = true := by rw [bne_iff_ne]; exact HH.out
          have t2 : (cmpE f m C YR != 31) = true := by rw [bne_iff_ne]; exact TR
          generalize cmpE f m C YR = H at *
          have BF := BW.out.trans (J0.out.mono BW.out.size)
          have BG := Lib.hid BF
          clear BF
          go_wp2_with fail
          go_ret
          exact ⟨rfl, BG.out.alloc BG.out.size _⟩
      · have HG := Lib.hid hG
        refine (cmpH_badE (Ra.out.below Ja.out) Za.out (Rx.out.below Jx.out) SX.out HG.out rfl).mono ?_
        rintro e y4 ⟨a4, n4, rfl, r4, d4⟩
        have Ja := Lib.hid (Ja.out.trans (d4.mono Ja.out.size))
        have Jb := Lib.hid (Jb.out.trans (d4.mono Jb.out.size))
        have Jx := Lib.hid (Jx.out.trans (d4.mono Jx.out.size))
        have Jy := Lib.hid (Jy.out.trans (d4.mono Jy.out.size))
        have J0 := Lib.hid (J0.out.trans (d4.mono J0.out.size))
        clear c0a c1a cla c0b c1b clb c0x c1x clx
        obtain ⟨c0a, c1a, cla⟩ := box_at (heap_up Ha.out Ja.out)
        obtain ⟨c0b, c1b, clb⟩ := box_at (heap_up Hb.out Jb.out)
        obtain ⟨c0x, c1x, clx⟩ := box_at (heap_up Hx.out Jx.out)
        obtain ⟨c0y, c1y, cly⟩ := box_at (heap_up Hy.out Jy.out)
        obtain ⟨Xp, hX, x, bX⟩ : ∃ X, X = y4.alloc (.cells #[.int .i64 (0), .slice a4 0 n4] 24) ∧ X.heap[y4.heap.size]? = some (.cells #[.int .i64 (0), .slice a4 0 n4] 24 (0, 0)) ∧ Below y4.heap.size y4 X := ⟨_, rfl, heap_new _ _, below_box _ _⟩
        have Ep := Lib.hid hX
        have Hp := Lib.hid x
        have Rp := Lib.hid (show OpRow Xp (.slice a4 0 n4) (([] : List OpD)) from r4.below bX)
        have Ja := Lib.hid (Ja.out.trans (bX.mono Ja.out.size))
        have Jb := Lib.hid (Jb.out.trans (bX.mono Jb.out.size))
        have Jx := Lib.hid (Jx.out.trans (bX.mono Jx.out.size))
        have Jy := Lib.hid (Jy.out.trans (bX.mono Jy.out.size))
        have J0 := Lib.hid (J0.out.trans (bX.mono J0.out.size))
        have Jp := Lib.hid (Below.refl Xp.heap.size Xp)
        clear d4 hX x bX r4
        go_wp2_with fail
        rw [← Ep.out]
        obtain ⟨FH, hFH⟩ : ∃ F, (if cmpE f m C YR = 0 then f else 0) = F := ⟨_, rfl⟩
        obtain ⟨RH, hRH⟩ : ∃ R, cmpR f m C YR = R := ⟨_, rfl⟩
        refine (cmpH_eq (Rb.out.below Jb.out) Zb.out (Ry.out.below Jy.out) SY.out hFH rfl hRH).mono ?_
        rintro e y5 ⟨a5, n5, rfl, r5, d5⟩
        have Ja := Lib.hid (Ja.out.trans (d5.mono Ja.out.size))
        have Jb := Lib.hid (Jb.out.trans (d5.mono Jb.out.size))
        have Jx := Lib.hid (Jx.out.trans (d5.mono Jx.out.size))
        have Jy := Lib.hid (Jy.out.trans (d5.mono Jy.out.size))
        have Jp := Lib.hid (Jp.out.trans (d5.mono Jp.out.size))
        have J0 := Lib.hid (J0.out.trans (d5.mono J0.out.size))
        clear c0a c1a cla c0b c1b clb c0x c1x clx c0y c1y cly
        obtain ⟨c0a, c1a, cla⟩ := box_at (heap_up Ha.out Ja.out)
        obtain ⟨c0b, c1b, clb⟩ := box_at (heap_up Hb.out Jb.out)
        obtain ⟨c0x, c1x, clx⟩ := box_at (heap_up Hx.out Jx.out)
        obtain ⟨c0y, c1y, cly⟩ := box_at (heap_up Hy.out Jy.out)
        obtain ⟨c0p, c1p, clp⟩ := box_at (heap_up Hp.out Jp.out)
        clear d5 r5
        have t1 : (cmpE f n A XR != 0) = true := by rw [bne_iff_ne]; exact HG.out
        have t4 : (cmpE f n A XR != 31) = true := by rw [bne_iff_ne]; exact TL
        have t2 : (cmpE f m C YR != 31) = true := by rw [bne_iff_ne]; exact TR
        generalize cmpE f n A XR = G at *
        generalize cmpE f m C YR = H at *
        have BF := BW.out.trans (J0.out.mono BW.out.size)
        have BG := Lib.hid BF
        clear BF
        go_wp2_with fail
        go_ret
        exact ⟨rfl, BG.out.alloc BG.out.size _⟩
    · have HE := Lib.hid hE
      have HF := Lib.hid hF
      have te : (folE (!fi) g f C A != 0) = true := by rw [bne_iff_ne]; exact hF
      clear hE hF
      refine (folH_okR (Ra.out.below Ja.out) Za.out (Rb.out.below Jb.out) Zb.out HE.out rfl rfl).mono ?_
      rintro e y2 ⟨a2, n2, rfl, r2, d2⟩
      have Ja := Lib.hid (Ja.out.trans (d2.mono Ja.out.size))
      have Jb := Lib.hid (Jb.out.trans (d2.mono Jb.out.size))
      have J0 := Lib.hid (J0.out.trans (d2.mono J0.out.size))
      clear c0a c1a cla c0b c1b clb
      obtain ⟨c0a, c1a, cla⟩ := box_at (heap_up Ha.out Ja.out)
      obtain ⟨c0b, c1b, clb⟩ := box_at (heap_up Hb.out Jb.out)
      obtain ⟨Xx, hX, x, bX⟩ : ∃ X, X = y2.alloc (.cells #[.int .i64 (toN f A), .slice a2 (folR fi f g A C).length n2] 24) ∧ X.heap[y2.heap.size]? = some (.cells #[.int .i64 (toN f A), .slice a2 (folR fi f g A C).length n2] 24 (0, 0)) ∧ Below y2.heap.size y2 X := ⟨_, rfl, heap_new _ _, below_box _ _⟩
      have Ex := Lib.hid hX
      have Hx := Lib.hid x
      have Rx := Lib.hid (show OpRow Xx (.slice a2 (folR fi f g A C).length n2) (folR fi f g A C) from r2.row.below bX)
      have Ja := Lib.hid (Ja.out.trans (bX.mono Ja.out.size))
      have Jb := Lib.hid (Jb.out.trans (bX.mono Jb.out.size))
      have J0 := Lib.hid (J0.out.trans (bX.mono J0.out.size))
      have Jx := Lib.hid (Below.refl Xx.heap.size Xx)
      clear d2 hX x bX r2
      go_wp2_with fail
      rw [← Ex.out]
      refine (folH_badE (Rb.out.below Jb.out) Zb.out (Ra.out.below Ja.out) Za.out HF.out rfl).mono ?_
      rintro e y3 ⟨a3, n3, rfl, r3, d3⟩
      have Ja := Lib.hid (Ja.out.trans (d3.mono Ja.out.size))
      have Jb := Lib.hid (Jb.out.trans (d3.mono Jb.out.size))
      have Jx := Lib.hid (Jx.out.trans (d3.mono Jx.out.size))
      have J0 := Lib.hid (J0.out.trans (d3.mono J0.out.size))
      clear c0a c1a cla c0b c1b clb
      obtain ⟨c0a, c1a, cla⟩ := box_at (heap_up Ha.out Ja.out)
      obtain ⟨c0b, c1b, clb⟩ := box_at (heap_up Hb.out Jb.out)
      obtain ⟨c0x, c1x, clx⟩ := box_at (heap_up Hx.out Jx.out)
      clear d3 r3
      generalize folE (!fi) g f C A = E at *
      have BF := BW.out.trans (J0.out.mono BW.out.size)
      have BG := Lib.hid BF
      clear BF
      go_wp2_with fail
      go_ret
      exact ⟨rfl, BG.out.alloc BG.out.size _⟩
  · have HE := Lib.hid hE
    have te : (folE fi f g A C != 0) = true := by rw [bne_iff_ne]; exact hE
    obtain ⟨FH, hFH⟩ : ∃ F, (if folE (!fi) g f C A = 0 then toN g C else 0) = F := ⟨_, rfl⟩
    obtain ⟨RH, hRH⟩ : ∃ R, folR (!fi) g f C A = R := ⟨_, rfl⟩
    obtain ⟨EH, hEH⟩ : ∃ E, folE (!fi) g f C A = E := ⟨_, rfl⟩
    have HHH := Lib.hid (And.intro hFH (And.intro hEH hRH))
    clear hE hFH hEH hRH
    refine (folH_badE (Ra.out.below Ja.out) Za.out (Rb.out.below Jb.out) Zb.out HE.out rfl).mono ?_
    rintro e y2 ⟨a2, n2, rfl, r2, d2⟩
    have Ja := Lib.hid (Ja.out.trans (d2.mono Ja.out.size))
    have Jb := Lib.hid (Jb.out.trans (d2.mono Jb.out.size))
    have J0 := Lib.hid (J0.out.trans (d2.mono J0.out.size))
    clear c0a c1a cla c0b c1b clb
    obtain ⟨c0a, c1a, cla⟩ := box_at (heap_up Ha.out Ja.out)
    obtain ⟨c0b, c1b, clb⟩ := box_at (heap_up Hb.out Jb.out)
    obtain ⟨Xx, hX, x, bX⟩ : ∃ X, X = y2.alloc (.cells #[.int .i64 (0), .slice a2 0 n2] 24) ∧ X.heap[y2.heap.size]? = some (.cells #[.int .i64 (0), .slice a2 0 n2] 24 (0, 0)) ∧ Below y2.heap.size y2 X := ⟨_, rfl, heap_new _ _, below_box _ _⟩
    have Ex := Lib.hid hX
    have Hx := Lib.hid x
    have Rx := Lib.hid (show OpRow Xx (.slice a2 0 n2) (([] : List OpD)) from r2.row.below bX)
    have Ja := Lib.hid (Ja.out.trans (bX.mono Ja.out.size))
    have Jb := Lib.hid (Jb.out.trans (bX.mono Jb.out.size))
    have J0 := Lib.hid (J0.out.trans (bX.mono J0.out.size))
    have Jx := Lib.hid (Below.refl Xx.heap.size Xx)
    clear d2 hX x bX r2
    generalize folE fi f g A C = E at *
    go_wp2_with fail
    rw [← Ex.out]
    refine (folH_eq (Rb.out.below Jb.out) Zb.out (Ra.out.below Ja.out) Za.out HHH.out.1 HHH.out.2.1 HHH.out.2.2).mono ?_
    rintro e y3 ⟨a3, n3, rfl, r3, d3⟩
    have Ja := Lib.hid (Ja.out.trans (d3.mono Ja.out.size))
    have Jb := Lib.hid (Jb.out.trans (d3.mono Jb.out.size))
    have Jx := Lib.hid (Jx.out.trans (d3.mono Jx.out.size))
    have J0 := Lib.hid (J0.out.trans (d3.mono J0.out.size))
    clear c0a c1a cla c0b c1b clb
    obtain ⟨c0a, c1a, cla⟩ := box_at (heap_up Ha.out Ja.out)
    obtain ⟨c0b, c1b, clb⟩ := box_at (heap_up Hb.out Jb.out)
    obtain ⟨c0x, c1x, clx⟩ := box_at (heap_up Hx.out Jx.out)
    clear d3 r3
    have BF := BW.out.trans (J0.out.mono BW.out.size)
    have BG := Lib.hid BF
    clear BF
    go_wp2_with fail
    go_ret
    exact ⟨rfl, BG.out.alloc BG.out.size _⟩
set_option maxRecDepth 100000 in
set_option maxHeartbeats 8000000 in
theorem flong_walk (f : Int) (va : Value) (A : List OpD) (g : Int) (vb : Value) (C : List OpD) (fi : Bool) (w : World) (hva : OpRow w va A) (hza : OSized A) (hvb : OpRow w vb C) (hzb : OSized C) :
    Calls Try.prog 10 #[chAgg f va, chAgg g vb, .bool fi] w (OutB w true) := by
  obtain ⟨ua, ta, rfl⟩ := hva.shape
  obtain ⟨ub, tb, rfl⟩ := hvb.shape
  obtain ⟨W, hW, ka, kb, bW⟩ : ∃ W, W = ((w.alloc (.cells #[.int .i64 f, .slice ua A.length ta] 24)).alloc (.cells #[.int .i64 g, .slice ub C.length tb] 24)) ∧ W.heap[w.heap.size]? = some (.cells #[.int .i64 f, .slice ua A.length ta] 24 (0, 0)) ∧ W.heap[w.heap.size + 1]? = some (.cells #[.int .i64 g, .slice ub C.length tb] 24 (0, 0)) ∧ Below w.heap.size w W := ⟨_, rfl, (box2 _ _ _).1, (box2 _ _ _).2.1, (box2 _ _ _).2.2⟩
  have Ra := Lib.hid (hva.below bW)
  have Za := Lib.hid hza
  have Ha := Lib.hid ka
  have Ja := Lib.hid (Below.refl W.heap.size W)
  have Rb := Lib.hid (hvb.below bW)
  have Zb := Lib.hid hzb
  have Hb := Lib.hid kb
  have Jb := Lib.hid (Below.refl W.heap.size W)
  have J0 := Lib.hid (Below.refl W.heap.size W)
  have BW := Lib.hid bW
  have HW := Lib.hid hW
  clear hva hza ka hvb hzb kb bW hW
  go_enter Try.func10, Try.ntmps10
  go_wp2_with fail
  rw [← HW.out]
  refine (awake7_any _).mono ?_
  rintro e y1 ⟨rfl, d1⟩
  have Ja := Lib.hid (Ja.out.trans (d1.mono Ja.out.size))
  have Jb := Lib.hid (Jb.out.trans (d1.mono Jb.out.size))
  have J0 := Lib.hid (J0.out.trans (d1.mono J0.out.size))
  obtain ⟨c0a, c1a, cla⟩ := box_at (heap_up Ha.out Ja.out)
  obtain ⟨c0b, c1b, clb⟩ := box_at (heap_up Hb.out Jb.out)
  clear d1
  go_wp2_with fail
  by_cases hE : folE fi f g A C = 0
  · by_cases hF : folE (!fi) g f C A = 0
    · obtain rfl : f = g := (fol_ok hE).same
      obtain ⟨XR, hX⟩ : ∃ XR, XR = folR fi f f A C := ⟨_, rfl⟩
      obtain ⟨YR, hY⟩ : ∃ YR, YR = folR (!fi) f f C A := ⟨_, rfl⟩
      have gx := fol_ok hE
      have gy := fol_ok hF
      rw [← hX] at gx
      rw [← hY] at gy
      obtain ⟨n, hn⟩ : ∃ n, n = toN f A := ⟨_, rfl⟩
      obtain ⟨m, hm⟩ : ∃ m, m = toN f C := ⟨_, rfl⟩
      have HMF := meet_f gx gy
      rw [← hn, ← hm] at HMF
      have SX := Lib.hid gx.sized
      have SY := Lib.hid gy.sized
      have GXI := Lib.hid gx
      have GYI := Lib.hid gy
      have TL := HMF.l
      have TR := HMF.r
      have HMF := Lib.hid HMF
      have HE := Lib.hid hE
      have HF := Lib.hid hF
      have HX := Lib.hid hX
      have HY := Lib.hid hY
      have Hn := Lib.hid hn
      have Hm := Lib.hid hm
      clear hE hF hX hY hn hm gx gy
      refine (folH_okR (Ra.out.below Ja.out) Za.out (Rb.out.below Jb.out) Zb.out HE.out Hn.out.symm HX.out.symm).mono ?_
      rintro e y2 ⟨a2, n2, rfl, r2, d2⟩
      have Ja := Lib.hid (Ja.out.trans (d2.mono Ja.out.size))
      have Jb := Lib.hid (Jb.out.trans (d2.mono Jb.out.size))
      have J0 := Lib.hid (J0.out.trans (d2.mono J0.out.size))
      clear c0a c1a cla c0b c1b clb
      obtain ⟨c0a, c1a, cla⟩ := box_at (heap_up Ha.out Ja.out)
      obtain ⟨c0b, c1b, clb⟩ := box_at (heap_up Hb.out Jb.out)
      obtain ⟨Xx, hX, x, bX⟩ : ∃ X, X = y2.alloc (.cells #[.int .i64 (n), .slice a2 (XR).length n2] 24) ∧ X.heap[y2.heap.size]? = some (.cells #[.int .i64 (n), .slice a2 (XR).length n2] 24 (0, 0)) ∧ Below y2.heap.size y2 X := ⟨_, rfl, heap_new _ _, below_box _ _⟩
      have Ex := Lib.hid hX
      have Hx := Lib.hid x
      have Rx := Lib.hid (show OpRow Xx (.slice a2 (XR).length n2) (XR) from r2.row.below bX)
      have Ja := Lib.hid (Ja.out.trans (bX.mono Ja.out.size))
      have Jb := Lib.hid (Jb.out.trans (bX.mono Jb.out.size))
      have J0 := Lib.hid (J0.out.trans (bX.mono J0.out.size))
      have Jx := Lib.hid (Below.refl Xx.heap.size Xx)
      clear d2 hX x bX r2
      go_wp2_with fail
      rw [← Ex.out]
      refine (folH_okR (Rb.out.below Jb.out) Zb.out (Ra.out.below Ja.out) Za.out HF.out Hm.out.symm HY.out.symm).mono ?_
      rintro e y3 ⟨a3, n3, rfl, r3, d3⟩
      have Ja := Lib.hid (Ja.out.trans (d3.mono Ja.out.size))
      have Jb := Lib.hid (Jb.out.trans (d3.mono Jb.out.size))
      have Jx := Lib.hid (Jx.out.trans (d3.mono Jx.out.size))
      have J0 := Lib.hid (J0.out.trans (d3.mono J0.out.size))
      clear c0a c1a cla c0b c1b clb
      obtain ⟨c0a, c1a, cla⟩ := box_at (heap_up Ha.out Ja.out)
      obtain ⟨c0b, c1b, clb⟩ := box_at (heap_up Hb.out Jb.out)
      obtain ⟨c0x, c1x, clx⟩ := box_at (heap_up Hx.out Jx.out)
      obtain ⟨Xy, hX, x, bX⟩ : ∃ X, X = y3.alloc (.cells #[.int .i64 (m), .slice a3 (YR).length n3] 24) ∧ X.heap[y3.heap.size]? = some (.cells #[.int .i64 (m), .slice a3 (YR).length n3] 24 (0, 0)) ∧ Below y3.heap.size y3 X := ⟨_, rfl, heap_new _ _, below_box _ _⟩
      have Ey := Lib.hid hX
      have Hy := Lib.hid x
      have Ry := Lib.hid (show OpRow Xy (.slice a3 (YR).length n3) (YR) from r3.row.below bX)
      have Ja := Lib.hid (Ja.out.trans (bX.mono Ja.out.size))
      have Jb := Lib.hid (Jb.out.trans (bX.mono Jb.out.size))
      have Jx := Lib.hid (Jx.out.trans (bX.mono Jx.out.size))
      have J0 := Lib.hid (J0.out.trans (bX.mono J0.out.size))
      have Jy := Lib.hid (Below.refl Xy.heap.size Xy)
      clear d3 hX x bX r3
      go_wp2_with fail
      rw [← Ey.out]
      have GXN := Lib.hid (show toE n XR = 0 ∧ isB n XR = true by rw [Hn.out]; exact ⟨GXI.out.toE, GXI.out.is⟩)
      have GYN := Lib.hid (show toE m YR = 0 ∧ isB m YR = true by rw [Hm.out]; exact ⟨GYI.out.toE, GYI.out.is⟩)
      refine (toH_n (Ra.out.below Ja.out) Za.out GXI.out.a Hn.out).mono ?_
      rintro e y4 ⟨rfl, d4⟩
      have Ja := Lib.hid (Ja.out.trans (d4.mono Ja.out.size))
      have Jb := Lib.hid (Jb.out.trans (d4.mono Jb.out.size))
      have Jx := Lib.hid (Jx.out.trans (d4.mono Jx.out.size))
      have Jy := Lib.hid (Jy.out.trans (d4.mono Jy.out.size))
      have J0 := Lib.hid (J0.out.trans (d4.mono J0.out.size))
      clear c0a c1a cla c0b c1b clb c0x c1x clx
      obtain ⟨c0a, c1a, cla⟩ := box_at (heap_up Ha.out Ja.out)
      obtain ⟨c0b, c1b, clb⟩ := box_at (heap_up Hb.out Jb.out)
      obtain ⟨c0x, c1x, clx⟩ := box_at (heap_up Hx.out Jx.out)
      obtain ⟨c0y, c1y, cly⟩ := box_at (heap_up Hy.out Jy.out)
      clear d4
      go_wp2_with fail
      refine (toH_n (Rb.out.below Jb.out) Zb.out GYI.out.a Hm.out).mono ?_
      rintro e y5 ⟨rfl, d5⟩
      have Ja := Lib.hid (Ja.out.trans (d5.mono Ja.out.size))
      have Jb := Lib.hid (Jb.out.trans (d5.mono Jb.out.size))
      have Jx := Lib.hid (Jx.out.trans (d5.mono Jx.out.size))
      have Jy := Lib.hid (Jy.out.trans (d5.mono Jy.out.size))
      have J0 := Lib.hid (J0.out.trans (d5.mono J0.out.size))
      clear c0a c1a cla c0b c1b clb c0x c1x clx c0y c1y cly
      obtain ⟨c0a, c1a, cla⟩ := box_at (heap_up Ha.out Ja.out)
      obtain ⟨c0b, c1b, clb⟩ := box_at (heap_up Hb.out Jb.out)
      obtain ⟨c0x, c1x, clx⟩ := box_at (heap_up Hx.out Jx.out)
      obtain ⟨c0y, c1y, cly⟩ := box_at (heap_up Hy.out Jy.out)
      clear d5
      go_wp2_with fail
      refine (toH_n (Rx.out.below Jx.out) SX.out GXN.out.1 rfl).mono ?_
      rintro e y6 ⟨rfl, d6⟩
      have Ja := Lib.hid (Ja.out.trans (d6.mono Ja.out.size))
      have Jb := Lib.hid (Jb.out.trans (d6.mono Jb.out.size))
      have Jx := Lib.hid (Jx.out.trans (d6.mono Jx.out.size))
      have Jy := Lib.hid (Jy.out.trans (d6.mono Jy.out.size))
      have J0 := Lib.hid (J0.out.trans (d6.mono J0.out.size))
      clear c0a c1a cla c0b c1b clb c0x c1x clx c0y c1y cly
      obtain ⟨c0a, c1a, cla⟩ := box_at (heap_up Ha.out Ja.out)
      obtain ⟨c0b, c1b, clb⟩ := box_at (heap_up Hb.out Jb.out)
      obtain ⟨c0x, c1x, clx⟩ := box_at (heap_up Hx.out Jx.out)
      obtain ⟨c0y, c1y, cly⟩ := box_at (heap_up Hy.out Jy.out)
      clear d6
      go_wp2_with fail
      refine (toH_n (Ry.out.below Jy.out) SY.out GYN.out.1 HMF.out.long).mono ?_
      rintro e y7 ⟨rfl, d7⟩
      have Ja := Lib.hid (Ja.out.trans (d7.mono Ja.out.size))
      have Jb := Lib.hid (Jb.out.trans (d7.mono Jb.out.size))
      have Jx := Lib.hid (Jx.out.trans (d7.mono Jx.out.size))
      have Jy := Lib.hid (Jy.out.trans (d7.mono Jy.out.size))
      have J0 := Lib.hid (J0.out.trans (d7.mono J0.out.size))
      clear c0a c1a cla c0b c1b clb c0x c1x clx c0y c1y cly
      obtain ⟨c0a, c1a, cla⟩ := box_at (heap_up Ha.out Ja.out)
      obtain ⟨c0b, c1b, clb⟩ := box_at (heap_up Hb.out Jb.out)
      obtain ⟨c0x, c1x, clx⟩ := box_at (heap_up Hx.out Jx.out)
      obtain ⟨c0y, c1y, cly⟩ := box_at (heap_up Hy.out Jy.out)
      clear d7
      go_wp2_with fail
      refine (isH (Rx.out.below Jx.out) SX.out GXN.out.2).mono ?_
      rintro e y8 ⟨rfl, d8⟩
      have Ja := Lib.hid (Ja.out.trans (d8.mono Ja.out.size))
      have Jb := Lib.hid (Jb.out.trans (d8.mono Jb.out.size))
      have Jx := Lib.hid (Jx.out.trans (d8.mono Jx.out.size))
      have Jy := Lib.hid (Jy.out.trans (d8.mono Jy.out.size))
      have J0 := Lib.hid (J0.out.trans (d8.mono J0.out.size))
      clear c0a c1a cla c0b c1b clb c0x c1x clx c0y c1y cly
      obtain ⟨c0a, c1a, cla⟩ := box_at (heap_up Ha.out Ja.out)
      obtain ⟨c0b, c1b, clb⟩ := box_at (heap_up Hb.out Jb.out)
      obtain ⟨c0x, c1x, clx⟩ := box_at (heap_up Hx.out Jx.out)
      obtain ⟨c0y, c1y, cly⟩ := box_at (heap_up Hy.out Jy.out)
      clear d8
      go_wp2_with fail
      refine (isH (Ry.out.below Jy.out) SY.out GYN.out.2).mono ?_
      rintro e y9 ⟨rfl, d9⟩
      have Ja := Lib.hid (Ja.out.trans (d9.mono Ja.out.size))
      have Jb := Lib.hid (Jb.out.trans (d9.mono Jb.out.size))
      have Jx := Lib.hid (Jx.out.trans (d9.mono Jx.out.size))
      have Jy := Lib.hid (Jy.out.trans (d9.mono Jy.out.size))
      have J0 := Lib.hid (J0.out.trans (d9.mono J0.out.size))
      clear c0a c1a cla c0b c1b clb c0x c1x clx c0y c1y cly
      obtain ⟨c0a, c1a, cla⟩ := box_at (heap_up Ha.out Ja.out)
      obtain ⟨c0b, c1b, clb⟩ := box_at (heap_up Hb.out Jb.out)
      obtain ⟨c0x, c1x, clx⟩ := box_at (heap_up Hx.out Jx.out)
      obtain ⟨c0y, c1y, cly⟩ := box_at (heap_up Hy.out Jy.out)
      clear d9
      have BF := BW.out.trans (J0.out.mono BW.out.size)
      have BG := Lib.hid BF
      clear BF
      go_wp2_with fail
      go_ret
      exact ⟨rfl, BG.out⟩
    · have HE := Lib.hid hE
      have HF := Lib.hid hF
      have te : (folE (!fi) g f C A != 0) = true := by rw [bne_iff_ne]; exact hF
      clear hE hF
      refine (folH_okR (Ra.out.below Ja.out) Za.out (Rb.out.below Jb.out) Zb.out HE.out rfl rfl).mono ?_
      rintro e y2 ⟨a2, n2, rfl, r2, d2⟩
      have Ja := Lib.hid (Ja.out.trans (d2.mono Ja.out.size))
      have Jb := Lib.hid (Jb.out.trans (d2.mono Jb.out.size))
      have J0 := Lib.hid (J0.out.trans (d2.mono J0.out.size))
      clear c0a c1a cla c0b c1b clb
      obtain ⟨c0a, c1a, cla⟩ := box_at (heap_up Ha.out Ja.out)
      obtain ⟨c0b, c1b, clb⟩ := box_at (heap_up Hb.out Jb.out)
      obtain ⟨Xx, hX, x, bX⟩ : ∃ X, X = y2.alloc (.cells #[.int .i64 (toN f A), .slice a2 (folR fi f g A C).length n2] 24) ∧ X.heap[y2.heap.size]? = some (.cells #[.int .i64 (toN f A), .slice a2 (folR fi f g A C).length n2] 24 (0, 0)) ∧ Below y2.heap.size y2 X := ⟨_, rfl, heap_new _ _, below_box _ _⟩
      have Ex := Lib.hid hX
      have Hx := Lib.hid x
      have Rx := Lib.hid (show OpRow Xx (.slice a2 (folR fi f g A C).length n2) (folR fi f g A C) from r2.row.below bX)
      have Ja := Lib.hid (Ja.out.trans (bX.mono Ja.out.size))
      have Jb := Lib.hid (Jb.out.trans (bX.mono Jb.out.size))
      have J0 := Lib.hid (J0.out.trans (bX.mono J0.out.size))
      have Jx := Lib.hid (Below.refl Xx.heap.size Xx)
      clear d2 hX x bX r2
      go_wp2_with fail
      rw [← Ex.out]
      refine (folH_badE (Rb.out.below Jb.out) Zb.out (Ra.out.below Ja.out) Za.out HF.out rfl).mono ?_
      rintro e y3 ⟨a3, n3, rfl, r3, d3⟩
      have Ja := Lib.hid (Ja.out.trans (d3.mono Ja.out.size))
      have Jb := Lib.hid (Jb.out.trans (d3.mono Jb.out.size))
      have Jx := Lib.hid (Jx.out.trans (d3.mono Jx.out.size))
      have J0 := Lib.hid (J0.out.trans (d3.mono J0.out.size))
      clear c0a c1a cla c0b c1b clb
      obtain ⟨c0a, c1a, cla⟩ := box_at (heap_up Ha.out Ja.out)
      obtain ⟨c0b, c1b, clb⟩ := box_at (heap_up Hb.out Jb.out)
      obtain ⟨c0x, c1x, clx⟩ := box_at (heap_up Hx.out Jx.out)
      clear d3 r3
      generalize folE (!fi) g f C A = E at *
      have BF := BW.out.trans (J0.out.mono BW.out.size)
      have BG := Lib.hid BF
      clear BF
      go_wp2_with fail
      go_ret
      exact ⟨rfl, BG.out.alloc BG.out.size _⟩
  · have HE := Lib.hid hE
    have te : (folE fi f g A C != 0) = true := by rw [bne_iff_ne]; exact hE
    obtain ⟨FH, hFH⟩ : ∃ F, (if folE (!fi) g f C A = 0 then toN g C else 0) = F := ⟨_, rfl⟩
    obtain ⟨RH, hRH⟩ : ∃ R, folR (!fi) g f C A = R := ⟨_, rfl⟩
    obtain ⟨EH, hEH⟩ : ∃ E, folE (!fi) g f C A = E := ⟨_, rfl⟩
    have HHH := Lib.hid (And.intro hFH (And.intro hEH hRH))
    clear hE hFH hEH hRH
    refine (folH_badE (Ra.out.below Ja.out) Za.out (Rb.out.below Jb.out) Zb.out HE.out rfl).mono ?_
    rintro e y2 ⟨a2, n2, rfl, r2, d2⟩
    have Ja := Lib.hid (Ja.out.trans (d2.mono Ja.out.size))
    have Jb := Lib.hid (Jb.out.trans (d2.mono Jb.out.size))
    have J0 := Lib.hid (J0.out.trans (d2.mono J0.out.size))
    clear c0a c1a cla c0b c1b clb
    obtain ⟨c0a, c1a, cla⟩ := box_at (heap_up Ha.out Ja.out)
    obtain ⟨c0b, c1b, clb⟩ := box_at (heap_up Hb.out Jb.out)
    obtain ⟨Xx, hX, x, bX⟩ : ∃ X, X = y2.alloc (.cells #[.int .i64 (0), .slice a2 0 n2] 24) ∧ X.heap[y2.heap.size]? = some (.cells #[.int .i64 (0), .slice a2 0 n2] 24 (0, 0)) ∧ Below y2.heap.size y2 X := ⟨_, rfl, heap_new _ _, below_box _ _⟩
    have Ex := Lib.hid hX
    have Hx := Lib.hid x
    have Rx := Lib.hid (show OpRow Xx (.slice a2 0 n2) (([] : List OpD)) from r2.row.below bX)
    have Ja := Lib.hid (Ja.out.trans (bX.mono Ja.out.size))
    have Jb := Lib.hid (Jb.out.trans (bX.mono Jb.out.size))
    have J0 := Lib.hid (J0.out.trans (bX.mono J0.out.size))
    have Jx := Lib.hid (Below.refl Xx.heap.size Xx)
    clear d2 hX x bX r2
    generalize folE fi f g A C = E at *
    go_wp2_with fail
    rw [← Ex.out]
    refine (folH_eq (Rb.out.below Jb.out) Zb.out (Ra.out.below Ja.out) Za.out HHH.out.1 HHH.out.2.1 HHH.out.2.2).mono ?_
    rintro e y3 ⟨a3, n3, rfl, r3, d3⟩
    have Ja := Lib.hid (Ja.out.trans (d3.mono Ja.out.size))
    have Jb := Lib.hid (Jb.out.trans (d3.mono Jb.out.size))
    have Jx := Lib.hid (Jx.out.trans (d3.mono Jx.out.size))
    have J0 := Lib.hid (J0.out.trans (d3.mono J0.out.size))
    clear c0a c1a cla c0b c1b clb
    obtain ⟨c0a, c1a, cla⟩ := box_at (heap_up Ha.out Ja.out)
    obtain ⟨c0b, c1b, clb⟩ := box_at (heap_up Hb.out Jb.out)
    obtain ⟨c0x, c1x, clx⟩ := box_at (heap_up Hx.out Jx.out)
    clear d3 r3
    have BF := BW.out.trans (J0.out.mono BW.out.size)
    have BG := Lib.hid BF
    clear BF
    go_wp2_with fail
    go_ret
    exact ⟨rfl, BG.out.alloc BG.out.size _⟩
end Go.Proofs.Ytlgpihboojgpmaa
