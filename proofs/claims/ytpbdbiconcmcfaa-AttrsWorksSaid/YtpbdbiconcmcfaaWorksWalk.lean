/- The law AttrsWorks, walked: what is handed in stays, what is answered is its owner's, and all is as the document's own answers say. -/
import Derived.Test.YtpbdbiconcmcfaaAtKept
namespace Go.Proofs.Ytpbdbiconcmcfaa
open Go.RowKit At

/-- A row stays, whatever is written into one that was made before it. -/
theorem kept_own {w w' : World} {lo k n : Nat} {e : TypeId} {v u : Value} {xs : List Value} (h : w.ownsRow lo e k v n xs) (hg : w.grownBy w' u.ownBlock) (hu : ∀ j, u.ownBlock = some j → j < lo) : w'.ownsRow lo e k v n xs := by
  refine h.kept hg ?_
  cases hv : v.ownBlock with
  | none => exact .inl rfl
  | some i =>
    refine .inr fun e => ?_
    have h1 := (h.lt i hv).1
    have h2 := hu i e.symm
    omega
theorem kept_at {w w' : World} {lo k n g : Nat} {e : TypeId} {v : Value} {xs : List Value} (h : w.ownsRow lo e k v n xs) (hg : w.grownBy w' (some g)) (hu : g < lo) : w'.ownsRow lo e k v n xs :=
  kept_own (u := .slice (some ⟨g, 0, none⟩) 0 0) h hg fun j hj => by cases hj; exact hu
theorem len_applyR (l c : List (K × V)) : (applyR l c).length ≤ 64 := by
  unfold applyR
  split
  · split
    · rename_i h; omega
    · simp
  · simp
theorem len_composeR (l c : List (K × V)) : (composeR l c).length ≤ 64 := by
  unfold composeR
  split
  · split
    · rename_i h; omega
    · simp
  · simp
theorem len_followR (first : Bool) (l c : List (K × V)) : (followR first l c).length ≤ 64 := by
  unfold followR
  split
  · rename_i h
    simp only [Bool.and_eq_true] at h
    have h1 := (chg_iff.1 h.2).1
    have h2 := (chg_iff.1 (chg_follow (a := l) first h.2)).1
    omega
  · simp
theorem len_invertR (l c : List (K × V)) : (invertR l c).length ≤ 64 := by
  unfold invertR
  split
  · rename_i h
    simp only [Bool.and_eq_true] at h
    have h2 := (chg_iff.1 (chg_invert h.1 h.2)).1
    omega
  · simp

set_option maxRecDepth 100000 in
set_option maxHeartbeats 16000000 in
theorem works_walk (v0 v1 : Value) (a b : List (ByteArray × ByteArray)) (first : Bool) (w : World) (h0 : AtRow w v0 a) (h1 : AtRow w v1 b) (s0 : Sized a) (s1 : Sized b) (p0 : Proper v0) (p1 : Proper v1) (r0 : a.length * 32 ≤ 140737488351232) (r1 : b.length * 32 ≤ 140737488351232) :
    Calls Try.prog 3 #[v0, v1, .bool first] w fun e w' => e = .returned (.bool true) ∧ Below w.heap.size w w' := by
  have H0 := Lib.hid h0
  have H1 := Lib.hid h1
  have S0 := Lib.hid s0
  have S1 := Lib.hid s1
  have P0 := Lib.hid p0
  have P1 := Lib.hid p1
  have R0 := Lib.hid r0
  have R1 := Lib.hid r1
  have E := Lib.hid (rfl : sameB a a = sameB a a)
  have sm : ∀ l : List (ByteArray × ByteArray), sameB l l = true := fun l => decide_eq_true rfl
  have Sm := Lib.hid sm
  clear h0 h1 s0 s1 p0 p1 r0 r1 sm E
  go_enter Try.func3, Try.ntmps3
  go_wp2_with fail
  refine (awake_any _).mono ?_
  rintro e w1 ⟨rfl, b1⟩
  have B1 := Lib.hid b1
  have Z1 := Lib.hid b1.size
  clear b1
  go_wp2_with fail
  refine (lent_any v0 a _ (H0.out.below B1.out) P0.out R0.out).mono ?_
  rintro e w2 ⟨gx, rfl, o2, b2⟩
  have B2 := Lib.hid (B1.out.trans (b2.mono B1.out.size))
  have Z2 := Lib.hid b2.size
  have Ox2 := Lib.hid o2
  have Ux := Lib.hid (o2.lt gx rfl)
  clear o2 b2
  go_wp2_with fail
  refine (lent_any v1 b _ (H1.out.below B2.out) P1.out R1.out).mono ?_
  rintro e w3 ⟨gy, rfl, o3, b3⟩
  have B3 := Lib.hid (B2.out.trans (b3.mono B2.out.size))
  have Z3 := Lib.hid b3.size
  have Ox3 := Lib.hid (row_below Ox2.out b3)
  have Oy3 := Lib.hid o3
  have Uy := Lib.hid (o3.lt gy rfl)
  clear o3 b3
  go_wp2_with fail
  refine (applyD_any _ _ a b _ (row_lent Ox3.out) (row_lent Oy3.out) S0.out S1.out).mono ?_
  rintro e w4 ⟨vp, rfl, o4, b4⟩
  have B4 := Lib.hid (B3.out.trans (b4.mono B3.out.size))
  have Z4 := Lib.hid b4.size
  have Ox4 := Lib.hid (row_below Ox3.out b4)
  have Oy4 := Lib.hid (row_below Oy3.out b4)
  have Op4 := Lib.hid o4
  have Up := Lib.hid (fun j hj => (o4.lt j hj))
  clear o4 b4
  go_wp2_with fail
  refine (composeD_any _ _ a b _ (row_lent Ox4.out) (row_lent Oy4.out) S0.out S1.out).mono ?_
  rintro e w5 ⟨vq, rfl, o5, b5⟩
  have B5 := Lib.hid (B4.out.trans (b5.mono B4.out.size))
  have Z5 := Lib.hid b5.size
  have Ox5 := Lib.hid (row_below Ox4.out b5)
  have Oy5 := Lib.hid (row_below Oy4.out b5)
  have Op5 := Lib.hid (row_below Op4.out b5)
  have Oq5 := Lib.hid o5
  have Uq := Lib.hid (fun j hj => (o5.lt j hj))
  clear o5 b5
  go_wp2_with fail
  refine (followD_any first _ _ a b _ (row_lent Ox5.out) (row_lent Oy5.out) S0.out S1.out).mono ?_
  rintro e w6 ⟨vr, rfl, o6, b6⟩
  have B6 := Lib.hid (B5.out.trans (b6.mono B5.out.size))
  have Z6 := Lib.hid b6.size
  have Ox6 := Lib.hid (row_below Ox5.out b6)
  have Oy6 := Lib.hid (row_below Oy5.out b6)
  have Op6 := Lib.hid (row_below Op5.out b6)
  have Oq6 := Lib.hid (row_below Oq5.out b6)
  have Or6 := Lib.hid o6
  have Ur := Lib.hid (fun j hj => (o6.lt j hj))
  clear o6 b6
  go_wp2_with fail
  refine (invertD_any _ _ a b _ (row_lent Ox6.out) (row_lent Oy6.out) S0.out S1.out).mono ?_
  rintro e w7 ⟨vs, rfl, o7, b7⟩
  have B7 := Lib.hid (B6.out.trans (b7.mono B6.out.size))
  have Z7 := Lib.hid b7.size
  have Ox7 := Lib.hid (row_below Ox6.out b7)
  have Oy7 := Lib.hid (row_below Oy6.out b7)
  have Op7 := Lib.hid (row_below Op6.out b7)
  have Oq7 := Lib.hid (row_below Oq6.out b7)
  have Or7 := Lib.hid (row_below Or6.out b7)
  have Os7 := Lib.hid o7
  have Us := Lib.hid (fun j hj => (o7.lt j hj))
  clear o7 b7
  go_wp2_with fail
  refine (kept_any v0 _ gx a _ Ox7.out (H0.out.below B7.out) (by have := R0.out; omega)).mono ?_
  rintro e w8 ⟨rfl, g8⟩
  have B8 := Lib.hid (B7.out.grown g8 B7.out.size (fun k hk => by cases hk; exact Nat.le_trans (B1.out.size) Ux.out.1))
  have Z8 := Lib.hid g8.size
  have Oy8 := Lib.hid (kept_at Oy7.out g8 (by have := Ux.out.2; skip; omega))
  have Op8 := Lib.hid (kept_at Op7.out g8 (by have := Ux.out.2; have := Z3.out; omega))
  have Oq8 := Lib.hid (kept_at Oq7.out g8 (by have := Ux.out.2; have := Z3.out; have := Z4.out; omega))
  have Or8 := Lib.hid (kept_at Or7.out g8 (by have := Ux.out.2; have := Z3.out; have := Z4.out; have := Z5.out; omega))
  have Os8 := Lib.hid (kept_at Os7.out g8 (by have := Ux.out.2; have := Z3.out; have := Z4.out; have := Z5.out; have := Z6.out; omega))
  clear g8
  go_wp2_with fail
  refine (kept_any v1 _ gy b _ Oy8.out (H1.out.below B8.out) (by have := R1.out; omega)).mono ?_
  rintro e w9 ⟨rfl, g9⟩
  have B9 := Lib.hid (B8.out.grown g9 B8.out.size (fun k hk => by cases hk; exact Nat.le_trans (B2.out.size) Uy.out.1))
  have Z9 := Lib.hid g9.size
  have Op9 := Lib.hid (kept_at Op8.out g9 (by have := Uy.out.2; skip; omega))
  have Oq9 := Lib.hid (kept_at Oq8.out g9 (by have := Uy.out.2; have := Z4.out; omega))
  have Or9 := Lib.hid (kept_at Or8.out g9 (by have := Uy.out.2; have := Z4.out; have := Z5.out; omega))
  have Os9 := Lib.hid (kept_at Os8.out g9 (by have := Uy.out.2; have := Z4.out; have := Z5.out; have := Z6.out; omega))
  clear g9
  go_wp2_with fail
  refine (refApply_any v0 v1 a b _ (H0.out.below B9.out) (H1.out.below B9.out) S0.out S1.out).mono ?_
  rintro e w10 ⟨vp2, rfl, o10, b10⟩
  have B10 := Lib.hid (B9.out.trans (b10.mono B9.out.size))
  have Z10 := Lib.hid b10.size
  have Op10 := Lib.hid (row_below Op9.out b10)
  have Oq10 := Lib.hid (row_below Oq9.out b10)
  have Or10 := Lib.hid (row_below Or9.out b10)
  have Os10 := Lib.hid (row_below Os9.out b10)
  have Op210 := Lib.hid o10
  clear o10 b10
  go_wp2_with fail
  refine (refCompose_any v0 v1 a b _ (H0.out.below B10.out) (H1.out.below B10.out) P1.out S0.out S1.out).mono ?_
  rintro e w11 ⟨vq2, rfl, o11, b11⟩
  have B11 := Lib.hid (B10.out.trans (b11.mono B10.out.size))
  have Z11 := Lib.hid b11.size
  have Op11 := Lib.hid (row_below Op10.out b11)
  have Oq11 := Lib.hid (row_below Oq10.out b11)
  have Or11 := Lib.hid (row_below Or10.out b11)
  have Os11 := Lib.hid (row_below Os10.out b11)
  have Op211 := Lib.hid (row_below Op210.out b11)
  have Oq211 := Lib.hid o11
  clear o11 b11
  go_wp2_with fail
  refine (refFollow_any first v0 v1 a b _ (H0.out.below B11.out) (H1.out.below B11.out) S0.out S1.out).mono ?_
  rintro e w12 ⟨vr2, rfl, o12, b12⟩
  have B12 := Lib.hid (B11.out.trans (b12.mono B11.out.size))
  have Z12 := Lib.hid b12.size
  have Op12 := Lib.hid (row_below Op11.out b12)
  have Oq12 := Lib.hid (row_below Oq11.out b12)
  have Or12 := Lib.hid (row_below Or11.out b12)
  have Os12 := Lib.hid (row_below Os11.out b12)
  have Op212 := Lib.hid (row_below Op211.out b12)
  have Oq212 := Lib.hid (row_below Oq211.out b12)
  have Or212 := Lib.hid o12
  clear o12 b12
  go_wp2_with fail
  refine (refInvert_any v0 v1 a b _ (H0.out.below B12.out) (H1.out.below B12.out) S0.out S1.out).mono ?_
  rintro e w13 ⟨vs2, rfl, o13, b13⟩
  have B13 := Lib.hid (B12.out.trans (b13.mono B12.out.size))
  have Z13 := Lib.hid b13.size
  have Op13 := Lib.hid (row_below Op12.out b13)
  have Oq13 := Lib.hid (row_below Oq12.out b13)
  have Or13 := Lib.hid (row_below Or12.out b13)
  have Os13 := Lib.hid (row_below Os12.out b13)
  have Op213 := Lib.hid (row_below Op212.out b13)
  have Oq213 := Lib.hid (row_below Oq212.out b13)
  have Or213 := Lib.hid (row_below Or212.out b13)
  have Os213 := Lib.hid o13
  clear o13 b13
  go_wp2_with fail
  refine (refSame_any _ _ (applyR a b) (applyR a b) _ (row_of_own Op13.out) (row_of_own Op213.out)).mono ?_
  rw [Sm.out]
  rintro e w0' ⟨rfl, k14, rfl⟩
  have b14 := below_drewN (Below.refl w13.heap.size w13) k14
  have bb14 := B13.out.trans (b14.mono B13.out.size)
  have B14 := Lib.hid bb14
  have Z14 := Lib.hid b14.size
  have Op14 := Lib.hid (row_below Op13.out b14)
  have Oq14 := Lib.hid (row_below Oq13.out b14)
  have Or14 := Lib.hid (row_below Or13.out b14)
  have Os14 := Lib.hid (row_below Os13.out b14)
  have Op214 := Lib.hid (row_below Op213.out b14)
  have Oq214 := Lib.hid (row_below Oq213.out b14)
  have Or214 := Lib.hid (row_below Or213.out b14)
  have Os214 := Lib.hid (row_below Os213.out b14)
  clear b14 bb14
  generalize w13.drewN k14 = w14 at *
  go_wp2_with fail
  refine (refSame_any _ _ (composeR a b) (composeR a b) _ (row_of_own Oq14.out) (row_of_own Oq214.out)).mono ?_
  rw [Sm.out]
  rintro e w0' ⟨rfl, k15, rfl⟩
  have b15 := below_drewN (Below.refl w14.heap.size w14) k15
  have bb15 := B14.out.trans (b15.mono B14.out.size)
  have B15 := Lib.hid bb15
  have Z15 := Lib.hid b15.size
  have Op15 := Lib.hid (row_below Op14.out b15)
  have Oq15 := Lib.hid (row_below Oq14.out b15)
  have Or15 := Lib.hid (row_below Or14.out b15)
  have Os15 := Lib.hid (row_below Os14.out b15)
  have Op215 := Lib.hid (row_below Op214.out b15)
  have Oq215 := Lib.hid (row_below Oq214.out b15)
  have Or215 := Lib.hid (row_below Or214.out b15)
  have Os215 := Lib.hid (row_below Os214.out b15)
  clear b15 bb15
  generalize w14.drewN k15 = w15 at *
  go_wp2_with fail
  refine (refSame_any _ _ (followR first a b) (followR first a b) _ (row_of_own Or15.out) (row_of_own Or215.out)).mono ?_
  rw [Sm.out]
  rintro e w0' ⟨rfl, k16, rfl⟩
  have b16 := below_drewN (Below.refl w15.heap.size w15) k16
  have bb16 := B15.out.trans (b16.mono B15.out.size)
  have B16 := Lib.hid bb16
  have Z16 := Lib.hid b16.size
  have Op16 := Lib.hid (row_below Op15.out b16)
  have Oq16 := Lib.hid (row_below Oq15.out b16)
  have Or16 := Lib.hid (row_below Or15.out b16)
  have Os16 := Lib.hid (row_below Os15.out b16)
  have Op216 := Lib.hid (row_below Op215.out b16)
  have Oq216 := Lib.hid (row_below Oq215.out b16)
  have Or216 := Lib.hid (row_below Or215.out b16)
  have Os216 := Lib.hid (row_below Os215.out b16)
  clear b16 bb16
  generalize w15.drewN k16 = w16 at *
  go_wp2_with fail
  refine (refSame_any _ _ (invertR a b) (invertR a b) _ (row_of_own Os16.out) (row_of_own Os216.out)).mono ?_
  rw [Sm.out]
  rintro e w0' ⟨rfl, k17, rfl⟩
  have b17 := below_drewN (Below.refl w16.heap.size w16) k17
  have bb17 := B16.out.trans (b17.mono B16.out.size)
  have B17 := Lib.hid bb17
  have Z17 := Lib.hid b17.size
  have Op17 := Lib.hid (row_below Op16.out b17)
  have Oq17 := Lib.hid (row_below Oq16.out b17)
  have Or17 := Lib.hid (row_below Or16.out b17)
  have Os17 := Lib.hid (row_below Os16.out b17)
  have Op217 := Lib.hid (row_below Op216.out b17)
  have Oq217 := Lib.hid (row_below Oq216.out b17)
  have Or217 := Lib.hid (row_below Or216.out b17)
  have Os217 := Lib.hid (row_below Os216.out b17)
  clear b17 bb17
  generalize w16.drewN k17 = w17 at *
  go_wp2_with fail
  refine (spoil_any _ _ (applyR a b).length _ _ Op17.out (len_applyR a b) (by have := Z4.out; have := Z5.out; have := Z6.out; have := Z7.out; have := Z8.out; have := Z9.out; have := Z10.out; have := Z11.out; have := Z12.out; have := Z13.out; have := Z14.out; have := Z15.out; have := Z16.out; have := Z17.out; omega)).mono ?_
  rintro e w18 ⟨rfl, g18⟩
  have B18 := Lib.hid (B17.out.grown g18 B17.out.size (fun k hk => Nat.le_trans (B3.out.size) (Up.out k hk).1))
  have Z18 := Lib.hid g18.size
  have Oq18 := Lib.hid (kept_own Oq17.out g18 (fun j hj => by have := (Up.out j hj).2; skip; omega))
  have Or18 := Lib.hid (kept_own Or17.out g18 (fun j hj => by have := (Up.out j hj).2; have := Z5.out; omega))
  have Os18 := Lib.hid (kept_own Os17.out g18 (fun j hj => by have := (Up.out j hj).2; have := Z5.out; have := Z6.out; omega))
  have Op218 := Lib.hid (kept_own Op217.out g18 (fun j hj => by have := (Up.out j hj).2; have := Z5.out; have := Z6.out; have := Z7.out; have := Z8.out; have := Z9.out; omega))
  have Oq218 := Lib.hid (kept_own Oq217.out g18 (fun j hj => by have := (Up.out j hj).2; have := Z5.out; have := Z6.out; have := Z7.out; have := Z8.out; have := Z9.out; have := Z10.out; omega))
  have Or218 := Lib.hid (kept_own Or217.out g18 (fun j hj => by have := (Up.out j hj).2; have := Z5.out; have := Z6.out; have := Z7.out; have := Z8.out; have := Z9.out; have := Z10.out; have := Z11.out; omega))
  have Os218 := Lib.hid (kept_own Os217.out g18 (fun j hj => by have := (Up.out j hj).2; have := Z5.out; have := Z6.out; have := Z7.out; have := Z8.out; have := Z9.out; have := Z10.out; have := Z11.out; have := Z12.out; omega))
  have Lp := len_applyR a b
  clear g18
  go_wp2_with fail
  refine (spoil_any _ _ (composeR a b).length _ _ Oq18.out (len_composeR a b) (by have := Z5.out; have := Z6.out; have := Z7.out; have := Z8.out; have := Z9.out; have := Z10.out; have := Z11.out; have := Z12.out; have := Z13.out; have := Z14.out; have := Z15.out; have := Z16.out; have := Z17.out; have := Z18.out; omega)).mono ?_
  rintro e w19 ⟨rfl, g19⟩
  have B19 := Lib.hid (B18.out.grown g19 B18.out.size (fun k hk => Nat.le_trans (B4.out.size) (Uq.out k hk).1))
  have Z19 := Lib.hid g19.size
  have Or19 := Lib.hid (kept_own Or18.out g19 (fun j hj => by have := (Uq.out j hj).2; skip; omega))
  have Os19 := Lib.hid (kept_own Os18.out g19 (fun j hj => by have := (Uq.out j hj).2; have := Z6.out; omega))
  have Op219 := Lib.hid (kept_own Op218.out g19 (fun j hj => by have := (Uq.out j hj).2; have := Z6.out; have := Z7.out; have := Z8.out; have := Z9.out; omega))
  have Oq219 := Lib.hid (kept_own Oq218.out g19 (fun j hj => by have := (Uq.out j hj).2; have := Z6.out; have := Z7.out; have := Z8.out; have := Z9.out; have := Z10.out; omega))
  have Or219 := Lib.hid (kept_own Or218.out g19 (fun j hj => by have := (Uq.out j hj).2; have := Z6.out; have := Z7.out; have := Z8.out; have := Z9.out; have := Z10.out; have := Z11.out; omega))
  have Os219 := Lib.hid (kept_own Os218.out g19 (fun j hj => by have := (Uq.out j hj).2; have := Z6.out; have := Z7.out; have := Z8.out; have := Z9.out; have := Z10.out; have := Z11.out; have := Z12.out; omega))
  have Lq := len_composeR a b
  clear g19
  go_wp2_with fail
  refine (spoil_any _ _ (followR first a b).length _ _ Or19.out (len_followR first a b) (by have := Z6.out; have := Z7.out; have := Z8.out; have := Z9.out; have := Z10.out; have := Z11.out; have := Z12.out; have := Z13.out; have := Z14.out; have := Z15.out; have := Z16.out; have := Z17.out; have := Z18.out; have := Z19.out; omega)).mono ?_
  rintro e w20 ⟨rfl, g20⟩
  have B20 := Lib.hid (B19.out.grown g20 B19.out.size (fun k hk => Nat.le_trans (B5.out.size) (Ur.out k hk).1))
  have Z20 := Lib.hid g20.size
  have Os20 := Lib.hid (kept_own Os19.out g20 (fun j hj => by have := (Ur.out j hj).2; skip; omega))
  have Op220 := Lib.hid (kept_own Op219.out g20 (fun j hj => by have := (Ur.out j hj).2; have := Z7.out; have := Z8.out; have := Z9.out; omega))
  have Oq220 := Lib.hid (kept_own Oq219.out g20 (fun j hj => by have := (Ur.out j hj).2; have := Z7.out; have := Z8.out; have := Z9.out; have := Z10.out; omega))
  have Or220 := Lib.hid (kept_own Or219.out g20 (fun j hj => by have := (Ur.out j hj).2; have := Z7.out; have := Z8.out; have := Z9.out; have := Z10.out; have := Z11.out; omega))
  have Os220 := Lib.hid (kept_own Os219.out g20 (fun j hj => by have := (Ur.out j hj).2; have := Z7.out; have := Z8.out; have := Z9.out; have := Z10.out; have := Z11.out; have := Z12.out; omega))
  have Lr := len_followR first a b
  clear g20
  go_wp2_with fail
  refine (spoil_any _ _ (invertR a b).length _ _ Os20.out (len_invertR a b) (by have := Z7.out; have := Z8.out; have := Z9.out; have := Z10.out; have := Z11.out; have := Z12.out; have := Z13.out; have := Z14.out; have := Z15.out; have := Z16.out; have := Z17.out; have := Z18.out; have := Z19.out; have := Z20.out; omega)).mono ?_
  rintro e w21 ⟨rfl, g21⟩
  have B21 := Lib.hid (B20.out.grown g21 B20.out.size (fun k hk => Nat.le_trans (B6.out.size) (Us.out k hk).1))
  have Z21 := Lib.hid g21.size
  have Op221 := Lib.hid (kept_own Op220.out g21 (fun j hj => by have := (Us.out j hj).2; have := Z8.out; have := Z9.out; omega))
  have Oq221 := Lib.hid (kept_own Oq220.out g21 (fun j hj => by have := (Us.out j hj).2; have := Z8.out; have := Z9.out; have := Z10.out; omega))
  have Or221 := Lib.hid (kept_own Or220.out g21 (fun j hj => by have := (Us.out j hj).2; have := Z8.out; have := Z9.out; have := Z10.out; have := Z11.out; omega))
  have Os221 := Lib.hid (kept_own Os220.out g21 (fun j hj => by have := (Us.out j hj).2; have := Z8.out; have := Z9.out; have := Z10.out; have := Z11.out; have := Z12.out; omega))
  have Ls := len_invertR a b
  clear g21
  go_wp2_with fail
  refine (applyD_any v0 v1 a b _ (H0.out.below B21.out) (H1.out.below B21.out) S0.out S1.out).mono ?_
  rintro e w22 ⟨vt', rfl, o22, b22⟩
  have B22 := Lib.hid (B21.out.trans (b22.mono B21.out.size))
  have Z22 := Lib.hid b22.size
  have Op222 := Lib.hid (row_below Op221.out b22)
  have Oq222 := Lib.hid (row_below Oq221.out b22)
  have Or222 := Lib.hid (row_below Or221.out b22)
  have Os222 := Lib.hid (row_below Os221.out b22)
  have Ot22 := Lib.hid o22
  clear o22 b22
  go_wp2_with fail
  refine (composeD_any v0 v1 a b _ (H0.out.below B22.out) (H1.out.below B22.out) S0.out S1.out).mono ?_
  rintro e w23 ⟨vu', rfl, o23, b23⟩
  have B23 := Lib.hid (B22.out.trans (b23.mono B22.out.size))
  have Z23 := Lib.hid b23.size
  have Op223 := Lib.hid (row_below Op222.out b23)
  have Oq223 := Lib.hid (row_below Oq222.out b23)
  have Or223 := Lib.hid (row_below Or222.out b23)
  have Os223 := Lib.hid (row_below Os222.out b23)
  have Ot23 := Lib.hid (row_below Ot22.out b23)
  have Ou23 := Lib.hid o23
  clear o23 b23
  go_wp2_with fail
  refine (followD_any first v0 v1 a b _ (H0.out.below B23.out) (H1.out.below B23.out) S0.out S1.out).mono ?_
  rintro e w24 ⟨vv', rfl, o24, b24⟩
  have B24 := Lib.hid (B23.out.trans (b24.mono B23.out.size))
  have Z24 := Lib.hid b24.size
  have Op224 := Lib.hid (row_below Op223.out b24)
  have Oq224 := Lib.hid (row_below Oq223.out b24)
  have Or224 := Lib.hid (row_below Or223.out b24)
  have Os224 := Lib.hid (row_below Os223.out b24)
  have Ot24 := Lib.hid (row_below Ot23.out b24)
  have Ou24 := Lib.hid (row_below Ou23.out b24)
  have Ov24 := Lib.hid o24
  clear o24 b24
  go_wp2_with fail
  refine (invertD_any v0 v1 a b _ (H0.out.below B24.out) (H1.out.below B24.out) S0.out S1.out).mono ?_
  rintro e w25 ⟨vz', rfl, o25, b25⟩
  have B25 := Lib.hid (B24.out.trans (b25.mono B24.out.size))
  have Z25 := Lib.hid b25.size
  have Op225 := Lib.hid (row_below Op224.out b25)
  have Oq225 := Lib.hid (row_below Oq224.out b25)
  have Or225 := Lib.hid (row_below Or224.out b25)
  have Os225 := Lib.hid (row_below Os224.out b25)
  have Ot25 := Lib.hid (row_below Ot24.out b25)
  have Ou25 := Lib.hid (row_below Ou24.out b25)
  have Ov25 := Lib.hid (row_below Ov24.out b25)
  have Oz25 := Lib.hid o25
  clear o25 b25
  go_wp2_with fail
  refine (refSame_any _ _ (applyR a b) (applyR a b) _ (row_of_own Ot25.out) (row_of_own Op225.out)).mono ?_
  rw [Sm.out]
  rintro e w0' ⟨rfl, k26, rfl⟩
  have b26 := below_drewN (Below.refl w25.heap.size w25) k26
  have bb26 := B25.out.trans (b26.mono B25.out.size)
  have B26 := Lib.hid bb26
  have Z26 := Lib.hid b26.size
  have Op226 := Lib.hid (row_below Op225.out b26)
  have Oq226 := Lib.hid (row_below Oq225.out b26)
  have Or226 := Lib.hid (row_below Or225.out b26)
  have Os226 := Lib.hid (row_below Os225.out b26)
  have Ot26 := Lib.hid (row_below Ot25.out b26)
  have Ou26 := Lib.hid (row_below Ou25.out b26)
  have Ov26 := Lib.hid (row_below Ov25.out b26)
  have Oz26 := Lib.hid (row_below Oz25.out b26)
  clear b26 bb26
  generalize w25.drewN k26 = w26 at *
  go_wp2_with fail
  refine (refSame_any _ _ (composeR a b) (composeR a b) _ (row_of_own Ou26.out) (row_of_own Oq226.out)).mono ?_
  rw [Sm.out]
  rintro e w0' ⟨rfl, k27, rfl⟩
  have b27 := below_drewN (Below.refl w26.heap.size w26) k27
  have bb27 := B26.out.trans (b27.mono B26.out.size)
  have B27 := Lib.hid bb27
  have Z27 := Lib.hid b27.size
  have Op227 := Lib.hid (row_below Op226.out b27)
  have Oq227 := Lib.hid (row_below Oq226.out b27)
  have Or227 := Lib.hid (row_below Or226.out b27)
  have Os227 := Lib.hid (row_below Os226.out b27)
  have Ot27 := Lib.hid (row_below Ot26.out b27)
  have Ou27 := Lib.hid (row_below Ou26.out b27)
  have Ov27 := Lib.hid (row_below Ov26.out b27)
  have Oz27 := Lib.hid (row_below Oz26.out b27)
  clear b27 bb27
  generalize w26.drewN k27 = w27 at *
  go_wp2_with fail
  refine (refSame_any _ _ (followR first a b) (followR first a b) _ (row_of_own Ov27.out) (row_of_own Or227.out)).mono ?_
  rw [Sm.out]
  rintro e w0' ⟨rfl, k28, rfl⟩
  have b28 := below_drewN (Below.refl w27.heap.size w27) k28
  have bb28 := B27.out.trans (b28.mono B27.out.size)
  have B28 := Lib.hid bb28
  have Z28 := Lib.hid b28.size
  have Op228 := Lib.hid (row_below Op227.out b28)
  have Oq228 := Lib.hid (row_below Oq227.out b28)
  have Or228 := Lib.hid (row_below Or227.out b28)
  have Os228 := Lib.hid (row_below Os227.out b28)
  have Ot28 := Lib.hid (row_below Ot27.out b28)
  have Ou28 := Lib.hid (row_below Ou27.out b28)
  have Ov28 := Lib.hid (row_below Ov27.out b28)
  have Oz28 := Lib.hid (row_below Oz27.out b28)
  clear b28 bb28
  generalize w27.drewN k28 = w28 at *
  go_wp2_with fail
  refine (refSame_any _ _ (invertR a b) (invertR a b) _ (row_of_own Oz28.out) (row_of_own Os228.out)).mono ?_
  rw [Sm.out]
  rintro e w0' ⟨rfl, k29, rfl⟩
  have b29 := below_drewN (Below.refl w28.heap.size w28) k29
  have bb29 := B28.out.trans (b29.mono B28.out.size)
  have B29 := Lib.hid bb29
  have Z29 := Lib.hid b29.size
  have Op229 := Lib.hid (row_below Op228.out b29)
  have Oq229 := Lib.hid (row_below Oq228.out b29)
  have Or229 := Lib.hid (row_below Or228.out b29)
  have Os229 := Lib.hid (row_below Os228.out b29)
  have Ot29 := Lib.hid (row_below Ot28.out b29)
  have Ou29 := Lib.hid (row_below Ou28.out b29)
  have Ov29 := Lib.hid (row_below Ov28.out b29)
  have Oz29 := Lib.hid (row_below Oz28.out b29)
  clear b29 bb29
  generalize w28.drewN k29 = w29 at *
  go_wp2_with fail
  go_ret
  exact ⟨by simp, B29.out⟩
end Go.Proofs.Ytpbdbiconcmcfaa
