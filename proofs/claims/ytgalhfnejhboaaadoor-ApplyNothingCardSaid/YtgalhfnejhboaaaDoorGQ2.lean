/- Texts of this seat, put together: Dbt. -/
import Derived.Test.YtgalhfnejhboaaaDoorGQ1
import Derived.Test.YtgalhfnejhboaaaDoorGF3
/- The program's Between, of two documents. -/
namespace Go.Proofs.YtgalhfnejhboaaaDoor
open Go.RowKit Rn Ch At

def frontF (xs ys : List CD) (i : Nat) : Bool := if h : i < xs.length ∧ i < ys.length then sameC xs[i] ys[i] else false
def hindF (xs ys : List CD) (i : Nat) : Bool := if h : i < xs.length ∧ i < ys.length then sameC xs[xs.length - 1 - i] ys[ys.length - 1 - i] else false
theorem alikeN_le (F : Nat → Bool) : ∀ m n, n ≤ alikeN F m n ∧ alikeN F m n ≤ n + m := by
  intro m
  induction m with
  | zero => intro n; exact ⟨Nat.le_refl _, Nat.le_refl _⟩
  | succ m ih =>
    intro n
    rw [alikeN]
    split
    · have := ih (n + 1); omega
    · omega
def aheadN (xs ys : List CD) : Nat := alikeN (frontF xs ys) (min xs.length ys.length) 0
def behindN (xs ys : List CD) : Nat := alikeN (hindF xs ys) (min xs.length ys.length - aheadN xs ys) 0
theorem ab_le (xs ys : List CD) : aheadN xs ys + behindN xs ys ≤ xs.length ∧ aheadN xs ys + behindN xs ys ≤ ys.length := by
  have h1 := (alikeN_le (frontF xs ys) (min xs.length ys.length) 0).2
  have h2 := (alikeN_le (hindF xs ys) (min xs.length ys.length - aheadN xs ys) 0).2
  unfold behindN
  unfold aheadN at h2 ⊢
  omega
def insOne (x : CD) : OpD := ⟨2, 0, E x.1, x.2⟩
def midC (xs ys : List CD) : List CD := (ys.drop (aheadN xs ys)).take (ys.length - behindN xs ys - aheadN xs ys)
def keepO (n : Nat) : OpD := ⟨1, n, ⟨#[]⟩, []⟩
def cutO (n : Nat) : OpD := ⟨3, n, ⟨#[]⟩, []⟩
def btS (xs ys : List CD) (k : Nat) : List OpD × Int := (((midC xs ys).take k).map insOne).foldl addG (addG ([], 0) (keepO (aheadN xs ys)))
def btE (xs ys : List CD) : List OpD × Int := addG (btS xs ys (midC xs ys).length) (cutO (xs.length - aheadN xs ys - behindN xs ys))
theorem btS_succ {xs ys : List CD} {k : Nat} (h : k < (midC xs ys).length) : btS xs ys (k + 1) = addG (btS xs ys k) (insOne (midC xs ys)[k]) := by
  unfold btS
  rw [List.take_succ_eq_append_getElem h, List.map_append, List.foldl_append]; rfl
theorem btS_sm {xs ys : List CD} (hn : xs.length ≤ 20000) : ∀ k, k ≤ (midC xs ys).length → SmI 20000 (4 * k) (k + 1) (btS xs ys k) := by
  have h0 := (ab_le xs ys).1
  intro k
  induction k with
  | zero =>
    intro _
    have h1 : (0 : Int) ≤ (keepO (aheadN xs ys)).n := by show (0 : Int) ≤ (aheadN xs ys : Int); omega
    exact (smI_nil.addG h1).more (by show (0 : Int) + (aheadN xs ys : Int) ≤ _; omega) (by show 0 + 0 ≤ _; omega) (by omega)
  | succ k ih =>
    intro h
    rw [btS_succ (by omega)]
    have h1 : (0 : Int) ≤ (insOne (midC xs ys)[k]).n := Int.le_refl _
    exact ((ih (by omega)).addG h1).more (by show (20000 : Int) + 0 ≤ _; omega) (by have := E_size (midC xs ys)[k].1; show 4 * k + (E (midC xs ys)[k].1).size ≤ _; omega) (by omega)
theorem mid_len (xs ys : List CD) (hm : ys.length ≤ 20000) : (midC xs ys).length ≤ 20000 := by
  unfold midC
  rw [List.length_take, List.length_drop]; omega
theorem btE_sm {xs ys : List CD} (hn : xs.length ≤ 20000) (hm : ys.length ≤ 20000) : SmI 40000 80000 20002 (btE xs ys) := by
  have h1 := btS_sm (xs := xs) (ys := ys) hn (midC xs ys).length (Nat.le_refl _)
  have h2 := mid_len xs ys hm
  have h3 : (0 : Int) ≤ (cutO (xs.length - aheadN xs ys - behindN xs ys)).n := by show (0 : Int) ≤ ((xs.length - aheadN xs ys - behindN xs ys : Nat) : Int); omega
  exact (h1.addG h3).more (by show (20000 : Int) + ((xs.length - aheadN xs ys - behindN xs ys : Nat) : Int) ≤ _; omega) (by show 4 * _ + 0 ≤ _; omega) (by omega)
/-- What Between answers. -/
def btL (xs ys : List CD) : List OpD := chgL (btE xs ys)
theorem alikeN_all {F : Nat → Bool} : ∀ (m n : Nat), (∀ i, n ≤ i → i < n + m → F i = true) → alikeN F m n = n + m := by
  intro m
  induction m with
  | zero => intro n _; rfl
  | succ m ih =>
    intro n h
    rw [alikeN, if_pos (h n (Nat.le_refl _) (by omega)), ih (n + 1) (fun i h1 h2 => h i (by omega) (by omega))]
    omega
/-- Between a document and itself is nothing. -/
theorem bt_self (xs : List CD) : btL xs xs = [] := by
  have h1 : aheadN xs xs = xs.length := by
    unfold aheadN
    rw [Nat.min_self, alikeN_all, Nat.zero_add]
    intro i _ hi
    unfold frontF
    rw [dif_pos ⟨by omega, by omega⟩]
    exact decide_eq_true ⟨rfl, rfl⟩
  have h2 : behindN xs xs = 0 := by
    unfold behindN
    rw [h1, Nat.min_self, Nat.sub_self]; rfl
  have h3 : midC xs xs = [] := by
    unfold midC
    rw [h1, h2, Nat.sub_zero, Nat.sub_self]; rfl
  unfold btL btE btS chgL
  rw [h3, h1, h2, Nat.sub_zero, Nat.sub_self]
  have h4 : ∀ s : List OpD × Int, addG s (cutO 0) = s := fun s => by unfold addG; rw [if_pos ⟨rfl, rfl⟩]
  rw [h4]
  show (trim (flush (addG ([], 0) (keepO xs.length)))).reverse = []
  by_cases hx : xs.length = 0
  · have : addG ([], 0) (keepO xs.length) = ([], 0) := by unfold addG; rw [if_pos ⟨by show (xs.length : Int) = 0; omega, rfl⟩]
    rw [this]; rfl
  · have : addG ([], 0) (keepO xs.length) = ([keepO xs.length], 0) := by
      unfold addG
      rw [if_neg (by rintro ⟨h, _⟩; have : (xs.length : Int) = 0 := h; omega)]
      rfl
    rw [this]; rfl
theorem collect_doc (db : Nat) (a : Option Addr) (n cap : Nat) (ps : List RP) (w : World) (hd : Boxed w db 22 (.slice a n cap)) (hr : RunRow w (.slice a n cap) ps) (hD : DocF (ps.map (·.1))) (hU : U8s w.heap.size w) :
    Calls Tryd.prog 52 #[.func (.func 87) #[] #[.pointer (some ⟨db, 0, none⟩)]] w fun e w' => ∃ v, e = .returned v ∧ Below w.heap.size w w' ∧ CellRow w' v (cellsD (ps.map (·.1))) := by
  have hO : ∀ p ∈ ps, OkR p.1 := fun p hp => hD.oks p.1 (List.mem_map.2 ⟨p, hp, rfl⟩)
  refine (collect_any db a n cap ps w hd hr hO hU).mono fun e w' ⟨v, he, hb, ho⟩ => ⟨v, he, hb, ?_⟩
  have hx : (rem (ps, 0)).take (20000 : Int).toNat = cellsP ps := by
    unfold rem
    rw [List.drop_zero]
    refine List.take_of_length_le ?_
    have h1 := hD.n1
    rw [← cellsD_of, List.length_map] at h1
    exact h1
  rw [hx] at ho
  rw [← cellsD_of]
  exact cellRow_own ho fun x hx => (hr.below hb).2 _ (mem_cellsP hx)
theorem slice_mid {w : World} {a : Option Addr} {n cap : Nat} {ys : List CD} (h : CellRow w (.slice a n cap) ys) (A H : Nat) (hAH : A ≤ H) (hH : H ≤ ys.length) :
    ∃ a' c', (∀ W, (Instr.sliceAt 102 (.slice a n cap) (some (.int .i64 (A : Int))) (some (.int .i64 (H : Int))) none).run Tryd.prog W = .ok (.slice a' (H - A) c') W) ∧ CellRow w (.slice a' (H - A) c') ((ys.drop A).take (H - A)) := by
  obtain ⟨a0, cap0, he0, h1, h2, h3⟩ := h
  simp only [Value.slice.injEq] at he0
  obtain ⟨rfl, rfl, rfl⟩ := he0
  have he : Tryd.prog.elem 102 = 71 := by kernel_rfl
  have hu : Tryd.prog.underlying 102 = some (.slice (Tryd.prog.elem 102)) := by kernel_rfl
  have hl : ((ys.drop A).take (H - A)).length = H - A := by rw [List.length_take, List.length_drop]; omega
  have e1 : ((H : Int) - (A : Int)).toNat = H - A := by omega
  have hrun : ∀ W, (Instr.sliceAt 102 (.slice a ys.length cap) (some (.int .i64 (A : Int))) (some (.int .i64 (H : Int))) none).run Tryd.prog W = .ok (sliced a A H cap 2) W := fun W => by
    rw [run_sliceAt_slice W _ _ _ _ _ hu, run_slice_lh W _ _ _ _ hu .i64 .i64 _ _ (by omega) (by omega) (by omega), he, Tryd.sizeOf71]
    rfl
  refine ⟨if cap = A then a else a.map (·.add (A * 2)), cap - A, fun W => hrun W, _, cap - A, by rw [hl], by rw [hl]; omega, by omega, fun i hi => ?_⟩
  rw [hl] at hi
  obtain ⟨b, off, av, rfl, hlt, h4, h5, h6⟩ := h3 (A + i) (by omega)
  have hca : ¬ cap = A := by omega
  have e2 : (⟨b, off, none⟩ : Addr).add (A * 2) = ⟨b, off + A * 2, none⟩ := by
    by_cases hj0 : A * 2 = 0
    · rw [hj0]; simp [Addr.add]
    · simp [Addr.add, hj0]
  have e3 : ((ys.drop A).take (H - A))[i]'(by rw [hl]; exact hi) = ys[A + i]'(by omega) := by
    rw [List.getElem_take, List.getElem_drop]
  have e4 : off + A * 2 + i * 2 = off + (A + i) * 2 := by omega
  refine ⟨b, off + A * 2, av, ?_, hlt, by rw [e3]; exact h4, by rw [e4, e3]; exact h5, by rw [e4]; exact h6⟩
  rw [if_neg hca]
  show some ((⟨b, off, none⟩ : Addr).add (A * 2)) = _
  rw [e2]
theorem cells_fun (a : Option Addr) (n cap : Nat) (w : World) : Calls Tryd.prog 53 #[.slice a n cap] w fun e w' => e = .returned (.func (.func 87) #[] #[.pointer (some ⟨w.heap.size, 0, none⟩)]) ∧ Boxed w' w.heap.size 22 (.slice a n cap) ∧ Below w.heap.size w w' :=
  (cells_any a n cap w).mono fun e w' ⟨h1, h2⟩ => ⟨h1, by rw [h2]; exact Boxed.new w _ _, by rw [h2]; exact below_box _ _⟩
theorem U8s.upB {w W : World} (h : U8s w.heap.size w) (hb : Below w.heap.size w W) : U8s W.heap.size W := ⟨Nat.lt_of_lt_of_le h.1 hb.size, Nat.lt_of_lt_of_le h.2.1 hb.size, (h.to hb).2.2⟩
def BtOut (w : World) (B : Nat) (xs ys : List CD) (e : Ending) (w' : World) : Prop :=
  ∃ v, e = .returned (.tuple #[chAgg (if 2000 < (btL xs ys).length then 0 else (xs.length : Int)) v, .int .i64 (if 2000 < (btL xs ys).length then 2 else 0)]) ∧ OwnOps w' B v (if 2000 < (btL xs ys).length then [] else btL xs ys) ∧ Below w.heap.size w w'

set_option maxRecDepth 100000 in
set_option maxHeartbeats 2000000 in
theorem between_ok (v u : Value) (ps qs : List RP) (w : World) (hv : RunRow w v ps) (hu : RunRow w u qs) (hz : RSized (ps.map (·.1))) (hz2 : RSized (qs.map (·.1))) (h0 : lenE (ps.map (·.1)) = 0) (h1 : lenE (qs.map (·.1)) = 0) (hU : U8s w.heap.size w) :
    Calls Tryd.prog 20 #[v, u] w (BtOut w w.heap.size (cellsD (ps.map (·.1))) (cellsD (qs.map (·.1)))) := by
  obtain ⟨xs, hxs⟩ : ∃ xs, xs = cellsD (ps.map (·.1)) := ⟨_, rfl⟩
  obtain ⟨ys, hys⟩ : ∃ ys, ys = cellsD (qs.map (·.1)) := ⟨_, rfl⟩
  rw [← hxs, ← hys]
  have HQX := Lib.hid hxs
  have HQY := Lib.hid hys
  clear hxs hys
  have bA := below_box w (.cells #[.int .i64 0, .slice none 0 0] 25)
  have HBA := Lib.hid bA
  have HA0 := Lib.hid (show (w.alloc (.cells #[.int .i64 0, .slice none 0 0] 25)).heap[w.heap.size]? = some (.cells #[.int .i64 0, .slice none 0 0] 25 (0, 0)) from heap_new _ _)
  have HR1 := fun W (h : Below w.heap.size w W) => rightDoc_any v ps W (hv.below h) hz
  have HR2 := fun W (h : Below w.heap.size w W) => rightDoc_any u qs W (hu.below h) hz2
  rw [h0] at HR1
  rw [h1] at HR2
  have HR1 := Lib.hid HR1
  have HR2 := Lib.hid HR2
  have HD1 := Lib.hid (docF_of h0)
  have HD2 := Lib.hid (docF_of h1)
  have HV := Lib.hid hv
  have HW := Lib.hid hu
  have HU := Lib.hid hU
  obtain ⟨va, vc, rfl⟩ := hv.shape
  obtain ⟨ua, uc, rfl⟩ := hu.shape
  clear hv hu hz hz2 h0 h1 hU bA
  go_enter Tryd.func20, Tryd.ntmps20
  go_wp2_with fail
  refine (HR1.out _ HBA.out).mono ?_
  rintro e w1 ⟨rfl, b⟩
  have B1 := Lib.hid (HBA.out.trans (b.mono HBA.out.size))
  have HA1 := Lib.hid ((b.block _ (lt_of_heap HA0.out)).trans HA0.out)
  clear b HR1 HA0
  go_wp2_with fail
  refine (HR2.out _ B1.out).mono ?_
  rintro e w2 ⟨rfl, b⟩
  have B2 := Lib.hid (B1.out.trans (b.mono B1.out.size))
  have HA2 := Lib.hid ((b.block _ (lt_of_heap HA1.out)).trans HA1.out)
  clear b HR2 HA1
  go_wp2_with fail
  refine (cells_fun va ps.length vc w2).mono ?_
  rintro e w3 ⟨rfl, hbx, b⟩
  have B3 := Lib.hid (B2.out.trans (b.mono B2.out.size))
  have HA3 := Lib.hid ((b.block _ (lt_of_heap HA2.out)).trans HA2.out)
  have HC := Lib.hid (collect_doc w2.heap.size va ps.length vc ps w3 hbx (HV.out.below B3.out) HD1.out (HU.out.upB B3.out))
  clear b hbx HA2
  go_wp2_with fail
  refine HC.out.mono ?_
  rintro e w4 ⟨xv, rfl, b, hx⟩
  have B4 := Lib.hid (B3.out.trans (b.mono B3.out.size))
  have HA4 := Lib.hid ((b.block _ (lt_of_heap HA3.out)).trans HA3.out)
  have HX4 := Lib.hid hx
  obtain ⟨xa, xc, rfl⟩ := hx.shape
  clear b hx HC HA3
  go_wp2_with fail
  refine (cells_fun ua qs.length uc w4).mono ?_
  rintro e w5 ⟨rfl, hbx, b⟩
  have B5 := Lib.hid (B4.out.trans (b.mono B4.out.size))
  have HA5 := Lib.hid ((b.block _ (lt_of_heap HA4.out)).trans HA4.out)
  have HX5 := Lib.hid (HX4.out.below b)
  have HC := Lib.hid (collect_doc w4.heap.size ua qs.length uc qs w5 hbx (HW.out.below B5.out) HD2.out (HU.out.upB B5.out))
  clear b hbx HA4 HX4
  go_wp2_with fail
  refine HC.out.mono ?_
  rintro e w6 ⟨yv, rfl, b, hy⟩
  have B6 := Lib.hid (B5.out.trans (b.mono B5.out.size))
  have HA6 := Lib.hid ((b.block _ (lt_of_heap HA5.out)).trans HA5.out)
  have HX6 := Lib.hid (HX5.out.below b)
  have HY6 := Lib.hid hy
  have hxn := HD1.out.n1
  have hyn := HD2.out.n1
  have HOX := Lib.hid (show okCs (cellsD (ps.map (·.1))) from fun x hx => HD1.out.cell hx)
  have HOY := Lib.hid (show okCs (cellsD (qs.map (·.1))) from fun x hx => HD2.out.cell hx)
  obtain ⟨ya, yc, rfl⟩ := hy.shape
  rw [← HQX.out] at HX6 hxn HOX ⊢
  rw [← HQY.out] at HY6 hyn HOY ⊢
  clear b hy HC HA5 HX5
  go_wp2_with fail
  have hmin : min (xs.length : Int) (ys.length : Int) = ((min xs.length ys.length : Nat) : Int) := by omega
  obtain ⟨M, hM⟩ : ∃ M, M = min xs.length ys.length := ⟨_, rfl⟩
  rw [hmin, ← hM]
  clear hmin
  obtain ⟨A, hA⟩ : ∃ A, A = aheadN xs ys := ⟨_, rfl⟩
  obtain ⟨Z, hZ⟩ : ∃ Z, Z = behindN xs ys := ⟨_, rfl⟩
  have hab : A + Z ≤ xs.length ∧ A + Z ≤ ys.length := by rw [hA, hZ]; exact ab_le xs ys
  have hAm : A ≤ M := by
    rw [hA, hM]
    have h := (alikeN_le (frontF xs ys) (min xs.length ys.length) 0).2
    rw [Nat.zero_add] at h
    exact h
  have HAQ := Lib.hid (show alikeN (frontF xs ys) M 0 = A by rw [hM]; exact hA.symm)
  have HZQ := Lib.hid (show alikeN (hindF xs ys) (M - A) 0 = Z by rw [hM, hA, hZ]; rfl)
  have hMx : M ≤ xs.length ∧ M ≤ ys.length := by omega
  have HAZ := Lib.hid (And.intro hA hZ)
  clear hA hZ hM
  obtain ⟨W7, hW7⟩ : ∃ W, W = (w6.alloc (.cells #[.slice xa xs.length xc] 102)).alloc (.cells #[.slice ya ys.length yc] 102) := ⟨_, rfl⟩
  rw [← hW7]
  have b7 : Below w6.heap.size w6 W7 := by rw [hW7]; exact ((Below.refl _ _).alloc (Nat.le_refl _) _).alloc (by simp) _
  have HXB := Lib.hid (show Boxed W7 w6.heap.size 102 (.slice xa xs.length xc) by rw [hW7]; exact (Boxed.new w6 _ _).alloc _)
  have HYB := Lib.hid (show Boxed W7 (w6.heap.size + 1) 102 (.slice ya ys.length yc) by
    rw [hW7]
    have := Boxed.new (w6.alloc (.cells #[.slice xa xs.length xc] 102)) 102 (.slice ya ys.length yc)
    rwa [World.size_alloc] at this)
  have B7 := Lib.hid (B6.out.trans (b7.mono B6.out.size))
  have HA7 := Lib.hid ((b7.block _ (lt_of_heap HA6.out)).trans HA6.out)
  have HX7 := Lib.hid (HX6.out.below b7)
  have HY7 := Lib.hid (HY6.out.below b7)
  have hlx := HXB.out.lt
  have hly := HYB.out.lt
  clear hW7 b7 HA6 HX6 HY6
  have HAL := Lib.hid (alikeD_any (frontF xs ys) M 55 #[.pointer (some ⟨w6.heap.size, 0, none⟩), .pointer (some ⟨w6.heap.size + 1, 0, none⟩)] W7 (by omega) (fun _ _ => rfl) (fun i hi W hb => by
    have h1 : i < xs.length := by omega
    have h2 : i < ys.length := by omega
    have := front_any w6.heap.size (w6.heap.size + 1) _ _ xs ys i W ((hb.block _ hlx).trans HXB.out) ((hb.block _ hly).trans HYB.out) (HX7.out.below hb) (HY7.out.below hb) h1 h2 hxn hyn
    rwa [show frontF xs ys i = sameC xs[i] ys[i] by unfold frontF; rw [dif_pos ⟨h1, h2⟩]]))
  have HBL := Lib.hid (fun V (hV : Below W7.heap.size W7 V) => alikeD_any (hindF xs ys) (M - A) 57 #[.pointer (some ⟨w6.heap.size, 0, none⟩), .pointer (some ⟨w6.heap.size + 1, 0, none⟩)] V (by omega) (fun _ _ => rfl) (fun i hi W hb => by
    have h1 : i < xs.length := by omega
    have h2 : i < ys.length := by omega
    have hb := hV.trans (hb.mono hV.size)
    have := hind_any w6.heap.size (w6.heap.size + 1) _ _ xs ys i W ((hb.block _ hlx).trans HXB.out) ((hb.block _ hly).trans HYB.out) (HX7.out.below hb) (HY7.out.below hb) h1 h2 hxn hyn
    rwa [show hindF xs ys i = sameC xs[xs.length - 1 - i] ys[ys.length - 1 - i] by unfold hindF; rw [dif_pos ⟨h1, h2⟩]]))
  have hs7 := B7.out.size
  refine HAL.out.mono ?_
  rintro e w8 ⟨rfl, b⟩
  rw [HAQ.out]
  have D8 := Lib.hid b
  have hw1 : wrap64 ((M : Int) - (A : Int)) = ((M - A : Nat) : Int) := by
    rw [IntWalk.wrap64_in _ (by omega)]; omega
  have HBL8 := Lib.hid (HBL.out w8 b)
  clear b HAL HBL
  go_wp2_with fail
  rw [show (M : Int) - (A : Int) = ((M - A : Nat) : Int) by omega]
  refine HBL8.out.mono ?_
  rintro e w9 ⟨rfl, b⟩
  rw [HZQ.out]
  have D9 := Lib.hid (D8.out.trans (b.mono D8.out.size))
  have hs9 := D9.out.size
  have B9 := Lib.hid (B7.out.trans (D9.out.mono hs7))
  have HA9 := Lib.hid ((D9.out.block _ (lt_of_heap HA7.out)).trans HA7.out)
  have HX9 := Lib.hid (HX7.out.below D9.out)
  have HY9 := Lib.hid (HY7.out.below D9.out)
  have HXB9 := Lib.hid (show Boxed w9 _ _ _ from (D9.out.block _ hlx).trans HXB.out)
  have HYB9 := Lib.hid (show Boxed w9 _ _ _ from (D9.out.block _ hly).trans HYB.out)
  have HSM0 := Lib.hid (btS_sm (xs := xs) (ys := ys) hxn 0 (Nat.zero_le _))
  have HN0 := Lib.hid (nst_new (W := w9.alloc (.cells #[.slice none 0 0, .pointer none, .slice none 0 0, .int .i64 0] 89)) (B := w9.heap.size) (b := w9.heap.size) (heap_new _ _))
  have HAD := Lib.hid (addG_any w9.heap.size w9.heap.size _ ([], 0) (keepO A) (.slice none 0 0) _ HN0.out (Nat.le_refl _)
    (smI_nil.fits (by omega) (by omega) (by omega) (by show (0 : Int) ≤ (A : Int); omega) (by show (A : Int) ≤ _; omega) (by show (0 : Nat) ≤ _; omega) small_nil) (fun w' _ => row_nilC w'))
  have bo := below_box w9 (.cells #[.slice none 0 0, .pointer none, .slice none 0 0, .int .i64 0] 89)
  have HBO := Lib.hid bo
  clear b bo HBL8 hw1 HXB HYB HX7 HY7 HA7
  go_wp2_with fail
  refine HAD.out.mono ?_
  rintro e w10 ⟨rfl, ov, hN, hK⟩
  have hs10 : w9.heap.size < w10.heap.size := hN.lt
  have hbk := hK.keep.below
  have B10 := Lib.hid (B9.out.trans ((HBO.out.mono B9.out.size).trans (hbk.mono (Nat.le_trans B9.out.size (Nat.le_refl _)))))
  have HB10 := Lib.hid (HBO.out.trans hbk)
  have HA10 := Lib.hid (hK.keep.kept _ _ _ _ ((HBO.out.block _ (lt_of_heap HA9.out)).trans HA9.out) (by decide))
  have HXB10 := Lib.hid (show Boxed w10 w6.heap.size 102 (.slice xa xs.length xc) from hK.keep.kept _ _ _ _ ((HBO.out.block _ HXB9.out.lt).trans HXB9.out) (by decide))
  have HYB10 := Lib.hid (show Boxed w10 (w6.heap.size + 1) 102 (.slice ya ys.length yc) from hK.keep.kept _ _ _ _ ((HBO.out.block _ HYB9.out.lt).trans HYB9.out) (by decide))
  have HN10 := Lib.hid hN
  obtain ⟨ma, mc, hrun, hmid⟩ := slice_mid HY9.out A (ys.length - Z) (by omega) (by omega)
  have HMID := Lib.hid (show CellRow w9 (.slice ma (ys.length - Z - A) mc) (midC xs ys) by unfold midC; rw [← HAZ.out.1, ← HAZ.out.2]; exact hmid)
  have hml : (midC xs ys).length = ys.length - Z - A := by unfold midC; rw [← HAZ.out.1, ← HAZ.out.2, List.length_take, List.length_drop]; omega
  rw [← hml] at HMID hrun
  have HBT0 := Lib.hid (show addG ([], 0) (keepO A) = btS xs ys 0 by unfold btS; rw [HAZ.out.1]; rfl)
  rw [HBT0.out] at HN10
  clear hmid
  have hml20 : (midC xs ys).length ≤ 20000 := mid_len xs ys hyn
  have HOM := Lib.hid (show okCs (midC xs ys) from fun x hx => HOY.out x (List.mem_of_mem_drop (List.mem_of_mem_take hx)))
  have HBTS := Lib.hid (fun k (hk : k < (midC xs ys).length) => btS_succ (xs := xs) (ys := ys) hk)
  have HSM := Lib.hid (fun k (hk : k ≤ (midC xs ys).length) => btS_sm (xs := xs) (ys := ys) hxn k hk)
  obtain ⟨mid, hmid⟩ : ∃ m, m = midC xs ys := ⟨_, rfl⟩
  rw [← hmid] at hml20 HOM HBTS HSM HMID hrun
  have HMQ := Lib.hid hmid
  clear hmid hml
  have x0 := HXB10.out.cell
  have y0 := HYB10.out.cell
  have hyz : (ys.length : Int) - (Z : Int) = ((ys.length - Z : Nat) : Int) := by omega
  have hw2 : wrap64 ((ys.length : Int) - (Z : Int)) = ((ys.length - Z : Nat) : Int) := by rw [IntWalk.wrap64_in _ (by omega)]; omega
  clear hN hK hbk HAD HBO HA9 HXB9 HYB9 HX9 HY9 HN0
  go_wp2_with fail
  clear x0 y0 hrun hw2 hyz
  go_loopw [53] (fun i wr => ∃ (k : Nat) (ov : Value), i = .int .i64 (k : Int) ∧ k ≤ mid.length ∧ Below w9.heap.size w9 wr ∧ wr.heap[w.heap.size]? = some (.cells #[.int .i64 0, .slice none 0 0] 25 (0, 0)) ∧ Boxed wr w6.heap.size 102 (.slice xa xs.length xc) ∧ NSt wr w9.heap.size w9.heap.size ov (btS xs ys k).1 (btS xs ys k).2) (fun i _ => mid.length - (intOf i).toNat)
  case atStart => exact ⟨0, ov, rfl, Nat.zero_le _, HB10.out, HA10.out, HXB10.out, HN10.out⟩
  case round =>
    obtain ⟨k, ov, rfl, hk, hb, hA, hX, hN⟩ := hrel
    have HBW := Lib.hid hb
    have HAW := Lib.hid hA
    have HXW := Lib.hid hX
    have HN := Lib.hid hN
    have HSK := Lib.hid (HSM.out k hk)
    have hlt1 := hN.lt
    by_cases hlt : k < mid.length
    · have hlt' : (k : Int) < (mid.length : Int) := by omega
      obtain ⟨ma0, mc0, hme, _, _, h3⟩ := HMID.out
      simp only [Value.slice.injEq] at hme
      obtain ⟨rfl, _, rfl⟩ := hme
      obtain ⟨b, off, av, rfl, hbl, hra, x0', x1'⟩ := h3 k hlt
      have hnext := HBTS.out k hlt
      have hok := HOM.out _ (List.getElem_mem hlt)
      obtain ⟨q, hq⟩ : ∃ q, q = mid[k] := ⟨_, rfl⟩
      have hnext' : btS xs ys (k + 1) = addG (btS xs ys k) (insOne q) := by rw [hnext, hq]
      rw [← hq] at x0' hra hok
      obtain ⟨ra, rc, rfl⟩ := hra.shape
      have hs0 := hb.size
      have x0 : wr.cell? ⟨b, off + k * 2, none⟩ = some (.string (E q.1)) := (hb.cell (by exact hbl)).trans x0'
      have x1 : wr.cell? ⟨b, off + k * 2 + 1, none⟩ = some (.slice ra q.2.length rc) := (hb.cell (by exact hbl)).trans x1'
      have hbr : b < wr.heap.size := Nat.lt_of_lt_of_le hbl hs0
      have HNX := Lib.hid hnext'
      have HRA := Lib.hid (fun W (h : Below w9.heap.size w9 W) => hra.below h)
      have bx := below_box wr (.cells #[.string (E q.1), .slice ra q.2.length rc] 71)
      have HBX := Lib.hid bx
      have HAD := Lib.hid (addG_any w9.heap.size w9.heap.size ov (btS xs ys k) (insOne q) (.slice ra q.2.length rc) _ (HN.out.below bx) (Nat.le_refl _)
        (HSK.out.fits (by omega) (by omega) (by omega) (Int.le_refl _) (by show (0 : Int) ≤ _; omega) (by have := E_size q.1; show (E q.1).size ≤ _; omega) (small_rgt (rgtE_zero.2 hok.2))) (fun w' hw => HRA.out w' (HBW.out.trans ((HBX.out.mono hs0).trans hw.below))))
      clear hb hA hX hN x0' x1' hra hq hnext hnext' hok h3 bx
      go_wp2_with fail
      refine HAD.out.mono ?_
      rintro e w11 ⟨rfl, ov', hN2, hK2⟩
      have HB2 := Lib.hid (HBW.out.trans ((HBX.out.mono hs0).trans hK2.keep.below))
      have HA2 := Lib.hid (hK2.keep.kept _ _ _ _ ((HBX.out.block _ (lt_of_heap HAW.out)).trans HAW.out) (by decide))
      have HX2 := Lib.hid (hK2.keep.kept _ _ _ _ ((HBX.out.block _ (lt_of_heap HXW.out)).trans HXW.out) (by decide))
      have HN2 := Lib.hid hN2
      clear hN2 hK2
      go_wp2_with fail
      go_roundw
      case rel => exact ⟨k + 1, ov', by go_num, by omega, HB2.out, HA2.out, HX2.out, by rw [HNX.out]; exact HN2.out⟩
      case measure => simp [intOf]; omega
    · have hkn : k = mid.length := by omega
      have hlt' : ¬ (k : Int) < (mid.length : Int) := by omega
      have x0 := HXW.out.cell
      have hw3 : wrap64 ((xs.length : Int) - (A : Int)) = (xs.length : Int) - (A : Int) := IntWalk.wrap64_in _ (by omega)
      have hw4 : wrap64 ((xs.length : Int) - (A : Int) - (Z : Int)) = ((xs.length - A - Z : Nat) : Int) := by rw [IntWalk.wrap64_in _ (by omega)]; omega
      have HAD := Lib.hid (addG_any w9.heap.size w9.heap.size ov (btS xs ys k) (cutO (xs.length - A - Z)) (.slice none 0 0) wr HN.out (Nat.le_refl _)
        (HSK.out.fits (by omega) (by omega) (by omega) (by show (0 : Int) ≤ ((xs.length - A - Z : Nat) : Int); omega) (by show ((xs.length - A - Z : Nat) : Int) ≤ _; omega) (by show (0 : Nat) ≤ _; omega) small_nil) (fun w' _ => row_nilC w'))
      clear hb hA hX hN
      go_wp2_with fail
      rw [show (xs.length : Int) - (A : Int) - (Z : Int) = ((xs.length - A - Z : Nat) : Int) by omega]
      have hend : addG (btS xs ys k) (cutO (xs.length - A - Z)) = btE xs ys := by
        unfold btE
        rw [← HMQ.out, ← hkn, ← HAZ.out.1, ← HAZ.out.2]
      have HSE := Lib.hid (btE_sm (xs := xs) (ys := ys) hxn hyn)
      have HEND := Lib.hid hend
      clear hend
      refine HAD.out.mono ?_
      rintro e w11 ⟨rfl, ov', hN2, hK2⟩
      rw [HEND.out] at hN2
      have HB2 := Lib.hid (HBW.out.trans hK2.keep.below)
      have HA2 := Lib.hid (hK2.keep.kept _ _ _ _ HAW.out (by decide))
      have HX2 := Lib.hid (show Boxed w11 w6.heap.size 102 (.slice xa xs.length xc) from hK2.keep.kept _ _ _ _ HXW.out (by decide))
      obtain ⟨f0, f1, f2⟩ := HSE.out.fin (by omega) (by omega) (by omega)
      have HCH := Lib.hid (changeG_any w9.heap.size w9.heap.size ov' (btE xs ys) (xs.length : Int) w11 hN2 (Nat.le_refl _) f0 f1 f2)
      have x0 := HX2.out.cell
      clear hN2 hK2 HAD f0 f1 f2 hw3 hw4
      go_wp2_with fail
      refine HCH.out.mono ?_
      rintro e w12 ⟨u, rfl, hO, hK⟩
      rw [show chgL (btE xs ys) = btL xs ys from rfl] at hO ⊢
      have x1 := hK.kept _ _ _ _ HA2.out (by decide)
      obtain ⟨p0, p1, p2, p3⟩ := cells2 x1
      have HX1 := Lib.hid x1
      obtain ⟨cps, hcp, hcO⟩ := hO
      obtain ⟨ca, cc, rfl⟩ := own_slice hcO.1
      have HO := Lib.hid (And.intro hcp hcO)
      have HBE := Lib.hid (B9.out.trans ((HB2.out.trans hK.below).mono B9.out.size))
      clear hK x1 hcp hcO x0
      generalize hfr : (if 2000 < (btL xs ys).length then 0 else (xs.length : Int)) = fr
      generalize her : (if 2000 < (btL xs ys).length then (2 : Int) else 0) = er_
      have HFR := Lib.hid (And.intro hfr her)
      clear hfr her
      go_wp2_with fail
      obtain ⟨q1, q2, q3⟩ := agg_set (.int .i64 fr) (.slice ca cps.length cc) HX1.out
      refine bodyPost_ret (results_chgN rfl rfl rfl (cells2 q1).1 (cells2 q1).2.1) rfl ?_
      refine ⟨.slice ca cps.length cc, by rw [HFR.out.1, HFR.out.2]; rfl, ⟨cps, HO.out.1, (HO.out.2.keep q2 (by decide) (by decide)).base (by have := B9.out.size; omega)⟩, HBE.out.trans (q2.below)⟩
end Go.Proofs.YtgalhfnejhboaaaDoor
