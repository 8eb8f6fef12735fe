/- The law RunesLines, walked: the lines are the document's, joined they are the text; two answers share nothing. -/
import Derived.Test.YtpjblmhhcadcbaaDoorRefLines
namespace Go.Proofs.YtpjblmhhcadcbaaDoor
open Go.RowKit Rn

/-- The first k lines, a byte 10 between each two. -/
def accJ (L : List ByteArray) : Nat → ByteArray
  | 0 => ⟨#[]⟩
  | k + 1 => (if 0 < k then accJ L k ++ ⟨#[10]⟩ else accJ L k) ++ L.getD k ⟨#[]⟩
theorem accJ_size (L : List ByteArray) (q : Nat) (h : ∀ x ∈ L, x.size ≤ q) (k : Nat) : (accJ L k).size ≤ k * (q + 1) := by
  induction k with
  | zero => exact Nat.zero_le _
  | succ k ih =>
    have hx : (L.getD k ⟨#[]⟩).size ≤ q := by
      rw [List.getD_eq_getElem?_getD]
      cases hk : L[k]? with
      | none => simp [ByteArray.size]
      | some x => exact h x (List.mem_of_getElem? hk)
    have h1 : (⟨#[10]⟩ : ByteArray).size = 1 := rfl
    rw [accJ, ByteArray.size_append, Nat.succ_mul]
    split
    · rw [ByteArray.size_append, h1]; omega
    · omega
theorem joinL_snoc (M : List (List UInt8)) (x : List UInt8) (h : M ≠ []) : joinL (M ++ [x]) = joinL M ++ 10 :: x := by
  induction M with
  | nil => exact absurd rfl h
  | cons a t ih =>
    cases t with
    | nil => rfl
    | cons b t =>
      have := ih (by simp)
      show a ++ 10 :: joinL (b :: t ++ [x]) = _
      rw [this]; simp [joinL]
theorem accJ_join (M : List (List UInt8)) (k : Nat) (hk : k ≤ M.length) : (accJ (M.map fun x => ⟨x.toArray⟩) k).data.toList = joinL (M.take k) := by
  induction k with
  | zero => simp [accJ, joinL]
  | succ k ih =>
    have hlt : k < M.length := hk
    have ih := ih (by omega)
    have hx : ((M.map fun x => (⟨x.toArray⟩ : ByteArray)).getD k ⟨#[]⟩) = ⟨M[k].toArray⟩ := by
      rw [List.getD_eq_getElem?_getD, List.getElem?_map, List.getElem?_eq_getElem hlt]; rfl
    rw [accJ, hx, ByteArray.data_append, Array.toList_append, List.take_succ_eq_append_getElem hlt]
    split
    · rename_i h0
      rw [joinL_snoc _ _ (fun h => by have := congrArg List.length h; rw [List.length_take, List.length_nil] at this; omega), ByteArray.data_append, Array.toList_append, ih]
      simp
    · rename_i h0
      obtain rfl : k = 0 := by omega
      simp [accJ, joinL]
theorem accJ_all (s : ByteArray) : accJ (lnsB s.data.toList) (lns s.data.toList).length = s := by
  apply ba_inj
  unfold lnsB
  rw [accJ_join _ _ (Nat.le_refl _), List.take_length, joinL_lns]

theorem row_of_block {w : World} {B b : Nat} {l : List UInt8} (hB : B ≤ b) (hl : (lns l).length ≤ maxLen) (h : w.heap[b]? = some (.cells ((lnsB l).map Value.string).toArray 9 (0, 0))) :
    w.ownsRow B 9 1 (.slice (some ⟨b, 0, none⟩) (lns l).length (lns l).length) (lns l).length (strs (lns l)) := by
  refine ⟨by rw [strs_len, Nat.mul_one], .inr ⟨b, _, _, rfl, hB, h, Nat.le_refl _, hl, by simp [lnsB], ?_⟩⟩
  rw [List.take_of_length_le (by simp [lnsB])]
  exact (strs_lnsB l).symm
theorem row_below {w w' : World} {B n : Nat} {e : TypeId} {v : Value} {xs : List Value} (h : w.ownsRow B e 1 v n xs) (hb : Below w.heap.size w w') : w'.ownsRow B e 1 v n xs :=
  ⟨h.1, h.2.imp id fun ⟨g, cap, cur, a, b, c, d⟩ => ⟨g, cap, cur, a, b, (hb.block g (lt_of_block c)).trans c, d⟩⟩
theorem row_cell {w : World} {B n g cap : Nat} {l : List UInt8} (h : w.ownsRow B 9 1 (.slice (some ⟨g, 0, none⟩) n cap) n (strs (lns l))) (hn : n = (lnsB l).length) (i : Nat) (hi : i < (lnsB l).length) :
    w.cell? ⟨g, i, none⟩ = some (.string (lnsB l)[i]) := by
  rw [h.cellAt i (by omega), strs_lnsB, List.getElem?_map, List.getElem?_eq_getElem hi]; rfl

set_option maxRecDepth 100000 in
set_option maxHeartbeats 2000000 in
theorem lines_walk_no (s : ByteArray) (m : Int) (w : World) (hs : s.size ≤ 1048576) (hm : w.cell? ⟨0, 0, none⟩ = some (.int .i64 m)) (h : rd s.data.toList = none) :
    Calls Tryd.prog 6 #[.string s] w fun e w' => e = .returned (.bool true) ∧ Below w.heap.size w w' := by
  have H := Lib.hid h
  have HM := Lib.hid hm
  clear h hm
  go_enter Tryd.func6, Tryd.ntmps6
  go_wp2_with fail
  refine (awake_any m _ HM.out).mono ?_
  rintro e w1 ⟨rfl, b1⟩
  have s1 := b1.size
  go_wp2_with fail
  refine (lines_no s _ H.out (by unfold maxLen; omega)).mono ?_
  rintro e w2 ⟨rfl, b2⟩
  have s2 := b2.size
  go_wp2_with fail
  refine (lines_no s _ H.out (by unfold maxLen; omega)).mono ?_
  rintro e w3 ⟨rfl, b3⟩
  have s3 := b3.size
  go_wp2_with fail
  refine (refLines_no s _ hs H.out).mono ?_
  rintro e w4 ⟨rfl, b4⟩
  have b04 : Below w.heap.size w w4 := ((b1.trans (b2.mono s1)).trans (b3.mono (by omega))).trans (b4.mono (by omega))
  clear b1 b2 b3 b4
  have s4 := b04.size
  go_wp2_with fail
  go_loopw [10, 11] (fun a i wr => a = .string ⟨#[]⟩ ∧ i = .int .i64 0 ∧ wr = w4) (fun _ _ _ => 0)
  case atStart => exact ⟨rfl, rfl, rfl⟩
  case round =>
    obtain ⟨rfl, rfl, rfl⟩ := hrel
    go_wp2_with fail
    go_loopw [12] (fun i wr2 => i = .int .i64 0 ∧ wr2 = wr) (fun _ _ => 0)
    case atStart => exact ⟨rfl, rfl⟩
    case round =>
      obtain ⟨rfl, rfl⟩ := hrel
      obtain ⟨i0, hi, hz0, hz1, hz2⟩ := info_parts infoStr
      have hown := World.ownsRow_nil wr w.heap.size 9 1
      go_wp2_with (first | (at_builtin; refine wpList_append_own _ rfl _ _ 34 rfl w.heap.size 9 i0 (.string ⟨#[]⟩) 1 16 Tryd.underlying34 hi hz0 hz1 hz2 rfl (by decide) _ _ _ rfl (hown.alloc _) ⟨wr.heap.size, 0, none⟩ 1 1 [.string ⟨#[109, 111, 114, 101]⟩] rfl rfl ?_ ?_ ?_ ?_ ?_ ?_))
      all_goals
        first
          | rfl
          | (intro u hu; simp at hu; subst hu; rfl)
          | (unfold maxLen; omega)
          | omega
          | (simp; omega)
          | exact fun j u hj => new_at _ _ _ j u hj
          | skip
      intro v' w5 hown' hgrow hnil
      clear hown hi hz0 hz1 hz2
      have b05 : Below w.heap.size w w5 := (b04.alloc s4 _).grown hgrow (by simp; omega) (fun j hj => by cases hj)
      obtain ⟨g2, cap2, rfl⟩ := ownsRow_succ2 hown'
      clear hown' hgrow hnil
      go_wp2_with fail
      go_loopw [13] (fun i wr => i = .int .i64 0 ∧ wr = w5) (fun _ _ => 0)
      case atStart => exact ⟨rfl, rfl⟩
      case round =>
        obtain ⟨rfl, rfl⟩ := hrel
        go_wp2_with fail
        go_ret
        exact ⟨rfl, b05⟩

set_option maxRecDepth 100000 in
set_option maxHeartbeats 4000000 in
theorem lines_walk_ok (s : ByteArray) (cs : List Nat) (m : Int) (w : World) (hs : s.size ≤ 80000) (hm : w.cell? ⟨0, 0, none⟩ = some (.int .i64 m)) (h : rd s.data.toList = some cs) :
    Calls Tryd.prog 6 #[.string s] w fun e w' => e = .returned (.bool true) ∧ Below w.heap.size w w' := by
  have H := Lib.hid h
  have HM := Lib.hid hm
  have hg := World.block_lt_of_cell? _ _ hm
  clear h hm
  go_enter Tryd.func6, Tryd.ntmps6
  go_wp2_with fail
  refine (awake_any m _ HM.out).mono ?_
  rintro e w1 ⟨rfl, b1⟩
  have s1 := b1.size
  go_wp2_with fail
  refine (lines_ok s cs m _ H.out (by omega) (by rw [b1.cell (by exact hg)]; exact HM.out)).mono ?_
  rintro e w2 ⟨bx, rfl, ⟨gx, hx⟩, b2⟩
  have s2 := b2.size
  have b02 := b1.trans (b2.mono s1)
  go_wp2_with fail
  refine (lines_ok s cs m _ H.out (by omega) (by rw [b02.cell (by exact hg)]; exact HM.out)).mono ?_
  rintro e w3 ⟨cy, rfl, ⟨gy, hy⟩, b3⟩
  have s3 := b3.size
  have b03 := b02.trans (b3.mono (by omega))
  go_wp2_with fail
  refine (refLines_ok s cs _ (by omega) H.out).mono ?_
  rintro e w4 ⟨v, rfl, hz, b4⟩
  have s4 := b4.size
  have b04 := b03.trans (b4.mono (by omega))
  have hl0 : (lns s.data.toList).length ≤ s.size + 1 := by
    have := lnsA_len [] s.data.toList
    have e : s.data.toList.length = s.size := by simp
    rw [e] at this
    exact this
  have hl1 : 1 ≤ (lns s.data.toList).length := lnsA_pos _ _
  have hbx : bx < w2.heap.size := lt_of_block hx
  have hby : cy < w3.heap.size := lt_of_block hy
  have o1 : w4.ownsRow w.heap.size 9 1 _ _ _ := row_below (row_below (row_of_block (by omega) (by unfold maxLen; omega) hx) b3) b4
  have o2 : w4.ownsRow w2.heap.size 9 1 _ _ _ := row_below (row_of_block (by omega) (by unfold maxLen; omega) hy) b4
  obtain ⟨n, hn⟩ : ∃ n, n = (lns s.data.toList).length := ⟨_, rfl⟩
  obtain ⟨g3, cap3, rfl⟩ : ∃ g cap, v = .slice (some ⟨g, 0, none⟩) (lns s.data.toList).length cap := by
    have := hz.2
    rcases this with ⟨_, h0⟩ | ⟨g, cap, _, hv, _⟩
    · omega
    · exact ⟨g, cap, hv⟩
  rw [← hn] at hz o1 o2 hl0 hl1 ⊢
  have hgz : w3.heap.size ≤ g3 := (hz.lt g3 rfl).1
  have hnB : n = (lnsB s.data.toList).length := by rw [lnsB_len]; exact hn
  have hsz : ∀ x ∈ lnsB s.data.toList, x.size ≤ 80000 := fun x hx => by
    obtain ⟨i, hi, rfl⟩ := List.getElem_of_mem hx
    exact Nat.le_trans (lnsB_le s i hi) hs
  have hall : accJ (lnsB s.data.toList) n = s := by rw [hn]; exact accJ_all s
  obtain ⟨L, hL⟩ : ∃ L, L = lnsB s.data.toList := ⟨_, rfl⟩
  rw [← hL] at hnB hsz hall
  have O1 := Lib.hid o1
  have O2 := Lib.hid o2
  have O3 := Lib.hid hz
  have HnB := Lib.hid hnB
  have Hsz := Lib.hid hsz
  have Hall := Lib.hid hall
  have HL := Lib.hid hL
  have hcx : Hid (∀ i (h : i < L.length), w4.cell? ⟨bx, i, none⟩ = some (.string L[i])) := fun i h => by
    have e := HL.out; subst e; exact row_cell O1.out HnB.out i h
  have hcz : Hid (∀ i (h : i < L.length), w4.cell? ⟨g3, i, none⟩ = some (.string L[i])) := fun i h => by
    have e := HL.out; subst e; exact row_cell O3.out HnB.out i h
  have hne1 : bx ≠ cy := by omega
  have hne2 : bx ≠ g3 := by omega
  have s04 := b04.size
  clear o1 o2 hz hnB hsz hall hL hx hy b1 b2 b3 b4 b02 b03 hn gx gy hgz
  clear s1 s2 s3 s4 hbx hby
  go_wp2_with fail
  go_loopw [10, 11] (fun a i wr => ∃ k j : Nat, a = .string (accJ L k) ∧ i = .int .i64 (k : Int) ∧ k ≤ n ∧ wr = w4.drewN j) (fun _ i _ => n - (intOf i).toNat)
  case atStart => exact ⟨0, 0, rfl, rfl, by omega, rfl⟩
  case round =>
    obtain ⟨k, j, rfl, rfl, hk, rfl⟩ := hrel
    by_cases hlt : k < n
    · have hlt' : (k : Int) < (n : Int) := by omega
      have hkL : k < L.length := by have := HnB.out; omega
      have x1 := hcx.out k hkL
      have z1 := hcz.out k hkL
      have hus := Hsz.out L[k] (List.getElem_mem hkL)
      have hacc := accJ_size L 80000 Hsz.out k
      have hacc2 : (accJ L k).size ≤ 6400240000 := by omega
      have hgd : accJ L (k + 1) = (if 0 < k then accJ L k ++ ⟨#[10]⟩ else accJ L k) ++ L[k] := by
        rw [accJ, List.getD_eq_getElem?_getD, List.getElem?_eq_getElem hkL]; rfl
      obtain ⟨u, hu⟩ : ∃ u, u = L[k] := ⟨_, rfl⟩
      rw [← hu] at x1 z1 hus hgd
      obtain ⟨A, hA⟩ : ∃ A, A = accJ L k := ⟨_, rfl⟩
      rw [← hA] at hacc2 hgd ⊢
      have Hgd := Lib.hid hgd
      clear hu hkL hacc hA hgd
      by_cases h0 : 0 < k
      · have h0' : (0 : Int) < (k : Int) := by omega
        have hov1 : (9223372036854775807 < A.size + 1) = False := by simp; omega
        have hsz2 : (A ++ (⟨#[10]⟩ : ByteArray)).size ≤ 6400240001 := by rw [ByteArray.size_append]; have : (⟨#[10]⟩ : ByteArray).size = 1 := rfl; omega
        have Hgd2 : Hid (accJ L (k + 1) = (A ++ ⟨#[10]⟩) ++ u) := by show _ = _; rw [Hgd.out, if_pos h0]
        clear Hgd
        go_wp2_with fail
        go_quiet (fail)
        go_wp2_with fail
        go_roundw
        case rel => exact ⟨k + 1, _, by rw [Hgd2.out], by go_num, by omega, rfl⟩
        case measure => simp [intOf]; omega
      · have h0' : decide ((0 : Int) < (k : Int)) = false := by simp; omega
        have h0'' : decide (0 < k) = false := by simp; omega
        have Hgd2 : Hid (accJ L (k + 1) = A ++ u) := by show _ = _; rw [Hgd.out, if_neg h0]
        clear Hgd
        go_wp2_with fail
        go_quiet (fail)
        go_wp2_with fail
        go_roundw
        case rel => exact ⟨k + 1, _, by rw [Hgd2.out], by go_num, by omega, rfl⟩
        case measure => simp [intOf]; omega
    · have hkn : k = n := by omega
      subst hkn
      rw [Hall.out]
      go_wp2_with fail
      go_loopw [12] (fun i wr => ∃ (q : Nat) (xs : List Value), i = .int .i64 (q : Int) ∧ q ≤ k ∧ wr.ownsRow w.heap.size 9 1 (.slice (some ⟨bx, 0, none⟩) k k) k xs ∧ wr.ownsRow w2.heap.size 9 1 (.slice (some ⟨cy, 0, none⟩) k k) k (strs (lns s.data.toList)) ∧ wr.ownsRow w3.heap.size 9 1 (.slice (some ⟨g3, 0, none⟩) k cap3) k (strs (lns s.data.toList)) ∧ Below w.heap.size w wr) (fun i _ => k - (intOf i).toNat)
      case atStart => exact ⟨0, _, rfl, by omega, row_below O1.out (below_drewN (Below.refl _ _) _), row_below O2.out (below_drewN (Below.refl _ _) _), row_below O3.out (below_drewN (Below.refl _ _) _), below_drewN b04 _⟩
      case round =>
        obtain ⟨q, xs, rfl, hq, p1, p2, p3, hbw⟩ := hrel
        have P1 := Lib.hid p1
        have P2 := Lib.hid p2
        have P3 := Lib.hid p3
        clear p1 p2 p3
        by_cases hqk : q < k
        · have hqk' : (q : Int) < (k : Int) := by omega
          have hxl : q < xs.length := by have := P1.out.1; omega
          have hcell : wr.cell? ⟨bx, q, none⟩ = some xs[q] := by rw [P1.out.cellAt q (by omega), List.getElem?_eq_getElem hxl]
          have hfr : wr.frozen? ⟨bx, q, none⟩ = false := P1.out.frozenAt q
          have hst := P1.out.stored q (.string ⟨#[115, 112, 111, 105, 108, 116]⟩)
          have Hst := Lib.hid hst
          have hbb := (P1.out.lt bx rfl).1
          clear hst
          go_wp2_with fail
          go_roundw
          case rel => exact ⟨q + 1, _, by go_num, by omega, Hst.out.1, P2.out.kept Hst.out.2 (Or.inr (by intro h; exact hne1 (Option.some.inj h).symm)), P3.out.kept Hst.out.2 (Or.inr (by intro h; exact hne2 (Option.some.inj h).symm)), hbw.setCell hbb _⟩
          case measure => simp [intOf]; omega
        · have hqk' : q = k := by omega
          subst hqk'
          obtain ⟨i0, hi, hz0, hz1, hz2⟩ := info_parts infoStr
          have hown := P1.out
          have hbb := (P1.out.lt bx rfl).1
          go_wp2_with (first | (at_builtin; refine wpList_append_own _ rfl _ _ 34 rfl w.heap.size 9 i0 (.string ⟨#[]⟩) 1 16 Tryd.underlying34 hi hz0 hz1 hz2 rfl (by decide) _ _ _ rfl (hown.alloc _) ⟨wr.heap.size, 0, none⟩ 1 1 [.string ⟨#[109, 111, 114, 101]⟩] rfl rfl ?_ ?_ ?_ ?_ ?_ ?_))
          all_goals
            first
              | rfl
              | (intro u hu; simp at hu; subst hu; rfl)
              | (unfold maxLen; omega)
              | omega
              | (have := hbw.size; simp; omega)
              | exact fun j u hj => new_at _ _ _ j u hj
              | skip
          intro v' w5 hown' hgrow hnil
          clear hown hi hz0 hz1 hz2
          have hsw := hbw.size
          have b05 : Below w.heap.size w w5 := (hbw.alloc hsw _).grown hgrow (by simp; omega) (fun j hj => by cases hj; exact hbb)
          have p2 := (P2.out.alloc (.cells #[.string ⟨#[109, 111, 114, 101]⟩] 9)).kept hgrow (Or.inr (by intro h; exact hne1 (Option.some.inj h).symm))
          have p3 := (P3.out.alloc (.cells #[.string ⟨#[109, 111, 114, 101]⟩] 9)).kept hgrow (Or.inr (by intro h; exact hne2 (Option.some.inj h).symm))
          have hcy : Hid (∀ i (h : i < L.length), w5.cell? ⟨cy, i, none⟩ = some (.string L[i])) := fun i h => by
            have e := HL.out; subst e; exact row_cell p2 HnB.out i h
          have hcz : Hid (∀ i (h : i < L.length), w5.cell? ⟨g3, i, none⟩ = some (.string L[i])) := fun i h => by
            have e := HL.out; subst e; exact row_cell p3 HnB.out i h
          obtain ⟨g2, cap2, rfl⟩ := ownsRow_succ2 hown'
          clear hown' hgrow hnil p2 p3 P1 P2 P3
          go_wp2_with fail
          go_loopw [13] (fun i wr => ∃ r j : Nat, i = .int .i64 (r : Int) ∧ r ≤ q ∧ wr = w5.drewN j) (fun i _ => q - (intOf i).toNat)
          case atStart => exact ⟨0, 0, rfl, by omega, rfl⟩
          case round =>
            obtain ⟨r, j, rfl, hr, rfl⟩ := hrel
            by_cases hrq : r < q
            · have hrq' : (r : Int) < (q : Int) := by omega
              have hrL : r < L.length := by have := HnB.out; omega
              have x1 := hcy.out r hrL
              have z1 := hcz.out r hrL
              obtain ⟨u, hu⟩ : ∃ u, u = L[r] := ⟨_, rfl⟩
              rw [← hu] at x1 z1
              clear hu hrL
              go_wp2_with fail
              go_quiet (fail)
              go_wp2_with fail
              go_roundw
              case rel => exact ⟨r + 1, _, by go_num, by omega, rfl⟩
              case measure => simp [intOf]; omega
            · have hrn : r = q := by omega
              subst hrn
              go_wp2_with fail
              go_ret
              exact ⟨rfl, below_drewN b05 _⟩

theorem lines_walk (s : ByteArray) (m : Int) (w : World) (hs : s.size ≤ 1048576) (hm : w.cell? ⟨0, 0, none⟩ = some (.int .i64 m)) :
    Calls Tryd.prog 6 #[.string s] w fun e w' => e = .returned (.bool true) ∧ Below w.heap.size w w' := by
  cases h : rd s.data.toList with
  | none => exact lines_walk_no s m w hs hm h
  | some cs =>
    obtain ⟨_, _, c3⟩ := rd_some h
    have e1 := rd_T h
    refine lines_walk_ok s cs m w ?_ hm h
    rw [e1, T_size]
    have := (txt_len cs).2
    omega
end Go.Proofs.YtpjblmhhcadcbaaDoor
