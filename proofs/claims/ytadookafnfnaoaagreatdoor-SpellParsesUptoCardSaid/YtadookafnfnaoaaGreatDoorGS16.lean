import Derived.Test.YtadookafnfnaoaaGreatDoorGS15
import Derived.Test.YtadookafnfnaoaaGreatDoorGS5
import Derived.BigRegion
/- The document's copied and group.insert. -/
namespace Go.Proofs.YtadookafnfnaoaaGreatDoor
open Go.RowKit Ch

/-- Two rows that do not lie in one block. -/
def Apart (u v : Value) : Prop := ∀ j, u.ownBlock = some j → v.ownBlock ≠ some j
theorem OwnP.keepO {w w' : World} {B C : Nat} {v ov ov' : Value} {l : List PA} (h : OwnP w B v l) (hk : KeepO C w w' ov ov') (ha : Apart v ov) : OwnP w' B v l ∧ Apart v ov' := by
  have ht : ∀ q ∈ l, w'.ownsRow B 53 2 q.2 q.1.attrs.length (flat q.1.attrs) := fun q hq => hk.keep.own (h.2 q hq) (by decide)
  rcases h.1.2 with ⟨hv, h0⟩ | ⟨g, cap, cur, hv, hb, hg, hr⟩
  · exact ⟨⟨⟨h.1.1, .inl ⟨hv, h0⟩⟩, ht⟩, fun j hj => by rw [hv] at hj; simp [Value.ownBlock] at hj⟩
  · have hne : ov.ownBlock ≠ some g := fun e => ha g (by rw [hv]; rfl) e
    obtain ⟨k1, k2⟩ := hk.ops g cur (0, 0) hg hne
    exact ⟨⟨⟨h.1.1, .inr ⟨g, cap, cur, hv, hb, k1, hr⟩⟩, ht⟩, fun j hj => by
      rw [hv] at hj
      simp only [Value.ownBlock, Option.some.injEq] at hj
      subst hj
      exact k2⟩
/-- 'append(own, one)' of operations, as a step of a region that draws. -/
theorem step_app_op {ops : Array Oper} {o : Oper} {a : Act} {w : World} {K : Act → World → Prop} {Q : Exit → Act → World → Prop} {E : Prop}
    (hg : o.guard = none) (s x : Operand) (hop : o.op = Op.call { callee := Callee.builtin Builtin.append, args := #[s, x], argTypes := #[22, 22] })
    (B : Nat) (v : Value) (ps : List PA) (hs : a.eval s = v) (H : OwnP w B v ps) (q : PA) (ad : Addr) (c : Nat) (hx : a.eval x = .slice (some ad) 1 c) (hc : ∀ j u, (opCells q)[j]? = some u → w.cell? (ad.add j) = some u)
    (hq : w.ownsRow B 53 2 q.2 q.1.attrs.length (flat q.1.attrs)) (hl : ps.length ≤ 100000) (hB : B ≤ w.heap.size)
    (hK : ∀ v' w', OwnP w' B v' (ps ++ [q]) → KeepO B w w' v v' → K (a.put o.dst v') w') :
    if Region.wanted o (yielded ops a.tmps) = true then Oper.wp Tryz.prog o a w K Q else E := by
  obtain ⟨i0, hi, hz0, hz1, hz2⟩ := info_parts infoOp
  refine step_append_new hg s x 22 hop 48 i0 (.agg #[.int .i64 0, .int .i64 0, .string ⟨#[]⟩, .slice none 0 0]) 4 56 Tryz.underlying22 hi hz0 hz1 hz2 rfl (by decide) B v ps.length (flatO ps) hs H.1 ad 1 c (opCells q) hx rfl hc ?_ (by unfold maxLen; omega) (by omega) hB fun v' w' o1 g1 n1 => ?_
  · intro u hu
    simp [opCells] at hu
    rcases hu with rfl | rfl | rfl | rfl
    · rfl
    · rfl
    · rfl
    · exact own_one hq
  · have kr := keep_row H.1 g1 (ts := [48]) (by simp) hB
    refine hK v' w' (ownP_mk (by rw [flatO_snoc]; exact o1) (fun y hy => kr.own (H.2 y hy) (by decide)) (kr.own hq (by decide))) (keepO_grown H.1 g1 hB n1)

set_option maxHeartbeats 1000000 in
theorem copied_any (v : Value) (l : List (ByteArray × ByteArray)) (w : World) (hv : AtRow w v l) (hp : Proper v) (hl : l.length ≤ 4096) :
    Calls Tryz.prog 54 #[v] w fun e w' => ∃ u, e = .returned u ∧ w'.ownsRow w.heap.size 53 2 u l.length (flat l) ∧ Below w.heap.size w w' := by
  have HV := Lib.hid hv
  obtain ⟨a, c, rfl⟩ := hv.shape
  have HP := Lib.hid hp
  have HL := Lib.hid hl
  clear hv hp hl
  have O0 := Lib.hid (show (w.alloc (.cells #[] 53)).ownsRow w.heap.size 53 2 (.slice (some ⟨w.heap.size, 0, none⟩) 0 0) 0 [] from World.ownsRow_lit w #[] 0 (Nat.le_refl _) (Nat.zero_le _) rfl)
  have B0 := Lib.hid (below_box w (.cells #[] 53))
  go_enter Tryz.func54, Tryz.ntmps54
  go_wp2_with (at_builtin; refine wpList_append_row rfl (.tmp 3) (.tmp 4) rfl w.heap.size (.slice (some ⟨w.heap.size, 0, none⟩) 0 0) (.slice a l.length c) 0 [] l rfl rfl O0.out (HV.out.below B0.out) HP.out l.length (flat l) (Nat.zero_add _) rfl HL.out B0.out.size ?_; intro u1 w1 o1 g1; obtain ⟨u2, u3, rfl⟩ := own_slice o1; have O1 := Lib.hid o1; have B1 := Lib.hid (B0.out.grown g1 B0.out.size (own_ge O0.out)); clear o1 g1)
  go_ret
  exact ⟨_, rfl, O1.out, B1.out⟩

def insO (t : ByteArray) (l : List (ByteArray × ByteArray)) : OpD := ⟨2, 0, t, l⟩
def JoinOut (w : World) (B : Nat) (cv : Value) (fr : List PA) (x : OpD) (xv : Value) (t : ByteArray) (e : Ending) (w' : World) : Prop :=
  e = .returned (.tuple #[]) ∧ KeepO B w w' cv cv ∧ OwnP w' B cv (fr ++ [({ x with text := cat x.text t }, xv)])
def InsOut (w : World) (B gb q : Nat) (cv : Value) (cur : List PA) (t : ByteArray) (l : List (ByteArray × ByteArray)) (e : Ending) (w' : World) : Prop :=
  e = .returned (.tuple #[]) ∧ ∃ w1 cv' av, w' = w1.setCell ⟨gb, q, none⟩ cv' ∧ KeepO B w w1 cv cv' ∧ OwnP w1 B cv' (cur ++ [(insO t l, av)])

set_option maxRecDepth 100000 in
set_option maxHeartbeats 4000000 in
theorem insert_join (B gb q : Nat) (cs : Array Value) (cv : Value) (fr : List PA) (x : OpD) (xv : Value) (t : ByteArray) (av : Value) (l : List (ByteArray × ByteArray)) (w : World) (hB : B ≤ gb) (hg : w.heap[gb]? = some (.cells cs 81 (0, 0))) (hc : cs[q]? = some cv)
    (hP : OwnP w B cv (fr ++ [(x, xv)])) (hv : AtRow w av l) (hl : fr.length ≤ 4000) (ht1 : x.text.size ≤ 1073741824) (ht2 : t.size ≤ 1073741824) (ha : x.attrs = l) :
    Calls Tryz.prog 53 #[.pointer (some ⟨gb, q, none⟩), .string t, av] w (JoinOut w B cv fr x xv t) := by
  have hBw : B ≤ w.heap.size := Nat.le_trans hB (Nat.le_of_lt (lt_of_heap hg))
  obtain ⟨gg, cap, hov⟩ := ownsRow_open hP.len (Nat.succ_pos _)
  subst hov
  obtain ⟨xa, xc, hxv⟩ : ∃ a c, xv = .slice a x.attrs.length c := own_slice (hP.2 (x, xv) (by simp))
  subst hxv
  obtain ⟨va, vc, rfl⟩ := hv.shape
  have HC := Lib.hid (refSameB_any (.slice xa x.attrs.length xc) (.slice va l.length vc) x.attrs l w (row_of_own (hP.2 (x, .slice xa x.attrs.length xc) (by simp))) hv)
  rw [show sameB x.attrs l = true from decide_eq_true ha] at HC
  have k0 : w.cell? ⟨gb, q, none⟩ = some (.slice (some ⟨gg, 0, none⟩) (fr.length + 1) cap) := by rw [Lib.cell_of_heap hg]; exact hc
  obtain ⟨q0, q1, q2, q3⟩ := last_cells hP.len
  have i1 : (0 : Int) ≤ (fr.length : Int) := by omega
  have i2 : (fr.length : Int) < (fr.length : Int) + 1 := by omega
  have i3 : decide ((0 : Int) ≤ (fr.length : Int)) = true := decide_eq_true (by omega)
  have hgw : gg < w.heap.size := by obtain ⟨_, cs, hcs⟩ := own_heap hP.len; exact lt_of_heap hcs
  have hgb : gb < w.heap.size := lt_of_heap hg
  have HP := Lib.hid hP
  have HBw := Lib.hid hBw
  clear hP hv hg hc ha hBw q0 q1
  go_enter Tryz.func53, Tryz.ntmps53
  go_wp2_with fail
  refine HC.out.mono ?_
  rintro e wB ⟨rfl, hb⟩
  have kB : wB.cell? ⟨gb, q, none⟩ = some (.slice (some ⟨gg, 0, none⟩) (fr.length + 1) cap) := (hb.cell (by exact hgb)).trans k0
  have qB : wB.cell? ⟨gg, fr.length * 4 + 2, none⟩ = some (.string x.text) := (hb.cell (by exact hgw)).trans q2
  have PB := HP.out.keep (keep_below (ts := []) hb (Nat.le_refl _)) (by simp) (by simp)
  have fB : wB.frozen? ⟨gg, fr.length * 4 + 2, none⟩ = false := PB.len.frozenAt _
  have hwr : (9223372036854775807 < x.text.size + t.size) = False := eq_false (by omega)
  have HPB := Lib.hid PB
  have HB := Lib.hid hb
  clear PB hb k0 q2 q3
  go_wp2_with fail
  go_region
  obtain ⟨P1, K1⟩ := OwnP.setLast (y := { x with text := cat x.text t }) HPB.out 2 (.string (x.text ++ t)) (by rw [cat_eq]; rfl) rfl
  have HP1 := Lib.hid P1
  have HK1 := Lib.hid ((keepO_below HB.out HBw.out (.slice (some ⟨gg, 0, none⟩) (fr.length + 1) cap)).trans K1)
  clear P1 K1
  go_wp2_with fail
  go_end0
  exact ⟨rfl, ⟨HK1.out.keep.drew, HK1.out.ops⟩, HP1.out⟩

set_option maxRecDepth 100000 in
set_option maxHeartbeats 4000000 in
theorem insert_first (B gb q : Nat) (cs : Array Value) (cv : Value) (cur : List PA) (t : ByteArray) (av : Value) (l : List (ByteArray × ByteArray)) (w : World) (hB : B ≤ gb) (hg : w.heap[gb]? = some (.cells cs 81 (0, 0))) (hc : cs[q]? = some cv)
    (hP : OwnP w B cv cur) (hv : AtRow w av l) (hpr : Proper av) (hla : l.length ≤ 4096) (h0 : cur = []) :
    Calls Tryz.prog 53 #[.pointer (some ⟨gb, q, none⟩), .string t, av] w (InsOut w B gb q cv cur t l) := by
  have hBw : B ≤ w.heap.size := Nat.le_trans hB (Nat.le_of_lt (lt_of_heap hg))
  obtain ⟨va, vc, rfl⟩ := hv.shape
  have hl : cur.length ≤ 100000 := by rw [h0]; exact Nat.zero_le _
  obtain ⟨ca, cc, rfl⟩ := own_slice hP.1
  have hcl : cur.length = 0 := by rw [h0]; rfl
  have Sw : w.drew.cell? ⟨gb, q, none⟩ = some (.slice ca cur.length cc) := by show w.cell? _ = _; rw [Lib.cell_of_heap hg]; exact hc
  have k0 : w.cell? ⟨gb, q, none⟩ = some (.slice ca 0 cc) := by rw [← hcl]; exact Sw
  have HC0 := Lib.hid hc
  have Hgw := Lib.hid hg
  have HVw := Lib.hid hv
  have HPR := Lib.hid hpr
  have HLA := Lib.hid hla
  have HPw := Lib.hid hP
  have HKw := Lib.hid (show KeepO B w w (.slice ca cur.length cc) (.slice ca cur.length cc) from keepO_below (Below.refl _ _) hBw _)
  have hwg : gb < w.heap.size := lt_of_heap hg
  have HCL := Lib.hid hcl
  clear hP hv hpr hla hc hg h0 hcl
  go_enter Tryz.func53, Tryz.ntmps53
  go_wp2_with fail
  refine wp_region_B (fun w' => w'.cell? ⟨gb, q, none⟩ = some (.slice ca cur.length cc)) [13] (by kernel_rfl) (?_ : wpAnyB _ _ _ _ _ _ 14 (Array.replicate 14 false) _ _)
  refine wpAnyB_free (fuel := 13) (i := 0) (v := ?_) rfl (by kernel_rfl) (by kernel_rfl) (by kernel_rfl) (by kernel_rfl) (fun _ _ _ h => h) (.inr Sw) ?_ (by rfl) ?_
  rotate_left
  · intro w'; go_simp; (try with_reducible rfl)
  simp only [Act.put, List.setIfInBounds_toArray]
  refine wpAnyB_free (fuel := 12) (i := 1) (v := ?_) rfl (by kernel_rfl) (by kernel_rfl) (by kernel_rfl) (by kernel_rfl) (fun _ _ _ h => h) (.inr Sw) ?_ (by rfl) ?_
  rotate_left
  · intro w'; go_simp; (try with_reducible rfl)
  simp only [Act.put]
  refine wpAnyB_free (fuel := 11) (i := 2) (v := ?_) rfl (by kernel_rfl) (by kernel_rfl) (by kernel_rfl) (by kernel_rfl) (fun _ _ _ h => h) (.inr Sw) ?_ (by rfl) ?_
  rotate_left
  · intro w'; go_simp; (try with_reducible rfl)
  simp only [Act.put]
  refine wpAnyB_free (fuel := 10) (i := 3) (v := ?_) rfl (by kernel_rfl) (by kernel_rfl) (by kernel_rfl) (by kernel_rfl) (fun _ _ _ h => h) (.inr Sw) ?_ (by rfl) ?_
  rotate_left
  · intro w'; go_simp; (try with_reducible rfl)
  simp only [Act.put]
  refine wpAnyB_load [4,10,11,12,13] (fuel := 9) (i := 4) (v := ?_) rfl (by kernel_rfl) (by kernel_rfl) (by kernel_rfl) (by kernel_rfl) (by kernel_rfl) (fun _ _ _ h => h) (.inr Sw) ?_ (by rfl) ?_
  rotate_left
  · intro w' hw'; go_simp; (try with_reducible rfl)
  simp only [Act.put]
  refine wpAnyB_free (fuel := 8) (i := 5) (v := ?_) rfl (by kernel_rfl) (by kernel_rfl) (by kernel_rfl) (by kernel_rfl) (fun _ _ _ h => h) (.inr Sw) ?_ (by rfl) ?_
  rotate_left
  · intro w'; go_simp; (try with_reducible rfl)
  simp only [Act.put]
  refine wpAnyB_free (fuel := 7) (i := 6) (v := ?_) rfl (by kernel_rfl) (by kernel_rfl) (by kernel_rfl) (by kernel_rfl) (fun _ _ _ h => h) (.inr Sw) ?_ (by rfl) ?_
  rotate_left
  · intro w'; go_simp; (try with_reducible rfl)
  simp only [Act.put]
  refine wpAnyB_one (fuel := 6) (i := 7) rfl (by kernel_rfl) ?_
  intro KB hKB
  go_simp
  refine (copied_any (.slice va l.length vc) l _ (HVw.out.below (Below.refl _ _).drew) HPR.out HLA.out).mono ?_
  rintro e wA ⟨u, rfl, oA, bA⟩
  obtain ⟨ua, uc, rfl⟩ := own_slice oA
  have BA : Below w.heap.size w wA := of_drew bA
  have OA := Lib.hid (own_base oA (show B ≤ w.drew.heap.size from hBw))
  have PA' := Lib.hid (HPw.out.keep (keep_below (ts := []) BA (Nat.le_refl _)) (by simp) (by simp))
  have KA := Lib.hid (HKw.out.trans (keepO_below BA hBw (.slice ca cur.length cc)))
  have gA := Lib.hid ((BA.block _ hwg).trans Hgw.out)
  have hBA : B ≤ wA.heap.size := Nat.le_trans hBw BA.size
  have SA : wA.cell? ⟨gb, q, none⟩ = some (.slice ca cur.length cc) := (BA.cell (by exact hwg)).trans Sw
  have hgA : gb < wA.heap.size := Nat.lt_of_lt_of_le hwg BA.size
  clear oA bA BA
  refine hKB _ _ (.inr SA) ?_
  (try simp only [Act.put, List.setIfInBounds_toArray, List.set_cons_zero, List.set_cons_succ])
  refine wpAnyB_free (fuel := 5) (i := 8) (v := ?_) rfl (by kernel_rfl) (by kernel_rfl) (by kernel_rfl) (by kernel_rfl) (fun _ _ _ h => h) (.inr SA) ?_ (by rfl) ?_
  rotate_left
  · intro w'; go_simp; (try with_reducible rfl)
  simp only [Act.put, List.setIfInBounds_toArray]
  refine wpAnyB_one (fuel := 4) (i := 9) rfl (by kernel_rfl) ?_
  intro KB hKB
  go_simp
  have BC : Below wA.heap.size wA (wA.alloc (.cells #[.int .i64 2, .int .i64 0, .string t, .slice ua l.length uc] 48)) := below_box _ _
  have SB : (wA.alloc (.cells #[.int .i64 2, .int .i64 0, .string t, .slice ua l.length uc] 48)).cell? ⟨gb, q, none⟩ = some (.slice ca cur.length cc) := (BC.cell (by exact hgA)).trans SA
  have HBC := Lib.hid BC
  clear BC
  refine hKB _ _ (.inr SB) ?_
  (try simp only [Act.put, List.setIfInBounds_toArray, List.set_cons_zero, List.set_cons_succ])
  refine wpAnyB_one (fuel := 3) (i := 10) rfl (by kernel_rfl) ?_
  intro KB hKB
  refine step_app_op rfl (.tmp 48) (.tmp 53) rfl B (.slice ca cur.length cc) cur rfl (PA'.out.keep (keep_below (ts := []) HBC.out (Nat.le_refl _)) (by simp) (by simp)) (insO t l, .slice ua l.length uc) ⟨wA.heap.size, 0, none⟩ 1 rfl (new_at4 _ _ _ _ _ _) ((keep_below (B := B) (ts := []) HBC.out hBA).own OA.out (by simp)) (by omega) (Nat.le_trans hBA HBC.out.size) ?_
  intro v' wC PC KC
  have gC := KC.keep.kept gb _ _ _ ((HBC.out.block _ hgA).trans gA.out) (by decide)
  have fC : wC.frozen? ⟨gb, q, none⟩ = false := Lib.frozen_of_heap gC q
  have SC : wC.cell? ⟨gb, q, none⟩ = some (.slice ca cur.length cc) := by rw [Lib.cell_of_heap gC]; exact HC0.out
  obtain ⟨oa', oc', rfl⟩ : ∃ a c, v' = .slice a (cur.length + 1) c := by have := own_slice PC.1; rwa [List.length_append] at this
  have HPC := Lib.hid PC
  have HKC := Lib.hid (KA.out.trans ((keepO_below HBC.out hBA _).trans KC))
  clear PC KC gC
  refine hKB _ _ (.inr SC) ?_
  (try simp only [Act.put, List.setIfInBounds_toArray])
  refine wpAnyB_free (fuel := 2) (i := 11) (v := ?_) rfl (by kernel_rfl) (by kernel_rfl) (by kernel_rfl) (by kernel_rfl) (fun _ _ _ h => h) (.inr SC) ?_ (by rfl) ?_
  rotate_left
  · intro w'; go_simp; (try with_reducible rfl)
  simp only [Act.put]
  refine wpAnyB_free (fuel := 1) (i := 12) (v := ?_) rfl (by kernel_rfl) (by kernel_rfl) (by kernel_rfl) (by kernel_rfl) (fun _ _ _ h => h) (.inr SC) ?_ (by rfl) ?_
  rotate_left
  · intro w'; go_simp; (try with_reducible rfl)
  simp only [Act.put]
  refine wpAnyB_one (fuel := 0) (i := 13) rfl (by kernel_rfl) ?_
  intro KB hKB
  go_simp
  refine hKB _ _ (.inl (by kernel_rfl)) ?_
  (try simp only [Act.put, List.setIfInBounds_toArray, List.set_cons_zero, List.set_cons_succ])
  refine wpAnyB_done (by kernel_rfl) ?_
  go_wp2_with fail
  go_end0
  exact ⟨rfl, wC, _, _, rfl, HKC.out, HPC.out⟩

set_option maxRecDepth 100000 in
set_option maxHeartbeats 4000000 in
theorem insert_next (B gb q : Nat) (cs : Array Value) (cv : Value) (fr : List PA) (x : OpD) (xv : Value) (t : ByteArray) (av : Value) (l : List (ByteArray × ByteArray)) (w : World) (hB : B ≤ gb) (hg : w.heap[gb]? = some (.cells cs 81 (0, 0))) (hc : cs[q]? = some cv)
    (hP : OwnP w B cv (fr ++ [(x, xv)])) (hv : AtRow w av l) (hpr : Proper av) (hla : l.length ≤ 4096) (hl0 : fr.length ≤ 4000) (ha : x.attrs ≠ l) :
    Calls Tryz.prog 53 #[.pointer (some ⟨gb, q, none⟩), .string t, av] w (InsOut w B gb q cv (fr ++ [(x, xv)]) t l) := by
  have hBw : B ≤ w.heap.size := Nat.le_trans hB (Nat.le_of_lt (lt_of_heap hg))
  obtain ⟨va, vc, rfl⟩ := hv.shape
  obtain ⟨gg, cap, hov⟩ := ownsRow_open hP.len (Nat.succ_pos _)
  subst hov
  obtain ⟨xa, xc, hxv⟩ : ∃ a c, xv = .slice a x.attrs.length c := own_slice (hP.2 (x, xv) (by simp))
  subst hxv
  have HC := Lib.hid (refSameB_any (.slice xa x.attrs.length xc) (.slice va l.length vc) x.attrs l w (row_of_own (hP.2 (x, .slice xa x.attrs.length xc) (by simp))) hv)
  rw [show sameB x.attrs l = false from decide_eq_false ha] at HC
  have k0 : w.cell? ⟨gb, q, none⟩ = some (.slice (some ⟨gg, 0, none⟩) (fr.length + 1) cap) := by rw [Lib.cell_of_heap hg]; exact hc
  obtain ⟨q0, q1, q2, q3⟩ := last_cells hP.len
  have i1 : (0 : Int) ≤ (fr.length : Int) := by omega
  have i2 : (fr.length : Int) < (fr.length : Int) + 1 := by omega
  have i3 : decide ((0 : Int) ≤ (fr.length : Int)) = true := decide_eq_true (by omega)
  have hgb : gb < w.heap.size := lt_of_heap hg
  have HC0' := Lib.hid hc
  have Hgw := Lib.hid hg
  have HVw := Lib.hid hv
  have HPR := Lib.hid hpr
  have HLA := Lib.hid hla
  have HPw := Lib.hid hP
  have HBw := Lib.hid hBw
  clear hP hv hpr hla hc hg hBw ha q0 q1 q2
  go_enter Tryz.func53, Tryz.ntmps53
  go_wp2_with fail
  refine HC.out.mono ?_
  rintro e wB ⟨rfl, hb⟩
  obtain ⟨cur, hcur⟩ : ∃ cur, cur = fr ++ [(x, Value.slice xa x.attrs.length xc)] := ⟨_, rfl⟩
  have hlen : fr.length + 1 = cur.length := by rw [hcur]; simp
  have hl : cur.length ≤ 100000 := by omega
  rw [← hcur]
  rw [← hcur] at HPw
  rw [hlen] at k0 HPw HC0'
  have HC0 := HC0'
  obtain ⟨ca, hca⟩ : ∃ ca, ca = some (⟨gg, 0, none⟩ : Addr) := ⟨_, rfl⟩
  obtain ⟨cc, hcc⟩ : ∃ cc, cc = cap := ⟨_, rfl⟩
  rw [hlen, ← hca, ← hcc]
  rw [← hca, ← hcc] at k0 HPw HC0
  have SwB : wB.drew.cell? ⟨gb, q, none⟩ = some (.slice ca cur.length cc) := (hb.cell (by exact hgb)).trans k0
  have kB : wB.cell? ⟨gb, q, none⟩ = some (.slice ca cur.length cc) := SwB
  have HPwB := Lib.hid (HPw.out.keep (keep_below (ts := []) hb (Nat.le_refl _)) (by simp) (by simp))
  have HgwB := Lib.hid ((hb.block _ hgb).trans Hgw.out)
  have HVwB := Lib.hid (HVw.out.below hb)
  have hBwB : B ≤ wB.heap.size := Nat.le_trans HBw.out hb.size
  have hwBg : gb < wB.heap.size := Nat.lt_of_lt_of_le hgb hb.size
  have HKwB := Lib.hid (keepO_below hb HBw.out (.slice ca cur.length cc))
  have HX := Lib.hid (And.intro hcur (And.intro hlen (And.intro hca hcc)))
  clear hb k0 q3 hcur hlen hca hcc
  go_wp2_with fail
  refine wp_region_B (fun w' => w'.cell? ⟨gb, q, none⟩ = some (.slice ca cur.length cc)) [13] (by kernel_rfl) (?_ : wpAnyB _ _ _ _ _ _ 14 (Array.replicate 14 false) _ _)
  refine wpAnyB_free (fuel := 13) (i := 0) (v := ?_) rfl (by kernel_rfl) (by kernel_rfl) (by kernel_rfl) (by kernel_rfl) (fun _ _ _ h => h) (.inr SwB) ?_ (by rfl) ?_
  rotate_left
  · intro w'; go_simp; (try with_reducible rfl)
  simp only [Act.put, List.setIfInBounds_toArray]
  refine wpAnyB_free (fuel := 12) (i := 1) (v := ?_) rfl (by kernel_rfl) (by kernel_rfl) (by kernel_rfl) (by kernel_rfl) (fun _ _ _ h => h) (.inr SwB) ?_ (by rfl) ?_
  rotate_left
  · intro w'; go_simp; (try with_reducible rfl)
  simp only [Act.put]
  refine wpAnyB_free (fuel := 11) (i := 2) (v := ?_) rfl (by kernel_rfl) (by kernel_rfl) (by kernel_rfl) (by kernel_rfl) (fun _ _ _ h => h) (.inr SwB) ?_ (by rfl) ?_
  rotate_left
  · intro w'; go_simp; (try with_reducible rfl)
  simp only [Act.put]
  refine wpAnyB_free (fuel := 10) (i := 3) (v := ?_) rfl (by kernel_rfl) (by kernel_rfl) (by kernel_rfl) (by kernel_rfl) (fun _ _ _ h => h) (.inr SwB) ?_ (by rfl) ?_
  rotate_left
  · intro w'; go_simp; (try with_reducible rfl)
  simp only [Act.put]
  refine wpAnyB_load [4,10,11,12,13] (fuel := 9) (i := 4) (v := ?_) rfl (by kernel_rfl) (by kernel_rfl) (by kernel_rfl) (by kernel_rfl) (by kernel_rfl) (fun _ _ _ h => h) (.inr SwB) ?_ (by rfl) ?_
  rotate_left
  · intro w' hw'; go_simp; (try with_reducible rfl)
  simp only [Act.put]
  refine wpAnyB_free (fuel := 8) (i := 5) (v := ?_) rfl (by kernel_rfl) (by kernel_rfl) (by kernel_rfl) (by kernel_rfl) (fun _ _ _ h => h) (.inr SwB) ?_ (by rfl) ?_
  rotate_left
  · intro w'; go_simp; (try with_reducible rfl)
  simp only [Act.put]
  refine wpAnyB_free (fuel := 7) (i := 6) (v := ?_) rfl (by kernel_rfl) (by kernel_rfl) (by kernel_rfl) (by kernel_rfl) (fun _ _ _ h => h) (.inr SwB) ?_ (by rfl) ?_
  rotate_left
  · intro w'; go_simp; (try with_reducible rfl)
  simp only [Act.put]
  refine wpAnyB_one (fuel := 6) (i := 7) rfl (by kernel_rfl) ?_
  intro KB hKB
  go_simp
  refine (copied_any (.slice va l.length vc) l _ (HVwB.out.below (Below.refl _ _).drew) HPR.out HLA.out).mono ?_
  rintro e wA ⟨u, rfl, oA, bA⟩
  obtain ⟨ua, uc, rfl⟩ := own_slice oA
  have BA : Below wB.heap.size wB wA := of_drew bA
  have OA := Lib.hid (own_base oA (show B ≤ wB.drew.heap.size from hBwB))
  have PA' := Lib.hid (HPwB.out.keep (keep_below (ts := []) BA (Nat.le_refl _)) (by simp) (by simp))
  have KA := Lib.hid (HKwB.out.trans (keepO_below BA hBwB (.slice ca cur.length cc)))
  have gA := Lib.hid ((BA.block _ hwBg).trans HgwB.out)
  have hBA : B ≤ wA.heap.size := Nat.le_trans hBwB BA.size
  have SA : wA.cell? ⟨gb, q, none⟩ = some (.slice ca cur.length cc) := (BA.cell (by exact hwBg)).trans SwB
  have hgA : gb < wA.heap.size := Nat.lt_of_lt_of_le hwBg BA.size
  clear oA bA BA
  refine hKB _ _ (.inr SA) ?_
  (try simp only [Act.put, List.setIfInBounds_toArray, List.set_cons_zero, List.set_cons_succ])
  refine wpAnyB_free (fuel := 5) (i := 8) (v := ?_) rfl (by kernel_rfl) (by kernel_rfl) (by kernel_rfl) (by kernel_rfl) (fun _ _ _ h => h) (.inr SA) ?_ (by rfl) ?_
  rotate_left
  · intro w'; go_simp; (try with_reducible rfl)
  simp only [Act.put, List.setIfInBounds_toArray]
  refine wpAnyB_one (fuel := 4) (i := 9) rfl (by kernel_rfl) ?_
  intro KB hKB
  go_simp
  have BC : Below wA.heap.size wA (wA.alloc (.cells #[.int .i64 2, .int .i64 0, .string t, .slice ua l.length uc] 48)) := below_box _ _
  have SB : (wA.alloc (.cells #[.int .i64 2, .int .i64 0, .string t, .slice ua l.length uc] 48)).cell? ⟨gb, q, none⟩ = some (.slice ca cur.length cc) := (BC.cell (by exact hgA)).trans SA
  have HBC := Lib.hid BC
  clear BC
  refine hKB _ _ (.inr SB) ?_
  (try simp only [Act.put, List.setIfInBounds_toArray, List.set_cons_zero, List.set_cons_succ])
  refine wpAnyB_one (fuel := 3) (i := 10) rfl (by kernel_rfl) ?_
  intro KB hKB
  refine step_app_op rfl (.tmp 48) (.tmp 53) rfl B (.slice ca cur.length cc) cur rfl (PA'.out.keep (keep_below (ts := []) HBC.out (Nat.le_refl _)) (by simp) (by simp)) (insO t l, .slice ua l.length uc) ⟨wA.heap.size, 0, none⟩ 1 rfl (new_at4 _ _ _ _ _ _) ((keep_below (B := B) (ts := []) HBC.out hBA).own OA.out (by simp)) (by omega) (Nat.le_trans hBA HBC.out.size) ?_
  intro v' wC PC KC
  have gC := KC.keep.kept gb _ _ _ ((HBC.out.block _ hgA).trans gA.out) (by decide)
  have fC : wC.frozen? ⟨gb, q, none⟩ = false := Lib.frozen_of_heap gC q
  have SC : wC.cell? ⟨gb, q, none⟩ = some (.slice ca cur.length cc) := by rw [Lib.cell_of_heap gC]; exact HC0.out
  obtain ⟨oa', oc', rfl⟩ : ∃ a c, v' = .slice a (cur.length + 1) c := by have := own_slice PC.1; rwa [List.length_append] at this
  have HPC := Lib.hid PC
  have HKC := Lib.hid (KA.out.trans ((keepO_below HBC.out hBA _).trans KC))
  clear PC KC gC
  refine hKB _ _ (.inr SC) ?_
  (try simp only [Act.put, List.setIfInBounds_toArray])
  refine wpAnyB_free (fuel := 2) (i := 11) (v := ?_) rfl (by kernel_rfl) (by kernel_rfl) (by kernel_rfl) (by kernel_rfl) (fun _ _ _ h => h) (.inr SC) ?_ (by rfl) ?_
  rotate_left
  · intro w'; go_simp; (try with_reducible rfl)
  simp only [Act.put]
  refine wpAnyB_free (fuel := 1) (i := 12) (v := ?_) rfl (by kernel_rfl) (by kernel_rfl) (by kernel_rfl) (by kernel_rfl) (fun _ _ _ h => h) (.inr SC) ?_ (by rfl) ?_
  rotate_left
  · intro w'; go_simp; (try with_reducible rfl)
  simp only [Act.put]
  refine wpAnyB_one (fuel := 0) (i := 13) rfl (by kernel_rfl) ?_
  intro KB hKB
  go_simp
  refine hKB _ _ (.inl (by kernel_rfl)) ?_
  (try simp only [Act.put, List.setIfInBounds_toArray, List.set_cons_zero, List.set_cons_succ])
  refine wpAnyB_done (by kernel_rfl) ?_
  go_wp2_with fail
  go_end0
  obtain ⟨e1, e2, e3, e4⟩ := HX.out
  have kk := HKC.out
  have pk := HPC.out
  rw [e3, e4] at kk
  refine ⟨rfl, wC, .slice oa' (cur.length + 1) oc', .slice ua l.length uc, rfl, ?_, ?_⟩
  · rw [e2]; exact kk
  · rw [← e1]; exact pk
end Go.Proofs.YtadookafnfnaoaaGreatDoor
/- The document's Normal on the way, in memory: its groups, its keeps. -/
namespace Go.Proofs.YtadookafnfnaoaaGreatDoor
open Go.RowKit Ch

theorem Apart.symm {u v : Value} (h : Apart u v) : Apart v u := fun j hv hu => h j hu hv
theorem apart_nil (v : Value) : Apart v (.slice none 0 0) := fun j _ h => by simp [Value.ownBlock] at h
def grpCells (G : Grp) : List Value := [G.v, .int .i64 G.g]
def flatG (gs : List Grp) : List Value := gs.flatMap grpCells
theorem flatG_len (gs : List Grp) : (flatG gs).length = gs.length * 2 := by
  induction gs with
  | nil => rfl
  | cons x r ih => simp [flatG, grpCells] at ih ⊢; omega
theorem flatG_snoc (gs : List Grp) (G : Grp) : flatG (gs ++ [G]) = flatG gs ++ grpCells G := by simp [flatG]
theorem flatG_at {gs : List Grp} {i : Nat} (h : i < gs.length) (j : Nat) (hj : j < 2) : (flatG gs)[i * 2 + j]? = (grpCells gs[i])[j]? := by
  induction gs generalizing i with
  | nil => simp at h
  | cons x r ih =>
    have e : flatG (x :: r) = grpCells x ++ flatG r := rfl
    have hx : (grpCells x).length = 2 := rfl
    rw [e]
    cases i with
    | zero => rw [List.getElem?_append_left (by omega)]; simp
    | succ i =>
      rw [List.getElem?_append_right (by omega), hx]
      have e2 : (i + 1) * 2 + j - 2 = i * 2 + j := by omega
      rw [e2, ih (by simpa using h)]
      rfl
theorem infoGrp : (Tryz.prog.info? 81).map (fun i => (i.zero, i.size, i.bytes)) = some (some (.agg #[.slice none 0 0, .int .i64 0]), 2, 32) := by kernel_rfl

structure RSt (w : World) (B : Nat) (gv kv : Value) (gs : List Grp) (ks : List PA) : Prop where
  gr : w.ownsRow B 81 2 gv gs.length (flatG gs)
  kr : OwnP w B kv ks
  gi : ∀ G ∈ gs, OwnP w B G.v G.l
  ap : ∀ G ∈ gs, Apart kv G.v
  pw : gs.Pairwise fun a b => Apart a.v b.v
theorem RSt.keep {w w' : World} {B C : Nat} {ts : List TypeId} {gv kv : Value} {gs : List Grp} {ks : List PA} (h : RSt w B gv kv gs ks) (hk : Keep C ts w w') (h1 : 48 ∉ ts) (h2 : 53 ∉ ts) (h3 : 81 ∉ ts) : RSt w' B gv kv gs ks :=
  ⟨hk.own h.gr h3, h.kr.keep hk h1 h2, fun G hG => (h.gi G hG).keep hk h1 h2, h.ap, h.pw⟩
theorem RSt.below {w w' : World} {B : Nat} {gv kv : Value} {gs : List Grp} {ks : List PA} (h : RSt w B gv kv gs ks) (hb : Below w.heap.size w w') : RSt w' B gv kv gs ks :=
  h.keep (keep_below (ts := []) hb (Nat.le_refl _)) (by simp) (by simp) (by simp)
theorem pw_snoc {gs : List Grp} {G : Grp} : ((gs ++ [G]).Pairwise fun a b => Apart a.v b.v) ↔ (gs.Pairwise fun a b => Apart a.v b.v) ∧ ∀ x ∈ gs, Apart x.v G.v := by
  rw [List.pairwise_append]
  simp
/-- The last group: where it lies. -/
theorem RSt.last {w : World} {B : Nat} {gv kv : Value} {gs : List Grp} {G : Grp} {ks : List PA} (h : RSt w B gv kv (gs ++ [G]) ks) :
    ∃ gb gc cs, gv = .slice (some ⟨gb, 0, none⟩) (gs.length + 1) gc ∧ B ≤ gb ∧ w.heap[gb]? = some (.cells cs 81 (0, 0)) ∧ cs[gs.length * 2]? = some G.v ∧ cs[gs.length * 2 + 1]? = some (.int .i64 G.g) := by
  have h0 := h.gr
  rw [List.length_append, List.length_singleton] at h0
  obtain ⟨gb, gc, rfl⟩ := ownsRow_open h0 (Nat.succ_pos _)
  obtain ⟨hB, cs, hcs⟩ := own_heap h0
  have e : ∀ j, j < 2 → cs[gs.length * 2 + j]? = (grpCells G)[j]? := fun j hj => by
    have := h0.cellAt (gs.length * 2 + j) (by omega)
    rw [Lib.cell_of_heap hcs] at this
    rw [this, flatG_snoc, List.getElem?_append_right (by rw [flatG_len]; omega), flatG_len]
    congr 1
    omega
  exact ⟨gb, gc, cs, rfl, hB, hcs, e 0 (by omega), e 1 (by omega)⟩
theorem RSt.lastRow {w : World} {B gb gc : Nat} {kv : Value} {gs : List Grp} {G : Grp} {ks : List PA} (h : RSt w B (.slice (some ⟨gb, 0, none⟩) (gs.length + 1) gc) kv (gs ++ [G]) ks) :
    w.ownsRow B 81 2 (.slice (some ⟨gb, 0, none⟩) (gs.length + 1) gc) (gs.length + 1) (flatG gs ++ grpCells G) := by
  have h0 := h.gr
  rwa [List.length_append, List.length_singleton, flatG_snoc] at h0
theorem grp_set {w : World} {B gb gc : Nat} {gs : List Grp} {G H : Grp} (h : w.ownsRow B 81 2 (.slice (some ⟨gb, 0, none⟩) (gs.length + 1) gc) (gs.length + 1) (flatG gs ++ grpCells G)) (j : Nat) (u : Value) (hq : (grpCells G).set j u = grpCells H) :
    (w.setCell ⟨gb, gs.length * 2 + j, none⟩ u).ownsRow B 81 2 (.slice (some ⟨gb, 0, none⟩) (gs.length + 1) gc) (gs ++ [H]).length (flatG (gs ++ [H])) := by
  have := (h.stored (gs.length * 2 + j) u).1
  have e : (flatG gs ++ grpCells G).set (gs.length * 2 + j) u = flatG (gs ++ [H]) := by
    rw [flatG_snoc, List.set_append_right _ _ (by rw [flatG_len]; omega), flatG_len, ← hq]
    congr 2
    omega
  rw [e] at this
  rw [List.length_append, List.length_singleton]
  exact this
theorem keep_grp {w : World} {B gb gc : Nat} {n : Nat} {xs : List Value} (h : w.ownsRow B 81 2 (.slice (some ⟨gb, 0, none⟩) n gc) n xs) (j : Nat) (u : Value) : Keep B [81] w (w.setCell ⟨gb, j, none⟩ u) :=
  keep_set (own_heap h).2.choose_spec (by simp) (own_heap h).1 ⟨gb, j, none⟩ rfl u
/-- The last group's inserts have changed. -/
theorem RSt.others {w w1 : World} {B C : Nat} {gv kv cv' : Value} {gs : List Grp} {G : Grp} {ks : List PA} (h : RSt w B gv kv (gs ++ [G]) ks) (hk : KeepO C w w1 G.v cv') :
    OwnP w1 B kv ks ∧ Apart kv cv' ∧ (∀ x ∈ gs, OwnP w1 B x.v x.l ∧ Apart x.v cv') := by
  have h1 := h.kr.keepO hk (h.ap G (by simp))
  have h2 := (pw_snoc.1 h.pw).2
  exact ⟨h1.1, h1.2, fun x hx => (h.gi x (by simp [hx])).keepO hk (h2 x hx)⟩
theorem RSt.join {w w1 : World} {B C gb gc : Nat} {kv : Value} {gs : List Grp} {G : Grp} {ks cur' : List PA} (h : RSt w B (.slice (some ⟨gb, 0, none⟩) (gs.length + 1) gc) kv (gs ++ [G]) ks) (hk : KeepO C w w1 G.v G.v) (hP : OwnP w1 B G.v cur') :
    RSt w1 B (.slice (some ⟨gb, 0, none⟩) (gs.length + 1) gc) kv (gs ++ [⟨G.v, cur', G.g⟩]) ks := by
  obtain ⟨h1, _, h3⟩ := h.others hk
  refine ⟨?_, h1, fun x hx => ?_, fun x hx => ?_, pw_snoc.2 ⟨(pw_snoc.1 h.pw).1, fun x hx => (h3 x hx).2⟩⟩
  · have := hk.keep.own h.lastRow (by decide)
    rw [List.length_append, List.length_singleton, flatG_snoc]
    exact this
  · rcases List.mem_append.1 hx with hx | hx
    · exact (h3 x hx).1
    · rw [List.mem_singleton.1 hx]; exact hP
  · rcases List.mem_append.1 hx with hx | hx
    · exact h.ap x (List.mem_append_left _ hx)
    · rw [List.mem_singleton.1 hx]; exact h.ap G (by simp)
theorem RSt.ins {w w1 : World} {B C gb gc : Nat} {kv cv' : Value} {gs : List Grp} {G : Grp} {ks cur' : List PA} (h : RSt w B (.slice (some ⟨gb, 0, none⟩) (gs.length + 1) gc) kv (gs ++ [G]) ks) (hk : KeepO C w w1 G.v cv') (hP : OwnP w1 B cv' cur') :
    RSt (w1.setCell ⟨gb, gs.length * 2, none⟩ cv') B (.slice (some ⟨gb, 0, none⟩) (gs.length + 1) gc) kv (gs ++ [⟨cv', cur', G.g⟩]) ks ∧ Keep B [81] w1 (w1.setCell ⟨gb, gs.length * 2, none⟩ cv') := by
  obtain ⟨h1, h2, h3⟩ := h.others hk
  have hr := hk.keep.own h.lastRow (by decide)
  have kk := keep_grp hr (gs.length * 2) cv'
  refine ⟨⟨grp_set hr 0 cv' rfl, h1.keep kk (by decide) (by decide), fun x hx => ?_, fun x hx => ?_, pw_snoc.2 ⟨(pw_snoc.1 h.pw).1, fun x hx => (h3 x hx).2⟩⟩, kk⟩
  · rcases List.mem_append.1 hx with hx | hx
    · exact (h3 x hx).1.keep kk (by decide) (by decide)
    · rw [List.mem_singleton.1 hx]; exact hP.keep kk (by decide) (by decide)
  · rcases List.mem_append.1 hx with hx | hx
    · exact h.ap x (List.mem_append_left _ hx)
    · rw [List.mem_singleton.1 hx]; exact h2
theorem RSt.del {w : World} {B gb gc : Nat} {kv : Value} {gs : List Grp} {G : Grp} {ks : List PA} (h : RSt w B (.slice (some ⟨gb, 0, none⟩) (gs.length + 1) gc) kv (gs ++ [G]) ks) (g' : Int) :
    RSt (w.setCell ⟨gb, gs.length * 2 + 1, none⟩ (.int .i64 g')) B (.slice (some ⟨gb, 0, none⟩) (gs.length + 1) gc) kv (gs ++ [⟨G.v, G.l, g'⟩]) ks ∧ Keep B [81] w (w.setCell ⟨gb, gs.length * 2 + 1, none⟩ (.int .i64 g')) := by
  have hr := h.lastRow
  have kk := keep_grp hr (gs.length * 2 + 1) (.int .i64 g')
  refine ⟨⟨grp_set hr 1 (.int .i64 g') rfl, h.kr.keep kk (by decide) (by decide), fun x hx => ?_, fun x hx => ?_, pw_snoc.2 ⟨(pw_snoc.1 h.pw).1, (pw_snoc.1 h.pw).2⟩⟩, kk⟩
  · rcases List.mem_append.1 hx with hx | hx
    · exact (h.gi x (List.mem_append_left _ hx)).keep kk (by decide) (by decide)
    · rw [List.mem_singleton.1 hx]; exact (h.gi G (by simp)).keep kk (by decide) (by decide)
  · rcases List.mem_append.1 hx with hx | hx
    · exact h.ap x (List.mem_append_left _ hx)
    · rw [List.mem_singleton.1 hx]; exact h.ap G (by simp)
/-- The keeps have changed. -/
theorem RSt.keeps {w w1 : World} {B C : Nat} {gv kv kv' : Value} {gs : List Grp} {ks ks' : List PA} (h : RSt w B gv kv gs ks) (hk : KeepO C w w1 kv kv') (hP : OwnP w1 B kv' ks') : RSt w1 B gv kv' gs ks' := by
  have h2 : ∀ x ∈ gs, OwnP w1 B x.v x.l ∧ Apart x.v kv' := fun x hx => (h.gi x hx).keepO hk (h.ap x hx).symm
  exact ⟨hk.keep.own h.gr (by decide), hP, fun x hx => (h2 x hx).1, fun x hx => (h2 x hx).2.symm, h.pw⟩
/-- A new group. -/
theorem RSt.more {w w1 : World} {B C : Nat} {gv gv' kv : Value} {gs : List Grp} {ks : List PA} (h : RSt w B gv kv gs ks) (hk : Keep C [81] w w1) (hr : w1.ownsRow B 81 2 gv' (gs.length + 1) (flatG gs ++ [.slice none 0 0, .int .i64 0])) :
    RSt w1 B gv' kv (gs ++ [⟨.slice none 0 0, [], 0⟩]) ks := by
  refine ⟨by rw [List.length_append, List.length_singleton, flatG_snoc]; exact hr, h.kr.keep hk (by decide) (by decide), fun x hx => ?_, fun x hx => ?_, pw_snoc.2 ⟨h.pw, fun x _ => apart_nil _⟩⟩
  · rcases List.mem_append.1 hx with hx | hx
    · exact (h.gi x hx).keep hk (by decide) (by decide)
    · rw [List.mem_singleton.1 hx]; exact ⟨World.ownsRow_nil _ _ _ _, fun _ h => by cases h⟩
  · rcases List.mem_append.1 hx with hx | hx
    · exact h.ap x hx
    · rw [List.mem_singleton.1 hx]; exact apart_nil _

/-- What is put together of the first groups. -/
def part (gs : List Grp) (ks : List PA) : Nat → List PA
  | 0 => []
  | i + 1 => rend (gs.take i) (ks.take i) ++ (match gs[i]? with | some G => G.l ++ dels G.g | none => [])
theorem part_succ {gs : List Grp} {ks : List PA} {i : Nat} (h : i < gs.length) : part gs ks (i + 1) = rend (gs.take i) (ks.take i) ++ (gs[i].l ++ dels gs[i].g) := by
  rw [part, List.getElem?_eq_getElem h]
theorem part_one {gs : List Grp} {ks : List PA} (h : 0 < gs.length) : part gs ks 1 = gs[0].l ++ dels gs[0].g := by
  rw [part_succ h]; simp [rend]
theorem part_step {gs : List Grp} {ks : List PA} {i : Nat} (h : i + 1 < gs.length) (hk : i < ks.length) : part gs ks (i + 2) = (part gs ks (i + 1) ++ [ks[i]]) ++ gs[i + 1].l ++ dels gs[i + 1].g := by
  rw [part_succ h, part_succ (by omega), List.take_succ_eq_append_getElem (show i < gs.length by omega), List.take_succ_eq_append_getElem hk, rend_snoc (by rw [List.length_take, List.length_take]; omega)]
  simp [List.append_assoc]
theorem part_all {init : List Grp} {ks cur : List PA} {g : Int} (cv : Value) (h : init.length = ks.length) : part (init ++ [⟨cv, cur, g⟩]) ks (init.length + 1) = rend init ks ++ (cur ++ dels g) := by
  rw [part_succ (by simp)]
  have e1 : (init ++ [(⟨cv, cur, g⟩ : Grp)]).take init.length = init := by simp
  have e2 : ks.take init.length = ks := by rw [h, List.take_length]
  rw [e1, e2]
  simp
theorem part_le {gs : List Grp} {ks : List PA} (hk : gs.length = ks.length + 1) : ∀ (d i : Nat), i + d ≤ gs.length → (part gs ks i).length ≤ (part gs ks (i + d)).length := by
  intro d
  induction d with
  | zero => intro i _; exact Nat.le_refl _
  | succ d ih =>
    intro i h
    refine Nat.le_trans (ih i (by omega)) ?_
    rw [← Nat.add_assoc]
    cases hi : i + d with
    | zero => simp [part]
    | succ n =>
      rw [part_step (by omega) (by omega)]
      simp only [List.length_append]
      omega
/-- 'append(own, row...)' of operations, as a step of a region that draws. -/
theorem step_app_row {ops : Array Oper} {o : Oper} {a : Act} {w : World} {K : Act → World → Prop} {Q : Exit → Act → World → Prop} {E : Prop}
    (hg : o.guard = none) (s x : Operand) (hop : o.op = Op.call { callee := Callee.builtin Builtin.append, args := #[s, x], argTypes := #[22, 22] })
    (B : Nat) (v : Value) (ps : List PA) (hs : a.eval s = v) (H : OwnP w B v ps) (u : Value) (qs : List PA) (hx : a.eval x = u) (Hu : OwnP w B u qs) (hl : ps.length + qs.length ≤ 100000) (hB : B ≤ w.heap.size)
    (hK : ∀ v' w', OwnP w' B v' (ps ++ qs) → KeepO B w w' v v' → K (a.put o.dst v') w') :
    if Region.wanted o (yielded ops a.tmps) = true then Oper.wp Tryz.prog o a w K Q else E := by
  obtain ⟨i0, hi, hz0, hz1, hz2⟩ := info_parts infoOp
  rcases Hu.1.2 with ⟨rfl, h0⟩ | ⟨g, cap, cur, rfl, hb, hgh, hr⟩
  · have hq : qs = [] := List.length_eq_zero_iff.1 h0
    subst hq
    have hw : Region.wanted o (yielded ops a.tmps) = true := by simp [Region.wanted, hg]
    rw [if_pos hw]
    have hrun := run_append_owned_none (P := Tryz.prog) (w := w) B 22 o.type 48 i0 4 Tryz.underlying22 hi v ps.length (flatO ps) H.1
    unfold Oper.wp
    simp [execOp, hop, resolve, invoke, builtin, hs, hx, hrun, Result.andThen]
    exact hK v w (by rw [List.append_nil]; exact H) (keepO_below (Below.refl _ _) hB v)
  · refine step_append_new hg s x 22 hop 48 i0 (.agg #[.int .i64 0, .int .i64 0, .string ⟨#[]⟩, .slice none 0 0]) 4 56 Tryz.underlying22 hi hz0 hz1 hz2 rfl (by decide) B v ps.length (flatO ps) hs H.1 ⟨g, 0, none⟩ qs.length cap (flatO qs) hx (flatO_len qs) ?_ (flatO_one fun q hq => own_one (Hu.2 q hq)) (by unfold maxLen; omega) (by omega) hB fun v' w' o1 g1 n1 => ?_
    · intro j y hj
      have := Hu.1.cells (g := g) rfl j y hj
      exact this
    · have kr := keep_row H.1 g1 (ts := [48]) (by simp) hB
      refine hK v' w' ⟨?_, fun y hy => ?_⟩ (keepO_grown H.1 g1 hB n1)
      · have e : flatO (ps ++ qs) = flatO ps ++ flatO qs := by simp [flatO]
        rw [List.length_append, e]
        exact o1
      · rcases List.mem_append.1 hy with hy | hy
        · exact kr.own (H.2 y hy) (by decide)
        · exact kr.own (Hu.2 y hy) (by decide)

/-- While it is put together. -/
structure OSt (w : World) (B ob rb : Nat) (f : Int) (gv kv ov : Value) (gs : List Grp) (ks out : List PA) : Prop where
  box : w.heap[ob]? = some (.cells #[.int .i64 f, ov] 24 (0, 0))
  res : w.heap[rb]? = some (.cells #[.int .i64 0, .slice none 0 0] 24 (0, 0))
  st : RSt w B gv kv gs ks
  own : OwnP w B ov out
  ak : Apart kv ov
  ag : ∀ G ∈ gs, Apart G.v ov
theorem OSt.keep {w w' : World} {B C ob rb : Nat} {f : Int} {gv kv ov : Value} {gs : List Grp} {ks out : List PA} {ts : List TypeId} (h : OSt w B ob rb f gv kv ov gs ks out) (hk : Keep C ts w w') (h1 : 48 ∉ ts) (h2 : 53 ∉ ts) (h3 : 81 ∉ ts) (h4 : 24 ∉ ts) : OSt w' B ob rb f gv kv ov gs ks out :=
  ⟨hk.kept _ _ _ _ h.box h4, hk.kept _ _ _ _ h.res h4, h.st.keep hk h1 h2 h3, h.own.keep hk h1 h2, h.ak, h.ag⟩
theorem OSt.app {w w1 : World} {B C ob rb : Nat} {f : Int} {gv kv ov ov' : Value} {gs : List Grp} {ks out out' : List PA} (h : OSt w B ob rb f gv kv ov gs ks out) (hB : B ≤ ob) (hne : ob ≠ rb) (hk : KeepO C w w1 ov ov') (hP : OwnP w1 B ov' out') :
    OSt (w1.setCell ⟨ob, 1, none⟩ ov') B ob rb f gv kv ov' gs ks out' ∧ Keep B [24] w1 (w1.setCell ⟨ob, 1, none⟩ ov') := by
  have b1 := hk.keep.kept _ _ _ _ h.box (by decide)
  have r1 := hk.keep.kept _ _ _ _ h.res (by decide)
  have kk : Keep B [24] w1 (w1.setCell ⟨ob, 1, none⟩ ov') := keep_set b1 (by simp) hB _ rfl _
  have k2 := h.st.kr.keepO hk h.ak
  have g2 : ∀ G ∈ gs, OwnP w1 B G.v G.l ∧ Apart G.v ov' := fun G hG => (h.st.gi G hG).keepO hk (h.ag G hG)
  refine ⟨⟨nblk_set b1, ?_, ⟨kk.own (hk.keep.own h.st.gr (by decide)) (by decide), k2.1.keep kk (by decide) (by decide), fun G hG => (g2 G hG).1.keep kk (by decide) (by decide), h.st.ap, h.st.pw⟩, hP.keep kk (by decide) (by decide), k2.2, fun G hG => (g2 G hG).2⟩, kk⟩
  rw [Below.heap_setCell _ _ _ _ (show rb ≠ ob from fun e => hne e.symm)]
  exact r1
theorem OSt.cell {w : World} {B ob rb : Nat} {f : Int} {gv kv ov : Value} {gs : List Grp} {ks out : List PA} (h : OSt w B ob rb f gv kv ov gs ks out) : w.cell? ⟨ob, 1, none⟩ = some ov ∧ w.frozen? ⟨ob, 1, none⟩ = false ∧ ob < w.heap.size :=
  ⟨(Lib.cell_of_heap h.box 1).trans rfl, Lib.frozen_of_heap h.box 1, lt_of_heap h.box⟩
/-- Where a keep, a group lie. -/
theorem OwnP.at {w : World} {B : Nat} {v : Value} {ks : List PA} (h : OwnP w B v ks) {i : Nat} (hi : i < ks.length) : ∃ kb kc, v = .slice (some ⟨kb, 0, none⟩) ks.length kc ∧ kb < w.heap.size ∧
    w.cell? ⟨kb, i * 4, none⟩ = some (.int .i64 ks[i].1.kind) ∧ w.cell? ⟨kb, i * 4 + 1, none⟩ = some (.int .i64 ks[i].1.n) ∧ w.cell? ⟨kb, i * 4 + 2, none⟩ = some (.string ks[i].1.text) ∧ w.cell? ⟨kb, i * 4 + 3, none⟩ = some ks[i].2 := by
  obtain ⟨kb, kc, rfl⟩ := ownsRow_open h.1 (by omega)
  obtain ⟨_, cs, hcs⟩ := own_heap h.1
  have e : ∀ j, j < 4 → w.cell? ⟨kb, i * 4 + j, none⟩ = (opCells ks[i])[j]? := fun j hj => by
    rw [h.1.cellAt _ (by omega), flatO_at hi j hj]
  exact ⟨kb, kc, rfl, lt_of_heap hcs, e 0 (by omega), e 1 (by omega), e 2 (by omega), e 3 (by omega)⟩
theorem RSt.at {w : World} {B : Nat} {gv kv : Value} {gs : List Grp} {ks : List PA} (h : RSt w B gv kv gs ks) {i : Nat} (hi : i < gs.length) : ∃ gb gc, gv = .slice (some ⟨gb, 0, none⟩) gs.length gc ∧ gb < w.heap.size ∧
    w.cell? ⟨gb, i * 2, none⟩ = some gs[i].v ∧ w.cell? ⟨gb, i * 2 + 1, none⟩ = some (.int .i64 gs[i].g) := by
  obtain ⟨gb, gc, rfl⟩ := ownsRow_open h.gr (by omega)
  obtain ⟨_, cs, hcs⟩ := own_heap h.gr
  have e : ∀ j, j < 2 → w.cell? ⟨gb, i * 2 + j, none⟩ = (grpCells gs[i])[j]? := fun j hj => by
    rw [h.gr.cellAt _ (by omega), flatG_at hi j hj]
  exact ⟨gb, gc, rfl, lt_of_heap hcs, e 0 (by omega), e 1 (by omega)⟩
end Go.Proofs.YtadookafnfnaoaaGreatDoor
