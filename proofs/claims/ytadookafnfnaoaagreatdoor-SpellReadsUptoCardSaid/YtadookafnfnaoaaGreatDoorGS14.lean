import Derived.Test.YtadookafnfnaoaaGreatDoorGS13
import Derived.Test.YtadookafnfnaoaaGreatDoorGS5
import Derived.Test.YtadookafnfnaoaaGreatDoorGS12
import Derived.Test.YtadookafnfnaoaaGreatDoorGS11
import Derived.Test.YtadookafnfnaoaaGreatDoorGS4
import Derived.BigRegion
/- The reader's change: a changeset up to the text's end. -/
namespace Go.Proofs.YtadookafnfnaoaaGreatDoor
open Go.RowKit Ch

namespace Sp
def mapn {α : Type} (n : Nat) : R α → R (Nat × α)
  | .ok v k => .ok (n, v) k
  | .bad k => .bad k
theorem change_bad {l : List UInt8} {k : Nat} (h : number l = .bad k) : change l = .bad k := by unfold change; rw [bnd_bad h]
theorem change_go {l : List UInt8} {n i : Nat} (h : number l = .ok n i) : change l = mapn n (prl [] i (ops ((l.drop i).length + 1) (l.drop i))) := by
  unfold change
  rw [bnd_ok h]
  cases hq : ops ((l.drop i).length + 1) (l.drop i) with
  | bad k => rw [bnd_bad (p := fun l => ops (l.length + 1) l) hq]; rfl
  | ok v j => rw [bnd_ok (p := fun l => ops (l.length + 1) l) hq]; rfl
theorem ops_nil (f : Nat) : ops (f + 1) [] = .ok [] 0 := rfl
theorem ops_bad0 (f : Nat) {l : List UInt8} (h : l ≠ []) (h2 : ¬ l.head? = some 32) : ops (f + 1) l = .bad 0 := by unfold ops; rw [if_neg h, bnd_bad (must_no h2)]
theorem ops_bad1 (f : Nat) {l : List UInt8} {k : Nat} (h : l.head? = some 32) (h2 : op (l.drop 1) = .bad k) : ops (f + 1) l = .bad (1 + k) := by
  have hn : l ≠ [] := fun e => by rw [e] at h; cases h
  unfold ops; rw [if_neg hn, bnd_ok (must_yes h), bnd_bad h2]; rfl
theorem ops_go (f : Nat) {l : List UInt8} {o : OpD} {n : Nat} (h : l.head? = some 32) (h2 : op (l.drop 1) = .ok o n) : ops (f + 1) l = prl [o] (1 + n) (ops f (l.drop (1 + n))) := by
  have hn : l ≠ [] := fun e => by rw [e] at h; cases h
  show (if l = [] then R.ok [] 0 else bnd (must 32) (fun _ => bnd op fun o => bnd (ops f) fun r => ret (o :: r)) l) = _
  rw [if_neg hn, bnd_ok (must_yes h), bnd_ok h2, List.drop_drop, prl_bnd, prl_shift, prl_shift, Nat.add_zero]
end Sp

abbrev valCh (C : Nat) : Nat × List OpD → World → Value → Prop := fun c w' u => ∃ v, u = chAgg c.1 v ∧ OwnOps w' C v c.2
abbrev zeroC : Obj := .cells #[.int .i64 0, .slice none 0 0] 24
theorem own_slice4 {w : World} {C n : Nat} {v : Value} {xs : List Value} (h : w.ownsRow C 48 4 v n xs) : ∃ a c, v = .slice a n c := by
  rcases h.2 with ⟨rfl, rfl⟩ | ⟨g, cap, cur, rfl, _⟩
  · exact ⟨_, _, rfl⟩
  · exact ⟨_, _, rfl⟩
theorem OwnP.empty (w : World) (C : Nat) : OwnP w C (.slice none 0 0) [] := ⟨⟨rfl, .inl ⟨rfl, rfl⟩⟩, fun p hp => by cases hp⟩

set_option maxHeartbeats 8000000 in
theorem rdChange_any (b : Nat) (s : ByteArray) (a : Nat) (w : World) (h : RdAt w b s a) (hz : s.size ≤ 262144) (hy : Syn w) (hyb : 3 < b) :
    Calls Tryz.prog 47 #[.pointer (some ⟨b, 0, none⟩)] w (RdGo b s a (Sp.change (rst s a)) (valCh w.heap.size) w) := by
  have hbl : b < w.heap.size := lt_of_heap h.1
  obtain ⟨i0, hi, hz0, hz1, hz2⟩ := info_parts infoOp
  have Hi := Lib.hid (show _ ∧ _ ∧ _ ∧ _ from ⟨hi, hz0, hz1, hz2⟩)
  clear hi hz0 hz1 hz2
  obtain ⟨W, hW⟩ : ∃ W, W = w.alloc zeroC := ⟨_, rfl⟩
  have BW := (show Below w.heap.size w W by rw [hW]; exact below_box _ _)
  have r0 : W.heap[w.heap.size]? = some zeroC := by rw [hW]; exact heap_new _ _
  have hat0 : RdAt W b s a := h.later BW hbl
  have KW := Lib.hid ((Keep.refl b [RT] w).later BW (Nat.le_of_lt hbl) (Nat.le_refl _))
  have HR0 := Lib.hid r0
  have HW := Lib.hid hW
  have hyW : Syn W := by
    obtain ⟨ev, h1, h2⟩ := hy
    exact ⟨ev, (BW.cell (p := ⟨3, 0, none⟩) (by exact Nat.lt_trans hyb hbl)).trans h1, h2⟩
  have HN := Lib.hid (number_any b s a W hat0 (by omega) hyW hyb)
  have HY := Lib.hid hyW
  have e1 := fun k (h2 : Sp.number (rst s a) = .bad k) => Sp.change_bad h2
  have e2 := fun n i (h2 : Sp.number (rst s a) = .ok n i) => Sp.change_go h2
  simp only [rst_drop, rst_len] at e2
  have E1 := Lib.hid e1
  have E2 := Lib.hid e2
  clear h hW BW r0 hat0 hy hyW e1 e2
  generalize Sp.change (rst s a) = X at *
  go_enter Tryz.func47, Tryz.ntmps47
  go_wp2_with fail
  rw [← HW.out]
  go_wp2_with fail
  refine HN.out.mono ?_
  cases hq : Sp.number (rst s a) with
  | bad k =>
    have HV := Lib.hid (E1.out k hq)
    rintro e w2 ⟨rfl, hk2⟩
    exact ⟨rfl, rdgo_bad HV.out rfl (KW.out.trans hk2)⟩
  | ok n i =>
    have HV := Lib.hid (E2.out n i hq)
    rintro e w2 ⟨_, rfl, rfl, hat2, hk2⟩
    have Hat2 := Lib.hid hat2
    have Hk2 := Lib.hid (KW.out.trans hk2)
    have HR2 := Lib.hid (hk2.kept _ _ _ _ HR0.out (by decide))
    have HY2 := Lib.hid (HY.out.keep hk2 hyb)
    have hsz2 : w.heap.size < w2.heap.size := lt_of_heap HR2.out
    have hks2 : a + i ≤ s.size := hat2.2.1
    obtain ⟨V, hV⟩ : ∃ V, V = w2.alloc (.cells #[.int .i64 n, .slice none 0 0] 24) := ⟨_, rfl⟩
    have x2 : V.heap[w2.heap.size]? = some (.cells #[.int .i64 n, .slice none 0 0] 24 (0, 0)) := by rw [hV]; exact heap_new _ _
    have BV := Lib.hid (show Below w2.heap.size w2 V by rw [hV]; exact below_box w2 _)
    have HVc := Lib.hid x2
    have HVV := Lib.hid hV
    clear hat2 hk2 hq x2 hV
    go_wp2_with fail
    rw [← HVV.out]
    go_loopg [] (s.size - (a + i)) (fun gk wr => ∃ (k f : Nat) (ps : List (OpD × Value)) (oa : Option Addr) (oc : Nat), gk = s.size - k ∧ RdAt wr b s k ∧ a ≤ k ∧ ps.length ≤ k ∧ s.size - k < f ∧ X = Sp.mapn n (Sp.prl (ps.map (·.1)) (k - a) (Sp.ops f (rst s k))) ∧ Keep b [RT] w wr ∧ wr.heap[w2.heap.size]? = some (.cells #[.int .i64 n, .slice oa ps.length oc] 24 (0, 0)) ∧ wr.heap[w.heap.size]? = some zeroC ∧ OwnP wr w.heap.size (.slice oa ps.length oc) ps)
    case atStart =>
      refine ⟨a + i, s.size - (a + i) + 1, [], none, 0, rfl, Hat2.out.later BV.out (by omega), by omega, Nat.zero_le _, by omega, ?_, Hk2.out.later BV.out (by omega) (by omega), HVc.out, (BV.out.block _ hsz2).trans HR2.out, OwnP.empty _ _⟩
      rw [HV.out, show a + i - a = i by omega]; rfl
    case round =>
      obtain ⟨k, f, ps, oa, oc, rfl, hat, hak, hll, hf, hX, hkp, hcb, hrb, hop⟩ := hrel
      cases f with
      | zero => omega
      | succ f =>
      have hks : k ≤ s.size := hat.2.1
      have h2' : s.size ≤ 9223372036854775807 := by omega
      have Hat := Lib.hid hat
      have Hkp := Lib.hid hkp
      have HX := Lib.hid hX
      have Hop := Lib.hid hop
      have Hcb := Lib.hid hcb
      have Hrb := Lib.hid hrb
      have d0 := hat.c0
      have d1 := hat.c1
      have hsz : w2.heap.size < wr.heap.size := lt_of_heap hcb
      have hn2000 : ps.length ≤ 262144 := by omega
      clear hat hkp hX hop hcb hrb
      by_cases hlt : k < s.size
      · have hlt' : (k : Int) < (s.size : Int) := by omega
        have hne : rst s k ≠ [] := by rw [rst_cons hlt]; simp
        by_cases h32 : (rst s k).head? = some 32
        · have HM := Lib.hid fun m => must_ok b s k 32 (wr.drewN m) (Hat.out.drewN m) h32
          have o0 := fun j (h : Sp.op (rst s (k + 1)) = .bad j) => HX.out.trans (by rw [Sp.ops_bad1 f h32 (by rw [rst_drop]; exact h)])
          have o1 := fun o j (h : Sp.op (rst s (k + 1)) = .ok o j) => HX.out.trans (by rw [Sp.ops_go f h32 (by rw [rst_drop]; exact h), Sp.prl_prl, rst_drop])
          have O0 := Lib.hid o0
          have O1 := Lib.hid o1
          clear h32 hne o0 o1
          go_wp2_with fail
          go_quiet (fail)
          go_wp2_with fail
          refine (HM.out _).mono ?_
          rintro e w4 ⟨rfl, hat4, hk4⟩
          have Hat4 := Lib.hid hat4
          have Hk4 := Lib.hid ((keep_drewN Hkp.out nq).trans hk4)
          have hk04 := (keep_drewN (Keep.refl b [RT] wr) nq).trans hk4
          have Hcb4 := Lib.hid (hk04.kept _ _ _ _ Hcb.out (by decide))
          have Hrb4 := Lib.hid (hk04.kept _ _ _ _ Hrb.out (by decide))
          have Hop4 := Lib.hid (Hop.out.keep hk04 (by decide) (by decide))
          have HY4 : Syn w4 := by
            obtain ⟨ev, h1, h2⟩ := HY2.out
            exact ⟨ev, by
              have hlt3 : 3 < b := hyb
              have q1 := (Hk4.out.below.cell (p := ⟨3, 0, none⟩) (by exact hlt3))
              have q2 := (Hk2.out.below.cell (p := ⟨3, 0, none⟩) (by exact hlt3))
              rw [q1, ← q2]; exact h1, h2⟩
          have HO := Lib.hid (op_any b s (k + 1) w4.drew Hat4.out hz HY4 hyb)
          have S0 : w4.drew.cell? ⟨w2.heap.size, 1, none⟩ = some (.slice oa ps.length oc) := (Lib.cell_of_heap Hcb4.out 1).trans rfl
          have hs4 : w2.heap.size < w4.heap.size := lt_of_heap Hcb4.out
          clear hat4 hk4 hk04 d0 d1
          go_wp2_with fail
          refine wp_region_B (fun w' => w'.cell? ⟨w2.heap.size, 1, none⟩ = some (.slice oa ps.length oc)) [7] (by kernel_rfl) (?_ : wpAnyB _ _ _ _ _ _ 8 (Array.replicate 8 false) _ _)
          refine wpAnyB_free (fuel := 7) (i := 0) (v := ?_) rfl (by kernel_rfl) (by kernel_rfl) (by kernel_rfl) (by kernel_rfl) (fun _ _ _ h => h) (.inr S0) ?_ (by rfl) ?_
          rotate_left
          · intro w'; go_simp; (try with_reducible rfl)
          simp only [Act.put, List.getElem_toArray, List.getElem_cons_zero, List.setIfInBounds_toArray, List.set_cons_zero, List.set_cons_succ]
          refine wpAnyB_load [1,5,6,7] (fuel := 6) (i := 1) (v := ?_) rfl (by kernel_rfl) (by kernel_rfl) (by kernel_rfl) (by kernel_rfl) (by kernel_rfl) (fun _ _ _ h => h) (.inr S0) ?_ (by rfl) ?_
          rotate_left
          · intro w' hw'; go_simp; (try with_reducible rfl)
          simp only [Act.put, List.getElem_toArray, List.getElem_cons_zero, List.getElem_cons_succ, List.setIfInBounds_toArray, List.set_cons_zero, List.set_cons_succ]
          refine wpAnyB_free (fuel := 5) (i := 2) (v := ?_) rfl (by kernel_rfl) (by kernel_rfl) (by kernel_rfl) (by kernel_rfl) (fun _ _ _ h => h) (.inr S0) ?_ (by rfl) ?_
          rotate_left
          · intro w'; go_simp; (try with_reducible rfl)
          simp only [Act.put, List.getElem_toArray, List.getElem_cons_zero, List.getElem_cons_succ, List.setIfInBounds_toArray, List.set_cons_zero, List.set_cons_succ]
          refine wpAnyB_one (fuel := 4) (i := 3) rfl (by kernel_rfl) ?_
          intro KB hKB
          go_simp
          refine HO.out.mono ?_
          cases hq : Sp.op (rst s (k + 1)) with
          | bad j =>
            have HV := Lib.hid (O0.out j hq)
            rintro e w5 ⟨rfl, hk5⟩
            exact ⟨rfl, rdgo_bad HV.out (by rw [show a + (k - a + (1 + j)) = k + 1 + j by omega]) (Hk4.out.trans (Keep.trans ⟨(Below.refl _ _).drew, fun i o hi _ => hi⟩ hk5))⟩
          | ok o j =>
          have HV := Lib.hid (O1.out o j hq)
          rintro e w5 ⟨_, rfl, ⟨u, rfl, hu⟩, hat5, hk5⟩
          have hk05 : Keep b [RT] w4 w5 := Keep.trans ⟨(Below.refl _ _).drew, fun i o hi _ => hi⟩ hk5
          have Hat5 := Lib.hid hat5
          have Hk5 := Lib.hid (Hk4.out.trans hk05)
          have Hcb5 := Lib.hid (hk05.kept _ _ _ _ Hcb4.out (by decide))
          have Hrb5 := Lib.hid (hk05.kept _ _ _ _ Hrb4.out (by decide))
          have Hop5 := Lib.hid (Hop4.out.keep hk05 (by decide) (by decide))
          have Hu5 := Lib.hid (own_base hu (show w.heap.size ≤ w4.drew.heap.size by exact Nat.le_of_lt (Nat.lt_trans hsz2 hs4)))
          have hks5 : k + 1 + j ≤ s.size := hat5.2.1
          have S4 : w5.cell? ⟨w2.heap.size, 1, none⟩ = some (.slice oa ps.length oc) := (Lib.cell_of_heap Hcb5.out 1).trans rfl
          have hs5 : w2.heap.size < w5.heap.size := lt_of_heap Hcb5.out
          have hb5 : b < w5.heap.size := lt_of_heap hat5.1
          clear hu hat5 hk5 hk05 hq
          refine hKB _ _ (.inr S4) ?_
          (try simp only [Act.put, List.getElem_toArray, List.getElem_cons_zero, List.getElem_cons_succ, List.setIfInBounds_toArray, List.set_cons_zero, List.set_cons_succ])
          refine wpAnyB_one (fuel := 3) (i := 4) rfl (by kernel_rfl) ?_
          intro KB hKB
          go_simp
          have hw6 := heap_new w5 (.cells #[.int .i64 o.kind, .int .i64 o.n, .string o.text, u] 48)
          obtain ⟨w6, hw6d⟩ : ∃ w6, w6 = w5.alloc (.cells #[.int .i64 o.kind, .int .i64 o.n, .string o.text, u] 48) := ⟨_, rfl⟩
          have B6 : Below w5.heap.size w5 w6 := by rw [hw6d]; exact below_box _ _
          have K6 : Keep w5.heap.size [] w5 w6 := keep_below B6 (Nat.le_refl _)
          rw [← hw6d] at hw6
          have hcb6 := K6.kept _ _ _ _ Hcb5.out (by simp)
          have hrb6 := K6.kept _ _ _ _ Hrb5.out (by simp)
          have hop6 := Hop5.out.keep K6 (by simp) (by simp)
          have hu6 := K6.own Hu5.out (by simp)
          have hs6 : w5.heap.size < w6.heap.size := lt_of_heap hw6
          have hc6 : ∀ j v, (opCells (o, u))[j]? = some v → w6.cell? ((⟨w5.heap.size, 0, none⟩ : Addr).add j) = some v := by rw [hw6d]; exact new_at4 _ _ _ _ _ _
          have h16 : ∀ v ∈ opCells (o, u), v.oneCell' = true := fun v hv => by
            simp [opCells] at hv
            rcases hv with rfl | rfl | rfl | rfl
            · rfl
            · rfl
            · rfl
            · exact own_one hu6
          have S5 : w6.cell? ⟨w2.heap.size, 1, none⟩ = some (.slice oa ps.length oc) := (Lib.cell_of_heap hcb6 1).trans rfl
          have HW6 := Lib.hid hw6d
          have HB6 := Lib.hid B6
          have Hcb6 := Lib.hid hcb6
          have Hrb6 := Lib.hid hrb6
          have Hop6 := Lib.hid hop6
          have Hu6 := Lib.hid hu6
          have HC6 := Lib.hid hc6
          have HO6 := Lib.hid h16
          clear hw6 B6 K6 hcb6 hrb6 hop6 hu6 hc6 h16 hw6d
          rw [← HW6.out]
          refine hKB _ _ (.inr S5) ?_
          (try simp only [Act.put, List.getElem_toArray, List.getElem_cons_zero, List.getElem_cons_succ, List.setIfInBounds_toArray, List.set_cons_zero, List.set_cons_succ])
          refine wpAnyB_one (fuel := 2) (i := 5) rfl (by kernel_rfl) ?_
          intro KB hKB
          refine step_append_own rfl (.tmp 20) (.tmp 23) 22 rfl 48 i0 (.agg #[.int .i64 0, .int .i64 0, .string ⟨#[]⟩, .slice none 0 0]) 4 56 Tryz.underlying22 Hi.out.1 Hi.out.2.1 Hi.out.2.2.1 Hi.out.2.2.2 rfl (by decide) w.heap.size (.slice oa ps.length oc) ps.length (flatO ps) rfl Hop6.out.1 ⟨w5.heap.size, 0, none⟩ 1 1 (opCells (o, u)) rfl rfl HC6.out HO6.out (by unfold maxLen; omega) (by omega) (by omega) ?_
          intro v7 w7 o7 g7
          have K7 : Keep w.heap.size [48] w6 w7 := keep_row Hop6.out.1 g7 (by simp) (by omega)
          obtain ⟨oa7, oc7, rfl⟩ := own_slice4 o7
          have hcb7 := K7.kept _ _ _ _ Hcb6.out (by decide)
          have Hrb7 := Lib.hid (K7.kept _ _ _ _ Hrb6.out (by decide))
          have hop7 : OwnP w7 w.heap.size (.slice oa7 (ps.length + 1) oc7) (ps ++ [(o, u)]) := by
            refine ⟨?_, fun q hq => ?_⟩
            · rw [flatO_snoc, List.length_append]; exact o7
            · rcases List.mem_append.1 hq with hq | hq
              · exact K7.own (Hop6.out.2 q hq) (by decide)
              · obtain rfl := List.mem_singleton.1 hq
                exact K7.own Hu6.out (by decide)
          have S7 : w7.cell? ⟨w2.heap.size, 1, none⟩ = some (.slice oa ps.length oc) := (Lib.cell_of_heap hcb7 1).trans rfl
          have f7 : w7.frozen? ⟨w2.heap.size, 1, none⟩ = false := Joins.unfrozen_of_block hcb7 1
          have hcb8 := Joins.block_setCell (i := 1) hcb7 (.slice oa7 (ps.length + 1) oc7)
          have K8 : Keep w.heap.size [24] w7 (w7.setCell ⟨w2.heap.size, 1, none⟩ (.slice oa7 (ps.length + 1) oc7)) := set_keep hcb7 (Nat.le_of_lt hsz2) _
          have Hcb8 := Lib.hid hcb8
          have HK7 := Lib.hid K7
          have HK8 := Lib.hid K8
          have Hop7 := Lib.hid hop7
          clear o7 g7 K7 hcb7 hop7 hcb8 K8
          refine hKB _ _ (.inr S7) ?_
          (try simp only [Act.put, List.getElem_toArray, List.getElem_cons_zero, List.getElem_cons_succ, List.setIfInBounds_toArray, List.set_cons_zero, List.set_cons_succ])
          refine wpAnyB_free (fuel := 1) (i := 6) (v := ?_) rfl (by kernel_rfl) (by kernel_rfl) (by kernel_rfl) (by kernel_rfl) (fun _ _ _ h => h) (.inr S7) ?_ (by rfl) ?_
          rotate_left
          · intro w'; go_simp; (try with_reducible rfl)
          simp only [Act.put, List.getElem_toArray, List.getElem_cons_zero, List.getElem_cons_succ, List.setIfInBounds_toArray, List.set_cons_zero, List.set_cons_succ]
          refine wpAnyB_one (fuel := 0) (i := 7) rfl (by kernel_rfl) ?_
          intro KB hKB
          go_simp
          refine hKB _ _ (.inl (by kernel_rfl)) ?_
          (try simp only [Act.put, List.getElem_toArray, List.getElem_cons_zero, List.getElem_cons_succ, List.setIfInBounds_toArray, List.set_cons_zero, List.set_cons_succ])
          refine wpAnyB_done (by kernel_rfl) ?_
          go_wp2_with fail
          go_roundg (s.size - (k + 1 + j))
          case measure => omega
          case rel =>
            have bz : Below w.heap.size w5 (w7.setCell ⟨w2.heap.size, 1, none⟩ (.slice oa7 (ps.length + 1) oc7)) := ((HB6.out.mono (by omega)).trans HK7.out.below).trans HK8.out.below
            have el : (ps ++ [(o, u)]).length = ps.length + 1 := by simp
            refine ⟨k + 1 + j, f, ps ++ [(o, u)], oa7, oc7, rfl, Hat5.out.later bz hbl, by omega, by rw [el]; omega, by omega, ?_, Hk5.out.later bz (Nat.le_of_lt hbl) (Nat.le_refl _), by rw [el]; exact Hcb8.out, ?_, by rw [el]; exact Hop7.out.keep HK8.out (by decide) (by decide)⟩
            · rw [HV.out, List.map_append, show k + (1 + j) = k + 1 + j by omega, show k - a + (1 + j) = k + 1 + j - a by omega]; rfl
            · rw [Below.heap_setCell _ _ _ _ (show w.heap.size ≠ w2.heap.size by omega)]; exact Hrb7.out
        · have HM := Lib.hid fun m => must_bad b s k 32 (wr.drewN m) (Hat.out.drewN m) h32
          have HE := Lib.hid (HX.out.trans (by rw [Sp.ops_bad0 f hne h32]))
          clear h32 hne
          go_wp2_with fail
          go_quiet (fail)
          go_wp2_with fail
          refine (HM.out _).mono ?_
          rintro e w4 ⟨rfl, hk4⟩
          exact ⟨rfl, rdgo_bad HE.out (by rw [show a + (k - a + 0) = k by omega]) ((keep_drewN Hkp.out _).trans hk4)⟩
      · have hlt' : decide ((k : Int) < (s.size : Int)) = false := decide_eq_false (by omega)
        have hks' : k = s.size := by omega
        have HE := Lib.hid (HX.out.trans (by rw [rst_nil (s := s) (a := k) (by omega), Sp.ops_nil]))
        have y0 := (Lib.cell_of_heap Hcb.out 0).trans (show _ = some _ from rfl)
        have y1 := (Lib.cell_of_heap Hcb.out 1).trans (show _ = some _ from rfl)
        have q0 := (Lib.cell_of_heap Hrb.out 0).trans (show _ = some _ from rfl)
        have q1 := (Lib.cell_of_heap Hrb.out 1).trans (show _ = some _ from rfl)
        have g0 := Joins.unfrozen_of_block Hrb.out 0
        have g1 := Joins.unfrozen_of_block Hrb.out 1
        clear hks'
        go_wp2_with fail
        go_quiet (fail)
        have F1 := Joins.block_setCell (w := wr.drewN nq) (i := 0) Hrb.out (.int .i64 n)
        have F2 := Joins.block_setCell (i := 1) F1 (.slice oa ps.length oc)
        have KF := Lib.hid ((set_keep (w := wr.drewN nq) (b := w.heap.size) (i := 0) Hrb.out (Nat.le_refl _) (.int .i64 n)).trans (set_keep (b := w.heap.size) (i := 1) F1 (Nat.le_refl _) (.slice oa ps.length oc)))
        have HF := Lib.hid F2
        clear F1 F2
        go_wp2_with fail
        have z0 := (Lib.cell_of_heap HF.out 0)
        have z1 := (Lib.cell_of_heap HF.out 1)
        refine bodyPost_ret (v := chAgg n (.slice oa ps.length oc)) (by simp [results, Tryz.results47, go_sem, z0, z1]) rfl (rdgo_ok HE.out rfl ⟨_, rfl, ps, ?_, Hop.out.keep (Keep.trans (keep_drewN (Keep.refl w.heap.size [24] wr) nq) KF.out) (by decide) (by decide)⟩ ?_ ((keep_drewN Hkp.out nq).later KF.out.below (Nat.le_of_lt hbl) (Nat.le_refl _)))
        · simp
        · rw [show a + (k - a + 0) = k by omega]
          exact (Hat.out.drewN nq).later KF.out.below hbl

end Go.Proofs.YtadookafnfnaoaaGreatDoor
/- Parse: a changeset, read. -/
namespace Go.Proofs.YtadookafnfnaoaaGreatDoor
open Go.RowKit Ch

namespace Sp
theorem len_qt (l : List UInt8) : l.length ≤ (qt l).length := by
  have : ∀ m : List UInt8, m.length ≤ (m.flatMap qb).length := fun m => by
    induction m with
    | nil => simp
    | cons b m ih =>
      have := (qb_head b).2
      have h2 : 1 ≤ (qb b).length := by cases hx : qb b with
        | nil => exact absurd hx this
        | cons _ _ => simp
      simp only [List.flatMap_cons, List.length_append, List.length_cons]; omega
  have := this l
  simp only [qt, List.length_cons, List.length_append, List.length_nil]; omega
theorem attr_parts (x : A) : x.1.size ≤ (pAttr x).length ∧ x.2.size ≤ (pAttr x).length := by
  have := len_qt x.2.data.toList
  rw [size_data, size_data]
  simp only [pAttr, List.length_append, List.length_cons]; omega
theorem more_parts (l : List A) : ∀ y ∈ l, y.1.size ≤ (pMore l).length ∧ y.2.size ≤ (pMore l).length := by
  induction l with
  | nil => intro y hy; cases hy
  | cons x l ih =>
    intro y hy
    have e : (pMore (x :: l)).length = 1 + (pAttr x).length + (pMore l).length := by simp [pMore]; omega
    rcases List.mem_cons.1 hy with rfl | hy
    · have := attr_parts y; omega
    · have := ih y hy; omega
theorem attrs_parts (l : List A) : ∀ y ∈ l, y.1.size ≤ (pAttrs l).length ∧ y.2.size ≤ (pAttrs l).length := by
  cases l with
  | nil => intro y hy; cases hy
  | cons x l =>
    intro y hy
    have e : (pAttrs (x :: l)).length = 1 + (pAttr x).length + (pMore l).length := by simp [pAttrs]; omega
    rcases List.mem_cons.1 hy with rfl | hy
    · have := attr_parts y; omega
    · have := more_parts l y hy; omega
theorem op_text {l : List UInt8} {o : OpD} {n : Nat} (h : op l = .ok o n) : o.kind = 2 ∨ o.text = none0 := by
  cases l with
  | nil => cases h
  | cons b t =>
    unfold op at h
    simp only at h
    split at h
    · obtain ⟨m, h', _⟩ := shift_ok h
      clear h
      have h := h'
      clear h'
      unfold kind at h
      split at h
      · obtain ⟨u, i, j, h1, h2, rfl⟩ := bnd_inv h
        simp only [ret, R.ok.injEq] at h2
        rw [← h2.1]; exact .inr rfl
      split at h
      · obtain ⟨u, i, j, h1, h2, rfl⟩ := bnd_inv h
        obtain ⟨a, i2, j2, h3, h4, rfl⟩ := bnd_inv h2
        simp only [ret, R.ok.injEq] at h4
        rw [← h4.1]; exact .inr rfl
      · obtain ⟨u, i, j, h1, h2, rfl⟩ := bnd_inv h
        obtain ⟨a, i2, j2, h3, h4, rfl⟩ := bnd_inv h2
        simp only [ret, R.ok.injEq] at h4
        rw [← h4.1]; exact .inl rfl
    · cases h
theorem op_parts {o : OpD} (h : o.kind = 2 ∨ o.text = none0) : o.text.size ≤ (pOp o).length ∧ ∀ y ∈ o.attrs, y.1.size ≤ (pOp o).length ∧ y.2.size ≤ (pOp o).length := by
  have e : (pOp o).length = 1 + (pKind o).length + (pAttrs o.attrs).length := by simp [pOp]; omega
  refine ⟨?_, fun y hy => by have := attrs_parts o.attrs y hy; omega⟩
  rcases h with h | h
  · have := len_qt o.text.data.toList
    have e2 : (pKind o).length = 1 + (qt o.text.data.toList).length := by simp [pKind, h]; omega
    rw [size_data]; omega
  · rw [h]; exact Nat.zero_le _
theorem ops_text (f : Nat) : ∀ {l : List UInt8} {v : List OpD} {n : Nat}, ops f l = .ok v n → ∀ o ∈ v, o.kind = 2 ∨ o.text = none0 := by
  induction f with
  | zero => intro l v n h; cases h
  | succ f ih =>
    intro l v n h
    unfold ops at h
    split at h
    · simp only [R.ok.injEq] at h
      rw [← h.1]; intro o ho; cases ho
    · obtain ⟨u, i, j, h1, h2, rfl⟩ := bnd_inv h
      obtain ⟨o, i2, j2, h3, h4, rfl⟩ := bnd_inv h2
      obtain ⟨r, i3, j3, h5, h6, rfl⟩ := bnd_inv h4
      simp only [ret, R.ok.injEq] at h6
      rw [← h6.1]
      intro x hx
      rcases List.mem_cons.1 hx with rfl | hx
      · exact op_text h3
      · exact ih h5 x hx
theorem flat_le {l : List OpD} {o : OpD} (h : o ∈ l) : (pOp o).length ≤ (l.flatMap pOp).length := by
  induction l with
  | nil => cases h
  | cons x l ih =>
    simp only [List.flatMap_cons, List.length_append]
    rcases List.mem_cons.1 h with rfl | h
    · omega
    · have := ih h; omega
/-- What is read is no longer than the text. -/
theorem change_parts {l : List UInt8} {c : Nat × List OpD} {n : Nat} (h : change l = .ok c n) : c.2.length ≤ l.length ∧ ∀ o ∈ c.2, o.text.size ≤ l.length ∧ ∀ y ∈ o.attrs, y.1.size ≤ l.length ∧ y.2.size ≤ l.length := by
  have h1 := change_says h
  have h2 : (c.2.flatMap pOp).length ≤ l.length := by rw [← h1]; simp [pCh]
  have h3 : ∀ o ∈ c.2, o.kind = 2 ∨ o.text = none0 := by
    obtain ⟨u, i, j, h1, h2, rfl⟩ := bnd_inv h
    obtain ⟨r, i2, j2, h3, h4, rfl⟩ := bnd_inv h2
    simp only [ret, R.ok.injEq] at h4
    rw [← h4.1]; exact ops_text _ h3
  refine ⟨Nat.le_trans (pOp_len _) h2, fun o ho => ?_⟩
  have a := op_parts (h3 o ho)
  have b := flat_le ho
  exact ⟨by omega, fun y hy => by have := a.2 y hy; omega⟩
end Sp

abbrev CS : List TypeId := [RT, 24]
theorem enters_Parse1 (args : Array Value) (W : World) : (callFunc 46 args).run Tryz.prog W = .ok (.enter 46 args) W := enters_of Tryz.func46 (by kernel_rfl) (by rfl) args W
set_option maxHeartbeats 4000000 in
theorem changeClos_ok (b t : Nat) (s : ByteArray) (c : Nat × List OpD) (n : Nat) (w : World) (h : RdAt w b s 0) (ht : w.heap[t]? = some zeroC) (hbt : b ≤ t) (hz : s.size ≤ 262144) (hy : Syn w) (hyb : 3 < b) (hq : Sp.change s.data.toList = .ok c n) :
    Calls Tryz.prog 46 #[.pointer (some ⟨b, 0, none⟩), .pointer (some ⟨t, 0, none⟩)] w fun e w' => e = .returned (.tuple #[]) ∧ ∃ v, w'.heap[t]? = some (.cells #[.int .i64 c.1, v] 24 (0, 0)) ∧ OwnOps w' w.heap.size v c.2 ∧ Keep b CS w w' := by
  have HQ := Lib.hid (rdChange_any b s 0 w h hz hy hyb)
  have Ht := Lib.hid ht
  have e0 : rst s 0 = s.data.toList := rfl
  rw [e0, hq] at HQ
  clear h ht hy e0 hq
  go_enter Tryz.func46, Tryz.ntmps46
  go_wp2_with fail
  refine HQ.out.mono ?_
  rintro e w1 ⟨_, rfl, ⟨v, rfl, hv⟩, hat, hk⟩
  have Hk := Lib.hid hk
  have Hv := Lib.hid hv
  obtain ⟨va, vc, rfl⟩ := hv.row.shape
  have t1 := hk.kept _ _ _ _ Ht.out (by decide)
  have Ht1 := Lib.hid t1
  have g0 := Joins.unfrozen_of_block t1 0
  have g1 := Joins.unfrozen_of_block t1 1
  have y0 := (Lib.cell_of_heap t1 0).trans (show _ = some _ from rfl)
  have y1 := (Lib.cell_of_heap t1 1).trans (show _ = some _ from rfl)
  clear hat hk t1 hv
  go_wp2_with fail
  first | go_end0 | refine bodyPost_ret (results_none rfl _ _ _) rfl ?_
  have F1 := Joins.block_setCell (i := 0) Ht1.out (.int .i64 c.1)
  have F2 := Joins.block_setCell (i := 1) F1 (.slice va c.2.length vc)
  have KF : Keep b [24] w1 ((w1.setCell ⟨t, 0, none⟩ (.int .i64 c.1)).setCell ⟨t, 1, none⟩ (.slice va c.2.length vc)) := (set_keep (i := 0) Ht1.out hbt (.int .i64 c.1)).trans (set_keep (i := 1) F1 hbt (.slice va c.2.length vc))
  obtain ⟨ps, hps, hp⟩ := Hv.out
  exact ⟨rfl, _, F2, ⟨ps, hps, hp.keep KF (by decide) (by decide)⟩, (Hk.out.more (by simp)).trans (KF.more (by simp))⟩
theorem changeClos_bad (b t : Nat) (s : ByteArray) (k : Nat) (w : World) (h : RdAt w b s 0) (hz : s.size ≤ 262144) (hy : Syn w) (hyb : 3 < b) (hq : Sp.change s.data.toList = .bad k) :
    Calls Tryz.prog 46 #[.pointer (some ⟨b, 0, none⟩), .pointer (some ⟨t, 0, none⟩)] w fun e w' => e = thrown k ∧ Keep b CS w w' := by
  have HQ := Lib.hid (rdChange_any b s 0 w h hz hy hyb)
  have e0 : rst s 0 = s.data.toList := rfl
  rw [e0, hq] at HQ
  clear h hy e0 hq
  go_enter Tryz.func46, Tryz.ntmps46
  go_wp2_with fail
  refine HQ.out.mono ?_
  rintro e w1 ⟨rfl, hk⟩
  rw [Nat.zero_add]
  exact ⟨rfl, rfl, hk.more (by simp)⟩
end Go.Proofs.YtadookafnfnaoaaGreatDoor
/- Parse, walked. -/
namespace Go.Proofs.YtadookafnfnaoaaGreatDoor
open Go.RowKit Ch

def ParseOut (w : World) (s : ByteArray) (e : Ending) (w' : World) : Prop :=
  ∃ v, e = .returned (.tuple #[chAgg (Sp.parseF s.data.toList).fr v, .agg #[.int .i64 (Sp.parseF s.data.toList).code, .int .i64 (Sp.parseF s.data.toList).at_]]) ∧ OwnOps w' w.heap.size v (Sp.parseF s.data.toList).ops ∧ Below w.heap.size w w'

theorem parseF_long {s : ByteArray} (h : (262144 : Int) < s.size) : Sp.parseF s.data.toList = ⟨2, -1, 0, []⟩ := by unfold Sp.parseF; exact if_pos (by show 262144 < s.size; omega)
theorem parseF_go {s : ByteArray} (h : ¬ (262144 : Int) < s.size) : Sp.parseF s.data.toList = Sp.parseR (Sp.change s.data.toList) := by unfold Sp.parseF; exact if_neg (by show ¬ 262144 < s.size; omega)
theorem parseR_err {c : Nat × List OpD} {n : Nat} (h : toE c.1 c.2 ≠ 0) : Sp.parseR (.ok c n) = ⟨toE c.1 c.2, -1, 0, []⟩ := if_pos h
theorem parseR_odd {c : Nat × List OpD} {n : Nat} (h : toE c.1 c.2 = 0) (h2 : c.2 ≠ norm c.2) : Sp.parseR (.ok c n) = ⟨40, -1, 0, []⟩ := by unfold Sp.parseR; simp only; rw [if_neg (by simpa using h), if_neg h2]
theorem parseR_ok {c : Nat × List OpD} {n : Nat} (h : toE c.1 c.2 = 0) (h2 : c.2 = norm c.2) : Sp.parseR (.ok c n) = ⟨0, 0, c.1, c.2⟩ := by unfold Sp.parseR; simp only; rw [if_neg (by simpa using h), if_pos h2]
theorem ownOps_nil (w : World) (B : Nat) : OwnOps w B (.slice none 0 0) [] := ⟨[], rfl, OwnP.empty w B⟩
theorem set2_below {B : Nat} {a w : World} (h : Below B a w) {g : Nat} (hg : B ≤ g) (x y : Value) : Below B a ((w.setCell ⟨g, 0, none⟩ x).setCell ⟨g, 1, none⟩ y) := (h.setCell (p := ⟨g, 0, none⟩) hg x).setCell (p := ⟨g, 1, none⟩) hg y

set_option maxHeartbeats 8000000 in
theorem parse_any (s : ByteArray) (w : World) (hz : s.size ≤ maxLen) (hy : Syn w) (hyb : 3 < w.heap.size) :
    Calls Tryz.prog 19 #[.string s] w (ParseOut w s) := by
  have hz' : s.size ≤ 9223372036854775807 := hz
  by_cases hbig : (262144 : Int) < (s.size : Int)
  · have HE := Lib.hid (parseF_long hbig)
    go_enter Tryz.func19, Tryz.ntmps19
    go_wp2_with fail
    refine bodyPost_ret (v := .tuple #[chAgg 0 (.slice none 0 0), .agg #[.int .i64 2, .int .i64 (-1)]]) (by simp [results, Tryz.results19, go_sem]) rfl ?_
    rw [ParseOut, HE.out]
    exact ⟨_, rfl, ownOps_nil _ _, below_alloc (below_box _ _) (Nat.le_refl _) _⟩
  · have hmf : ∀ (fn : Fn) (first cap : Array Value) (w : World), (Instr.makeFunc fn first cap).run Tryz.prog w = .ok (.func fn first cap) w := fun _ _ _ _ => rfl
    have HG := Lib.hid (parseF_go hbig)
    have hsz : s.size ≤ 262144 := by omega
    obtain ⟨X, hX⟩ : ∃ X, X = (((w.alloc zeroC).alloc zeroF).alloc (.cells #[.string s, .int .i64 0] 72)).alloc zeroC := ⟨_, rfl⟩
    have sX : X.heap.size = w.heap.size + 4 := by rw [hX]; simp
    have f0 : X.heap[w.heap.size]? = some zeroC := by
      rw [hX, Lib.alloc_old _ _ _ (by simp <;> omega), Lib.alloc_old _ _ _ (by simp <;> omega), Lib.alloc_old _ _ _ (by simp)]; exact heap_new w _
    have f1 : X.heap[w.heap.size + 1]? = some zeroF := by
      rw [hX, Lib.alloc_old _ _ _ (by simp <;> omega), Lib.alloc_old _ _ _ (by simp)]; have := heap_new (w.alloc zeroC) zeroF; simpa using this
    have f2 : X.heap[w.heap.size + 2]? = some (.cells #[.string s, .int .i64 0] 72 (0, 0)) := by
      rw [hX, Lib.alloc_old _ _ _ (by simp)]; have := heap_new ((w.alloc zeroC).alloc zeroF) (.cells #[.string s, .int .i64 0] 72); simpa using this
    have f3 : X.heap[w.heap.size + 3]? = some zeroC := by
      rw [hX]; have := heap_new (((w.alloc zeroC).alloc zeroF).alloc (.cells #[.string s, .int .i64 0] 72)) zeroC; simpa using this
    have bX : Below w.heap.size w X := by rw [hX]; exact ((((Below.refl _ _).alloc (Nat.le_refl _) _).alloc (by simp) _).alloc (by simp <;> omega) _).alloc (by simp <;> omega) _
    have KX : Keep (w.heap.size + 2) CS X (X.alloc zeroF) := keep_below (below_box X zeroF) (by omega)
    have hat : RdAt (X.alloc zeroF) (w.heap.size + 2) s 0 := ⟨(Lib.alloc_old X _ _ (by omega)).trans f2, Nat.zero_le _, hz⟩
    have ht : (X.alloc zeroF).heap[w.heap.size + 3]? = some zeroC := (Lib.alloc_old X _ _ (by omega)).trans f3
    have hg : (X.alloc zeroF).heap[X.heap.size]? = some zeroF := heap_new X zeroF
    have hyX : Syn (X.alloc zeroF) := hy.keep (Keep.trans ⟨bX, fun i o hi _ => (bX.block i (lt_of_heap hi)).trans hi⟩ (keep_below (ts := []) (below_box X zeroF) (Nat.le_trans (Nat.le_of_eq rfl) bX.size))) hyb
    have HX := Lib.hid hX
    have BX := Lib.hid bX
    have F0 := Lib.hid f0
    have F1 := Lib.hid f1
    cases hq : Sp.change s.data.toList with
    | bad k =>
      have HC := Lib.hid (caught_bad 46 #[.pointer (some ⟨w.heap.size + 1 + 1, 0, none⟩), .pointer (some ⟨w.heap.size + 1 + 1 + 1, 0, none⟩)] enters_Parse1 X k (fun w1 => Keep (w.heap.size + 2) CS X w1)
        ((changeClos_bad (w.heap.size + 2) (w.heap.size + 3) s k (X.alloc zeroF) hat hsz hyX (by omega) hq).mono fun e w1 ⟨h1, h2⟩ => ⟨h1, h2.kept _ _ _ _ hg (by decide), KX.trans h2⟩))
      have HE := Lib.hid (show Sp.parseF s.data.toList = ⟨40, k, 0, []⟩ by rw [HG.out, hq]; rfl)
      clear hX f0 f1 f2 f3 bX KX hat ht hg hq hyX hy
      go_enter Tryz.func19, Tryz.ntmps19
      go_wp2_with fail
      rw [← HX.out]
      refine HC.out.mono ?_
      rintro e w2 ⟨rfl, w1, k1, g1, rfl⟩
      have f1 := (put2_heap w1 X.heap.size (w.heap.size + 1) (.int .i64 40) (.int .i64 k) (by omega)).trans (k1.kept _ _ _ _ F1.out (by decide))
      have f0 := (put2_heap w1 X.heap.size w.heap.size (.int .i64 40) (.int .i64 k) (by omega)).trans ((k1.below.block _ (by omega)).trans F0.out)
      have B1 := Lib.hid (put2_below (BX.out.trans (k1.below.mono (by omega))) (show w.heap.size ≤ X.heap.size by omega) (.int .i64 40) (.int .i64 k))
      generalize put2 w1 X.heap.size (.int .i64 40) (.int .i64 k) = V at *
      have e0 := (Lib.cell_of_heap f0 0).trans (show _ = some _ from rfl)
      have e1 := (Lib.cell_of_heap f0 1).trans (show _ = some _ from rfl)
      have g0 := Joins.unfrozen_of_block f0 0
      have g1 := Joins.unfrozen_of_block f0 1
      have e2 := (Lib.cell_of_heap f1 0).trans (show _ = some _ from rfl)
      have e3 := (Lib.cell_of_heap f1 1).trans (show _ = some _ from rfl)
      have g2 := Joins.unfrozen_of_block f1 0
      have g3 := Joins.unfrozen_of_block f1 1
      have hlt0 := lt_of_heap f0
      have hlt1 := lt_of_heap f1
      clear k1 f0 f1
      go_wp2_with fail
      go_region
      go_wp2_with fail
      refine bodyPost_ret (v := .tuple #[chAgg 0 (.slice none 0 0), .agg #[.int .i64 40, .int .i64 k]]) (by simp [results, Tryz.results19, go_sem, e0, e1, e2, e3, hlt0, hlt1]) rfl ?_
      rw [ParseOut, HE.out]
      exact ⟨_, rfl, ownOps_nil _ _, Below.drew (below_alloc (set2_below (set2_below B1.out (Nat.le_refl _) _ _) (Nat.le_succ _) _ _) (Nat.le_refl _) _)⟩
    | ok c n =>
      have hyC := Lib.hid hyX
      have HC := Lib.hid (caught_ok 46 #[.pointer (some ⟨w.heap.size + 1 + 1, 0, none⟩), .pointer (some ⟨w.heap.size + 1 + 1 + 1, 0, none⟩)] enters_Parse1 X (fun w1 => ∃ v, w1.heap[w.heap.size + 3]? = some (.cells #[.int .i64 c.1, v] 24 (0, 0)) ∧ OwnOps w1 (X.alloc zeroF).heap.size v c.2 ∧ Keep (w.heap.size + 2) CS X w1)
        ((changeClos_ok (w.heap.size + 2) (w.heap.size + 3) s c n (X.alloc zeroF) hat ht (by omega) hsz hyX (by omega) hq).mono fun e w1 ⟨h1, v, h2, h3, h4⟩ => ⟨h1, h4.kept _ _ _ _ hg (by decide), v, h2, h3, KX.trans h4⟩))
      have HE := Lib.hid (show Sp.parseF s.data.toList = Sp.parseR (.ok c n) by rw [HG.out, hq])
      have HPt := Lib.hid (Sp.change_parts hq)
      clear hX f0 f1 f2 f3 bX KX hat ht hg hq hyX hy
      go_enter Tryz.func19, Tryz.ntmps19
      go_wp2_with fail
      rw [← HX.out]
      refine HC.out.mono ?_
      rintro e w2 ⟨rfl, w1, ⟨v, q3, o1, k1⟩, g1, rfl⟩
      have f1 := (put2_heap w1 X.heap.size (w.heap.size + 1) (.int .i64 0) (.int .i64 0) (by omega)).trans (k1.kept _ _ _ _ F1.out (by decide))
      have f0 := (put2_heap w1 X.heap.size w.heap.size (.int .i64 0) (.int .i64 0) (by omega)).trans ((k1.below.block _ (by omega)).trans F0.out)
      have f3 := (put2_heap w1 X.heap.size (w.heap.size + 3) (.int .i64 0) (.int .i64 0) (by omega)).trans q3
      have B1 := Lib.hid (put2_below (BX.out.trans (k1.below.mono (by omega))) (show w.heap.size ≤ X.heap.size by omega) (.int .i64 0) (.int .i64 0))
      have KP : Keep w.heap.size [34] w1 (put2 w1 X.heap.size (.int .i64 0) (.int .i64 0)) := (set_keep (i := 0) g1 (show w.heap.size ≤ X.heap.size by omega) (.int .i64 0)).trans (set_keep (i := 1) (Joins.block_setCell (i := 0) g1 (.int .i64 0)) (show w.heap.size ≤ X.heap.size by omega) (.int .i64 0))
      obtain ⟨ps, hps, hp⟩ := o1
      have OV := Lib.hid (show OwnOps (put2 w1 X.heap.size (.int .i64 0) (.int .i64 0)) w.heap.size v c.2 from ⟨ps, hps, (hp.keep KP (by decide) (by decide)).base (show w.heap.size ≤ (X.alloc zeroF).heap.size by simp; omega)⟩)
      clear KP hp k1 q3 hps
      generalize put2 w1 X.heap.size (.int .i64 0) (.int .i64 0) = V at *
      obtain ⟨va, vc, rfl⟩ := OV.out.row.shape
      have G0 := Lib.hid f0
      have G1 := Lib.hid f1
      have G3 := Lib.hid f3
      have hlt0 := lt_of_heap f0
      have hlt1 := lt_of_heap f1
      have hlt3 := lt_of_heap f3
      have hn0 : w.heap.size ≠ V.heap.size := by omega
      have hn1 : w.heap.size + 1 ≠ V.heap.size := by omega
      have hn3 : w.heap.size + 1 + 1 + 1 ≠ V.heap.size := by omega
      have c0 : V.cell? ⟨w.heap.size + 1 + 1 + 1, 0, none⟩ = some (.int .i64 c.1) := (Lib.cell_of_heap f3 0).trans rfl
      have c1 : V.cell? ⟨w.heap.size + 1 + 1 + 1, 1, none⟩ = some (.slice va c.2.length vc) := (Lib.cell_of_heap f3 1).trans rfl
      obtain ⟨Y, hY⟩ : ∃ Y, Y = V.alloc zeroF := ⟨_, rfl⟩
      have bY := show Below V.heap.size V Y by rw [hY]; exact below_box _ _
      have HY := Lib.hid hY
      have sY : Y.heap.size = V.heap.size + 1 := by rw [hY]; simp
      have B2 := Lib.hid (B1.out.trans (bY.mono (Nat.le_of_lt hlt0)))
      have OY := Lib.hid (OV.out.below bY)
      clear f0 f1 f3 g1 hY bY
      have hoz : OSized c.2 := fun o ho => by
        obtain ⟨h1, h2⟩ := HPt.out.2 o ho
        have hl : s.data.toList.length = s.size := rfl
        refine ⟨by unfold maxLen; omega, fun y hy => ?_⟩
        have := h2 y hy
        unfold maxLen; omega
      by_cases he : toE c.1 c.2 = 0
      · have HN := Lib.hid (normal_ok c.1 _ c.2 Y OY.out.row hoz he)
        go_wp2_with fail
        rw [← HY.out]
        refine HN.out.mono ?_
        rintro e w3 ⟨v3, rfl, o3, b3⟩
        obtain ⟨na, nc, rfl⟩ := o3.row.shape
        have O3 := Lib.hid o3
        have OC3 := Lib.hid (OY.out.below b3)
        have hs3 := b3.size
        have B3 := Lib.hid (B2.out.trans (b3.mono (by omega)))
        have bV3 : Below V.heap.size V w3 := by have := (show Below V.heap.size V Y by rw [HY.out]; exact below_box _ _); exact this.trans (b3.mono (by omega))
        obtain ⟨Z, hZ⟩ : ∃ Z, Z = w3.alloc (.cells #[.int .i64 c.1, .slice na (norm c.2).length nc] 24) := ⟨_, rfl⟩
        have bZ := show Below w3.heap.size w3 Z by rw [hZ]; exact below_box _ _
        have HZ := Lib.hid hZ
        have sZ : Z.heap.size = w3.heap.size + 1 := by rw [hZ]; simp
        have n0 : w3.cell? ⟨w.heap.size + 1 + 1 + 1, 0, none⟩ = some (.int .i64 c.1) := (bV3.cell (by exact hlt3)).trans c0
        have n1 : w3.cell? ⟨w.heap.size + 1 + 1 + 1, 1, none⟩ = some (.slice va c.2.length vc) := (bV3.cell (by exact hlt3)).trans c1
        have hlt33 : w.heap.size + 1 + 1 + 1 ≠ w3.heap.size := by omega
        have hlt34 : w.heap.size + 1 + 1 + 1 < w3.heap.size := by omega
        have HS := Lib.hid (changeSame_any c.1 c.1 (.slice va c.2.length vc) (.slice na (norm c.2).length nc) c.2 (norm c.2) Z (OC3.out.row.below bZ) (o3.row.below bZ))
        have OZ := Lib.hid (o3.below bZ)
        have BVZ := Lib.hid (bV3.trans (bZ.mono (by omega)))
        have BZ := Lib.hid (B3.out.trans (bZ.mono (by omega)))
        have zn := Lib.hid (show Z.heap[w3.heap.size]? = some (.cells #[.int .i64 c.1, .slice na (norm c.2).length nc] 24 (0, 0)) by rw [hZ]; exact heap_new _ _)
        clear o3 b3 bV3 hZ bZ
        go_wp2_with fail
        rw [← HZ.out]
        refine HS.out.mono ?_
        rintro e w4 ⟨rfl, b4⟩
        have hs4 := b4.size
        have bVz := BVZ.out.trans (b4.mono (by omega))
        have B4 := Lib.hid (BZ.out.trans (b4.mono (by omega)))
        have O4 := Lib.hid (OZ.out.below b4)
        have z4 := (b4.block _ (lt_of_heap zn.out)).trans zn.out
        by_cases hn : c.2 = norm c.2
        · have HE2 := Lib.hid (HE.out.trans (parseR_ok he hn))
          have ht : sameCh c.1 c.1 c.2 (norm c.2) = true := decide_eq_true ⟨rfl, hn⟩
          rw [ht]
          have f0 := (bVz.block _ hlt0).trans G0.out
          have f1 := (bVz.block _ hlt1).trans G1.out
          have e0 := (Lib.cell_of_heap f0 0).trans (show _ = some _ from rfl)
          have e1 := (Lib.cell_of_heap f0 1).trans (show _ = some _ from rfl)
          have g0 := Joins.unfrozen_of_block f0 0
          have g1 := Joins.unfrozen_of_block f0 1
          have e2 := (Lib.cell_of_heap f1 0).trans (show _ = some _ from rfl)
          have e3 := (Lib.cell_of_heap f1 1).trans (show _ = some _ from rfl)
          have g2 := Joins.unfrozen_of_block f1 0
          have g3 := Joins.unfrozen_of_block f1 1
          have hl0 := lt_of_heap f0
          have hl1 := lt_of_heap f1
          have m0 : w4.cell? ⟨w3.heap.size, 0, none⟩ = some (.int .i64 c.1) := (Lib.cell_of_heap z4 0).trans rfl
          have m1 : w4.cell? ⟨w3.heap.size, 1, none⟩ = some (.slice na (norm c.2).length nc) := (Lib.cell_of_heap z4 1).trans rfl
          have KZ := Lib.hid (((set_keep (b := w.heap.size) (i := 0) f0 (Nat.le_refl _) (.int .i64 c.1)).trans (set_keep (b := w.heap.size) (i := 1) (Joins.block_setCell (i := 0) f0 (.int .i64 c.1)) (Nat.le_refl _) (.slice na (norm c.2).length nc))))
          have f1' : ((w4.setCell ⟨w.heap.size, 0, none⟩ (.int .i64 c.1)).setCell ⟨w.heap.size, 1, none⟩ (.slice na (norm c.2).length nc)).heap[w.heap.size + 1]? = some zeroF := by rw [Below.heap_setCell _ _ _ _ (by simp), Below.heap_setCell _ _ _ _ (by simp)]; exact f1
          have KZ2 := Lib.hid (((set_keep (b := w.heap.size) (i := 0) f1' (Nat.le_succ _) (.int .i64 0)).trans (set_keep (b := w.heap.size) (i := 1) (Joins.block_setCell (i := 0) f1' (.int .i64 0)) (Nat.le_succ _) (.int .i64 0))))
          have Hn := Lib.hid hn
          clear b4 bVz f0 f1 z4 hn he ht f1'
          go_wp2_with fail
          refine bodyPost_ret (v := .tuple #[chAgg c.1 (.slice na (norm c.2).length nc), .agg #[.int .i64 0, .int .i64 0]]) (by simp [results, Tryz.results19, go_sem, e0, e1, e2, e3]) rfl ?_
          rw [ParseOut, HE2.out]
          obtain ⟨ps, hps, hp⟩ := O4.out
          exact ⟨_, rfl, ⟨ps, hps.trans Hn.out.symm, ((hp.keep KZ.out (by decide) (by decide)).keep KZ2.out (by decide) (by decide)).base (by omega)⟩, set2_below (set2_below B4.out (Nat.le_refl _) _ _) (Nat.le_succ _) _ _⟩
        · have HE2 := Lib.hid (HE.out.trans (parseR_odd he hn))
          have ht : sameCh c.1 c.1 c.2 (norm c.2) = false := decide_eq_false fun h => hn h.2
          rw [ht]
          have f0 := (bVz.block _ hlt0).trans G0.out
          have f1 := (bVz.block _ hlt1).trans G1.out
          have e0 := (Lib.cell_of_heap f0 0).trans (show _ = some _ from rfl)
          have e1 := (Lib.cell_of_heap f0 1).trans (show _ = some _ from rfl)
          have g0 := Joins.unfrozen_of_block f0 0
          have g1 := Joins.unfrozen_of_block f0 1
          have e2 := (Lib.cell_of_heap f1 0).trans (show _ = some _ from rfl)
          have e3 := (Lib.cell_of_heap f1 1).trans (show _ = some _ from rfl)
          have g2 := Joins.unfrozen_of_block f1 0
          have g3 := Joins.unfrozen_of_block f1 1
          have hl0 := lt_of_heap f0
          have hl1 := lt_of_heap f1
          clear b4 bVz f0 f1 z4 hn he ht
          go_wp2_with fail
          refine bodyPost_ret (v := .tuple #[chAgg 0 (.slice none 0 0), .agg #[.int .i64 40, .int .i64 (-1)]]) (by simp [results, Tryz.results19, go_sem, e0, e1, e2, e3]) rfl ?_
          rw [ParseOut, HE2.out]
          exact ⟨_, rfl, ownOps_nil _ _, set2_below (set2_below B4.out (Nat.le_refl _) _ _) (Nat.le_succ _) _ _⟩
      · have HN := Lib.hid (normal_bad c.1 _ c.2 Y OY.out.row hoz he)
        have HE2 := Lib.hid (HE.out.trans (parseR_err he))
        have hb : (toE c.1 c.2 == 0) = false := by rw [beq_eq_false_iff_ne]; exact he
        go_wp2_with fail
        rw [← HY.out]
        refine HN.out.mono ?_
        rintro e w3 ⟨rfl, b3⟩
        have hs3 := b3.size
        have B3 := Lib.hid (B2.out.trans (b3.mono (by omega)))
        have bV3 : Below V.heap.size V w3 := by have := (show Below V.heap.size V Y by rw [HY.out]; exact below_box _ _); exact this.trans (b3.mono (by omega))
        have f0 := (bV3.block _ hlt0).trans G0.out
        have f1 := (bV3.block _ hlt1).trans G1.out
        have e0 := (Lib.cell_of_heap f0 0).trans (show _ = some _ from rfl)
        have e1 := (Lib.cell_of_heap f0 1).trans (show _ = some _ from rfl)
        have g0 := Joins.unfrozen_of_block f0 0
        have g1 := Joins.unfrozen_of_block f0 1
        have e2 := (Lib.cell_of_heap f1 0).trans (show _ = some _ from rfl)
        have e3 := (Lib.cell_of_heap f1 1).trans (show _ = some _ from rfl)
        have g2 := Joins.unfrozen_of_block f1 0
        have g3 := Joins.unfrozen_of_block f1 1
        have hl0 := lt_of_heap f0
        have hl1 := lt_of_heap f1
        have hm0 : w.heap.size ≠ w3.heap.size := by omega
        have hm1 : w.heap.size + 1 ≠ w3.heap.size := by omega
        clear b3 bV3 f0 f1 he
        go_wp2_with fail
        refine bodyPost_ret (v := .tuple #[chAgg 0 (.slice none 0 0), .agg #[.int .i64 (toE c.1 c.2), .int .i64 (-1)]]) (by simp [results, Tryz.results19, go_sem, e0, e1, e2, e3, hl0, hl1]) rfl ?_
        rw [ParseOut, HE2.out]
        exact ⟨_, rfl, ownOps_nil _ _, below_alloc (set2_below (set2_below B3.out (Nat.le_refl _) _ _) (Nat.le_succ _) _ _) (Nat.le_refl _) _⟩
end Go.Proofs.YtadookafnfnaoaaGreatDoor
/- The law's own Keep, Put, Cut. -/
namespace Go.Proofs.YtadookafnfnaoaaGreatDoor
open Go.RowKit Ch

def OutV (w : World) (v : Value) (e : Ending) (w' : World) : Prop := e = .returned v ∧ Below w.heap.size w w'
set_option maxRecDepth 100000 in
set_option maxHeartbeats 1000000 in
theorem lawKeep_any (n : Int) (w : World) : Calls Tryz.prog 27 #[.int .i64 n, .slice none 0 0] w (OutV w (opAgg ⟨1, n, ⟨#[]⟩, []⟩ (.slice none 0 0))) := by
  go_enter Tryz.func27, Tryz.ntmps27
  go_wp2_with fail
  exact bodyPost_ret (v := opAgg ⟨1, n, ⟨#[]⟩, []⟩ (.slice none 0 0)) (by simp [results, Tryz.results27, go_sem]) rfl ⟨rfl, below_box _ _⟩
set_option maxRecDepth 100000 in
set_option maxHeartbeats 1000000 in
theorem lawCut_any (n : Int) (w : World) : Calls Tryz.prog 28 #[.int .i64 n] w (OutV w (opAgg ⟨3, n, ⟨#[]⟩, []⟩ (.slice none 0 0))) := by
  go_enter Tryz.func28, Tryz.ntmps28
  go_wp2_with fail
  exact bodyPost_ret (v := opAgg ⟨3, n, ⟨#[]⟩, []⟩ (.slice none 0 0)) (by simp [results, Tryz.results28, go_sem]) rfl ⟨rfl, below_box _ _⟩
set_option maxRecDepth 100000 in
set_option maxHeartbeats 1000000 in
theorem lawPut_any (s : ByteArray) (w : World) : Calls Tryz.prog 26 #[.string s, .slice none 0 0] w (OutV w (opAgg ⟨2, 0, s, []⟩ (.slice none 0 0))) := by
  go_enter Tryz.func26, Tryz.ntmps26
  go_wp2_with fail
  exact bodyPost_ret (v := opAgg ⟨2, 0, s, []⟩ (.slice none 0 0)) (by simp [results, Tryz.results26, go_sem]) rfl ⟨rfl, below_box _ _⟩

theorem opRow_new (w : World) (ps : List (OpD × Value)) (h : ∀ p ∈ ps, p.1.attrs = [] ∧ p.2 = .slice none 0 0) (hm : ps.length ≤ maxLen) :
    OpRow (w.alloc (.cells (flatO ps).toArray 48)) (.slice (some ⟨w.heap.size, 0, none⟩) ps.length ps.length) (ps.map (·.1)) := by
  refine OwnP.row (B := w.heap.size) ⟨⟨flatO_len ps, .inr ⟨w.heap.size, ps.length, (flatO ps).toArray, rfl, Nat.le_refl _, heap_new _ _, Nat.le_refl _, hm, by simp [flatO_len], ?_⟩⟩, fun p hp => ?_⟩
  · rw [List.take_of_length_le (by simp [flatO_len])]
  · obtain ⟨h1, h2⟩ := h p hp
    rw [h1, h2]
    exact World.ownsRow_nil _ _ _ _
end Go.Proofs.YtadookafnfnaoaaGreatDoor
