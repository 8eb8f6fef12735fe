/- Texts of this seat, put together: Dn, Di. -/
import Derived.Test.YtlfodemmdfaeeaaGreatDoorGD2
import Derived.Shelf.Abstract
import Derived.OwnWalkIn
import Derived.TacticsInMore
import Derived.LoopNIn
import Derived.LoopIn
import Derived.Shelf.RegionOpen
/- The program's next: the cells that come next, told one by one. -/
namespace Go.Proofs.YtlfodemmdfaeeaaGreatDoor
open Go.RowKit Go.Shelf Rn Ch
attribute [local go_sem] Oper.semAt_some

/-- n cells on. -/
def adv : Nat → List RP × Nat → List RP × Nat
 | 0, s => s
 | n + 1, s => if s.1 = [] then s else adv n (nextPs s.1 s.2, nextK s.1 s.2)
def rem (s : List RP × Nat) : List CellV := (cellsP s.1).drop s.2
/-- A walk's place is one. -/
def Place (s : List RP × Nat) : Prop := (s.1 = [] ∧ s.2 = 0) ∨ ∃ p r, s.1 = p :: r ∧ s.2 < (rns p.1).length
theorem rem_nil {k : Nat} : rem ([], k) = [] := by simp [rem, cellsP]
theorem rem_cons {p : RP} {r : List RP} {k : Nat} (h : k < (rns p.1).length) : rem (p :: r, k) = ((rns p.1)[k], p) :: rem (nextPs (p :: r) k, nextK (p :: r) k) := by
 unfold rem
 simp only [cellsP_cons, nextPs, nextK]
 rw [List.drop_append_of_le_length (by rw [cellsR_len]; omega), List.drop_eq_getElem_cons (by rw [cellsR_len]; exact h), cellsR_at p k h, List.cons_append]
 congr 1
 by_cases he : k + 1 = (rns p.1).length
 ·rw [if_pos he, if_pos he, List.drop_of_length_le (by rw [cellsR_len]; omega)]; simp
 ·rw [if_neg he, if_neg he, cellsP_cons, List.drop_append_of_le_length (by rw [cellsR_len]; omega)]
theorem place_next {p : RP} {r : List RP} {k : Nat} (h : k < (rns p.1).length) (hr : ∀ q ∈ r, OkR q.1) : Place (nextPs (p :: r) k, nextK (p :: r) k) := by
 simp only [nextPs, nextK]
 by_cases he : k + 1 = (rns p.1).length
 ·rw [if_pos he, if_pos he]
  cases r with
  | nil => exact .inl ⟨rfl, rfl⟩
  | cons q r =>
    have := (hr q (List.mem_cons_self ..)).rns.2.2.1
    exact .inr ⟨q, r, rfl, List.length_pos_iff.2 this⟩
 ·rw [if_neg he, if_neg he]
  exact .inr ⟨p, r, rfl, by omega⟩
theorem adv_succ {n : Nat} {s : List RP × Nat} (h : s.1 ≠ []) : adv (n + 1) s = adv n (nextPs s.1 s.2, nextK s.1 s.2) := by rw [adv, if_neg h]
theorem adv_nil {n k : Nat} : adv n ([], k) = ([], k) := by cases n <;> simp [adv]
theorem adv_snoc (n : Nat) (s : List RP × Nat) : adv (n + 1) s = adv 1 (adv n s) := by
 induction n generalizing s with
 | zero => rfl
 | succ n ih =>
   by_cases h : s.1 = []
   ·obtain ⟨a, k⟩ := s
    simp only at h
    subst h
    simp only [adv_nil]
   ·rw [adv_succ h, adv_succ (n := n) h, ih]
theorem adv_one {p : RP} {r : List RP} {k : Nat} : adv 1 (p :: r, k) = (nextPs (p :: r) k, nextK (p :: r) k) := by simp [adv]
theorem adv_rem (n : Nat) (s : List RP × Nat) (hs : Place s) (ho : ∀ q ∈ s.1, OkR q.1) : Place (adv n s) ∧ (∀ q ∈ (adv n s).1, OkR q.1) ∧ rem (adv n s) = (rem s).drop n := by
 induction n with
 | zero => exact ⟨hs, ho, by simp [adv]⟩
 | succ n ih =>
   obtain ⟨h1, h2, h3⟩ := ih
   rw [adv_snoc]
   generalize adv n s = u at h1 h2 h3 ⊢
   obtain ⟨qs, k⟩ := u
   rcases h1 with ⟨e1, e2⟩ | ⟨p, r, e1, e2⟩
   ·simp only at e1 e2
    subst e1; subst e2
    rw [adv_nil]
    refine ⟨.inl ⟨rfl, rfl⟩, h2, ?_⟩
    rw [rem_nil] at h3 ⊢
    rw [← List.drop_drop, ← h3]; rfl
   ·simp only at e1 e2
    subst e1
    rw [adv_one]
    refine ⟨place_next e2 fun q hq => h2 q (List.mem_cons_of_mem _ hq), fun q hq => h2 q ?_, ?_⟩
    ·simp only [nextPs] at hq
     split at hq
     ·exact List.mem_cons_of_mem _ hq
     ·exact hq
    ·rw [rem_cons e2] at h3
     rw [← List.drop_drop, ← h3]; rfl
theorem adv_stop {i n : Nat} {s : List RP × Nat} (h : (adv i s).1 = []) (hn : i ≤ n) : adv n s = adv i s := by
 induction n with
 | zero => have : i = 0 := by omega
           rw [this]
 | succ n ih =>
   by_cases he : i = n + 1
   ·rw [he]
   ·rw [adv_snoc, ih (by omega), adv, if_pos h]
theorem boxed_keep {w w' : World} {b B : Nat} {t : TypeId} {v : Value} {ts : List TypeId} (h : Boxed w b t v) (hk : Keep B ts w w') (ht : t ∉ ts) : Boxed w' b t v := hk.kept _ _ _ _ h ht
theorem boxed_rnd {w w' : World} {b B N : Nat} {t : TypeId} {v : Value} {ts : List TypeId} (h : Boxed w b t v) (hk : Rnd B N ts w w') (ht : t ∉ ts) : Boxed w' b t v := hk.cells _ _ _ _ h ht
theorem WSt.place {K : World → World → Prop} {w : World} {b : Nat} {ps : List RP} {k : Nat} (h : WSt K w b ps k) : Place (ps, k) ∧ (∀ q ∈ ps, OkR q.1) := by
 obtain ⟨_, _, _, _, h3, h4⟩ := h
 refine ⟨?_, h3⟩
 rcases h4 with ⟨rfl, rfl, _⟩ | ⟨p, r, rfl, h, _⟩
 ·exact .inl ⟨rfl, rfl⟩
 ·exact .inr ⟨p, r, rfl, h⟩
/-- The cells of the walk's block. -/
theorem WSt.cells {K : World → World → Prop} {B : Nat} {w : World} {b : Nat} {ps : List RP} {k : Nat} (h : WSt K w b ps k) (hK : KOk B K) : ∃ a cap, w.cell? ⟨b, 0, none⟩ = some (.slice a ps.length cap) := by
 obtain ⟨lv, o, h1, h2, _⟩ := h
 obtain ⟨a, cap, rfl⟩ := (h2 w (hK.of_keep (Keep.refl _ _ _))).shape
 exact ⟨a, cap, (wblk_cells h1).1⟩

set_option maxRecDepth 100000 in
set_option maxHeartbeats 4000000 in
theorem next_iter (K : World → World → Prop) (B b mb wb : Nat) (ps : List RP) (k : Nat) (many : Int) (tB : List TypeId) (Kp : World → World → Prop) (Fr : World → Nat → Prop) (hKK : KOk B K) (hB : B ≤ b) (hm0 : many ≤ 1073741824) (ht : 92 ∉ tB) (htw : 134 ∉ tB)
 (hKp : ∀ {N : Nat} {x y : World}, Rnd B N tB x y → Kp x y → K x y) :
 Iter Tryz.prog 69 #[.pointer (some ⟨mb, 0, none⟩), .pointer (some ⟨wb, 0, none⟩)] (fun x : CellV => #[cellAgg x]) ((rem (ps, k)).take many.toNat) B WT [b] tB Kp Fr
  (fun W => Boxed W mb 3 (.int .i64 many) ∧ Boxed W wb 134 (.pointer (some ⟨b, 0, none⟩)) ∧ WSt K W b ps k ∧ U8s B W)
  (fun W => WSt K W b (adv many.toNat (ps, k)).1 (adv many.toNat (ps, k)).2) := by
 obtain ⟨xs, hxs⟩ : ∃ xs, xs = (rem (ps, k)).take many.toNat := ⟨_, rfl⟩
 rw [← hxs]
 have HXS := Lib.hid hxs
 clear hxs
 intro l J Jx W hBW ⟨hm, hw, hS, hU⟩ hJ hJx _ hY h0
 have hpl := hS.place
 have m0 := hm.cell
 refine callsIn_of_wp Tryz.func69 rfl trivial ?_ rfl
 simp only [Tryz.ntmps69, List.size_toArray, List.length_cons, List.length_nil, Nat.reduceAdd, Nat.reduceSub, Array.replicate_succ, Array.replicate_zero, List.push_toArray, List.append_toArray, List.nil_append, List.cons_append]
 gi_wp2
 gi_loopw [4] (fun p wr => ∃ i : Nat, p = .int .i64 (many - (i : Int)) ∧ i ≤ many.toNat ∧ i ≤ (rem (ps, k)).length ∧ WSt K wr b (adv i (ps, k)).1 (adv i (ps, k)).2 ∧ J i wr ∧ Boxed wr wb 134 (.pointer (some ⟨b, 0, none⟩)) ∧ U8s B wr) (fun p _ => (intOf p).toNat)
 case atStart => exact ⟨0, by simp, Nat.zero_le _, Nat.zero_le _, hS, h0, hw, hU⟩
 case round =>
  obtain ⟨i, rfl, hi1, hi2, hSi, hJi, hwi, hUi⟩ := hrel
  have w0 := hwi.cell
  obtain ⟨la, lc, c0⟩ := hSi.cells hKK
  obtain ⟨hp1, hp2, hp3⟩ := adv_rem i (ps, k) hpl.1 hpl.2
  have hst := fun h => adv_stop (i := i) (n := many.toNat) (s := (ps, k)) h hi1
  have hsn := adv_snoc i (ps, k)
  have hxl : xs.length = min many.toNat (rem (ps, k)).length := by rw [HXS.out]; exact List.length_take
  have hmm := hm0
  clear hm m0 hS hU h0 hw hm0
  by_cases hlt : 0 < many - (i : Int)
  ·generalize hq : adv i (ps, k) = u at hSi c0 hp1 hp2 hp3 hst hsn
   obtain ⟨qs, kk⟩ := u
   rcases hp1 with ⟨e1, e2⟩ | ⟨p, r, e1, e2⟩
   ·simp only at e1 e2
    subst e1; subst e2
    have hlen : (rem (ps, k)).length = i := by
     have := congrArg List.length hp3
     rw [rem_nil, List.length_drop, List.length_nil] at this
     omega
    have he : xs.length = i := by rw [hxl]; omega
    have H1 := Lib.hid hJi
    have H2 := Lib.hid hSi
    have H3 := Lib.hid he
    have H4 := Lib.hid (hst rfl)
    clear he hst hsn hxl hlen hJi hSi hY hJ hJx hKp hpl hp2 hp3 hq
    gi_wp2
    go_end0
    exact ⟨⟨_, rfl⟩, .inl ⟨by rw [H3.out]; exact H1.out, by rw [H4.out]; exact H2.out⟩⟩
   ·simp only at e1 e2
    subst e1
    have c1 : (0 : Int) < (r.length : Int) + 1 := by omega
    have hil : i < xs.length := by
     have := congrArg List.length hp3
     rw [rem_cons e2, List.length_drop, List.length_cons] at this
     rw [hxl]; omega
    have hx : xs[i] = ((rns p.1)[kk], p) := by
     simp only [HXS.out, List.getElem_take]
     have h1 : (rem (ps, k)).drop i = ((rns p.1)[kk], p) :: rem (nextPs (p :: r) kk, nextK (p :: r) kk) := by rw [← hp3, rem_cons e2]
     have h2 := congrArg (fun l => l[0]?) h1
     simp only [List.getElem?_drop, Nat.add_zero, List.getElem?_cons_zero] at h2
     exact (List.getElem?_eq_some_iff.1 h2).2
    have HT := Lib.hid (take_any K B b p r kk wr hKK hSi hB hUi e2)
    have HIL := Lib.hid hil
    have HY := Lib.hid (hY i hil)
    rw [hx] at HY
    have HJ := Lib.hid (fun w2 (h : Keep B WT wr w2) (ho : ∀ i, i < wr.heap.size → i ≠ b → w2.heap[i]? = wr.heap[i]?) => hJ i wr w2 hJi (step_of_keep h fun i hi hn o hio => (ho i (lt_of_heap hio) (fun e => hn (by rw [e]; exact List.mem_singleton.2 rfl))).trans hio))
    have HW := Lib.hid hwi
    have HU := Lib.hid hUi
    have HSN := Lib.hid hsn
    have hi3 : i + 1 ≤ (rem (ps, k)).length := by rw [hxl] at hil; omega
    clear hst hsn hxl hJi hSi hY hJ hJx hpl hp2 hp3 hil hx hwi hUi
    gi_wp2
    refine ⟨trivial, rfl, (callsIn_wide.2 HT.out).mono ?_⟩
    rintro e w2 ⟨rfl, hS2, hK2, hO2⟩
    obtain ⟨fn, tmps, assign, body, hy, hR⟩ := HY.out w2 (HJ.out w2 hK2 hO2)
    clear hO2
    have HS2 := Lib.hid hS2
    have HW2 := Lib.hid (boxed_keep HW.out hK2 (by decide))
    have HU2 := Lib.hid (HU.out.to hK2.below)
    have HR := Lib.hid hR
    have hwr := IntWalk.wrap64_in (many - (i : Int) - 1) (by omega)
    have hwr2 : IntKind.i64.wrap (many - (i : Int) - 1) = many - (i : Int) - 1 := IntWalk.i64_in _ (by omega)
    clear hS2 hK2 hR
    gi_wp2
    refine ⟨rfl, HR.out.mono ?_⟩
    rintro e W3 (⟨rfl, hJ3, hr3, hk3⟩ | ⟨rfl, hJx3, _⟩)
    ·have HJ3 := Lib.hid hJ3
     have HS3 := Lib.hid (HS2.out.keep hKK.trans (hKp hr3 hk3) (fun lv o h => hr3.cells _ _ _ _ h ht))
     have HW3 := Lib.hid (boxed_rnd HW2.out hr3 htw)
     have HU3 := Lib.hid (HU2.out.to hr3.below)
     clear hJ3 hr3 hk3
     gi_wp2
     go_roundw
     case rel => exact ⟨i + 1, by congr 1; omega, by omega, hi3, by rw [HSN.out, adv_one]; exact HS3.out, HJ3.out, HW3.out, HU3.out⟩
     case measure => simp [intOf]; omega
    ·have HX3 := Lib.hid hJx3
     have hil := HIL.out
     clear hJx3
     gi_wp2
     refine bodyPost_ret (results_none rfl _ _ _) rfl ?_
     exact ⟨⟨_, rfl⟩, .inr ⟨i, HIL.out, HX3.out⟩⟩
  ·have he : i = many.toNat := by omega
   have hex : xs.length = many.toNat := by rw [hxl]; omega
   have H1 := Lib.hid hJi
   have H2 := Lib.hid hSi
   have H3 := Lib.hid hex
   have H4 := Lib.hid he
   clear he hex hst hsn hxl hJi hSi hY hJ hJx hKp hpl hp2 hp3 hp1
   gi_wp2
   go_end0
   exact ⟨⟨_, rfl⟩, .inl ⟨by rw [H3.out, ← H4.out]; exact H1.out, by rw [← H4.out]; exact H2.out⟩⟩
end Go.Proofs.YtlfodemmdfaeeaaGreatDoor

/- The program's cells: all cells of a document, told one by one. -/
namespace Go.Proofs.YtlfodemmdfaeeaaGreatDoor
open Go.RowKit Go.Shelf Rn Ch
attribute [local go_sem] Oper.semAt_some

/-- What a round keeps beside its frame: it may be joined, and is kept by whatever only makes memory or turns what is no cells. -/
structure KpOk (Kp : World → World → Prop) : Prop where
 trans : ∀ {x y z}, Kp x y → Kp y z → Kp x z
 below : ∀ {x y}, Below x.heap.size x y → Kp x y
 put : ∀ (W : World) (l : Nat) (o o' : Obj), W.heap[l]? = some o → o.isCells = false → Kp W (W.putObj l o')

set_option maxRecDepth 100000 in
theorem next_any (b : Nat) (many : Int) (w : World) :
 Calls Tryz.prog 39 #[.pointer (some ⟨b, 0, none⟩), .int .i64 many] w fun e w' =>
  e = .returned (.func (.func 69) #[] #[.pointer (some ⟨w.heap.size + 1, 0, none⟩), .pointer (some ⟨w.heap.size, 0, none⟩)]) ∧
  w' = (w.alloc (.cells #[.pointer (some ⟨b, 0, none⟩)] 134)).alloc (.cells #[.int .i64 many] 3) := by
 go_enter Tryz.func39, Tryz.ntmps39
 go_wp2_with fail
 go_ret
 exact ⟨rfl, rfl⟩
set_option maxRecDepth 100000 in
theorem cells_any (a : Option Addr) (n cap : Nat) (w : World) :
 Calls Tryz.prog 40 #[.slice a n cap] w fun e w' =>
  e = .returned (.func (.func 71) #[] #[.pointer (some ⟨w.heap.size, 0, none⟩)]) ∧ w' = w.alloc (.cells #[.slice a n cap] 22) := by
 go_enter Tryz.func40, Tryz.ntmps40
 go_wp2_with fail
 go_ret
 exact ⟨rfl, rfl⟩

theorem mem_cellsP {x : CellV} {ps : List RP} (h : x ∈ cellsP ps) : x.2 ∈ ps := by
 unfold cellsP at h
 obtain ⟨p, hp, hx⟩ := List.mem_flatMap.1 h
 unfold cellsR at hx
 obtain ⟨c, _, rfl⟩ := List.mem_map.1 hx
 exact hp
theorem mem_rem {x : CellV} {s : List RP × Nat} (h : x ∈ rem s) : x.2 ∈ s.1 := mem_cellsP (List.mem_of_mem_drop h)

set_option maxRecDepth 100000 in
set_option maxHeartbeats 4000000 in
theorem cells_iter (K : World → World → Prop) (B db : Nat) (a : Option Addr) (n cap : Nat) (ps : List RP) (tB : List TypeId) (Kp : World → World → Prop) (Fr : World → Nat → Prop) (hKK : KOk B K) (hKO : KpOk Kp)
 (ht : 92 ∉ tB) (htw : 134 ∉ tB) (_hti : 3 ∉ tB) (htf : 135 ∉ tB) (hKp : ∀ {N : Nat} {x y : World}, Rnd B N tB x y → Kp x y → K x y) :
 Iter Tryz.prog 71 #[.pointer (some ⟨db, 0, none⟩)] (fun x : CellV => #[cellAgg x]) ((rem (ps, 0)).take (20000 : Int).toNat) B WT [] tB Kp Fr
  (fun W => Boxed W db 22 (.slice a n cap) ∧ (∀ w', K W w' → RunRow w' (.slice a n cap) ps) ∧ (∀ p ∈ ps, OkR p.1) ∧ U8s B W) (fun _ => True) := by
 obtain ⟨xs, hxs⟩ : ∃ xs, xs = (rem (ps, 0)).take (20000 : Int).toNat := ⟨_, rfl⟩
 have hit := fun b mb wb (hb : B ≤ b) => next_iter K B b mb wb ps 0 20000 tB Kp (fun _ _ => True) hKK hb (by decide) ht htw hKp
 rw [← hxs] at hit ⊢
 have HIT := Lib.hid hit
 have HM := Lib.hid (show ∀ k (h : k < xs.length), xs[k].2 ∈ ps from fun k h => mem_rem (s := (ps, 0)) (List.mem_of_mem_take (by rw [← hxs]; exact List.getElem_mem h)))
 clear hxs hit
 intro l J Jx W hBW ⟨hd, hrow, hO, hU⟩ hJ hJx _ hY h0
 have d0 := hd.cell
 have hdl := hd.lt
 refine callsIn_of_wp_marks Tryz.func71 rfl trivial ?_ rfl
 simp only [Tryz.ntmps71, List.size_toArray, List.length_cons, List.length_nil, Nat.reduceAdd, Nat.reduceSub, Array.replicate_succ, Array.replicate_zero, List.push_toArray, List.append_toArray, List.nil_append, List.cons_append]
 gi_wp2
 refine ⟨trivial, rfl, (callsIn_wide.2 (next_any _ _ _)).mono ?_⟩
 rintro e w1 ⟨rfl, rfl⟩
 gi_wp2
 obtain ⟨w1, hw1⟩ : ∃ w1, w1 = (((W.alloc (.cells #[.func (.yield l) #[] #[]] 135)).alloc (.cells #[.slice a n cap, .int .i64 0] 92)).alloc (.cells #[.pointer (some ⟨W.heap.size + 1, 0, none⟩)] 134)).alloc (.cells #[.int .i64 20000] 3) := ⟨_, rfl⟩
 rw [← hw1]
 have hsz : w1.heap.size = W.heap.size + 4 := by rw [hw1]; simp
 have BW1 : Below W.heap.size W w1 := by rw [hw1]; exact ((((Below.refl _ W).alloc (Nat.le_refl _) _).alloc (by simp) _).alloc (by simp; omega) _).alloc (by simp; omega) _
 have by1 : Boxed w1 W.heap.size 135 (.func (.yield l) #[] #[]) := by rw [hw1]; exact (((Boxed.new W _ _).alloc _).alloc _).alloc _
 have bk1 : WBlk w1 (W.heap.size + 1) (.slice a n cap) 0 := by
  unfold WBlk
  rw [hw1, Below.heap_alloc _ _ _ (by simp), Below.heap_alloc _ _ _ (by simp)]
  have := heap_new (W.alloc (.cells #[.func (.yield l) #[] #[]] 135)) (.cells #[.slice a n cap, .int .i64 0] 92)
  rwa [World.size_alloc] at this
 have bw1 : Boxed w1 (W.heap.size + 1 + 1) 134 (.pointer (some ⟨W.heap.size + 1, 0, none⟩)) := by
  rw [hw1]
  have := (Boxed.new ((W.alloc (.cells #[.func (.yield l) #[] #[]] 135)).alloc (.cells #[.slice a n cap, .int .i64 0] 92)) 134 (.pointer (some ⟨W.heap.size + 1, 0, none⟩))).alloc (.cells #[.int .i64 20000] 3)
  simpa only [World.size_alloc] using this
 have bm1 : Boxed w1 (W.heap.size + 1 + 1 + 1) 3 (.int .i64 20000) := by
  rw [hw1]
  have := Boxed.new (((W.alloc (.cells #[.func (.yield l) #[] #[]] 135)).alloc (.cells #[.slice a n cap, .int .i64 0] 92)).alloc (.cells #[.pointer (some ⟨W.heap.size + 1, 0, none⟩)] 134)) 3 (.int .i64 20000)
  simpa only [World.size_alloc] using this
 have j1 : J 0 w1 := hJ _ _ _ h0 (step_below _ BW1 hBW)
 clear hw1
 refine range_it (HIT.out (W.heap.size + 1) (W.heap.size + 1 + 1 + 1) (W.heap.size + 1 + 1) (by omega)) rfl (enters_of Tryz.func69 (by kernel_rfl) rfl) (fun _ => rfl) (by omega) ?hS hKO.trans hKO.put
  (fun k W' => J k W' ∧ Boxed W' W.heap.size 135 (.func (.yield l) #[] #[])) (fun c k W' => c = .ret ∧ Jx k W')
  (fun k A A' h hs => ⟨hJ _ _ _ h.1 (hs.more (fun _ h => h) (fun i hi h => by rw [List.mem_singleton] at h; omega) (by omega)), hs.cells _ _ _ _ h.2 (.inl (by decide))⟩) (fun c k A A' h hs => ⟨h.1, hJx _ _ _ h.2 (hs.more (fun _ h => h) (fun i hi h => by rw [List.mem_singleton] at h; omega) (by omega))⟩) (fun _ _ _ _ _ => trivial) ⟨j1, by1⟩ ?round ?done ?stop ?hS1
 case hS =>
  intro W' hb
  have hbk : ∀ {i : Nat} {o : Obj}, w1.heap[i]? = some o → W'.heap[i]? = some o := fun hi => (hb.block _ (lt_of_heap hi)).trans hi
  have hKW : K W W' := hKK.of_keep (keep_below (BW1.trans (hb.mono BW1.size)) hBW)
  refine ⟨hbk bm1, hbk bw1, ⟨_, _, hbk bk1, fun w' hw => hrow w' (hKK.trans hKW hw), hO, ?_⟩, hU.to ((BW1.mono hBW).trans (hb.mono (by omega)))⟩
  cases ps with
  | nil => exact .inl ⟨rfl, rfl, rfl⟩
  | cons p r => exact .inr ⟨p, r, rfl, List.length_pos_iff.2 (hO p (List.mem_cons_self ..)).rns.2.2.1, by simp [txt]⟩
 case hS1 =>
  intro A A' hA hs
  exact hA.keep hKK.trans (hKK.of_step (hs.more (own' := []) (fun _ h => by cases h) (fun _ _ h => h) (Nat.le_refl _))) (fun lv o h => hs.cells _ _ _ _ h (.inl (by simp)))
 case round =>
  rintro l' k hk W2 hle ⟨hj2, hb2⟩
  have hbl2 := hb2.lt
  have HY := Lib.hid (hY k hk)
  have hmem := HM.out k hk
  have HSh := Lib.hid (((hrow W (hKK.of_keep (Keep.refl _ _ _))).2 _ hmem).shape)
  generalize xs[k] = x at HY HSh ⊢
  obtain ⟨xc, q, xv⟩ := x
  obtain ⟨xa, xl, hxv⟩ := HSh.out
  simp only at hxv
  subst hxv
  have HJ := Lib.hid (fun A (h : Below W2.heap.size W2 A) => hJ k W2 A hj2 (step_below WT h (by omega)))
  have HJJ := Lib.hid (fun A A' (h : J k A) (hs : Step B w1.heap.size [] [] A A') => hJ k A A' h (hs.more (fun _ h => by cases h) (fun _ _ h => h) (by omega)))
  have HB2 := Lib.hid hb2
  clear HSh hmem hj2 hb2
  gi_wp2
  have bA := below_box W2 (.cells #[.string (E xc), .slice xa q.attrs.length xl] 54)
  refine ⟨rnd_below tB bA (by omega), hKO.below bA, ⟨HJ.out _ bA, HB2.out.alloc _⟩, fun W4 hs hsz4 ⟨r4, hr4⟩ => ?_⟩
  have c4 : Boxed W4 W.heap.size 135 (.func (.yield l) #[] #[]) := hs.cells _ _ _ _ (HB2.out.alloc _) (.inl (by simp))
  have x4 : W4.heap[W2.heap.size]? = some (.cells #[.string (E xc), .slice xa q.attrs.length xl] 54 (0, 0)) := hs.cells _ _ _ _ (heap_new _ _) (.inl (by simp))
  have y0 := c4.cell
  have y1 : W4.cell? ⟨W2.heap.size, 0, none⟩ = some (.string (E xc)) := by simp [World.cell?, x4]
  have y2 : W4.cell? ⟨W2.heap.size, 1, none⟩ = some (.slice xa q.attrs.length xl) := by simp [World.cell?, x4]
  have hj4 := HJJ.out _ _ (HJ.out _ bA) hs
  obtain ⟨fn, tmps, assign, body, hy, hR⟩ := HY.out W4 hj4
  have HR := Lib.hid hR
  have HC4 := Lib.hid c4
  clear hR hs hj4 bA c4 x4 hsz4 hr4
  gi_wp2
  refine ⟨rfl, RoundIn.mono (F := Fence.wide.inRound l') HR.out ?_⟩
  rintro e W5 (⟨rfl, hj5, hr5, hk5⟩ | ⟨rfl, hx5, hr5⟩)
  ·have FIN : Rnd B w1.heap.size tB W4 W5 ∧ Kp W4 W5 ∧ J (k + 1) W5 ∧ Boxed W5 W.heap.size 135 (.func (.yield l) #[] #[]) := ⟨hr5.more (fun _ h => h) (by omega), hk5, hj5, boxed_rnd HC4.out hr5 htf⟩
   have HF := Lib.hid FIN
   clear hj5 hr5 hk5 FIN
   gi_wp2
   exact ⟨HF.out.1, HF.out.2.1, HF.out.2.2⟩
  ·have FIN : Rnd B w1.heap.size tB W4 W5 ∧ Jx k W5 := ⟨hr5.more (fun _ h => h) (by omega), hx5⟩
   have HF := Lib.hid FIN
   clear hr5 hx5 FIN
   gi_wp2
   exact ⟨HF.out.1, rfl, HF.out.2⟩
 case done =>
  rintro D W2 hle ⟨hj2, hb2⟩ _ hD
  have HJ2 := Lib.hid (hJ _ _ _ hj2 (step_put WT (.deferred none) (show W.heap.size ≤ D by omega) (show B ≤ D by omega) hD rfl))
  clear hj2 hb2
  gi_wp2
  refine ⟨by simp, .inl ⟨_, _, rfl, run_takeDeferred hD, ?_⟩⟩
  refine ⟨_, results_none rfl _ _ _, ?_⟩
  exact ⟨⟨_, rfl⟩, .inl ⟨HJ2.out, trivial⟩⟩
 case stop =>
  rintro D c k W2 hle hk ⟨rfl, hj2⟩ hD
  have HJ2 := Lib.hid (hJx _ _ _ hj2 (step_put WT (.deferred none) (show W.heap.size ≤ D by omega) (show B ≤ D by omega) hD rfl))
  clear hj2
  gi_wp2
  refine ⟨by simp, .inl ⟨_, _, rfl, run_takeDeferred hD, ?_⟩⟩
  refine ⟨_, results_none rfl _ _ _, ?_⟩
  exact ⟨⟨_, rfl⟩, .inr ⟨k, hk, HJ2.out⟩⟩
end Go.Proofs.YtlfodemmdfaeeaaGreatDoor
