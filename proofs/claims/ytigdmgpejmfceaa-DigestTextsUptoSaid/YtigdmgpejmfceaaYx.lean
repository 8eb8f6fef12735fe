/- Base 64 read: the program's Decode. -/
import Derived.Test.YtigdmgpejmfceaaYe
import Derived.Test.YtigdmgpejmfceaaYb
namespace Go.Proofs.Ytigdmgpejmfceaa
open Go.RowKit Go.Shelf Su Yg
attribute [local go_sem] Oper.semAt_some

theorem conv_str (w : World) (c : List UInt8) (hc : c.length ≤ 140737488355328) : ∃ cap W', (convert 9 22 (.string (txB c))).run Try.prog w = .ok (.slice (some ⟨w.heap.size, 0, none⟩) c.length cap) W' ∧ BRow W' (.slice (some ⟨w.heap.size, 0, none⟩) c.length cap) c ∧ Below w.heap.size w W' ∧ W'.heap.size = w.heap.size + 1 ∧ ∃ cs n, W'.heap[w.heap.size]? = some (.cells cs 5 (n, n + 1)) := by
  have h := run_bytes_of_string (P := Try.prog) w 9 22 5 (txB c) Try.underlying9 Try.underlying22 Try.underlying5
  have hs : (txB c).size = c.length := by show c.toArray.size = _; simp
  rw [hs] at h
  refine ⟨_, _, h, ?_, ((Below.refl _ _).drew).alloc (Nat.le_refl _) _, by simp, _, _, heap_alloc_last w.drew _⟩
  refine ⟨_, _, rfl, grownCap_ge _ _ _ _, grownCap_le_maxLen _ _ _ _ (by unfold maxLen; omega), (fun e => by cases e), fun i hi => ⟨w.heap.size, 0, rfl, by simp, ?_⟩⟩
  rw [cell_of_row _ w.heap.size (0 + i) _ _ _ (heap_alloc_last w.drew _), Nat.zero_add]
  have hi' : i < (txB c).size := by rw [hs]; exact hi
  rw [bytesRow, Array.getElem?_append_left (by simpa [txB] using hi)]
  simp [txB, hi]
theorem eq4 (a b c d x y z t : Int) (w : World) : (Op.equalIn 10000 46 (.agg #[.int .u8 a, .int .u8 b, .int .u8 c, .int .u8 d]) (.agg #[.int .u8 x, .int .u8 y, .int .u8 z, .int .u8 t])).run Try.prog w = .ok (a == x && b == y && c == z && d == t) w := by
  have u3 := Try.underlying5
  have a3 := Try.isAgg5
  have z3 := Try.sizeOf5
  rw [show (10000 : Nat) = 9999 + 1 from rfl, Op.equalIn]
  simp only [Sem.run_bind, run_underlying Try.underlying46, Result.andThen_ok]
  simp only [Std.Legacy.Range.forIn_eq_forIn_range', Std.Legacy.Range.size, Nat.sub_zero, Nat.add_sub_cancel, Nat.div_one, List.range'_succ, List.range'_zero, List.forIn_cons, List.forIn_nil]
  go_simp
  by_cases h1 : a = x <;> by_cases h2 : b = y <;> by_cases h3 : c = z <;> by_cases h4 : d = t <;> simp [h1, h2, h3, h4]
theorem four_beq (a b c d x y z t : UInt8) : ((a.toNat : Int) == x.toNat && (b.toNat : Int) == y.toNat && (c.toNat : Int) == z.toNat && (d.toNat : Int) == t.toNat) = decide ([a, b, c, d] = [x, y, z, t]) := by
  have key : ∀ p q : UInt8, ((p.toNat : Int) == (q.toNat : Int)) = decide (p = q) := fun p q => by
    by_cases h : p = q
    · subst h; simp
    · rw [decide_eq_false h, beq_eq_false_iff_ne]
      intro e
      exact h (UInt8.toNat_inj.1 (by omega))
  rw [key, key, key, key]
  simp only [List.cons.injEq, and_true, Bool.decide_and, Bool.and_assoc]
/-- What Decode keeps between two rounds. -/
structure DcSt (B : Nat) (w0 : World) (rb ob bs bn : Nat) (sv nv : Value) (cb : Nat) (cs : Array Value) (n : Nat) (c : List UInt8) (k : Nat) (W : World) : Prop where
  row : ∃ out, CkSt B w0 ob bs bn sv nv out W ∧ dec c [] = dec (c.drop (k * 4)) out ∧ out.length ≤ k * 3
  rv : Boxed W rb 22 (.slice none 0 0)
  re : Boxed W (rb + 1) 31 (.int .i64 0)
  src : W.heap[cb]? = some (.cells cs 5 (n, n + 1))
/-- .. and when it has found what is none's. -/
structure DcNo (B : Nat) (w0 : World) (rb : Nat) (c : List UInt8) (W : World) : Prop where
  below : Below B w0 W
  no : dec c [] = none
  rv : Boxed W rb 22 (.slice none 0 0)
  re : Boxed W (rb + 1) 31 (.int .i64 100)
theorem DcSt.step {B N rb ob bs bn cb n k : Nat} {cs : Array Value} {w0 A A' : World} {sv nv : Value} {c : List UInt8} (h : DcSt B w0 rb ob bs bn sv nv cb cs n c k A) (hs : Step B N [] [] A A') : DcSt B w0 rb ob bs bn sv nv cb cs n c k A' := by
  obtain ⟨out, h1, h2, h3⟩ := h.row
  exact ⟨⟨out, h1.step hs, h2, h3⟩, hs.cells _ _ _ _ h.rv (.inl (by simp)), hs.cells _ _ _ _ h.re (.inl (by simp)), hs.cells _ _ _ _ h.src (.inl (by simp))⟩
theorem DcNo.step {B N rb : Nat} {w0 A A' : World} {c : List UInt8} (h : DcNo B w0 rb c A) (hs : Step B N [] [] A A') : DcNo B w0 rb c A' :=
  ⟨h.below.trans hs.below, h.no, hs.cells _ _ _ _ h.rv (.inl (by simp)), hs.cells _ _ _ _ h.re (.inl (by simp))⟩
theorem BRow.blk {w w' : World} {b n cap : Nat} {l : List UInt8} (h : BRow w (.slice (some ⟨b, 0, none⟩) n cap) l) (e : w'.heap[b]? = w.heap[b]?) : BRow w' (.slice (some ⟨b, 0, none⟩) n cap) l := by
  obtain ⟨a', cap', he, h1, h2, h3, h4⟩ := h
  refine ⟨a', cap', he, h1, h2, h3, fun i hi => ?_⟩
  obtain ⟨b', off, e1, hlt, hc⟩ := h4 i hi
  simp only [Value.slice.injEq] at he
  obtain ⟨rfl, _, _⟩ := he
  simp only [Option.some.injEq, Addr.mk.injEq, and_true] at e1
  obtain ⟨rfl, rfl⟩ := e1
  have hlt' : b < w'.heap.size := by
    have h0 := Array.getElem?_eq_getElem hlt
    rw [h0] at e
    exact (Array.getElem?_eq_some_iff.1 e).1
  exact ⟨b, 0, rfl, hlt', by rw [← hc]; simp only [World.cell?, e]⟩
theorem OwnU.noFz {w : World} {B b n : Nat} {v : Value} {l : List UInt8} {cs : Array Value} {t : TypeId} (h : OwnU w B v l) (hb : w.heap[b]? = some (.cells cs t (n, n + 1))) : ∀ g, v.ownBlock = some g → g ≠ b := fun g hg e => by
  subst e
  rcases h.2 with ⟨rfl, _⟩ | ⟨g', cap, cur, rfl, hB, hc, _⟩
  · simp [Value.ownBlock] at hg
  · simp only [Value.ownBlock, Option.some.injEq] at hg
    subst hg
    rw [hb] at hc
    simp at hc
theorem conv_cap {w : World} {a : Option Addr} {n cap : Nat} {l : List UInt8} (h : BRow w (.slice a n cap) l) : l.length ≤ cap := by
  obtain ⟨a', cap', e, h1, _⟩ := h
  simp only [Value.slice.injEq] at e
  omega
theorem drop_four (c : List UInt8) (k : Nat) (h : k * 4 < c.length) (h4 : c.length % 4 = 0) : ∃ p q r s, chB c 4 k = [p, q, r, s] ∧ c.drop (k * 4) = p :: q :: r :: s :: c.drop ((k + 1) * 4) := by
  have hl : (c.drop (k * 4)).length = c.length - k * 4 := List.length_drop
  have hd : c.drop ((k + 1) * 4) = (c.drop (k * 4)).drop 4 := by rw [List.drop_drop]; congr 1; omega
  unfold chB
  rw [hd]
  generalize c.drop (k * 4) = d at *
  rcases d with _ | ⟨p, _ | ⟨q, _ | ⟨r, _ | ⟨s, l⟩⟩⟩⟩
  · simp at hl; omega
  · simp at hl; omega
  · simp at hl; omega
  · simp at hl; omega
  · exact ⟨p, q, r, s, rfl, rfl⟩
/-- A round that has read bytes. -/
theorem dc_end {B N rb ob bs bn cb n k : Nat} {w0 A C D : World} {sv nv ov u : Value} {cs : Array Value} {c out m : List UInt8} (h : DcSt B w0 rb ob bs bn sv nv cb cs n c k A) (hk : CkSt B w0 ob bs bn sv nv out A) (hd : dec c [] = dec (c.drop ((k + 1) * 4)) (out ++ m)) (hl : (out ++ m).length ≤ (k + 1) * 3)
    (hB : B ≤ A.heap.size) (hob : B ≤ ob) (e1 : ob ≠ bs) (e2 : ob ≠ bn) (e3 : ob ≠ rb) (e4 : ob ≠ rb + 1) (e5 : ob ≠ cb) (hb : Below A.heap.size A C) (h1 : Boxed C ob 22 ov) (h2 : OwnU C B ov out) (hg : C.grownBy D ov.ownBlock) (h3 : OwnU D B u (out ++ m)) :
    Rnd B N TB A (D.setCell ⟨ob, 0, none⟩ u) ∧ Kb bs bn A (D.setCell ⟨ob, 0, none⟩ u) ∧ DcSt B w0 rb ob bs bn sv nv cb cs n c (k + 1) (D.setCell ⟨ob, 0, none⟩ u) := by
  obtain ⟨r1, r2, r3⟩ := ck_end (N := N) hk hB hob e1 e2 hb h1 h2 hg h3
  have b1 : Boxed C rb 22 (.slice none 0 0) := (hb.block _ h.rv.lt).trans h.rv
  have b2 : Boxed C (rb + 1) 31 (.int .i64 0) := (hb.block _ h.re.lt).trans h.re
  have b3 : C.heap[cb]? = some (.cells cs 5 (n, n + 1)) := (hb.block _ (Array.getElem?_eq_some_iff.1 h.src).1).trans h.src
  have keep : ∀ i o, C.heap[i]? = some o → (∀ g, ov.ownBlock = some g → g ≠ i) → ob ≠ i → (D.setCell ⟨ob, 0, none⟩ u).heap[i]? = some o := fun i o hi hn hne => by
    rw [Below.heap_setCell D ⟨ob, 0, none⟩ u i (fun e => hne e.symm), hg.block i (Array.getElem?_eq_some_iff.1 hi).1 (fun e => hn _ e.symm rfl)]
    exact hi
  exact ⟨r1, r2, ⟨⟨_, r3, hd, hl⟩, keep _ _ b1 (h2.noBox b1 (by decide)) e3, keep _ _ b2 (h2.noBox b2 (by decide)) e4, keep _ _ b3 (h2.noFz b3) e5⟩⟩
/-- A round that has found what is none's. -/
theorem dc_no {B N rb ob bs bn cb n k : Nat} {w0 A C : World} {sv nv : Value} {cs : Array Value} {c : List UInt8} (h : DcSt B w0 rb ob bs bn sv nv cb cs n c k A) (hd : dec c [] = none) (hB : B ≤ A.heap.size) (hrb : B ≤ rb) (hb : Below A.heap.size A C) :
    Rnd B N TB A ((C.setCell ⟨rb, 0, none⟩ (.slice none 0 0)).setCell ⟨rb + 1, 0, none⟩ (.int .i64 100)) ∧ DcNo B w0 rb c ((C.setCell ⟨rb, 0, none⟩ (.slice none 0 0)).setCell ⟨rb + 1, 0, none⟩ (.int .i64 100)) := by
  have b1 : Boxed C rb 22 (.slice none 0 0) := (hb.block _ h.rv.lt).trans h.rv
  have b2 : Boxed C (rb + 1) 31 (.int .i64 0) := (hb.block _ h.re.lt).trans h.re
  have c1 : Boxed (C.setCell ⟨rb, 0, none⟩ (.slice none 0 0)) rb 22 (.slice none 0 0) := by
    unfold Boxed at b1 ⊢
    simp [World.setCell, Array.getElem?_modify, b1]
  have c2 : Boxed (C.setCell ⟨rb, 0, none⟩ (.slice none 0 0)) (rb + 1) 31 (.int .i64 0) := by
    unfold Boxed
    rw [Below.heap_setCell _ _ _ _ (by simp)]
    exact b2
  have d1 : Boxed ((C.setCell ⟨rb, 0, none⟩ (.slice none 0 0)).setCell ⟨rb + 1, 0, none⟩ (.int .i64 100)) rb 22 (.slice none 0 0) := by
    unfold Boxed
    rw [Below.heap_setCell _ _ _ _ (by simp)]
    exact c1
  have d2 : Boxed ((C.setCell ⟨rb, 0, none⟩ (.slice none 0 0)).setCell ⟨rb + 1, 0, none⟩ (.int .i64 100)) (rb + 1) 31 (.int .i64 100) := by
    unfold Boxed at c2 ⊢
    rw [World.setCell]
    simp [Array.getElem?_modify, c2]
  obtain ⟨out, hk, _⟩ := h.row
  have r : Rnd B N TB A ((C.setCell ⟨rb, 0, none⟩ (.slice none 0 0)).setCell ⟨rb + 1, 0, none⟩ (.int .i64 100)) :=
    (rnd_below TB hb hB).trans ((rnd_set (cs := #[.slice none 0 0]) (fr := (0, 0)) TB ⟨rb, 0, none⟩ _ hrb b1 (by simp)).trans (rnd_set (cs := #[.int .i64 0]) (fr := (0, 0)) TB ⟨rb + 1, 0, none⟩ _ (by simp; omega) c2 (by simp)))
  exact ⟨r, ⟨hk.st.below.trans r.below, hd, d1, d2⟩⟩
/-- Both results stored. -/
theorem dc_done {B rb : Nat} {w0 W : World} {v : Value} {out : List UInt8} (hb : Below B w0 W) (hB : B ≤ rb) (b1 : Boxed W rb 22 (.slice none 0 0)) (b2 : Boxed W (rb + 1) 31 (.int .i64 0)) (ho : OwnU W B v out) :
    Below B w0 ((W.setCell ⟨rb, 0, none⟩ v).setCell ⟨rb + 1, 0, none⟩ (.int .i64 0)) ∧ Boxed ((W.setCell ⟨rb, 0, none⟩ v).setCell ⟨rb + 1, 0, none⟩ (.int .i64 0)) rb 22 v ∧ Boxed ((W.setCell ⟨rb, 0, none⟩ v).setCell ⟨rb + 1, 0, none⟩ (.int .i64 0)) (rb + 1) 31 (.int .i64 0) ∧
    OwnU ((W.setCell ⟨rb, 0, none⟩ v).setCell ⟨rb + 1, 0, none⟩ (.int .i64 0)) B v out := by
  have c1 : Boxed (W.setCell ⟨rb, 0, none⟩ v) rb 22 v := by
    unfold Boxed at b1 ⊢
    simp [World.setCell, Array.getElem?_modify, b1]
  have c2 : Boxed (W.setCell ⟨rb, 0, none⟩ v) (rb + 1) 31 (.int .i64 0) := by
    unfold Boxed
    rw [Below.heap_setCell _ _ _ _ (by simp)]
    exact b2
  refine ⟨(hb.setCell (p := ⟨rb, 0, none⟩) hB _).setCell (p := ⟨rb + 1, 0, none⟩) (by simp; omega) _, ?_, ?_, ?_⟩
  · unfold Boxed
    rw [Below.heap_setCell _ _ _ _ (by simp)]
    exact c1
  · unfold Boxed at c2 ⊢
    rw [World.setCell]
    simp [Array.getElem?_modify, c2]
  · refine own_cells ho fun i cs fr hi => ?_
    rw [Below.heap_setCell _ _ _ _ (fun e => by
      have e : i = rb + 1 := e
      subst e
      rw [show W.heap[rb + 1]? = _ from b2] at hi
      cases hi), Below.heap_setCell _ _ _ _ (fun e => by
      have e : i = rb := e
      subst e
      rw [show W.heap[i]? = _ from b1] at hi
      cases hi)]
    exact hi
/-- What Decode answers. -/
def DecOut (c : List UInt8) (w : World) (e : Ending) (w' : World) : Prop :=
  ∃ v, ((∃ m, dcd c = some m ∧ e = .returned (.tuple #[v, .int .i64 0]) ∧ OwnU w' w.heap.size v m) ∨ (dcd c = none ∧ v = .slice none 0 0 ∧ e = .returned (.tuple #[v, .int .i64 100]))) ∧ Below w.heap.size w w'

set_option maxRecDepth 100000 in
set_option maxHeartbeats 4000000 in
theorem decode_bad (c : List UInt8) (w : World) (hn : c.length ≤ 140737488355328) (h4 : c.length % 4 ≠ 0) :
    Calls Try.prog 19 #[.string (txB c)] w (DecOut c w) := by
  have hs : (txB c).size = c.length := by show c.toArray.size = _; simp
  have HD := Lib.hid (dec_none c [] h4)
  have HS := Lib.hid hs
  have hm : ((c.length : Int) % 4 != 0) = true := by simp; omega
  generalize txB c = t at *
  clear hs h4
  have hs := HS.out
  clear HS
  go_enter Try.func19, Try.ntmps19
  go_wp2_with fail
  refine bodyPost_ret (v := .tuple #[.slice none 0 0, .int .i64 100]) (by simp [results, Try.results19, go_sem]) rfl ⟨_, .inr ⟨HD.out, rfl, rfl⟩, ((Below.refl _ _).alloc (Nat.le_refl _) _).alloc (by simp) _⟩

theorem OwnU.shapeN {w : World} {B : Nat} {v : Value} {l : List UInt8} (h : OwnU w B v l) : ∃ a n cap, v = .slice a n cap ∧ n = l.length := by
  obtain ⟨a, cap, e⟩ := h.shape
  exact ⟨a, _, cap, e, rfl⟩
set_option maxRecDepth 100000 in
set_option maxHeartbeats 4000000 in
theorem decode_ok (c : List UInt8) (w : World) (hn : c.length + 64 ≤ 140737488355328) (h4 : c.length % 4 = 0) :
    Calls Try.prog 19 #[.string (txB c)] w (DecOut c w) := by
  have hs : (txB c).size = c.length := by show c.toArray.size = _; simp
  have HS := Lib.hid hs
  have hm : ((c.length : Int) % 4 != 0) = false := by simp; omega
  obtain ⟨W1, hr1, ho1, hb1⟩ := made_own ((w.alloc (.cells #[.slice none 0 0] 22)).alloc (.cells #[.int .i64 0] 31)) (c.length / 4 * 3) (by omega)
  have hr1' : (Instr.makeSlice 22 (.int .i64 0) (.int .i64 ((c.length : Int) / 4 * 3))).run Try.prog ((w.alloc (.cells #[.slice none 0 0] 22)).alloc (.cells #[.int .i64 0] 31)) = .ok (.slice (some ⟨((w.alloc (.cells #[.slice none 0 0] 22)).alloc (.cells #[.int .i64 0] 31)).heap.size, 0, none⟩) 0 (c.length / 4 * 3)) W1 := hr1
  simp only [World.size_alloc] at hr1' ho1 hb1
  have HO1 := Lib.hid ho1
  have HB1 := Lib.hid hb1
  have s1 : w.heap.size + 1 + 1 ≤ W1.heap.size := by simpa using hb1.size
  generalize c.length / 4 * 3 = room at hr1' HO1
  obtain ⟨cap, W2, hr2, hR2, hb2, hz2, cs0, n0, hcs⟩ := conv_str (W1.alloc (.cells #[.slice (some ⟨w.heap.size + 1 + 1, 0, none⟩) 0 room] 22)) c (by omega)
  simp only [World.size_alloc] at hr2 hR2 hb2 hz2 hcs
  have HR2 := Lib.hid hR2
  have HB2 := Lib.hid hb2
  have HCS := Lib.hid hcs
  generalize hT : txB c = t at *
  have H4 := Lib.hid h4
  clear hs h4 hb1 ho1 hr1 hR2 hb2 hcs
  refine (callsIn_wide (n := 0)).1 (callsIn_of_wp_marks Try.func19 rfl trivial ?_ rfl)
  simp only [Try.ntmps19, List.size_toArray, List.length_cons, List.length_nil, Nat.reduceAdd, Nat.reduceSub, Array.replicate_succ, Array.replicate_zero, List.push_toArray, List.append_toArray, List.nil_append, List.cons_append]
  have hs := HS.out
  gi_wp2
  refine ⟨trivial, rfl, (callsIn_wide.2 (chunk_any (some ⟨W1.heap.size + 1, 0, none⟩) c.length cap 4 _ (by omega) (by omega))).mono ?_⟩
  rintro e w3 ⟨rfl, rfl⟩
  rw [hz2]
  have hs3 : W2.heap.size = W1.heap.size + 1 + 1 := hz2
  obtain ⟨Y, hY⟩ : ∃ Y, Y = (W2.alloc (.cells #[.slice (some ⟨W1.heap.size + 1, 0, none⟩) c.length cap] 22)).alloc (.cells #[.int .i64 ((4 : Nat) : Int)] 3) := ⟨_, rfl⟩
  rw [← hY]
  have sY : Y.heap.size = W1.heap.size + 1 + 1 + 1 + 1 := by rw [hY]; simp [hs3]
  have BY : Below W2.heap.size W2 Y := by rw [hY]; exact ((Below.refl _ W2).alloc (Nat.le_refl _) _).alloc (by simp) _
  have B12 : Below W1.heap.size W1 W2 := ((Below.refl W1.heap.size W1).alloc (Nat.le_refl _) (.cells #[.slice (some ⟨w.heap.size + 1 + 1, 0, none⟩) 0 room] 22)).trans (HB2.out.mono (by omega))
  have B1Y : Below W1.heap.size W1 Y := B12.trans (BY.mono (by omega))
  have B01 : Below (w.heap.size + 1 + 1) ((w.alloc (.cells #[.slice none 0 0] 22)).alloc (.cells #[.int .i64 0] 31)) W1 := HB1.out
  have bo : Boxed Y W1.heap.size 22 (.slice (some ⟨w.heap.size + 1 + 1, 0, none⟩) 0 room) :=
    (BY.block _ (by omega)).trans ((HB2.out.block _ (by omega)).trans (Boxed.new W1 22 _))
  have b1 : Boxed Y (W1.heap.size + 1 + 1) 22 (.slice (some ⟨W1.heap.size + 1, 0, none⟩) c.length cap) := by
    rw [hY, ← hs3]
    exact (Boxed.new W2 22 _).alloc _
  have b2 : Boxed Y (W1.heap.size + 1 + 1 + 1) 3 (.int .i64 ((4 : Nat) : Int)) := by
    rw [hY, ← hs3]
    have := Boxed.new (W2.alloc (.cells #[.slice (some ⟨W1.heap.size + 1, 0, none⟩) c.length cap] 22)) 3 (.int .i64 ((4 : Nat) : Int))
    simpa only [World.size_alloc] using this
  have rv0 : Boxed Y w.heap.size 22 (.slice none 0 0) :=
    (B1Y.block _ (by omega)).trans ((B01.block _ (by omega)).trans ((Boxed.new w 22 _).alloc _))
  have re0 : Boxed Y (w.heap.size + 1) 31 (.int .i64 0) := by
    have := Boxed.new (w.alloc (.cells #[.slice none 0 0] 22)) 31 (.int .i64 0)
    simp only [World.size_alloc] at this
    exact (B1Y.block _ (by omega)).trans ((B01.block _ (by omega)).trans this)
  have B0Y : Below w.heap.size w Y := (((Below.refl w.heap.size w).alloc (Nat.le_refl _) _).alloc (by simp) _).trans ((B01.mono (by omega)).trans (B1Y.mono (by omega)))
  have hr0 : BRow Y (.slice (some ⟨W1.heap.size + 1, 0, none⟩) c.length cap) c := HR2.out.below BY
  have sc0 : Y.heap[W1.heap.size + 1]? = some (.cells cs0 5 (n0, n0 + 1)) := (BY.block _ (by omega)).trans HCS.out
  have HST := Lib.hid (show DcSt w.heap.size w w.heap.size W1.heap.size (W1.heap.size + 1 + 1) (W1.heap.size + 1 + 1 + 1) (.slice (some ⟨W1.heap.size + 1, 0, none⟩) c.length cap) (.int .i64 ((4 : Nat) : Int)) (W1.heap.size + 1) cs0 n0 c 0 Y from
    ⟨⟨[], ⟨⟨B0Y, _, bo, own_low (HO1.out.below B1Y) (by omega)⟩, b1, b2⟩, by rw [Nat.zero_mul, List.drop_zero], by simp⟩, rv0, re0, sc0⟩)
  have HBX := Lib.hid (And.intro b1 b2)
  have HR0 := Lib.hid (fun (W : World) (hW : W.heap[W1.heap.size + 1]? = some (.cells cs0 5 (n0, n0 + 1))) => hr0.blk (hW.trans sc0.symm))
  have hcap := (conv_cap hr0)
  clear hY BY B12 B1Y B01 bo b1 b2 rv0 re0 sc0 B0Y hr0 HO1 HB1 HB2 HR2 hr1' hr2
  generalize W1.heap.size = ob at *
  have HCL := Lib.hid (chunks_len (some ⟨ob + 1, 0, none⟩) c.length 4)
  have HAT := Lib.hid (chunks_at (some ⟨ob + 1, 0, none⟩) c.length 4)
  have HCN := Lib.hid (fun k => cnt_lt (L := c.length) (n := 4) (k := k) (by omega))
  gi_wp2
  refine range_it (chunk_iter w.heap.size (ob + 1 + 1) (ob + 1 + 1 + 1) (some ⟨ob + 1, 0, none⟩) c.length cap 4 TB (Kb (ob + 1 + 1) (ob + 1 + 1 + 1)) (fun _ _ => True) (by omega) (by omega) (by omega) hcap (fun h => h.box)) rfl (enters_of Try.func33 (by kernel_rfl) rfl) (fun _ => rfl) (by omega) ?hS Kb.trans Kb.put
    (fun k W' => DcSt w.heap.size w w.heap.size ob (ob + 1 + 1) (ob + 1 + 1 + 1) (.slice (some ⟨ob + 1, 0, none⟩) c.length cap) (.int .i64 ((4 : Nat) : Int)) (ob + 1) cs0 n0 c k W') (fun x k W' => x = .ret ∧ DcNo w.heap.size w w.heap.size c W')
    (fun _ _ _ h hs => h.step hs) (fun _ _ _ _ h hs => ⟨h.1, h.2.step hs⟩) (fun _ _ _ _ _ => trivial) HST.out ?rnd ?done ?stop (fun _ _ _ _ => trivial)
  case hS =>
    intro W hb
    exact ⟨(hb.block _ (Array.getElem?_eq_some_iff.1 HBX.out.1).1).trans HBX.out.1, (hb.block _ (Array.getElem?_eq_some_iff.1 HBX.out.2).1).trans HBX.out.2⟩
  case stop =>
    rintro D x k W hle hk ⟨rfl, hx⟩ hD
    have c0 := hx.rv.cell
    have c1 := hx.re.cell
    have l0 := hx.rv.lt
    have l1 := hx.re.lt
    have HX := Lib.hid hx
    have HDD := Lib.hid hD
    clear hx hD
    gi_wp2
    refine ⟨by simp, .inl ⟨_, _, rfl, run_takeDeferred HDD.out, ?_⟩⟩
    have b1 : (W.putObj D (.deferred none)).heap[w.heap.size]? = some (.cells #[.slice none 0 0] 22 (0, 0)) := putObj_cells HDD.out rfl HX.out.rv
    have b2 : (W.putObj D (.deferred none)).heap[w.heap.size + 1]? = some (.cells #[.int .i64 100] 31 (0, 0)) := putObj_cells HDD.out rfl HX.out.re
    have d1 : (W.putObj D (.deferred none)).cell? ⟨w.heap.size, 0, none⟩ = some (.slice none 0 0) := by simp [World.cell?, b1]
    have d2 : (W.putObj D (.deferred none)).cell? ⟨w.heap.size + 1, 0, none⟩ = some (.int .i64 100) := by simp [World.cell?, b2]
    refine ⟨.tuple #[.slice none 0 0, .int .i64 100], by simp [results, Try.results19, go_sem, d1, d2], ?_⟩
    exact ⟨_, .inr ⟨HX.out.no, rfl, rfl⟩, HX.out.below.trans (below_put (by omega) HDD.out)⟩
  case done =>
    rintro D W hle hI _ hD
    rw [HCL.out] at hI
    obtain ⟨out, hck, hdc, hol⟩ := hI.row
    have hcn := HCN.out (cnt c.length 4)
    rw [List.drop_of_length_le (by omega), dec] at hdc
    obtain ⟨ov, ho1, ho2⟩ := hck.out
    obtain ⟨oa, on, oc, rfl⟩ := ho2.shapeW
    have q0 := ho1.cell
    have ql := ho1.lt
    have r0 := hI.rv.cell
    have r1 := hI.re.cell
    have rl0 := hI.rv.lt
    have rl1 := hI.re.lt
    have rf0 := hI.rv.frozen
    have rf1 := hI.re.frozen
    have HI := Lib.hid hI
    have HDC := Lib.hid hdc
    have HO := Lib.hid (And.intro ho1 ho2)
    have HBW := Lib.hid hck.st.below
    have HDD := Lib.hid hD
    clear hI hck hdc hol ho1 ho2 hD hcn
    gi_wp2
    obtain ⟨e1, e2, e3, e4⟩ := dc_done HBW.out (Nat.le_refl _) HI.out.rv HI.out.re HO.out.2
    have hD2 : ((W.setCell ⟨w.heap.size, 0, none⟩ (.slice oa on oc)).setCell ⟨w.heap.size + 1, 0, none⟩ (.int .i64 0)).heap[D]? = some (.deferred (some [])) := by
      rw [Below.heap_setCell _ _ _ _ (fun e => by
        have e : D = w.heap.size + 1 := e
        omega), Below.heap_setCell _ _ _ _ (fun e => by
        have e : D = w.heap.size := e
        omega)]
      exact HDD.out
    refine ⟨by simp, .inl ⟨_, _, rfl, run_takeDeferred hD2, ?_⟩⟩
    have b1 := putObj_cells (o' := .deferred none) hD2 rfl e2
    have b2 := putObj_cells (o' := .deferred none) hD2 rfl e3
    generalize (W.setCell ⟨w.heap.size, 0, none⟩ (.slice oa on oc)).setCell ⟨w.heap.size + 1, 0, none⟩ (.int .i64 0) = W9 at *
    have d1 : (W9.putObj D (.deferred none)).cell? ⟨w.heap.size, 0, none⟩ = some (.slice oa on oc) := by simp [World.cell?, b1]
    have d2 : (W9.putObj D (.deferred none)).cell? ⟨w.heap.size + 1, 0, none⟩ = some (.int .i64 0) := by simp [World.cell?, b2]
    refine ⟨.tuple #[.slice oa on oc, .int .i64 0], by simp [results, Try.results19, go_sem, d1, d2], ?_⟩
    exact ⟨_, .inl ⟨out, HDC.out, rfl, own_cells e4 (fun i cs fr hi => putObj_cells hD2 rfl hi)⟩, e1.trans (below_put (by omega) hD2)⟩
  case rnd =>
    rintro l' k hk W2 hle hI
    rw [HAT.out k hk]
    rw [HCL.out, HCN.out] at hk
    obtain ⟨p, q, r, s, hchunk, hdrop⟩ := drop_four c k hk H4.out
    have HI := Lib.hid hI
    obtain ⟨a', hv⟩ := chV_shape (some ⟨ob + 1, 0, none⟩) c.length 4 k
    have hcl : chL c.length 4 k = 4 := by have := chB_len c 4 k; rw [hchunk] at this; exact this.symm
    have HR := Lib.hid (fun (W : World) (hb : W.heap[ob + 1]? = some (.cells cs0 5 (n0, n0 + 1))) => show BRow W (.slice a' 4 4) [p, q, r, s] by
      have := chV_row (HR0.out W hb) 4 k (by omega) hk
      rw [hchunk, hv, hcl] at this
      exact this)
    rw [hv, hcl]
    have HDR := Lib.hid hdrop
    clear hv hI hchunk hdrop hcl
    gi_wp2
    refine ⟨Rnd.refl _ _ _ _, Kb.refl _ _ _, HI.out, fun W4 hs hsz4 ⟨r4, hr4⟩ => ?_⟩
    have HI4 := Lib.hid (HI.out.step (hs.more (own' := []) (fun _ h => h) (fun _ _ h => h) (Nat.le_refl _)))
    clear hs hr4 HI
    gi_wp2
    have hB4 : w.heap.size ≤ W4.heap.size := by obtain ⟨o, h, _⟩ := HI4.out.row; exact h.st.below.size
    refine ⟨trivial, rfl, CallsIn.inRound _ ((callsIn_wide.2 (bytesOf_any (.slice a' 4 4) p q r s W4 (HR.out W4 HI4.out.src))).mono ?_)⟩
    rintro e w5 ⟨v5, rfl, hr5, hb5⟩
    have HI5 := Lib.hid (HI4.out.step (N := 0) (step_below [] hb5 hB4))
    have HB5 := Lib.hid hb5
    have HR5 := Lib.hid hr5
    have hB5 : w.heap.size ≤ w5.heap.size := Nat.le_trans hB4 hb5.size
    obtain ⟨out, hck, hdc, hol⟩ := HI5.out.row
    obtain ⟨ov, ho1, ho2⟩ := hck.out
    have HCK := Lib.hid hck
    have HO := Lib.hid (And.intro ho1 ho2)
    have q0 := ho1.cell
    obtain ⟨oa, on, oc, rfl, hon⟩ := ho2.shapeN
    subst hon
    rw [HDR.out, dec_step] at hdc
    have HDC := Lib.hid hdc
    have HRV := Lib.hid (And.intro HI5.out.rv HI5.out.re)
    have r0 := HI5.out.rv.cell
    have r1 := HI5.out.re.cell
    have rl0 := HI5.out.rv.lt
    have rl1 := HI5.out.re.lt
    have rf0 := HI5.out.rv.frozen
    have rf1 := HI5.out.re.frozen
    have hol2 : out.length + 3 ≤ 140737488355328 := by omega
    have hol3 : out.length ≤ 140737488355328 := by omega
    clear hck ho1 ho2 hdc hb5 hr5 HDR
    by_cases h3 : out.length % 3 = 0
    · have t3 : ((out.length : Int) % 3 != 0) = false := by simp; omega
      have t4 : (out.length : Int).tmod 3 = (out.length : Int) % 3 := Int.tmod_eq_emod_of_nonneg (by omega)
      have t5 : IntKind.i64.wrap ((out.length : Int) % 3) = (out.length : Int) % 3 := IntWalk.i64_in _ (by omega)
      have hfn : Fence.wide.fn 27 := trivial
      obtain ⟨m, hm'⟩ : ∃ m, m = bytesOf p q r s := ⟨_, rfl⟩
      have hml := bytesOf_len p q r s
      have hmi := many_in r s
      rw [← hm'] at HR5 HDC hml
      have HML := Lib.hid hml
      have HSG := Lib.hid (signs_any v5 m w5.drew (HR5.out.below (Below.refl _ _).drew) (by rw [HML.out]; omega) (by rw [HML.out]; omega))
      obtain ⟨x0, x1, x2, x3, hx⟩ : ∃ x0 x1 x2 x3, signs4 m = [x0, x1, x2, x3] := ⟨_, _, _, _, rfl⟩
      have heq := eq4 (x0.toNat : Int) x1.toNat x2.toNat x3.toNat p.toNat q.toNat r.toNat s.toNat
      rw [hx, show (Lib.byteCells [x0, x1, x2, x3]).toArray = #[.int .u8 (x0.toNat : Int), .int .u8 (x1.toNat : Int), .int .u8 (x2.toNat : Int), .int .u8 (x3.toNat : Int)] from rfl] at HSG
      rw [four_beq] at heq
      have HX := Lib.hid hx
      have HC4 := Lib.hid (HR.out w5 HI5.out.src)
      obtain ⟨va, vn, vc, rfl⟩ : ∃ a n c, v5 = .slice a n c := by obtain ⟨a, c, e, _⟩ := HR5.out; exact ⟨a, _, c, e⟩
      obtain ⟨cb, off, rfl, hcl, c0, c1, c2, c3⟩ : ∃ b off, a' = some ⟨b, off, none⟩ ∧ b < w5.heap.size ∧ w5.cell? ⟨b, off, none⟩ = some (.int .u8 (p.toNat : Int)) ∧ w5.cell? ⟨b, off + 1, none⟩ = some (.int .u8 (q.toNat : Int)) ∧ w5.cell? ⟨b, off + 2, none⟩ = some (.int .u8 (r.toNat : Int)) ∧ w5.cell? ⟨b, off + 3, none⟩ = some (.int .u8 (s.toNat : Int)) := by
        obtain ⟨a0, cap0, he, _, _, _, h5⟩ := HC4.out
        simp only [Value.slice.injEq] at he
        obtain ⟨rfl, _, _⟩ := he
        obtain ⟨b, off, rfl, hl0, h0⟩ := h5 0 (by simp)
        refine ⟨b, off, rfl, hl0, h0, ?_, ?_, ?_⟩
        · obtain ⟨b', off', e, _, h1⟩ := h5 1 (by simp)
          simp only [Option.some.injEq, Addr.mk.injEq, and_true] at e
          obtain ⟨rfl, rfl⟩ := e
          exact h1
        · obtain ⟨b', off', e, _, h1⟩ := h5 2 (by simp)
          simp only [Option.some.injEq, Addr.mk.injEq, and_true] at e
          obtain ⟨rfl, rfl⟩ := e
          exact h1
        · obtain ⟨b', off', e, _, h1⟩ := h5 3 (by simp)
          simp only [Option.some.injEq, Addr.mk.injEq, and_true] at e
          obtain ⟨rfl, rfl⟩ := e
          exact h1
      have hat : ∀ W, (Instr.arrayAt 46 (.slice (some ⟨cb, off, none⟩) 4 4)).run Try.prog W = .ok (.pointer (some ⟨cb, off, none⟩)) W := fun W => by
        simp [Instr.arrayAt, run_underlying Try.underlying46]
      clear hx hml hm' HC4
      by_cases hE : [x0, x1, x2, x3] = [p, q, r, s]
      · rw [decide_eq_true hE] at heq
        have HE := Lib.hid hE
        have hx7 : ∀ w7, Below w5.heap.size w5 w7 → Boxed w7 ob 22 (.slice oa out.length oc) ∧ OwnU w7 w.heap.size (.slice oa out.length oc) out ∧ ∃ u8 w8, (Builtin.append_ #[22, 22] 22 #[.slice oa out.length oc, .slice va vn vc]).run Try.prog w7 = .ok u8 w8 ∧ OwnU w8 w.heap.size u8 (out ++ m) ∧ w7.grownBy w8 (Value.slice oa out.length oc).ownBlock ∧ Boxed w8 ob 22 (.slice oa out.length oc) := fun w7 hb => by
          have a1 := (hb.block _ HO.out.1.lt).trans HO.out.1
          have a2 := HO.out.2.below hb
          obtain ⟨u8, w8, r1, r2, r3⟩ := run_append_bytes (w := w7) 22 w.heap.size _ _ out m a2 (HR5.out.below hb) (by rw [HML.out]; omega) (Nat.le_trans hB5 hb.size)
          exact ⟨a1, a2, u8, w8, r1, r2, r3, (r3.block _ (Boxed.lt a1) (fun e => a2.noBox a1 (by decide) _ e.symm rfl)).trans a1⟩
        clear hE
        gi_wp2
        gi_region_with (first | (refine ⟨rfl, CallsIn.inRound _ ((callsIn_wide.2 HSG.out).mono ?_)⟩; rintro e w7 ⟨rfl, hb7⟩; have HB7 := Lib.hid hb7; have k0 := (hb7.cell (p := ⟨cb, off, none⟩) hcl).trans c0; have k1 := (hb7.cell (p := ⟨cb, off + 1, none⟩) hcl).trans c1; have k2 := (hb7.cell (p := ⟨cb, off + 2, none⟩) hcl).trans c2; have k3 := (hb7.cell (p := ⟨cb, off + 3, none⟩) hcl).trans c3; have hb57 : Below w5.heap.size w5 w7 := ((Below.refl w5.heap.size w5).drew).trans hb7; have HB57 := Lib.hid hb57; have z7 := hb7.size; have HX7 := Lib.hid (hx7 w7 hb57); clear hb7 hb57))
        all_goals
          obtain ⟨ow7, own7, u8, w8, hr8, ho8, hg8, hbx8⟩ := HX7.out
          have q7 := ow7.cell
          have q8 := hbx8.cell
          have f8 := hbx8.frozen
          have HF := Lib.hid (And.intro ow7 (And.intro own7 (And.intro ho8 hg8)))
          obtain ⟨ua, un, uc, rfl⟩ := ho8.shapeW
          clear ow7 own7 ho8 hg8 hbx8
          gi_wp2_with (refine wpListIn_appended rfl _ _ 22 22 rfl _ _ _ rfl rfl hr8 ?_)
          obtain ⟨e1, e2, e3⟩ := dc_end (N := Y.heap.size) HI5.out HCK.out (show dec c [] = dec (c.drop ((k + 1) * 4)) (out ++ m) by rw [HDC.out, if_pos ⟨h3, HX.out.trans HE.out⟩]) (by rw [List.length_append, HML.out]; omega) hB5 (by omega) (by omega) (by omega) (by omega) (by omega) (by omega) HB57.out HF.out.1 HF.out.2.1 HF.out.2.2.2 HF.out.2.2.1
          exact ⟨(rnd_below TB HB5.out hB4).trans e1, (Kb.below HB5.out).trans e2, e3⟩
      · rw [decide_eq_false hE] at heq
        have HNO := Lib.hid (show dec c [] = none by rw [HDC.out, if_neg (fun h => hE (by rw [← h.2, HX.out]))])
        clear hE HDC
        gi_wp2
        gi_region_with (first | (refine ⟨rfl, CallsIn.inRound _ ((callsIn_wide.2 HSG.out).mono ?_)⟩; rintro e w7 ⟨rfl, hb7⟩; have HB7 := Lib.hid hb7; have k0 := (hb7.cell (p := ⟨cb, off, none⟩) hcl).trans c0; have k1 := (hb7.cell (p := ⟨cb, off + 1, none⟩) hcl).trans c1; have k2 := (hb7.cell (p := ⟨cb, off + 2, none⟩) hcl).trans c2; have k3 := (hb7.cell (p := ⟨cb, off + 3, none⟩) hcl).trans c3; have hb57 : Below w5.heap.size w5 w7 := ((Below.refl w5.heap.size w5).drew).trans hb7; have HB57 := Lib.hid hb57; have z7 := hb7.size; have j0 := Boxed.cell ((hb57.block _ rl0).trans HRV.out.1); have j1 := Boxed.cell ((hb57.block _ rl1).trans HRV.out.2); have g0 := Boxed.frozen ((hb57.block _ rl0).trans HRV.out.1); have g1 := Boxed.frozen ((hb57.block _ rl1).trans HRV.out.2); clear hb7 hb57))
        all_goals
          gi_wp2
          obtain ⟨e1, e2⟩ := dc_no (N := Y.heap.size) HI5.out HNO.out hB5 (Nat.le_refl _) HB57.out
          exact ⟨(rnd_below TB HB5.out hB4).trans e1, rfl, e2⟩
    · have HNO := Lib.hid (show dec c [] = none by rw [HDC.out, if_neg (fun h => h3 h.1)])
      have t3 : ((out.length : Int) % 3 != 0) = true := by simp; omega
      have t4 : (out.length : Int).tmod 3 = (out.length : Int) % 3 := Int.tmod_eq_emod_of_nonneg (by omega)
      have t5 : IntKind.i64.wrap ((out.length : Int) % 3) = (out.length : Int) % 3 := IntWalk.i64_in _ (by omega)
      clear HDC h3
      have hfn : Fence.wide.fn 27 := trivial
      gi_wp2
      gi_region_with (fail)
      all_goals
        gi_wp2
        obtain ⟨e1, e2⟩ := dc_no (N := Y.heap.size) HI5.out HNO.out hB5 (Nat.le_refl _) ((Below.refl w5.heap.size w5).drew)
        exact ⟨(rnd_below TB HB5.out hB4).trans e1, rfl, e2⟩
theorem decode_any (c : List UInt8) (w : World) (hn : c.length + 64 ≤ 140737488355328) :
    Calls Try.prog 19 #[.string (txB c)] w (DecOut c w) := by
  by_cases h : c.length % 4 = 0
  · exact decode_ok c w hn h
  · exact decode_bad c w (by omega) h
end Go.Proofs.Ytigdmgpejmfceaa
