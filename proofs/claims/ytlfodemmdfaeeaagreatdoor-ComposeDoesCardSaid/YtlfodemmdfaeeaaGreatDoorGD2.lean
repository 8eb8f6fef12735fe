/- Texts of this seat, put together: Dw. -/
import Derived.Test.YtlfodemmdfaeeaaGreatDoorGD1
import Derived.Test.YtlfodemmdfaeeaaGreatDoorGC2
import Derived.BigQuiet
import Derived.Deep.RegionHeld3
/- The program's walk through a document: the next cell. -/
namespace Go.Proofs.YtlfodemmdfaeeaaGreatDoor
open Go.RowKit Rn Ch

/-- UTF-8's tables stand. -/
def U8 (w : World) : Prop := Lib.Utf8Tabs 1 2 w
theorem U8.below {B : Nat} {w w' : World} (h : U8 w) (hb : Below B w w') (h1 : 1 < B) (h2 : 2 < B) : U8 w' :=
 ⟨fun c hc => (hb.cell (p := ⟨1, c, none⟩) h1).trans (h.1 c hc), fun i hi => ⟨(hb.cell (p := ⟨2, 2 * i, none⟩) h2).trans (h.2 i hi).1, (hb.cell (p := ⟨2, 2 * i + 1, none⟩) h2).trans (h.2 i hi).2⟩⟩
/-- .. in every world in which what lay below B stands. -/
def U8s (B : Nat) (w : World) : Prop := 1 < B ∧ 2 < B ∧ U8 w
theorem U8s.to {B : Nat} {w w' : World} (h : U8s B w) (hb : Below B w w') : U8s B w' := ⟨h.1, h.2.1, h.2.2.below hb h.1 h.2.1⟩

/-- The walk's block. -/
def WBlk (w : World) (b : Nat) (lv : Value) (o : Int) : Prop := w.heap[b]? = some (.cells #[lv, .int .i64 o] 92 (0, 0))
abbrev WT : List TypeId := [92]
/-- What the rows of a walk's document stand through: at least all steps of walks. -/
structure KOk (B : Nat) (K : World → World → Prop) : Prop where
 trans : ∀ {x y z}, K x y → K y z → K x z
 of_step : ∀ {N own x y}, Step B N WT own x y → K x y
theorem KOk.of_keep {B : Nat} {K : World → World → Prop} (h : KOk B K) {x y : World} (hk : Keep B WT x y) : K x y := h.of_step (N := 0) (own := []) (step_of_keep hk fun _i hi => absurd hi (Nat.not_lt_zero _))
/-- A walk that stands ahead of the k-th rune of the first of ps. -/
def WSt (K : World → World → Prop) (w : World) (b : Nat) (ps : List RP) (k : Nat) : Prop :=
 ∃ lv o, WBlk w b lv o ∧ (∀ w', K w w' → RunRow w' lv ps) ∧ (∀ p ∈ ps, OkR p.1) ∧
  ((ps = [] ∧ k = 0 ∧ o = 0) ∨ ∃ p r, ps = p :: r ∧ k < (rns p.1).length ∧ o = ((txt ((rns p.1).take k)).length : Nat))
theorem WSt.keep {K : World → World → Prop} {w w' : World} {b : Nat} {ps : List RP} {k : Nat} (h : WSt K w b ps k) (ht : ∀ {x y z}, K x y → K y z → K x z) (hk : K w w') (hb : ∀ lv o, WBlk w b lv o → WBlk w' b lv o) : WSt K w' b ps k := by
 obtain ⟨lv, o, h1, h2, h3, h4⟩ := h
 exact ⟨lv, o, hb _ _ h1, fun w'' hw => h2 w'' (ht hk hw), h3, h4⟩
def nextPs : List RP → Nat → List RP
 | p :: r, k => if k + 1 = (rns p.1).length then r else p :: r
 | [], _ => []
def nextK : List RP → Nat → Nat
 | p :: _, k => if k + 1 = (rns p.1).length then 0 else k + 1
 | [], _ => 0
theorem wblk_cells {w : World} {b : Nat} {lv : Value} {o : Int} (h : WBlk w b lv o) : w.cell? ⟨b, 0, none⟩ = some lv ∧ w.cell? ⟨b, 1, none⟩ = some (.int .i64 o) ∧ w.frozen? ⟨b, 0, none⟩ = false ∧ w.frozen? ⟨b, 1, none⟩ = false := by
 unfold WBlk at h
 exact ⟨by simp [World.cell?, h], by simp [World.cell?, h], by simp [World.frozen?, h], by simp [World.frozen?, h]⟩
def TakeOut (K : World → World → Prop) (w : World) (B b : Nat) (p : RP) (r : List RP) (k : Nat) (c : Nat) (e : Ending) (w' : World) : Prop :=
 e = .returned (cellAgg (c, p)) ∧ WSt K w' b (nextPs (p :: r) k) (nextK (p :: r) k) ∧ Keep B WT w w' ∧ ∀ i, i < w.heap.size → i ≠ b → w'.heap[i]? = w.heap[i]?
theorem decode_go {s : ByteArray} (h : s.size ≠ 0) : Lib.decodeGo s = dec s.data.toList := by
 unfold Lib.decodeGo
 rw [if_neg h, decode_eq, List.drop_zero]
theorem extract_drop (s : ByteArray) (o : Nat) (_h : o ≤ s.size) : (s.extract o s.size).data.toList = s.data.toList.drop o := by
 have e : s.data.toList.length = s.size := rfl
 simp [ByteArray.data_extract, Array.toList_extract, List.extract_eq_take_drop]
 rw [List.take_of_length_le]
 rw [List.length_drop, e]
 exact Nat.le_refl _

theorem lo_add {a b c : Nat} (h : c = a + b) : ((a : Int) + (b : Int)) = ((c : Nat) : Int) := by omega
theorem beq_add {a b c : Nat} (h : a + b = c) : (((a : Int) + (b : Int)) == (c : Int)) = true := by rw [beq_iff_eq]; omega
theorem beq_add_not {a b c : Nat} (h : ¬ a + b = c) : (((a : Int) + (b : Int)) == (c : Int)) = false := by rw [beq_eq_false_iff_ne]; omega
theorem Keep.set_new {B : Nat} {ts : List TypeId} {a w : World} (h : Keep B ts a w) (p : Addr) (u : Value) (hp : a.heap.size ≤ p.block) (hB : B ≤ a.heap.size) : Keep B ts a (w.setCell p u) :=
 ⟨h.below.setCell (Nat.le_trans hB hp) u, fun i o hi ho => by rw [Below.heap_setCell w p u i (fun e => by have := lt_of_heap hi; omega)]; exact h.all i o hi ho⟩
theorem wblk_other {w : World} {b : Nat} {lv : Value} {o : Int} (h : WBlk w b lv o) (p : Addr) (u : Value) (hp : b ≠ p.block) : WBlk (w.setCell p u) b lv o := (Below.heap_setCell w p u b hp).trans h

theorem take_end1 {K : World → World → Prop} {B b : Nat} {w Z : World} {p : RP} {r : List RP} {k rb off cap : Nat} {ta : Option Addr} (hKK : KOk B K) (he : k + 1 = (rns p.1).length)
 (hR : ∀ w', K w w' → RunRow w' (.slice (some ⟨rb, off, none⟩) (r.length + 1) cap) (p :: r)) (hO : ∀ q ∈ p :: r, OkR q.1) (hta : ta = some (if cap = 1 then (⟨rb, off, none⟩ : Addr) else ⟨rb, off + 2, none⟩))
 (hK : K w Z) (hA : WBlk Z b (.slice ta r.length (cap - 1)) 0) : WSt K Z b (nextPs (p :: r) k) (nextK (p :: r) k) := by
 simp only [nextPs, nextK, if_pos he]
 refine ⟨_, _, hA, fun w' hw => ?_, fun q hq => hO q (List.mem_cons_of_mem _ hq), ?_⟩
 ·obtain ⟨b', off', cap', e, _, _, _, _, _, _, h⟩ := (hR w' (hKK.trans hK hw)).head
  simp only [Value.slice.injEq, Option.some.injEq, Addr.mk.injEq, and_true, true_and] at e
  obtain ⟨⟨rfl, rfl⟩, rfl⟩ := e
  rw [hta]
  exact h
 ·cases r with
  | nil => exact .inl ⟨rfl, rfl, rfl⟩
  | cons q r => exact .inr ⟨q, r, rfl, List.length_pos_iff.2 (hO q (by simp)).rns.2.2.1, by simp [txt]⟩
theorem take_end2 {K : World → World → Prop} {B b : Nat} {w Z : World} {p : RP} {r : List RP} {k : Nat} {lv : Value} {o : Int} (hKK : KOk B K) (hk : k < (rns p.1).length) (he : k + 1 = (rns p.1).length → False)
 (hR : ∀ w', K w w' → RunRow w' lv (p :: r)) (hO : ∀ q ∈ p :: r, OkR q.1) (ho : o = ((txt ((rns p.1).take (k + 1))).length : Nat))
 (hK : K w Z) (hA : WBlk Z b lv o) : WSt K Z b (nextPs (p :: r) k) (nextK (p :: r) k) := by
 have he' : ¬ k + 1 = (rns p.1).length := he
 simp only [nextPs, nextK, if_neg he']
 exact ⟨_, _, hA, fun w' hw => hR w' (hKK.trans hK hw), hO, .inr ⟨p, r, rfl, by omega, ho⟩⟩

set_option maxHeartbeats 4000000 in
set_option maxRecDepth 100000 in
theorem take_any (K : World → World → Prop) (B b : Nat) (p : RP) (r : List RP) (k : Nat) (w : World) (hKK : KOk B K) (h : WSt K w b (p :: r) k) (hB : B ≤ b) (hT : U8s B w) (hk : k < (rns p.1).length) :
 Calls Tryz.prog 70 #[.pointer (some ⟨b, 0, none⟩)] w (TakeOut K w B b p r k (rns p.1)[k]) := by
 obtain ⟨lv, o, hW, hR, hO, hc⟩ := h
 obtain ⟨p', r', he, _, ho⟩ := hc.resolve_left (by rintro ⟨h, _⟩; cases h)
 simp only [List.cons.injEq] at he
 obtain ⟨rfl, rfl⟩ := he
 obtain ⟨q, av⟩ := p
 simp only at hk ho
 obtain ⟨rb, off, cap, rfl, hrb, x0, x1, hA, hc1, hc2, hR2⟩ := (hR w (hKK.of_keep (Keep.refl _ _ _))).head
 simp only at x0 x1 hA
 obtain ⟨aa, ac, rfl⟩ := hA.shape
 obtain ⟨ok1, ok2, ok3, ok4⟩ := (show OkR q from hO (q, .slice aa q.attrs.length ac) (List.mem_cons_self ..)).rns
 obtain ⟨d1, d2, d3, d4⟩ := at_rune ok1 k hk
 have d5 := at_end ok1 k hk
 rw [← ok2] at d1 d3 d4 d5
 have hl20 : (txt (rns q)).length ≤ 80000 := by have := (txt_len (rns q)).2; omega
 have hsz : q.text.size ≤ 80000 := by rw [ok2, T_size]; exact hl20
 obtain ⟨lo, hlo⟩ : ∃ lo, lo = (txt ((rns q).take k)).length := ⟨_, rfl⟩
 obtain ⟨c, hcc⟩ : ∃ c, c = (rns q)[k] := ⟨_, rfl⟩
 obtain ⟨m, hm⟩ : ∃ m, m = (enc c).length := ⟨_, rfl⟩
 have hm1 := enc_pos c
 rw [← hlo, ← hcc, ← hm] at d1 d2 d3 d4
 rw [d2] at d5
 rw [← hlo] at ho
 subst ho
 rw [← hm] at hm1
 rw [← hcc]
 obtain ⟨tl, htl⟩ : ∃ tl, tl = q.text.extract lo q.text.size := ⟨_, rfl⟩
 have htd : tl.data.toList = q.text.data.toList.drop lo := by rw [htl]; exact extract_drop _ _ (by omega)
 have htz : tl.size ≠ 0 := by
  rw [size_data, htd, List.length_drop, ← size_data]; omega
 have hD : Lib.decodeGo tl = (c, m) := by rw [decode_go htz, htd]; exact d1
 have HDEC := Lib.hid (fun W' (hT' : U8 W') => show Calls Tryz.prog 89 #[.string tl] W' fun e w'' => e = .returned (.tuple #[.int .i32 (c : Nat), .int .i64 (m : Nat)]) ∧ Below W'.heap.size W' w'' by
  have := Tryz.utf8_DecodeRuneInString tl W' hT'
  rw [hD] at this
  exact this)
 have S1 : ∀ W, (Instr.sliceAt 9 (.string q.text) (some (.int .i64 (lo : Nat))) none none).run Tryz.prog W = .ok (.string tl) W := fun W => by
  rw [run_sliceAt_string W _ _ _ _ _ Tryz.underlying9, run_slice_string_l W _ _ Tryz.underlying9 .i64 _ (by omega) (by omega), htl, Int.toNat_natCast]
 have S2 : ∀ W, (Instr.sliceAt 9 (.string q.text) (some (.int .i64 (lo : Nat))) (some (.int .i64 ((lo : Nat) + (m : Nat)))) none).run Tryz.prog W = .ok (.string (E c)) W := fun W => by
  have e : ((lo : Int) + (m : Int)).toNat = lo + m := by omega
  rw [run_sliceAt_string W _ _ _ _ _ Tryz.underlying9, run_slice_string W _ _ .i64 .i64 _ _ Tryz.underlying9 (by omega) (by omega) (by omega), Int.toNat_natCast, e, d4]
 have hwr : IntKind.i64.wrap ((lo : Int) + (m : Int)) = (lo : Int) + (m : Int) := IntWalk.i64_in _ (by omega)
 have hwr2 : wrap64 ((lo : Int) + (m : Int)) = (lo : Int) + (m : Int) := IntWalk.wrap64_in _ (by omega)
 have hbl := lt_of_heap hW
 obtain ⟨k0, k1, f0, f1⟩ := wblk_cells hW
 obtain ⟨W, hWW⟩ : ∃ W, W = (w.alloc (.cells #[.string ⟨#[]⟩, .slice none 0 0] 54)).alloc (.cells #[.string q.text, .slice aa q.attrs.length ac] 77) := ⟨_, rfl⟩
 have BW : Below w.heap.size w W := by rw [hWW]; exact ((Below.refl _ _).alloc (Nat.le_refl _) _).alloc (by simp) _
 have q0 : W.cell? ⟨b, 0, none⟩ = some (.slice (some ⟨rb, off, none⟩) (r.length + 1) cap) := (BW.cell (by exact hbl)).trans k0
 have q1 : W.cell? ⟨b, 1, none⟩ = some (.int .i64 (lo : Nat)) := (BW.cell (by exact hbl)).trans k1
 have r0 : W.cell? ⟨w.heap.size + 1, 0, none⟩ = some (.string q.text) := by rw [hWW]; go_simp
 have r1 : W.cell? ⟨w.heap.size + 1, 1, none⟩ = some (.slice aa q.attrs.length ac) := by rw [hWW]; go_simp
 have u0 : W.heap[w.heap.size]? = some (.cells #[.string ⟨#[]⟩, .slice none 0 0] 54 (0, 0)) := by
  rw [hWW, Below.heap_alloc _ _ _ (by simp)]; exact heap_new _ _
 have hl1 : w.heap.size + 1 < W.heap.size := by rw [hWW]; simp
 have hBw : B ≤ w.heap.size := by omega
 have HT := Lib.hid hT
 have HW := Lib.hid hWW
 have HBW := Lib.hid BW
 have HU0 := Lib.hid u0
 have HR := Lib.hid hR
 have HR2 := Lib.hid hR2
 have HO := Lib.hid hO
 have HWB := Lib.hid hW
 have D5 := Lib.hid d5
 have HK := Lib.hid (And.intro hk (And.intro hlo (And.intro hcc (And.intro hm d2))))
 have hlo2 : lo + m ≤ q.text.size := d3
 have i0 : (0 : Int) < (r.length : Int) + 1 := by omega
 have hbW : b < W.heap.size := Nat.lt_of_lt_of_le hbl BW.size
 clear hT hWW BW hR hR2 hO hW d1 d2 d3 d4 d5 ok1 ok2 ok3 ok4 hl20 hcc hm htl htd htz hD hlo hc hA u0
 go_enter Tryz.func70, Tryz.ntmps70
 go_wp2_with fail
 rw [← HW.out]
 go_region_held3 (fun w' => w'.cell? ⟨w.heap.size + 1, 0, none⟩ = some (.string q.text) ∧ w'.cell? ⟨b, 1, none⟩ = some (.int .i64 (lo : Nat)))
  (first
   | exact ⟨r0, q1⟩
   | exact ⟨rA, qA⟩)
  (first
   | (go_at_call 89; refine (HDEC.out W.drew (show U8 W.drew from (HT.out.to (HBW.out.mono hBw)).2.2)).mono ?_; rintro e wA ⟨rfl, hbA⟩; have BA : Below W.heap.size W wA := of_drew hbA; have rA : wA.cell? ⟨w.heap.size + 1, 0, none⟩ = some (.string q.text) := (BA.cell (by exact hl1)).trans r0; have qA : wA.cell? ⟨b, 1, none⟩ = some (.int .i64 (lo : Nat)) := (BA.cell (by exact hbW)).trans q1))
 have rA1 : wA.cell? ⟨w.heap.size + 1, 1, none⟩ = some (.slice aa q.attrs.length ac) := (BA.cell (by exact hl1)).trans r1
 have hbA2 : b < wA.heap.size := Nat.lt_of_lt_of_le hbW BA.size
 have hlA : w.heap.size + 1 < wA.heap.size := Nat.lt_of_lt_of_le hl1 BA.size
 have HBA := Lib.hid BA
 clear hbA BA r0 r1 q1 x0 x1
 go_wp2_with fail
 go_region
 obtain ⟨X, hX⟩ : ∃ X, X = (wA.alloc (.cells #[.string (E c), .slice aa q.attrs.length ac] 54)).drew := ⟨_, rfl⟩
 rw [← hX]
 have BX : Below w.heap.size w X := by rw [hX]; exact ((HBW.out.trans (HBA.out.mono HBW.out.size)).alloc (by have := HBA.out.size; have := HBW.out.size; omega) _).drew
 have x0 : X.cell? ⟨b, 0, none⟩ = some (.slice (some ⟨rb, off, none⟩) (r.length + 1) cap) := (BX.cell (by exact hbl)).trans k0
 have HXW : X.heap[b]? = some (.cells #[.slice (some ⟨rb, off, none⟩) (r.length + 1) cap, .int .i64 (lo : Nat)] 92 (0, 0)) := (BX.block b hbl).trans HWB.out
 obtain ⟨_, x1, xf0, xf1⟩ := wblk_cells HXW
 have hlX : w.heap.size + 1 < X.heap.size := by rw [hX]; show _ < (wA.alloc _).heap.size; simp; omega
 have z0 : X.cell? ⟨w.heap.size + 1, 0, none⟩ = some (.string q.text) := by rw [hX]; show (wA.alloc _).cell? _ = _; go_simp; try exact rA
 have y0 : X.cell? ⟨wA.heap.size, 0, none⟩ = some (.string (E c)) := by rw [hX]; show (wA.alloc _).cell? _ = _; go_simp
 have y1 : X.cell? ⟨wA.heap.size, 1, none⟩ = some (.slice aa q.attrs.length ac) := by rw [hX]; show (wA.alloc _).cell? _ = _; go_simp
 have HXU : X.heap[w.heap.size]? = some (.cells #[.string ⟨#[]⟩, .slice none 0 0] 54 (0, 0)) := by
  have hlt : w.heap.size < W.heap.size := by omega
  have hlt2 : w.heap.size < wA.heap.size := by omega
  rw [hX]
  show (wA.alloc _).heap[_]? = _
  rw [Below.heap_alloc _ _ _ (by omega), HBA.out.block _ hlt]
  exact HU0.out
 have v0 : X.cell? ⟨w.heap.size, 0, none⟩ = some (.string ⟨#[]⟩) := by simp [World.cell?, HXU]
 have v1 : X.cell? ⟨w.heap.size, 1, none⟩ = some (.slice none 0 0) := by simp [World.cell?, HXU]
 have vf0 : X.frozen? ⟨w.heap.size, 0, none⟩ = false := by simp [World.frozen?, HXU]
 have vf1 : X.frozen? ⟨w.heap.size, 1, none⟩ = false := by simp [World.frozen?, HXU]
 have HHU := Lib.hid HXU
 have HX := Lib.hid hX
 have HBX := Lib.hid BX
 have HXB := Lib.hid HXW
 clear hX BX HXW HXU rA qA rA1 k0 k1 f0 f1
 by_cases hend : lo + m = q.text.size
 ·have t1 := beq_add hend
  have HE := Lib.hid (D5.out.1 hend)
  obtain ⟨ta, hta⟩ : ∃ ta, ta = some (if cap = 1 then (⟨rb, off, none⟩ : Addr) else ⟨rb, off + 2, none⟩) := ⟨_, rfl⟩
  have HTA := Lib.hid hta
  have HT2 := Lib.hid (fun W' => slice_tail rb off r.length cap hc1 W')
  rw [← hta] at HT2
  clear hend hta
  go_wp2_with fail
  go_region
  go_wp2_with (refine wpList_sliced (.slice (some ⟨rb, off, none⟩) (r.length + 1) cap) (.slice ta r.length (cap - 1)) rfl (HT2.out _) ?_)
  have K1 : Keep B WT w X := keep_below HBX.out hBw
  have A1 : WBlk (X.setCell ⟨b, 1, none⟩ (.int .i64 ((lo : Int) + (m : Int)))) b _ _ := nblk_set (j := 1) HXB.out
  have K2 := K1.trans (keep_set (ts := WT) HXB.out (by simp) hB ⟨b, 1, none⟩ rfl (.int .i64 ((lo : Int) + (m : Int))))
  have A2 : WBlk (_ : World) b (.slice ta r.length (cap - 1)) _ := nblk_set (j := 0) (u := .slice ta r.length (cap - 1)) A1
  have K3 := K2.trans (keep_set (ts := WT) A1 (by simp) hB ⟨b, 0, none⟩ rfl (.slice ta r.length (cap - 1)))
  have A3 : WBlk (_ : World) b (.slice ta r.length (cap - 1)) 0 := nblk_set (j := 1) (u := .int .i64 0) A2
  have K4 := K3.trans (keep_set (ts := WT) A2 (by simp) hB ⟨b, 1, none⟩ rfl (.int .i64 0))
  have C3 := (Below.heap_setCell _ ⟨b, 1, none⟩ (.int .i64 0) w.heap.size (by show w.heap.size ≠ b; omega)).trans ((Below.heap_setCell _ ⟨b, 0, none⟩ (.slice ta r.length (cap - 1)) w.heap.size (by show w.heap.size ≠ b; omega)).trans ((Below.heap_setCell X ⟨b, 1, none⟩ (.int .i64 ((lo : Int) + (m : Int))) w.heap.size (by show w.heap.size ≠ b; omega)).trans HHU.out))
  have A4 := wblk_other (wblk_other A3 ⟨w.heap.size, 0, none⟩ (.string (E c)) (by show b ≠ w.heap.size; omega)) ⟨w.heap.size, 1, none⟩ (.slice aa q.attrs.length ac) (by show b ≠ w.heap.size; omega)
  have K5 := ((K4.set_new ⟨w.heap.size, 0, none⟩ (.string (E c)) (Nat.le_refl _) hBw).set_new ⟨w.heap.size, 1, none⟩ (.slice aa q.attrs.length ac) (Nat.le_refl _) hBw)
  have C4 := nblk_set (j := 1) (u := .slice aa q.attrs.length ac) (nblk_set (j := 0) (u := .string (E c)) C3)
  have hKZ : K w _ := hKK.of_keep K5.drew
  have FIN : TakeOut K w B b (q, .slice aa q.attrs.length ac) r k c (.returned (cellAgg (c, (q, .slice aa q.attrs.length ac)))) _ := ⟨rfl, take_end1 hKK HE.out HR.out HO.out HTA.out hKZ A4, K5.drew, fun i hi hib => others1 HBX.out hi hib⟩
  have z0 := Lib.cell_of_heap C4 0
  have z1 := Lib.cell_of_heap C4 1
  exact bodyPost_ret (v := cellAgg (c, (q, .slice aa q.attrs.length ac))) (by simp [results, Tryz.results70, go_sem, z0, z1]) rfl FIN
 ·have t1 := beq_add_not hend
  have HE := Lib.hid (fun e => hend (D5.out.2 e))
  clear hend
  go_wp2_with fail
  go_region
  go_wp2_with fail
  have K1 : Keep B WT w X := keep_below HBX.out hBw
  have A1 : WBlk (X.setCell ⟨b, 1, none⟩ (.int .i64 ((lo : Int) + (m : Int)))) b _ _ := nblk_set (j := 1) HXB.out
  have K4 := K1.trans (keep_set (ts := WT) HXB.out (by simp) hB ⟨b, 1, none⟩ rfl (.int .i64 ((lo : Int) + (m : Int))))
  have C3 := (Below.heap_setCell X ⟨b, 1, none⟩ (.int .i64 ((lo : Int) + (m : Int))) w.heap.size (by show w.heap.size ≠ b; omega)).trans HHU.out
  have A4 := wblk_other (wblk_other A1 ⟨w.heap.size, 0, none⟩ (.string (E c)) (by show b ≠ w.heap.size; omega)) ⟨w.heap.size, 1, none⟩ (.slice aa q.attrs.length ac) (by show b ≠ w.heap.size; omega)
  have K5 := ((K4.set_new ⟨w.heap.size, 0, none⟩ (.string (E c)) (Nat.le_refl _) hBw).set_new ⟨w.heap.size, 1, none⟩ (.slice aa q.attrs.length ac) (Nat.le_refl _) hBw)
  have C4 := nblk_set (j := 1) (u := .slice aa q.attrs.length ac) (nblk_set (j := 0) (u := .string (E c)) C3)
  have hKZ : K w _ := hKK.of_keep K5.drew
  have FIN : TakeOut K w B b (q, .slice aa q.attrs.length ac) r k c (.returned (cellAgg (c, (q, .slice aa q.attrs.length ac)))) _ := ⟨rfl, take_end2 hKK HK.out.1 HE.out HR.out HO.out (lo_add HK.out.2.2.2.2) hKZ A4, K5.drew, fun i hi hib => others2 HBX.out hi hib⟩
  have z0 := Lib.cell_of_heap C4 0
  have z1 := Lib.cell_of_heap C4 1
  exact bodyPost_ret (v := cellAgg (c, (q, .slice aa q.attrs.length ac))) (by simp [results, Tryz.results70, go_sem, z0, z1]) rfl FIN
end Go.Proofs.YtlfodemmdfaeeaaGreatDoor
