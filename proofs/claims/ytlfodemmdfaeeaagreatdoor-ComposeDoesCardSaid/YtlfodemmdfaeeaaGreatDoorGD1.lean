/- Texts of this seat, put together: Dc, Db, Ds, Dp. -/
import Derived.Test.YtlfodemmdfaeeaaGreatDoorGC1
import Derived.Test.YtlfodemmdfaeeaaGreatDoorGD0
import Derived.Test.YtlfodemmdfaeeaaGreatDoorGC2
import Derived.BigRegion
/- Documents: runs, their runes, their cells; rows of runs in memory; a text's runes at its offsets. -/
namespace Go.Proofs.YtlfodemmdfaeeaaGreatDoor
open Go.RowKit Rn Ch

theorem out_not {ts : List TypeId} {o : Obj} (h : o.isCells = false) : Out ts o := by cases o <;> first | trivial | cases h
theorem step_of_keep {B N : Nat} {ts : List TypeId} {own : List Nat} {w w' : World} (h : Keep B ts w w') (ho : ∀ i, i < N → i ∉ own → ∀ o, w.heap[i]? = some o → w'.heap[i]? = some o) : Step B N ts own w w' :=
 ⟨h.below, fun i cs e fr hi he => he.elim (fun h1 => h.kept i cs e fr hi h1) fun ⟨h1, h2⟩ => ho i h1 h2 _ hi, fun i o _ ho hc => h.all i o ho (out_not hc)⟩
theorem rnd_of_keep {B N : Nat} {ts : List TypeId} {w w' : World} (h : Keep B ts w w') : Rnd B N ts w w' :=
 ⟨h.below, h.kept, fun i o _ ho hc => h.all i o ho (out_not hc)⟩
structure RunD where
 text : ByteArray
 attrs : List (ByteArray × ByteArray)
/-- A run, and its row of attributes. -/
abbrev RP := RunD × Value
def rns (r : RunD) : List Nat := (rd r.text.data.toList).getD []
/-- Its text is one, and not empty. -/
def OkR (r : RunD) : Prop := ∃ cs, rd r.text.data.toList = some cs ∧ cs ≠ []
theorem OkR.rns {r : RunD} (h : OkR r) : allOk (rns r) ∧ r.text = T (rns r) ∧ rns r ≠ [] ∧ (rns r).length ≤ 20000 := by
 obtain ⟨cs, h1, h2⟩ := h
 have e : Go.Proofs.YtlfodemmdfaeeaaGreatDoor.rns r = cs := by unfold Go.Proofs.YtlfodemmdfaeeaaGreatDoor.rns; rw [h1]; rfl
 rw [e]
 exact ⟨(rd_some h1).1, rd_T h1, h2, (rd_some h1).2.2⟩
def E (c : Nat) : ByteArray := ⟨(enc c).toArray⟩
/-- A cell: a rune, and its run. -/
abbrev CellV := Nat × RP
def cellsR (p : RP) : List CellV := (rns p.1).map fun c => (c, p)
def cellsP (ps : List RP) : List CellV := ps.flatMap cellsR
theorem cellsP_cons (p : RP) (ps : List RP) : cellsP (p :: ps) = cellsR p ++ cellsP ps := rfl
theorem cellsR_len (p : RP) : (cellsR p).length = (rns p.1).length := by simp [cellsR]
theorem cellsR_at (p : RP) (k : Nat) (h : k < (rns p.1).length) : (cellsR p)[k]'(by rw [cellsR_len]; exact h) = ((rns p.1)[k], p) := by simp [cellsR]
abbrev cellAgg (x : CellV) : Value := .agg #[.string (E x.1), x.2.2]

/-- The rune at an offset of a text. -/
theorem at_rune {cs : List Nat} (h : allOk cs) (k : Nat) (hk : k < cs.length) : dec (((T cs).data.toList).drop (txt (cs.take k)).length) = (cs[k], (enc cs[k]).length) ∧
 (txt (cs.take (k + 1))).length = (txt (cs.take k)).length + (enc cs[k]).length ∧ (txt (cs.take k)).length + (enc cs[k]).length ≤ (T cs).size ∧
 (T cs).extract (txt (cs.take k)).length ((txt (cs.take k)).length + (enc cs[k]).length) = E cs[k] := by
 have e1 : cs = cs.take k ++ cs[k] :: cs.drop (k + 1) := by rw [← List.drop_eq_getElem_cons hk, List.take_append_drop]
 have e2 : txt cs = txt (cs.take k) ++ (enc cs[k] ++ txt (cs.drop (k + 1))) := by
  conv => lhs; rw [e1, txt_append, txt_cons]
 have e3 : (txt (cs.take (k + 1))).length = (txt (cs.take k)).length + (enc cs[k]).length := by
  rw [List.take_succ_eq_append_getElem hk, txt_append, List.length_append]
  congr 1
  simp [txt]
 have hs : (T cs).size = (txt (cs.take k)).length + ((enc cs[k]).length + (txt (cs.drop (k + 1))).length) := by
  rw [T_size, e2, List.length_append, List.length_append]
 refine ⟨?_, e3, by omega, ?_⟩
 ·rw [T_data, e2, List.drop_left]
  exact dec_enc _ (h _ (List.getElem_mem hk)) _
 ·have h1 := T_mid cs k (k + 1) (Nat.le_succ _)
  rw [e3] at h1
  rw [h1]
  have : (cs.take (k + 1)).drop k = [cs[k]] := by
   rw [List.take_succ_eq_append_getElem hk, List.drop_left' (by rw [List.length_take]; omega)]
  rw [this]
  apply ba_inj
  simp [T, E, txt]
theorem at_end {cs : List Nat} (h : allOk cs) (k : Nat) (hk : k < cs.length) : ((txt (cs.take (k + 1))).length = (T cs).size ↔ k + 1 = cs.length) := by
 rw [T_size]
 constructor
 ·intro he
  by_cases hl : k + 1 = cs.length
  ·exact hl
  ·have hlt : k + 1 < cs.length := by omega
   have h2 := (at_rune h (k + 1) hlt).2.2.1
   have h3 := enc_pos cs[k + 1]
   rw [T_size] at h2
   omega
 ·intro he
  rw [he, List.take_length]

/-- A row of runs, whosever it is. -/
def RunRow (w : World) (v : Value) (ps : List RP) : Prop :=
 (∃ a cap, v = .slice a ps.length cap ∧ ps.length ≤ cap ∧ cap ≤ maxLen ∧ ∀ i (h : i < ps.length), ∃ b off, a = some ⟨b, off, none⟩ ∧ b < w.heap.size ∧ w.cell? ⟨b, off + i * 2, none⟩ = some (.string ps[i].1.text) ∧ w.cell? ⟨b, off + i * 2 + 1, none⟩ = some ps[i].2) ∧
 ∀ p ∈ ps, AtRow w p.2 p.1.attrs
theorem RunRow.below {w w' : World} {v : Value} {ps : List RP} (h : RunRow w v ps) (hb : Below w.heap.size w w') : RunRow w' v ps := by
 obtain ⟨⟨a, cap, rfl, h1, h2, h3⟩, h4⟩ := h
 refine ⟨⟨a, cap, rfl, h1, h2, fun i hi => ?_⟩, fun p hp => (h4 p hp).below hb⟩
 obtain ⟨b, off, rfl, hlt, x, y⟩ := h3 i hi
 exact ⟨b, off, rfl, Nat.lt_of_lt_of_le hlt hb.size, by rw [hb.cell (by exact hlt)]; exact x, by rw [hb.cell (by exact hlt)]; exact y⟩
theorem RunRow.shape {w : World} {v : Value} {ps : List RP} (h : RunRow w v ps) : ∃ a cap, v = .slice a ps.length cap := by
 obtain ⟨⟨a, cap, rfl, _⟩, _⟩ := h
 exact ⟨a, cap, rfl⟩
/-- The row's own cells and those of its attributes, each told by itself: what keeps them. -/
theorem RunRow.head {w : World} {v : Value} {p : RP} {ps : List RP} (h : RunRow w v (p :: ps)) :
 ∃ b off cap, v = .slice (some ⟨b, off, none⟩) (ps.length + 1) cap ∧ b < w.heap.size ∧ w.cell? ⟨b, off, none⟩ = some (.string p.1.text) ∧ w.cell? ⟨b, off + 1, none⟩ = some p.2 ∧ AtRow w p.2 p.1.attrs ∧ ps.length + 1 ≤ cap ∧ cap ≤ maxLen ∧
  RunRow w (.slice (some (if cap = 1 then ⟨b, off, none⟩ else ⟨b, off + 2, none⟩)) ps.length (cap - 1)) ps := by
 obtain ⟨⟨a, cap, rfl, h1, h2, h3⟩, h4⟩ := h
 obtain ⟨b, off, rfl, hlt, x, y⟩ := h3 0 (Nat.succ_pos _)
 rw [List.length_cons] at h1
 refine ⟨b, off, cap, rfl, hlt, by simpa using x, by simpa using y, h4 p (List.mem_cons_self ..), h1, h2, ⟨_, cap - 1, rfl, by omega, by omega, fun i hi => ?_⟩, fun q hq => h4 q (List.mem_cons_of_mem _ hq)⟩
 obtain ⟨b', off', e, _, x', y'⟩ := h3 (i + 1) (by rw [List.length_cons]; omega)
 simp only [Option.some.injEq, Addr.mk.injEq, and_true] at e
 obtain ⟨rfl, rfl⟩ := e
 have hc : ¬ cap = 1 := by omega
 rw [if_neg hc]
 have e2 : off + 2 + i * 2 = off + (i + 1) * 2 := by omega
 exact ⟨b, off + 2, rfl, hlt, by rw [e2]; exact x', by rw [e2]; exact y'⟩

/-- 'left[1:]'. -/
theorem slice_tail (b off n cap : Nat) (_hn : n + 1 ≤ cap) (W : World) : (Instr.sliceAt 22 (.slice (some ⟨b, off, none⟩) (n + 1) cap) (some (.int .i64 1)) none none).run Tryz.prog W = .ok (.slice (some (if cap = 1 then ⟨b, off, none⟩ else ⟨b, off + 2, none⟩)) n (cap - 1)) W := by
 have he : Tryz.prog.elem 22 = 77 := by kernel_rfl
 have hu : Tryz.prog.underlying 22 = some (.slice (Tryz.prog.elem 22)) := by kernel_rfl
 rw [run_sliceAt_slice W _ _ _ _ _ hu, run_slice_l W _ _ _ _ hu .i64 _ (by omega) (by omega), he, Tryz.sizeOf77]
 have e : sliced (some ⟨b, off, none⟩) 1 (n + 1) cap 2 = .slice (some (if cap = 1 then ⟨b, off, none⟩ else ⟨b, off + 2, none⟩)) n (cap - 1) := by
  unfold sliced
  by_cases hc : cap = 1
  ·rw [if_pos hc, if_pos hc]; rfl
  ·rw [if_neg hc, if_neg hc]; rfl
 rw [← e]; rfl
theorem others2 {w X : World} {b i : Nat} (hX : Below w.heap.size w X) (hi : i < w.heap.size) (hib : i ≠ b) {u1 u4 u5 : Value} :
 ((((X.setCell ⟨b, 1, none⟩ u1).setCell ⟨w.heap.size, 0, none⟩ u4).setCell ⟨w.heap.size, 1, none⟩ u5).drew).heap[i]? = w.heap[i]? := by
 have hn : i ≠ w.heap.size := Nat.ne_of_lt hi
 have h1 := hX.block i hi
 have h2 := Below.heap_setCell X ⟨b, 1, none⟩ u1 i hib
 have h3 := Below.heap_setCell (X.setCell ⟨b, 1, none⟩ u1) ⟨w.heap.size, 0, none⟩ u4 i hn
 have h4 := Below.heap_setCell ((X.setCell ⟨b, 1, none⟩ u1).setCell ⟨w.heap.size, 0, none⟩ u4) ⟨w.heap.size, 1, none⟩ u5 i hn
 exact (h4.trans (h3.trans (h2.trans h1)))
theorem others1 {w X : World} {b i : Nat} (hX : Below w.heap.size w X) (hi : i < w.heap.size) (hib : i ≠ b) {u1 u2 u3 u4 u5 : Value} :
 ((((((X.setCell ⟨b, 1, none⟩ u1).setCell ⟨b, 0, none⟩ u2).setCell ⟨b, 1, none⟩ u3).setCell ⟨w.heap.size, 0, none⟩ u4).setCell ⟨w.heap.size, 1, none⟩ u5).drew).heap[i]? = w.heap[i]? := by
 have hn : i ≠ w.heap.size := Nat.ne_of_lt hi
 have h1 := hX.block i hi
 generalize hy : X.setCell ⟨b, 1, none⟩ u1 = Y
 have h2 : Y.heap[i]? = X.heap[i]? := by rw [← hy]; exact Below.heap_setCell X ⟨b, 1, none⟩ u1 i hib
 generalize hz : Y.setCell ⟨b, 0, none⟩ u2 = Z
 have h3 : Z.heap[i]? = Y.heap[i]? := by rw [← hz]; exact Below.heap_setCell Y ⟨b, 0, none⟩ u2 i hib
 generalize hu : Z.setCell ⟨b, 1, none⟩ u3 = U
 have h4 : U.heap[i]? = Z.heap[i]? := by rw [← hu]; exact Below.heap_setCell Z ⟨b, 1, none⟩ u3 i hib
 have h5 := Below.heap_setCell U ⟨w.heap.size, 0, none⟩ u4 i hn
 have h6 := Below.heap_setCell (U.setCell ⟨w.heap.size, 0, none⟩ u4) ⟨w.heap.size, 1, none⟩ u5 i hn
 exact h6.trans (h5.trans (h4.trans (h3.trans (h2.trans h1))))
end Go.Proofs.YtlfodemmdfaeeaaGreatDoor

/- strings.Builder's methods at a builder that lies inside of the program's document. -/
namespace Go.Proofs.YtlfodemmdfaeeaaGreatDoor
open Go.RowKit Ch

/-- The block of a document on the way. (The last letter says nothing: it keeps this text the twin of gather's.) -/
def DBlk (w : World) (b : Nat) (ov ad bv : Value) (_g : Int) : Prop := w.heap[b]? = some (.cells #[ov, ad, bv] 49 (0, 0))
theorem DBlk.cells {w : World} {b : Nat} {ov ad bv : Value} {g : Int} (h : DBlk w b ov ad bv g) : w.cell? ⟨b, 0, none⟩ = some ov ∧ w.cell? ⟨b, 1, none⟩ = some ad ∧ w.cell? ⟨b, 2, none⟩ = some bv ∧ True ∧
 ∀ j, w.frozen? ⟨b, j, none⟩ = false := by
 unfold DBlk at h
 refine ⟨by simp [World.cell?, h], by simp [World.cell?, h], by simp [World.cell?, h], trivial, fun j => by simp [World.frozen?, h]⟩
theorem DBlk.keep {w w' : World} {b C : Nat} {ts : List TypeId} {ov ad bv : Value} {g : Int} (h : DBlk w b ov ad bv g) (hk : Keep C ts w w') (h1 : 49 ∉ ts) : DBlk w' b ov ad bv g := hk.kept _ _ _ _ h h1
theorem DBlk.set0 {w : World} {b : Nat} {ov ad bv u : Value} {g : Int} (h : DBlk w b ov ad bv g) : DBlk (w.setCell ⟨b, 0, none⟩ u) b u ad bv g := nblk_set h
theorem DBlk.set1 {w : World} {b : Nat} {ov ad bv u : Value} {g : Int} (h : DBlk w b ov ad bv g) : DBlk (w.setCell ⟨b, 1, none⟩ u) b ov u bv g := nblk_set h
theorem DBlk.set2 {w : World} {b : Nat} {ov ad bv u : Value} {g : Int} (h : DBlk w b ov ad bv g) : DBlk (w.setCell ⟨b, 2, none⟩ u) b ov ad u g := nblk_set h
theorem liesBldD : liesAt Tryz.prog Tryz.prog.depth 49 (3 / Tryz.prog.cellsOf 49) 1 47 1 = true := by kernel_rfl
theorem DBlk.shape {w : World} {b : Nat} {ov ad bv : Value} {g : Int} (h : DBlk w b ov ad bv g) : w.shape? b = some (49, 3) := by
 unfold DBlk at h
 simp [World.shape?, h]
def CCOutD (w : World) (b : Nat) (ov bv : Value) (g : Int) (e : Ending) (w' : World) : Prop := e = .returned (.tuple #[]) ∧ DBlk w' b ov (selfB b) bv g ∧ w.grownBy w' (some b)

set_option maxHeartbeats 1000000 in
set_option maxRecDepth 100000 in
theorem copyCheckD_any (b : Nat) (ov ad bv : Value) (g : Int) (w : World) (h : DBlk w b ov ad bv g) (ha : Addrs b ad) :
 Calls Tryz.prog 74 #[selfB b] w (CCOutD w b ov bv g) := by
 obtain ⟨j, hj, hjs⟩ := Option.map_eq_some_iff.1 infoBld
 have hj0 : j.size ≠ 0 := by simpa using hjs
 obtain ⟨k0, k1, k2, k3, k4⟩ := h.cells
 have f1 := k4 1
 have HN := Lib.hid h
 rcases ha with rfl | rfl
 ·clear h k0 k2 k3 k4 hjs
  go_enter Tryz.func74, Tryz.ntmps74
  go_wp2_with fail
  rw [Lib.run_to_unsafe w ⟨b, 1, none⟩ Tryz.underlying44 Tryz.underlying151 hj hj0 HN.out.shape (show 1 < 3 by decide)]
  simp only [Result.andThen]
  rw [Oper.upon_value]
  go_wp2_with fail
  rw [run_callFunc_extern Tryz.func90 (by kernel_rfl) (by kernel_rfl) (by kernel_rfl) (e := Extern.AbiNoEscape.same) (by kernel_rfl)]
  rw [Lib.run_noEscape]
  simp only [Result.andThen]
  rw [Oper.upon_value]
  go_wp2_with fail
  rw [Lib.run_from_unsafe w ⟨b, 1, none⟩ Tryz.underlying151 Tryz.underlying44 hj HN.out.shape liesBldD]
  simp only [Result.andThen]
  rw [Oper.upon_value]
  go_wp2_with fail
  go_end0
  exact ⟨rfl, HN.out.set1, only_setCell (grown_refl _ _) rfl _⟩
 ·clear h k0 k2 k3 k4 hjs
  go_enter Tryz.func74, Tryz.ntmps74
  go_wp2_with fail
  rw [Lib.run_neq_ptr_same w _ Tryz.underlying44 hj]
  go_wp2_with fail
  go_end0
  exact ⟨rfl, HN.out, grown_refl _ _⟩


def WSOutD (w : World) (B b : Nat) (ov : Value) (g : Int) (bt : List UInt8) (e : Ending) (w' : World) : Prop :=
 (∃ n : Int, e = .returned (.tuple #[.int .i64 n, .nilIface])) ∧ (∃ bv, DBlk w' b ov (selfB b) bv g ∧ Holds8 w' B bv bt) ∧ Keep B [49, 5] w w'

set_option maxHeartbeats 2000000 in
set_option maxRecDepth 100000 in
theorem writeStringD_any (B b : Nat) (ov ad bv : Value) (g : Int) (bt : List UInt8) (s : ByteArray) (w : World) (h : DBlk w b ov ad bv g) (ha : Addrs b ad) (hB : B ≤ b) (hh : Holds8 w B bv bt) (hl : bt.length + s.size ≤ 140737488355328) :
 Calls Tryz.prog 43 #[selfB b, .string s] w (WSOutD w B b ov g (bt ++ s.data.toList)) := by
 have HC := Lib.hid (copyCheckD_any b ov ad bv g w h ha)
 have HN := Lib.hid h
 have HH := Lib.hid hh
 have HL := Lib.hid hl
 have HBw := Lib.hid (show B ≤ w.heap.size from Nat.le_trans hB (Nat.le_of_lt (lt_of_heap h)))
 obtain ⟨i0, hi, hz0, hz1, hz2⟩ := info_parts infoU8
 have Hi := Lib.hid (And.intro hi (And.intro hz0 (And.intro hz1 hz2)))
 clear h hh hl hi hz0 hz1 hz2
 go_enter Tryz.func43, Tryz.ntmps43
 go_wp2_with fail
 refine HC.out.mono ?_
 rintro e w1 ⟨rfl, h1, g1⟩
 obtain ⟨k0, k1, k2, k3, k4⟩ := h1.cells
 have H1 := Lib.hid h1
 have K1 : Keep B [49, 5] w w1 := keep_grown g1 HBw.out fun k hk => by
  cases hk
  exact ⟨hB, _, _, _, HN.out, by simp⟩
 have O1 : w1.ownsRow B 5 1 bv bt.length (Lib.byteCells bt) := HH.out.1.kept g1 (.inr (own_ne HH.out.1 HN.out (by decide)))
 have HK1 := Lib.hid K1
 have HO1 := Lib.hid O1
 have hs1 : B ≤ w1.heap.size := Nat.le_trans HBw.out g1.size
 clear h1 g1 K1 O1 k0 k1 k3 k4
 go_wp2_with (at_builtin; refine Lib.wpList_append_own_string _ rfl (.tmp 12) (.tmp 13) 45 9 rfl B 5 i0 Tryz.underlying45 Tryz.underlying9 Hi.out.1 Hi.out.2.1 Hi.out.2.2.1 Hi.out.2.2.2 bv bt.length (Lib.byteCells bt) rfl HO1.out s rfl (by have := HL.out; unfold maxLen; omega) HL.out hs1 ?_; intro v' w2 o2 g2 i2; obtain ⟨va, vc, rfl⟩ := own_slice o2; have I2 := Lib.hid i2; clear i2; have H2 : DBlk w2 b ov (selfB b) bv g := (g2.block b (lt_of_heap H1.out) (fun e => own_ne HO1.out H1.out (by decide) e.symm)).trans H1.out; have f2 : w2.frozen? ⟨b, 2, none⟩ = false := H2.cells.2.2.2.2 2; obtain ⟨q0, q1, q2, q3, q4⟩ := H2.cells; have HH2 := Lib.hid H2; have HO2 := Lib.hid o2; have HG2 := Lib.hid g2; clear H2 o2 g2 q0 q1 q3 q4 k2)
 go_ret2
 refine ⟨⟨_, rfl⟩, ⟨_, HH2.out.set2, ?_⟩, ?_⟩
 ·have hk2 : Keep B [49] w2 (w2.setCell ⟨b, 2, none⟩ (.slice va (bt.length + s.size) vc)) := keep_set HH2.out (by simp) hB _ rfl _
  have := hk2.own HO2.out (by decide)
  refine ⟨?_, fun e => ?_⟩
  ·rw [List.length_append, Lib.byteCells_append]
   exact this
  ·obtain ⟨e1, e2⟩ := List.append_eq_nil_iff.1 e
   exact I2.out.2 ⟨HH.out.2 e1, by rw [size_data, e2]; rfl⟩
 ·exact (HK1.out.trans (keep_row HO1.out HG2.out (by simp) hs1)).trans (keep_set HH2.out (by simp) hB _ rfl _)


set_option maxHeartbeats 2000000 in
set_option maxRecDepth 100000 in
theorem builderStringD_any (B b : Nat) (ov ad bv : Value) (g : Int) (bt : List UInt8) (w : World) (h : DBlk w b ov ad bv g) (hh : Holds8 w B bv bt) :
 Calls Tryz.prog 72 #[selfB b] w (StrOut w B bt) := by
 obtain ⟨k0, k1, k2, k3, k4⟩ := h.cells
 by_cases h0 : bt = []
 ·obtain rfl := hh.2 h0
  have e0 : (⟨bt.toArray⟩ : ByteArray) = ⟨#[]⟩ := by rw [h0]
  have HE := Lib.hid (show (⟨#[]⟩ : ByteArray) = ⟨bt.toArray⟩ from e0.symm)
  have hUS : ∀ q : Option Addr, (Builtin.unsafeString_ #[150, 3] 9 #[.pointer q, .int .i64 0]).run Tryz.prog w.drew = .ok (.string .empty) w.drew := fun q => Lib.run_unsafeString_none w.drew _ _ _ q
  have hSD : (Builtin.unsafeSliceData_ #[45] 150 #[.slice none 0 0]).run Tryz.prog w.drew = .ok (.pointer none) w.drew := rfl
  have c1 : w.drew.cell? ⟨b, 2, none⟩ = some (.slice none 0 0) := k2
  clear h hh e0 h0 k0 k1 k3 k4
  go_enter Tryz.func72, Tryz.ntmps72
  go_wp2_with fail
  go_region
  all_goals (go_wp2_with fail; go_ret; exact ⟨by rw [← HE.out]; rfl, (Keep.refl _ _ _).drew⟩)
 ·have hl0 : bt.length ≠ 0 := by simpa using h0
  obtain ⟨gg, cap, cur, rfl, hbg, hg, hnc, hcm, hcs, htake⟩ : ∃ gg cap cur, bv = .slice (some ⟨gg, 0, none⟩) bt.length cap ∧ B ≤ gg ∧ w.heap[gg]? = some (.cells cur 5 (0, 0)) ∧ bt.length ≤ cap ∧ cap ≤ maxLen ∧ cur.size = cap * 1 ∧ cur.toList.take (bt.length * 1) = Lib.byteCells bt := by
   rcases hh.1.2 with ⟨_, hz⟩ | ⟨gg, cap, cur, hv, r⟩
   ·exact absurd hz hl0
   ·exact ⟨gg, cap, cur, hv, r⟩
  have c1 : w.drew.cell? ⟨b, 2, none⟩ = some (.slice (some ⟨gg, 0, none⟩) bt.length cap) := k2
  have hSD : (Builtin.unsafeSliceData_ #[45] 150 #[.slice (some ⟨gg, 0, none⟩) bt.length cap]).run Tryz.prog w.drew = .ok (.pointer (some ⟨gg, 0, none⟩)) w.drew :=
   Lib.run_unsafeSliceData_row _ _ _ _ _ _ (by omega)
  have hUS : (Builtin.unsafeString_ #[150, 3] 9 #[.pointer (some ⟨gg, 0, none⟩), .int .i64 bt.length]).run Tryz.prog w.drew = .ok (.string ⟨bt.toArray⟩) (w.drew.freeze ⟨gg, 0, none⟩ bt.length) := by
   refine Lib.run_unsafeString_row w.drew 150 3 9 5 Tryz.underlying150 (by kernel_rfl) gg cur.size (by have hg' : w.drew.heap[gg]? = some (.cells cur 5 (0, 0)) := hg; simp [World.shape?, hg']) bt h0 (by omega) (by unfold maxLen at hcm; omega) ?_
   intro j x hx
   exact hh.1.cells (g := gg) rfl j (.int .u8 x.toNat) (by simp [Lib.byteCells, hx])
  have HG := Lib.hid hg
  have HBG := Lib.hid hbg
  clear h hh h0 hl0 k0 k1 k3 k4 hg hnc hcm hcs htake hbg
  go_enter Tryz.func72, Tryz.ntmps72
  go_wp2_with fail
  go_region
  all_goals (go_wp2_with fail; go_ret; exact ⟨rfl, (Keep.refl _ _ _).drew.trans (keep_freeze (w := w.drew) HG.out (by simp) HBG.out _)⟩)

def ResetOutD (w : World) (b : Nat) (ov : Value) (g : Int) (e : Ending) (w' : World) : Prop := e = .returned (.tuple #[]) ∧ DBlk w' b ov (.pointer none) (.slice none 0 0) g ∧ w.grownBy w' (some b)
set_option maxHeartbeats 1000000 in
set_option maxRecDepth 100000 in
theorem resetD_any (b : Nat) (ov ad bv : Value) (g : Int) (w : World) (h : DBlk w b ov ad bv g) :
 Calls Tryz.prog 73 #[selfB b] w (ResetOutD w b ov g) := by
 obtain ⟨k0, k1, k2, k3, k4⟩ := h.cells
 have f1 := k4 1
 have f2 := k4 2
 have HN := Lib.hid h
 have hlt := lt_of_heap h
 clear h k0 k3 k4
 go_enter Tryz.func73, Tryz.ntmps73
 go_wp2_with fail
 go_end0
 exact ⟨rfl, HN.out.set1.set2, only_setCell (p := ⟨b, 2, none⟩) (only_setCell (p := ⟨b, 1, none⟩) (grown_refl _ (some b)) rfl _) rfl _⟩
end Go.Proofs.YtlfodemmdfaeeaaGreatDoor

/- The program's document on the way, in memory; its finish. -/
namespace Go.Proofs.YtlfodemmdfaeeaaGreatDoor
open Go.RowKit Ch

def runCells (p : RP) : List Value := [.string p.1.text, p.2]
def flatR (ps : List RP) : List Value := ps.flatMap runCells
theorem flatR_len (ps : List RP) : (flatR ps).length = ps.length * 2 := by
 induction ps with
 | nil => rfl
 | cons x r ih => simp [flatR, runCells] at ih ⊢; omega
theorem flatR_snoc (ps : List RP) (p : RP) : flatR (ps ++ [p]) = flatR ps ++ runCells p := by simp [flatR]
theorem flatR_at {ps : List RP} {i : Nat} (h : i < ps.length) (j : Nat) (hj : j < 2) : (flatR ps)[i * 2 + j]? = (runCells ps[i])[j]? := by
 induction ps generalizing i with
 | nil => simp at h
 | cons x r ih =>
   have e : flatR (x :: r) = runCells x ++ flatR r := rfl
   have hx : (runCells x).length = 2 := rfl
   rw [e]
   cases i with
   | zero => rw [List.getElem?_append_left (by omega)]; simp
   | succ i =>
     rw [List.getElem?_append_right (by omega), hx]
     have e2 : (i + 1) * 2 + j - 2 = i * 2 + j := by omega
     rw [e2, ih (by simpa using h)]
     rfl
/-- Runs that a call owns, their attributes too. -/
def OwnR (w : World) (B : Nat) (v : Value) (ps : List RP) : Prop :=
 w.ownsRow B 77 2 v ps.length (flatR ps) ∧ ∀ p ∈ ps, w.ownsRow B 88 2 p.2 p.1.attrs.length (flat p.1.attrs)
theorem OwnR.row {w : World} {B : Nat} {v : Value} {ps : List RP} (h : OwnR w B v ps) : RunRow w v ps := by
 refine ⟨?_, fun p hp => row_of_own (h.2 p hp)⟩
 rcases h.1.2 with ⟨rfl, h0⟩ | ⟨g, cap, cur, rfl, _, hg, hn, hm, _⟩
 ·have : ps = [] := List.length_eq_zero_iff.1 h0
  subst this
  exact ⟨none, 0, rfl, Nat.le_refl _, Nat.zero_le _, fun _ hi => absurd hi (Nat.not_lt_zero _)⟩
 ·refine ⟨_, cap, rfl, by omega, hm, fun i hi => ?_⟩
  have e : ∀ j, j < 2 → w.cell? ⟨g, 0 + i * 2 + j, none⟩ = (runCells ps[i])[j]? := fun j hj => by
   rw [Nat.zero_add, h.1.cellAt _ (by omega), flatR_at hi j hj]
  exact ⟨g, 0, rfl, lt_of_heap hg, e 0 (by omega), e 1 (by omega)⟩
theorem OwnR.keep {w w' : World} {B C : Nat} {ts : List TypeId} {v : Value} {ps : List RP} (h : OwnR w B v ps) (hk : Keep C ts w w') (h1 : 77 ∉ ts) (h2 : 88 ∉ ts) : OwnR w' B v ps :=
 ⟨hk.own h.1 h1, fun p hp => hk.own (h.2 p hp) h2⟩
theorem OwnR.base {w : World} {B C : Nat} {v : Value} {ps : List RP} (h : OwnR w B v ps) (hc : C ≤ B) : OwnR w C v ps := ⟨own_base h.1 hc, fun p hp => own_base (h.2 p hp) hc⟩

/-- The types of the blocks that document's methods write into. -/
abbrev TD : List TypeId := [77, 49, 5]
/-- What a method keeps: all but blocks of those types; and of rows of runs all but the one that it is given. -/
structure KeepR (B : Nat) (w w' : World) (ov ov' : Value) : Prop where
 keep : Keep B TD w w'
 runs : ∀ (i : Nat) (cs : Array Value) (fr : Nat × Nat), w.heap[i]? = some (Obj.cells cs 77 fr) → ov.ownBlock ≠ some i → w'.heap[i]? = some (Obj.cells cs 77 fr) ∧ ov'.ownBlock ≠ some i
theorem KeepR.trans {B : Nat} {a b c : World} {u v x : Value} (h : KeepR B a b u v) (k : KeepR B b c v x) : KeepR B a c u x :=
 ⟨h.keep.trans k.keep, fun i cs fr hi hne => k.runs i cs fr (h.runs i cs fr hi hne).1 (h.runs i cs fr hi hne).2⟩
theorem keepR_of {B : Nat} {ts : List TypeId} {w w' : World} (h : Keep B ts w w') (hs : ∀ t, t ∈ ts → t ∈ TD) (ho : 77 ∉ ts) (v : Value) : KeepR B w w' v v :=
 ⟨h.more hs, fun i cs fr hi hne => ⟨h.kept i cs _ fr hi ho, hne⟩⟩
theorem keepR_below {B : Nat} {w w' : World} (h : Below w.heap.size w w') (hB : B ≤ w.heap.size) (v : Value) : KeepR B w w' v v :=
 keepR_of (ts := []) (keep_below h hB) (fun t ht => by cases ht) (by simp) v
theorem keepR_grown {B n : Nat} {w w' : World} {v v' : Value} {xs : List Value} (h : w.ownsRow B 77 2 v n xs) (hg : w.grownBy w' v.ownBlock) (hB : B ≤ w.heap.size) (hn : ∀ j, j < w.heap.size → v.ownBlock ≠ some j → v'.ownBlock ≠ some j) : KeepR B w w' v v' :=
 ⟨keep_row h hg (by simp) hB, fun i cs fr hi hne => ⟨(hg.block i (lt_of_heap hi) (fun e => hne e.symm)).trans hi, hn i (lt_of_heap hi) hne⟩⟩
theorem KeepR.of_drew {B : Nat} {a w : World} {u v : Value} (h : KeepR B a.drew w u v) : KeepR B a w u v := ⟨of_drewK h.keep, h.runs⟩

def noTextR (o : RunD) : RunD := { o with text := ⟨#[]⟩ }
/-- On the way: the last run's text lies in the builder. -/
def DSt (w : World) (B b : Nat) (ov : Value) (l : List RunD) : Prop :=
 ∃ (ps : List RP) (ad bv : Value) (bt : List UInt8), DBlk w b ov ad bv 0 ∧ Addrs b ad ∧ OwnR w B ov ps ∧ Holds8 w B bv bt ∧
  ((l = [] ∧ ps = [] ∧ bt = []) ∨ ∃ x r fr xv, l = x :: r ∧ ps = fr ++ [(noTextR x, xv)] ∧ fr.map (·.1) = r.reverse ∧ bt = x.text.data.toList)
/-- The last one has its text. -/
def FDt (w : World) (B b : Nat) (ov : Value) (l : List RunD) : Prop :=
 ∃ (ps : List RP) (ad bv : Value), DBlk w b ov ad bv 0 ∧ Addrs b ad ∧ OwnR w B ov ps ∧ Holds8 w B bv [] ∧ ps.map (·.1) = l.reverse
theorem DSt.lt {w : World} {B b : Nat} {ov : Value} {l : List RunD} (h : DSt w B b ov l) : b < w.heap.size := by
 obtain ⟨_, _, _, _, h, _⟩ := h
 exact lt_of_heap h

/-- The last run of a row of one's own. -/
theorem last_cellsR {w : World} {B gg cap : Nat} {fr : List RP} {p : RP} (h : w.ownsRow B 77 2 (.slice (some ⟨gg, 0, none⟩) (fr.length + 1) cap) (fr.length + 1) (flatR (fr ++ [p]))) :
 w.cell? ⟨gg, fr.length * 2, none⟩ = some (.string p.1.text) ∧ w.cell? ⟨gg, fr.length * 2 + 1, none⟩ = some p.2 := by
 have e : ∀ j, j < 2 → w.cell? ⟨gg, fr.length * 2 + j, none⟩ = (runCells p)[j]? := fun j hj => by
  rw [h.cellAt _ (by omega), flatR_snoc, List.getElem?_append_right (by rw [flatR_len]; omega), flatR_len]
  congr 1
  omega
 exact ⟨e 0 (by omega), e 1 (by omega)⟩
theorem last_setR {w : World} {B gg cap : Nat} {fr : List RP} {p q : RP} (h : w.ownsRow B 77 2 (.slice (some ⟨gg, 0, none⟩) (fr.length + 1) cap) (fr.length + 1) (flatR (fr ++ [p]))) (j : Nat) (u : Value) (hq : (runCells p).set j u = runCells q) :
 (w.setCell ⟨gg, fr.length * 2 + j, none⟩ u).ownsRow B 77 2 (.slice (some ⟨gg, 0, none⟩) (fr.length + 1) cap) (fr.length + 1) (flatR (fr ++ [q])) := by
 have := (h.stored (fr.length * 2 + j) u).1
 have e : (flatR (fr ++ [p])).set (fr.length * 2 + j) u = flatR (fr ++ [q]) := by
  rw [flatR_snoc, flatR_snoc, List.set_append_right _ _ (by rw [flatR_len]; omega), flatR_len, ← hq]
  congr 2
  omega
 rw [e] at this
 exact this
theorem OwnR.len {w : World} {B : Nat} {v : Value} {fr : List RP} {p : RP} (h : OwnR w B v (fr ++ [p])) : w.ownsRow B 77 2 v (fr.length + 1) (flatR (fr ++ [p])) := by
 have := h.1
 rwa [List.length_append, List.length_singleton] at this
theorem ownR_mk {w : World} {B : Nat} {v : Value} {fr : List RP} {p : RP} (h : w.ownsRow B 77 2 v (fr.length + 1) (flatR (fr ++ [p]))) (ha : ∀ q ∈ fr, w.ownsRow B 88 2 q.2 q.1.attrs.length (flat q.1.attrs)) (hp : w.ownsRow B 88 2 p.2 p.1.attrs.length (flat p.1.attrs)) : OwnR w B v (fr ++ [p]) := by
 refine ⟨by rw [List.length_append, List.length_singleton]; exact h, fun q hq => ?_⟩
 rcases List.mem_append.1 hq with hq | hq
 ·exact ha q hq
 ·rw [List.mem_singleton.1 hq]; exact hp
/-- One field of the last run, written. -/
theorem OwnR.setLast {w : World} {B gg cap : Nat} {fr : List RP} {x y : RunD} {xv : Value} (h : OwnR w B (.slice (some ⟨gg, 0, none⟩) (fr.length + 1) cap) (fr ++ [(x, xv)])) (j : Nat) (u : Value) (hq : (runCells (x, xv)).set j u = runCells (y, xv)) (ha : y.attrs = x.attrs) :
 OwnR (w.setCell ⟨gg, fr.length * 2 + j, none⟩ u) B (.slice (some ⟨gg, 0, none⟩) (fr.length + 1) cap) (fr ++ [(y, xv)]) ∧ KeepR B w (w.setCell ⟨gg, fr.length * 2 + j, none⟩ u) (.slice (some ⟨gg, 0, none⟩) (fr.length + 1) cap) (.slice (some ⟨gg, 0, none⟩) (fr.length + 1) cap) := by
 obtain ⟨hB, cs, hg⟩ := own_heap h.len
 have hk : Keep B [77] w (w.setCell ⟨gg, fr.length * 2 + j, none⟩ u) := keep_set hg (by simp) hB _ rfl u
 refine ⟨ownR_mk (last_setR h.len j u hq) (fun q hq => hk.own (h.2 q (List.mem_append_left _ hq)) (by decide)) ?_, hk.more (by simp), fun i cs' fr' hi hne => ⟨?_, hne⟩⟩
 ·have := hk.own (h.2 (x, xv) (by simp)) (by decide)
  show World.ownsRow _ _ _ _ xv y.attrs.length (flat y.attrs)
  rw [ha]
  exact this
 ·rw [Below.heap_setCell _ _ _ _ (fun e => hne (by rw [e]; rfl))]
  exact hi
def FinDOut (w : World) (B b : Nat) (ov : Value) (l : List RunD) (e : Ending) (w' : World) : Prop := e = .returned (.tuple #[]) ∧ FDt w' B b ov l ∧ KeepR B w w' ov ov

set_option maxHeartbeats 4000000 in
set_option maxRecDepth 100000 in
theorem finishD_any (B b : Nat) (ov : Value) (l : List RunD) (w : World) (h : DSt w B b ov l) (hB : B ≤ b) (hl : l.length ≤ 1000100) :
 Calls Tryz.prog 41 #[.pointer (some ⟨b, 0, none⟩)] w (FinDOut w B b ov l) := by
 have hBw : B ≤ w.heap.size := Nat.le_trans hB (Nat.le_of_lt h.lt)
 obtain ⟨ps, ad, bv, bt, hN, hA, hP, hH, hcase⟩ := h
 obtain ⟨k0, k1, k2, k3, k4⟩ := hN.cells
 rcases hcase with ⟨rfl, rfl, rfl⟩ | ⟨x, r, fr, xv, rfl, rfl, hfr, rfl⟩
 ·obtain ⟨a, c, rfl⟩ := own_slice hP.1
  have HF := Lib.hid (show FDt w B b (.slice a ([] : List RP).length c) [] from ⟨[], ad, bv, hN, hA, hP, hH, rfl⟩)
  clear hN hP hH hA k1 k2 k3 k4
  go_enter Tryz.func41, Tryz.ntmps41
  go_wp2_with fail
  go_end0
  exact ⟨rfl, HF.out, keepR_below (Below.refl _ _) hBw _⟩
 ·obtain ⟨gg, cap, hov⟩ := ownsRow_open hP.len (Nat.succ_pos _)
  subst hov
  have hm : fr.length ≤ 1000100 := by
   have := congrArg List.length hfr
   simp at this hl
   omega
  obtain ⟨q0, q1⟩ := last_cellsR hP.len
  have f2 : w.frozen? ⟨gg, fr.length * 2, none⟩ = false := hP.len.frozenAt _
  have HN := Lib.hid hN
  have HP := Lib.hid hP
  have HH := Lib.hid hH
  have HFR := Lib.hid hfr
  clear hN hP hH hA k1 k2 k3 k4 q0 q1 hfr hl
  have hneq : gg ≠ b := by
   obtain ⟨_, cs, hcs⟩ := own_heap HP.out.len
   exact block_ne hcs HN.out (by decide)
  have HNE := Lib.hid hneq
  have i1 : (0 : Int) ≤ (fr.length : Int) := by omega
  have i2 : (fr.length : Int) < (fr.length : Int) + 1 := by omega
  clear hneq
  go_enter Tryz.func41, Tryz.ntmps41
  go_wp2_with fail
  go_region_held3 (fun w' => w'.cell? ⟨b, 0, none⟩ = some (.slice (some ⟨gg, 0, none⟩) (fr.length + 1) cap))
   (first
    | exact k0
    | exact kA
    | exact set_other HNE.out kA)
   (first
    | (go_at_call 72; refine (builderStringD_any B b _ ad bv 0 x.text.data.toList _ (by exact HN.out) (by exact HH.out)).mono ?_; rintro e wA ⟨rfl, KA⟩; have NA := DBlk.keep (w := w.drew) (g := 0) HN.out KA (by decide); have kA := NA.cells.1; have PA := OwnR.keep (w := w.drew) HP.out KA (by decide) (by decide); have qA := (last_cellsR PA.len).1; have fA : wA.frozen? ⟨gg, fr.length * 2, none⟩ = false := PA.len.frozenAt _))
  obtain ⟨P2, K2⟩ := OwnR.setLast (y := x) PA 0 (.string ⟨x.text.data⟩) rfl rfl
  simp only [Nat.add_zero] at P2 K2
  have N2 := DBlk.keep (w := wA) NA (keep_set (B := B) (ts := [77]) (own_heap PA.len).2.choose_spec (by simp) (own_heap PA.len).1 ⟨gg, fr.length * 2, none⟩ rfl (.string ⟨x.text.data⟩)) (by decide)
  have KK := Lib.hid ((keepR_of (B := B) (of_drewK KA) (by simp) (by decide) (.slice (some ⟨gg, 0, none⟩) (fr.length + 1) cap)).trans K2)
  have HP2 := Lib.hid P2
  have HN2 := Lib.hid N2
  clear P2 K2 N2 PA NA KA kA qA fA
  go_wp2_with fail
  refine (resetD_any b _ ad bv 0 _ HN2.out).mono ?_
  rintro e w3 ⟨rfl, N3, g3⟩
  have K3 : Keep B [49] _ w3 := keep_grown g3 (by have := KK.out.keep.below.size; omega) fun k hk => by
   cases hk
   exact ⟨hB, _, _, _, HN2.out, by simp⟩
  have F3 : FDt w3 B b (.slice (some ⟨gg, 0, none⟩) (fr.length + 1) cap) (x :: r) := ⟨_, _, _, N3, .inl rfl, HP2.out.keep K3 (by decide) (by decide), holds8_nil _ _, by rw [List.map_append, HFR.out, List.reverse_cons]; rfl⟩
  have KK3 := KK.out.trans (keepR_of K3 (by simp) (by decide) _)
  have HF3 := Lib.hid F3
  have HK3 := Lib.hid KK3
  clear N3 g3 K3 F3 KK3
  go_wp2_with fail
  go_end0
  exact ⟨rfl, HF3.out, HK3.out⟩
end Go.Proofs.YtlfodemmdfaeeaaGreatDoor

/- The program's document: a text put behind, into the last run, if that has the same attributes. -/
namespace Go.Proofs.YtlfodemmdfaeeaaGreatDoor
open Go.RowKit Ch

def putR : List RunD → ByteArray → List (ByteArray × ByteArray) → List RunD
 | [], t, a => [⟨t, a⟩]
 | x :: r, t, a => if x.attrs = a then { x with text := cat x.text t } :: r else ⟨t, a⟩ :: x :: r
theorem putR_fresh {l : List RunD} {t : ByteArray} {a : List (ByteArray × ByteArray)} (h : ∀ x r, l = x :: r → x.attrs ≠ a) : putR l t a = ⟨t, a⟩ :: l := by
 cases l with
 | nil => rfl
 | cons x r => rw [putR, if_neg (h x r rfl)]
theorem infoRun : (Tryz.prog.info? 77).map (fun i => (i.zero, i.size, i.bytes)) = some (some (.agg #[.string ⟨#[]⟩, .slice none 0 0]), 2, 40) := by kernel_rfl
theorem DSt.below {w w' : World} {B b : Nat} {ov : Value} {l : List RunD} (h : DSt w B b ov l) (hb : Below w.heap.size w w') : DSt w' B b ov l := by
 obtain ⟨ps, ad, bv, bt, h1, h2, h3, h4, h5⟩ := h
 have hk : Keep w.heap.size [] w w' := keep_below hb (Nat.le_refl _)
 exact ⟨ps, ad, bv, bt, h1.keep hk (by simp), h2, h3.keep hk (by simp) (by simp), ⟨hk.own h4.1 (by simp), h4.2⟩, h5⟩
theorem DSt.slice {w : World} {B b : Nat} {ov : Value} {l : List RunD} (h : DSt w B b ov l) : ∃ a c, ov = .slice a l.length c := by
 obtain ⟨ps, _, _, _, _, _, h3, _, h5⟩ := h
 obtain ⟨a, c, rfl⟩ := own_slice h3.1
 have : ps.length = l.length := by
  rcases h5 with ⟨rfl, rfl, _⟩ | ⟨x, r, fr, xv, rfl, rfl, hf, _⟩
  ·rfl
  ·have := congrArg List.length hf
   simp at this ⊢
   exact this
 exact ⟨a, c, by rw [this]⟩
def PutDOut (w : World) (B b : Nat) (ov : Value) (l : List RunD) (t : ByteArray) (a : List (ByteArray × ByteArray)) (e : Ending) (w' : World) : Prop := e = .returned (.tuple #[]) ∧ ∃ ov', DSt w' B b ov' (putR l t a) ∧ KeepR B w w' ov ov'
structure FitsD (l : List RunD) (t : ByteArray) (a : List (ByteArray × ByteArray)) : Prop where
 len : l.length ≤ 1000000
 last : ∀ x r, l = x :: r → x.text.size ≤ 1073741824
 text : t.size ≤ 1073741824
 attrs : SmallA a

set_option maxHeartbeats 4000000 in
set_option maxRecDepth 100000 in
theorem putD_empty (B b : Nat) (ov : Value) (l : List RunD) (t : ByteArray) (a : List (ByteArray × ByteArray)) (av : Value) (w : World) (h : DSt w B b ov l) (hB : B ≤ b) (hf : FitsD l t a) (hv : ∀ w', Keep B TD w w' → AtRow w' av a) (hnil : l = []) :
 Calls Tryz.prog 16 #[.pointer (some ⟨b, 0, none⟩), .string t, av] w (PutDOut w B b ov l t a) := by
 have hBw : B ≤ w.heap.size := Nat.le_trans hB (Nat.le_of_lt h.lt)
 obtain ⟨la, lc, rfl⟩ := (hv w (Keep.refl _ _ _)).shape
 have HV := Lib.hid hv
 have HF := Lib.hid hf
 have HS := Lib.hid h
 obtain ⟨oa, oc, rfl⟩ := h.slice
 subst hnil
 have p0 : w.cell? ⟨b, 0, none⟩ = some (.slice oa 0 oc) := by
  obtain ⟨_, _, _, _, hN0, _⟩ := h
  exact hN0.cells.1
 have HNA := Lib.hid (show ∀ x r, ([] : List RunD) = x :: r → x.attrs ≠ a from fun x r e => by cases e)
 clear hf hv h
 go_enter Tryz.func16, Tryz.ntmps16
 go_wp2_with fail
 refine (finishD_any B b _ [] _ HS.out hB (by simp)).mono ?_
 rintro e w1 ⟨rfl, F1, KF⟩
 have hs1 : w.heap.size ≤ w1.heap.size := KF.keep.below.size
 have hBw1 : B ≤ w1.heap.size := Nat.le_trans hBw hs1
 have HK1 := Lib.hid KF
 obtain ⟨ps, ad, bv, hN, hA, hP, hH, hps⟩ := F1
 have hpl : ps.length ≤ 1000000 := by have h1 := congrArg List.length hps; rw [List.length_map, List.length_reverse] at h1; have := HF.out.len; omega
 have hPL : ps.length = 0 := by
  obtain ⟨a', c', e⟩ := own_slice hP.1
  simp only [Value.slice.injEq] at e
  exact e.2.1.symm
 have HPLN := Lib.hid hPL
 obtain ⟨k0, k1, k2, k3, k4⟩ := hN.cells
 have hbl : b < w1.heap.size := lt_of_heap hN
 obtain ⟨i0, hi, hz0, hz1, hz2⟩ := info_parts infoRun
 have Hi := Lib.hid (And.intro hi (And.intro hz0 (And.intro hz1 hz2)))
 have HN := Lib.hid hN
 have HP := Lib.hid hP
 have HH := Lib.hid hH
 have HA := Lib.hid hA
 have HPS := Lib.hid hps
 have HPL := Lib.hid hpl
 have HCL := Lib.hid (fun W' (hb : Below w1.heap.size w1 W') => cloneAttrs_any (.slice la a.length lc) a W' (HV.out W' (KF.keep.trans (keep_below hb hBw1))) HF.out.attrs)
 clear hN hP hH hA hps hPL KF hi hz0 hz1 hz2 k1 k2 k3 k4 hpl
 go_wp2_with fail
 refine wp_region_B (fun w' => w'.cell? ⟨b, 0, none⟩ = some (.slice oa 0 oc)) [12] (by kernel_rfl) (?_ : wpAnyB _ _ _ _ _ _ 13 (Array.replicate 13 false) _ _)
 refine wpAnyB_free (fuel := 12) (i := 0) (v := ?_) rfl (by kernel_rfl) (by kernel_rfl) (by kernel_rfl) (by kernel_rfl) (fun _ _ _ h => h) (.inr (show w1.drew.cell? ⟨b, 0, none⟩ = some (.slice oa 0 oc) from k0)) ?_ (by rfl) ?_
 rotate_left
 ·intro w'; go_simp; (try with_reducible rfl)
 simp only [Act.put, List.getElem_toArray, List.getElem_cons_zero, List.setIfInBounds_toArray, List.set_cons_zero, List.set_cons_succ]
 refine wpAnyB_free (fuel := 11) (i := 1) (v := ?_) rfl (by kernel_rfl) (by kernel_rfl) (by kernel_rfl) (by kernel_rfl) (fun _ _ _ h => h) (.inr (show w1.drew.cell? ⟨b, 0, none⟩ = some (.slice oa 0 oc) from k0)) ?_ (by rfl) ?_
 rotate_left
 ·intro w'; go_simp; (try with_reducible rfl)
 simp only [Act.put, List.getElem_toArray, List.getElem_cons_zero, List.getElem_cons_succ, List.setIfInBounds_toArray, List.set_cons_zero, List.set_cons_succ]
 refine wpAnyB_free (fuel := 10) (i := 2) (v := ?_) rfl (by kernel_rfl) (by kernel_rfl) (by kernel_rfl) (by kernel_rfl) (fun _ _ _ h => h) (.inr (show w1.drew.cell? ⟨b, 0, none⟩ = some (.slice oa 0 oc) from k0)) ?_ (by rfl) ?_
 rotate_left
 ·intro w'; go_simp; (try with_reducible rfl)
 simp only [Act.put, List.getElem_toArray, List.getElem_cons_zero, List.getElem_cons_succ, List.setIfInBounds_toArray, List.set_cons_zero, List.set_cons_succ]
 refine wpAnyB_free (fuel := 9) (i := 3) (v := ?_) rfl (by kernel_rfl) (by kernel_rfl) (by kernel_rfl) (by kernel_rfl) (fun _ _ _ h => h) (.inr (show w1.drew.cell? ⟨b, 0, none⟩ = some (.slice oa 0 oc) from k0)) ?_ (by rfl) ?_
 rotate_left
 ·intro w'; go_simp; (try with_reducible rfl)
 simp only [Act.put, List.getElem_toArray, List.getElem_cons_zero, List.getElem_cons_succ, List.setIfInBounds_toArray, List.set_cons_zero, List.set_cons_succ]
 refine wpAnyB_load [4,9,10,11,12] (fuel := 8) (i := 4) (v := ?_) rfl (by kernel_rfl) (by kernel_rfl) (by kernel_rfl) (by kernel_rfl) (by kernel_rfl) (fun _ _ _ h => h) (.inr (show w1.drew.cell? ⟨b, 0, none⟩ = some (.slice oa 0 oc) from k0)) ?_ (by rfl) ?_
 rotate_left
 ·intro w' hw'; go_simp; (try with_reducible rfl)
 simp only [Act.put, List.getElem_toArray, List.getElem_cons_zero, List.getElem_cons_succ, List.setIfInBounds_toArray, List.set_cons_zero, List.set_cons_succ]
 refine wpAnyB_free (fuel := 7) (i := 5) (v := ?_) rfl (by kernel_rfl) (by kernel_rfl) (by kernel_rfl) (by kernel_rfl) (fun _ _ _ h => h) (.inr (show w1.drew.cell? ⟨b, 0, none⟩ = some (.slice oa 0 oc) from k0)) ?_ (by rfl) ?_
 rotate_left
 ·intro w'; go_simp; (try with_reducible rfl)
 simp only [Act.put, List.getElem_toArray, List.getElem_cons_zero, List.getElem_cons_succ, List.setIfInBounds_toArray, List.set_cons_zero, List.set_cons_succ]
 refine wpAnyB_one (fuel := 6) (i := 6) rfl (by kernel_rfl) ?_
 intro KB hKB
 go_simp
 refine (HCL.out _ (Below.refl _ _).drew).mono ?_
 rintro e wA ⟨vA, rfl, oA, bA⟩
 obtain ⟨aa, ca, rfl⟩ := own_slice oA
 have BA : Below w1.heap.size w1 wA := of_drew bA
 have OA := Lib.hid (own_base oA (show B ≤ w1.drew.heap.size from hBw1))
 have PA := Lib.hid (HP.out.keep (keep_below (ts := []) BA (Nat.le_refl _)) (by simp) (by simp))
 have NA := Lib.hid (HN.out.keep (keep_below (ts := []) BA (Nat.le_refl _)) (by simp))
 have PO := Lib.hid (show wA.ownsRow B 77 2 (.slice oa 0 oc) (0) (flatR ps) from by have := PA.out.1; rwa [HPLN.out] at this)
 have hBA := Lib.hid (show B ≤ wA.heap.size from Nat.le_trans hBw1 BA.size)
 have KA := Lib.hid (HK1.out.trans (keepR_below BA hBw1 (.slice oa 0 oc)))
 have SA : wA.cell? ⟨b, 0, none⟩ = some (.slice oa 0 oc) := (BA.cell (by exact hbl)).trans k0
 have AC := Below.alloc (Below.refl wA.heap.size wA) (Nat.le_refl _) (Obj.cells #[.string ⟨#[]⟩, .slice aa a.length ca] 77)
 have HAC := Lib.hid AC
 have lA := Nat.lt_of_lt_of_le hbl BA.size
 have SB : (wA.alloc (Obj.cells #[.string ⟨#[]⟩, .slice aa a.length ca] 77)).cell? ⟨b, 0, none⟩ = some (.slice oa 0 oc) := (AC.cell (by exact lA)).trans SA
 have HSA := Lib.hid SA
 have HSB := Lib.hid SB
 clear oA bA BA SA SB AC
 refine hKB _ _ (.inr HSA.out) ?_
 (try simp only [Act.put, List.getElem_toArray, List.getElem_cons_zero, List.getElem_cons_succ, List.setIfInBounds_toArray, List.set_cons_zero, List.set_cons_succ])
 refine wpAnyB_free (fuel := 5) (i := 7) (v := ?_) rfl (by kernel_rfl) (by kernel_rfl) (by kernel_rfl) (by kernel_rfl) (fun _ _ _ h => h) (.inr HSA.out) ?_ (by rfl) ?_
 rotate_left
 ·intro w'; go_simp; (try with_reducible rfl)
 simp only [Act.put, List.getElem_toArray, List.getElem_cons_zero, List.getElem_cons_succ, List.setIfInBounds_toArray, List.set_cons_zero, List.set_cons_succ]
 refine wpAnyB_one (fuel := 4) (i := 8) rfl (by kernel_rfl) ?_
 intro KB hKB
 go_simp
 refine hKB _ _ (.inr HSB.out) ?_
 (try simp only [Act.put, List.getElem_toArray, List.getElem_cons_zero, List.getElem_cons_succ, List.setIfInBounds_toArray, List.set_cons_zero, List.set_cons_succ])
 refine wpAnyB_one (fuel := 3) (i := 9) rfl (by kernel_rfl) ?_
 intro KB hKB
 refine step_append_new rfl (.tmp 34) (.tmp 38) 22 rfl 77 i0 (.agg #[.string ⟨#[]⟩, .slice none 0 0]) 2 40 Tryz.underlying22 Hi.out.1 Hi.out.2.1 Hi.out.2.2.1 Hi.out.2.2.2 rfl (by decide) B (.slice oa 0 oc) (0) (flatR ps) rfl (PO.out.alloc _) ⟨wA.heap.size, 0, none⟩ 1 1 [.string ⟨#[]⟩, .slice aa a.length ca] rfl rfl (new_at2 _ _ _ _) (fun u hu => by simp at hu; rcases hu with rfl | rfl <;> rfl) (by unfold maxLen; have := HPL.out; have := HPLN.out; omega) (by have := HPL.out; have := HPLN.out; omega) (by have := hBA.out; simp; omega) ?_
 intro v' wC oC gC nC
 obtain ⟨oa', oc', rfl⟩ := own_slice oC
 have KC1 := keepR_below (B := B) HAC.out hBA.out (.slice oa 0 oc)
 have KC2 := keepR_grown (PO.out.alloc _) gC (by have := hBA.out; simp; omega) nC
 have NC : DBlk wC b _ _ _ 0 := (NA.out.keep (keep_below (ts := []) HAC.out (Nat.le_refl _)) (by simp)).keep (ts := [77]) (keep_row (PO.out.alloc _) gC (by simp) (by have := hBA.out; simp; omega)) (by decide)
 obtain ⟨SC, _, _, _, fC⟩ := NC.cells
 have fC0 := fC 0
 have HSC := Lib.hid SC
 have HNC := Lib.hid NC
 have HOC := Lib.hid oC
 have HKC := Lib.hid (KA.out.trans (KC1.trans KC2))
 have HKC2 := Lib.hid (KC1.trans KC2)
 clear oC gC nC KC1 KC2 NC fC SC
 refine hKB _ _ (.inr HSC.out) ?_
 (try simp only [Act.put, List.getElem_toArray, List.getElem_cons_zero, List.getElem_cons_succ, List.setIfInBounds_toArray, List.set_cons_zero, List.set_cons_succ])
 refine wpAnyB_free (fuel := 2) (i := 10) (v := ?_) rfl (by kernel_rfl) (by kernel_rfl) (by kernel_rfl) (by kernel_rfl) (fun _ _ _ h => h) (.inr HSC.out) ?_ (by rfl) ?_
 rotate_left
 ·intro w'; go_simp; (try with_reducible rfl)
 simp only [Act.put, List.getElem_toArray, List.getElem_cons_zero, List.getElem_cons_succ, List.setIfInBounds_toArray, List.set_cons_zero, List.set_cons_succ]
 refine wpAnyB_free (fuel := 1) (i := 11) (v := ?_) rfl (by kernel_rfl) (by kernel_rfl) (by kernel_rfl) (by kernel_rfl) (fun _ _ _ h => h) (.inr HSC.out) ?_ (by rfl) ?_
 rotate_left
 ·intro w'; go_simp; (try with_reducible rfl)
 simp only [Act.put, List.getElem_toArray, List.getElem_cons_zero, List.getElem_cons_succ, List.setIfInBounds_toArray, List.set_cons_zero, List.set_cons_succ]
 refine wpAnyB_one (fuel := 0) (i := 12) rfl (by kernel_rfl) ?_
 intro KB hKB
 have SC := HSC.out
 go_simp
 refine hKB _ _ (.inl (by kernel_rfl)) ?_
 (try simp only [Act.put, List.getElem_toArray, List.getElem_cons_zero, List.getElem_cons_succ, List.setIfInBounds_toArray, List.set_cons_zero, List.set_cons_succ])
 refine wpAnyB_done (by kernel_rfl) ?_
 have KD1 : Keep B [49] wC (wC.setCell ⟨b, 0, none⟩ (.slice oa' ((0) + 1) oc')) := keep_set HNC.out (by simp) hB _ rfl _
 have KAD : Keep B TD wA (wC.setCell ⟨b, 0, none⟩ (.slice oa' ((0) + 1) oc')) := HKC2.out.keep.trans (KD1.more (by simp))
 have OD : OwnR (wC.setCell ⟨b, 0, none⟩ (.slice oa' ((0) + 1) oc')) B (.slice oa' ((0) + 1) oc') (ps ++ [(noTextR ⟨t, a⟩, .slice aa a.length ca)]) := ownR_mk (by have h1 := KD1.own HOC.out (by decide); rw [HPLN.out, flatR_snoc]; exact h1) (fun q hq => KAD.own (PA.out.2 q hq) (by decide)) (KAD.own OA.out (by decide))
 have ND : DBlk (wC.setCell ⟨b, 0, none⟩ (.slice oa' ((0) + 1) oc')) b (.slice oa' ((0) + 1) oc') ad bv 0 := HNC.out.set0
 have KD : KeepR B w (wC.setCell ⟨b, 0, none⟩ (.slice oa' ((0) + 1) oc')) (.slice oa 0 oc) (.slice oa' ((0) + 1) oc') := HKC.out.trans (keepR_of KD1 (by simp) (by decide) _)
 have HD : Holds8 (wC.setCell ⟨b, 0, none⟩ (.slice oa' ((0) + 1) oc')) B bv [] := by rw [HH.out.2 rfl]; exact holds8_nil _ _
 obtain ⟨wD, hwD⟩ : ∃ wD, wD = wC.setCell ⟨b, 0, none⟩ (.slice oa' ((0) + 1) oc') := ⟨_, rfl⟩
 change (Exit.then _ _) _ _ (wC.setCell ⟨b, 0, none⟩ (.slice oa' ((0) + 1) oc'))
 rw [← hwD] at OD ND KD HD ⊢
 have HOD := Lib.hid OD
 have HND := Lib.hid ND
 have HKD := Lib.hid KD
 have HHD := Lib.hid HD
 clear OD ND KD HD KD1 KAD hwD
 go_wp2_with fail
 refine (writeStringD_any B b _ ad bv 0 [] t _ (by exact HND.out) HA.out hB (by exact HHD.out) (by have := HF.out.text; simp; omega)).mono ?_
 rintro e wE ⟨⟨nE, rfl⟩, ⟨bE, NE, HE⟩, KE⟩
 have OE := HOD.out.keep KE (by decide) (by decide)
 have FIN : ∃ ov', DSt wE B b ov' (putR [] t a) ∧ KeepR B w wE (.slice oa 0 oc) ov' := by
  rw [putR_fresh HNA.out]
  exact ⟨_, ⟨_, _, _, _, NE, .inr rfl, OE, HE, .inr ⟨⟨t, a⟩, [], ps, _, rfl, rfl, HPS.out, rfl⟩⟩, HKD.out.trans (keepR_of KE (by simp) (by decide) _)⟩
 have HFIN := Lib.hid FIN
 clear FIN OE KE NE HE
 go_wp2_with fail
 go_end0
 exact ⟨rfl, HFIN.out⟩

set_option maxHeartbeats 4000000 in
set_option maxRecDepth 100000 in
theorem putD_other (B b : Nat) (ov : Value) (l : List RunD) (t : ByteArray) (a : List (ByteArray × ByteArray)) (av : Value) (w : World) (h : DSt w B b ov l) (hB : B ≤ b) (hf : FitsD l t a) (hv : ∀ w', Keep B TD w w' → AtRow w' av a) (x : RunD) (r : List RunD) (hl : l = x :: r) (hal : ¬ x.attrs = a) :
 Calls Tryz.prog 16 #[.pointer (some ⟨b, 0, none⟩), .string t, av] w (PutDOut w B b ov l t a) := by
 have hBw : B ≤ w.heap.size := Nat.le_trans hB (Nat.le_of_lt h.lt)
 obtain ⟨la, lc, rfl⟩ := (hv w (Keep.refl _ _ _)).shape
 have HV := Lib.hid hv
 have HF := Lib.hid hf
 have HS := Lib.hid h
 obtain ⟨ps0, ad0, bv0, bt0, hN0, hA0, hP0, hH0, hcase⟩ := h
 have hblw := lt_of_heap hN0
 obtain ⟨fr0, xv, rfl, hfr, rfl⟩ : ∃ fr xv, ps0 = fr ++ [(noTextR x, xv)] ∧ fr.map (·.1) = r.reverse ∧ bt0 = x.text.data.toList := by
  rcases hcase with ⟨h, _⟩ | ⟨x', r', fr, xv, h, h2, h3, h4⟩
  ·rw [hl] at h; cases h
  ·rw [hl] at h
   simp only [List.cons.injEq] at h
   obtain ⟨rfl, rfl⟩ := h
   exact ⟨fr, xv, h2, h3, h4⟩
 subst hl
 obtain ⟨gg, cap, hov⟩ := ownsRow_open hP0.len (Nat.succ_pos _)
 subst hov
 obtain ⟨xa, xc, hxv⟩ : ∃ a c, xv = .slice a (noTextR x).attrs.length c := own_slice (hP0.2 (noTextR x, xv) (by simp))
 subst hxv
 obtain ⟨nf, hnf⟩ : ∃ nf, nf = fr0.length := ⟨_, rfl⟩
 have k0 : w.cell? ⟨b, 0, none⟩ = some (.slice (some ⟨gg, 0, none⟩) (fr0.length + 1) cap) := hN0.cells.1
 have q1 := (last_cellsR hP0.len).2
 simp only at q1
 have hgw : gg < w.heap.size := by obtain ⟨_, cs, hcs⟩ := own_heap hP0.len; exact lt_of_heap hcs
 have i1 : (0 : Int) ≤ (fr0.length : Int) := by omega
 have i2 : (fr0.length : Int) < (fr0.length : Int) + 1 := by omega
 have i3 : decide ((fr0.length : Int) < 0) = false := decide_eq_false (by omega)
 have hm : fr0.length ≤ 1000000 := by
  have h1 := congrArg List.length hfr
  rw [List.length_map, List.length_reverse] at h1
  have := HF.out.len
  rw [List.length_cons] at this
  omega
 have HFR := Lib.hid hfr
 have HA0 := Lib.hid hA0
 have HN0 := Lib.hid hN0
 have HP0 := Lib.hid hP0
 have HH0 := Lib.hid hH0
 have HAL := Lib.hid (fun n => same_any (.slice xa (noTextR x).attrs.length xc) (.slice la a.length lc) (noTextR x).attrs a (w.drewN n) ((row_of_own (hP0.2 (noTextR x, .slice xa (noTextR x).attrs.length xc) (by simp))).below (below_drewN (Below.refl _ _) n)) ((hv w (Keep.refl _ _ _)).below (below_drewN (Below.refl _ _) n)))
 clear hf hv hN0 hA0 hP0 hH0 hcase hfr
 have HNA := Lib.hid (show ∀ y s, x :: r = y :: s → y.attrs ≠ a from fun y s e => by simp only [List.cons.injEq] at e; obtain ⟨rfl, rfl⟩ := e; exact hal)
 have hsb : sameB (noTextR x).attrs a = false := decide_eq_false hal
 clear hal
 go_enter Tryz.func16, Tryz.ntmps16
 go_wp2_with fail
 refine (HAL.out 0).mono ?_
 rintro e w0 ⟨rfl, n0, rfl⟩
 rw [hsb]
 go_wp2_with fail
 refine (finishD_any B b _ (x :: r) _ (HS.out.below (below_drewN (Below.refl _ _) n0)) hB (by have := HF.out.len; omega)).mono ?_
 rintro e w1 ⟨rfl, F1, KF0⟩
 have KF : KeepR B w w1 _ _ := (keepR_below (below_drewN (Below.refl _ _) n0) hBw _).trans KF0
 clear KF0
 have hs1 : w.heap.size ≤ w1.heap.size := KF.keep.below.size
 have hBw1 : B ≤ w1.heap.size := Nat.le_trans hBw hs1
 have HK1 := Lib.hid KF
 obtain ⟨ps, ad, bv, hN, hA, hP, hH, hps⟩ := F1
 have hpl : ps.length ≤ 1000000 := by have h1 := congrArg List.length hps; rw [List.length_map, List.length_reverse] at h1; have := HF.out.len; omega
 have hPL : ps.length = fr0.length + 1 := by
  obtain ⟨a', c', e⟩ := own_slice hP.1
  simp only [Value.slice.injEq] at e
  exact e.2.1.symm
 have HPLN := Lib.hid hPL
 obtain ⟨kk0, k1, k2, k3, k4⟩ := hN.cells
 have hbl : b < w1.heap.size := lt_of_heap hN
 obtain ⟨i0, hi, hz0, hz1, hz2⟩ := info_parts infoRun
 have Hi := Lib.hid (And.intro hi (And.intro hz0 (And.intro hz1 hz2)))
 have HN := Lib.hid hN
 have HP := Lib.hid hP
 have HH := Lib.hid hH
 have HA := Lib.hid hA
 have HPS := Lib.hid hps
 have HPL := Lib.hid hpl
 have HCL := Lib.hid (fun W' (hb : Below w1.heap.size w1 W') => cloneAttrs_any (.slice la a.length lc) a W' (HV.out W' (KF.keep.trans (keep_below hb hBw1))) HF.out.attrs)
 clear hN hP hH hA hps hPL KF hi hz0 hz1 hz2 k1 k2 k3 k4 hpl
 go_wp2_with fail
 refine wp_region_B (fun w' => w'.cell? ⟨b, 0, none⟩ = some (.slice (some ⟨gg, 0, none⟩) (fr0.length + 1) cap)) [12] (by kernel_rfl) (?_ : wpAnyB _ _ _ _ _ _ 13 (Array.replicate 13 false) _ _)
 refine wpAnyB_free (fuel := 12) (i := 0) (v := ?_) rfl (by kernel_rfl) (by kernel_rfl) (by kernel_rfl) (by kernel_rfl) (fun _ _ _ h => h) (.inr (show w1.drew.cell? ⟨b, 0, none⟩ = some (.slice (some ⟨gg, 0, none⟩) (fr0.length + 1) cap) from kk0)) ?_ (by rfl) ?_
 rotate_left
 ·intro w'; go_simp; (try with_reducible rfl)
 simp only [Act.put, List.getElem_toArray, List.getElem_cons_zero, List.setIfInBounds_toArray, List.set_cons_zero, List.set_cons_succ]
 refine wpAnyB_free (fuel := 11) (i := 1) (v := ?_) rfl (by kernel_rfl) (by kernel_rfl) (by kernel_rfl) (by kernel_rfl) (fun _ _ _ h => h) (.inr (show w1.drew.cell? ⟨b, 0, none⟩ = some (.slice (some ⟨gg, 0, none⟩) (fr0.length + 1) cap) from kk0)) ?_ (by rfl) ?_
 rotate_left
 ·intro w'; go_simp; (try with_reducible rfl)
 simp only [Act.put, List.getElem_toArray, List.getElem_cons_zero, List.getElem_cons_succ, List.setIfInBounds_toArray, List.set_cons_zero, List.set_cons_succ]
 refine wpAnyB_free (fuel := 10) (i := 2) (v := ?_) rfl (by kernel_rfl) (by kernel_rfl) (by kernel_rfl) (by kernel_rfl) (fun _ _ _ h => h) (.inr (show w1.drew.cell? ⟨b, 0, none⟩ = some (.slice (some ⟨gg, 0, none⟩) (fr0.length + 1) cap) from kk0)) ?_ (by rfl) ?_
 rotate_left
 ·intro w'; go_simp; (try with_reducible rfl)
 simp only [Act.put, List.getElem_toArray, List.getElem_cons_zero, List.getElem_cons_succ, List.setIfInBounds_toArray, List.set_cons_zero, List.set_cons_succ]
 refine wpAnyB_free (fuel := 9) (i := 3) (v := ?_) rfl (by kernel_rfl) (by kernel_rfl) (by kernel_rfl) (by kernel_rfl) (fun _ _ _ h => h) (.inr (show w1.drew.cell? ⟨b, 0, none⟩ = some (.slice (some ⟨gg, 0, none⟩) (fr0.length + 1) cap) from kk0)) ?_ (by rfl) ?_
 rotate_left
 ·intro w'; go_simp; (try with_reducible rfl)
 simp only [Act.put, List.getElem_toArray, List.getElem_cons_zero, List.getElem_cons_succ, List.setIfInBounds_toArray, List.set_cons_zero, List.set_cons_succ]
 refine wpAnyB_load [4,9,10,11,12] (fuel := 8) (i := 4) (v := ?_) rfl (by kernel_rfl) (by kernel_rfl) (by kernel_rfl) (by kernel_rfl) (by kernel_rfl) (fun _ _ _ h => h) (.inr (show w1.drew.cell? ⟨b, 0, none⟩ = some (.slice (some ⟨gg, 0, none⟩) (fr0.length + 1) cap) from kk0)) ?_ (by rfl) ?_
 rotate_left
 ·intro w' hw'; go_simp; (try with_reducible rfl)
 simp only [Act.put, List.getElem_toArray, List.getElem_cons_zero, List.getElem_cons_succ, List.setIfInBounds_toArray, List.set_cons_zero, List.set_cons_succ]
 refine wpAnyB_free (fuel := 7) (i := 5) (v := ?_) rfl (by kernel_rfl) (by kernel_rfl) (by kernel_rfl) (by kernel_rfl) (fun _ _ _ h => h) (.inr (show w1.drew.cell? ⟨b, 0, none⟩ = some (.slice (some ⟨gg, 0, none⟩) (fr0.length + 1) cap) from kk0)) ?_ (by rfl) ?_
 rotate_left
 ·intro w'; go_simp; (try with_reducible rfl)
 simp only [Act.put, List.getElem_toArray, List.getElem_cons_zero, List.getElem_cons_succ, List.setIfInBounds_toArray, List.set_cons_zero, List.set_cons_succ]
 refine wpAnyB_one (fuel := 6) (i := 6) rfl (by kernel_rfl) ?_
 intro KB hKB
 go_simp
 refine (HCL.out _ (Below.refl _ _).drew).mono ?_
 rintro e wA ⟨vA, rfl, oA, bA⟩
 obtain ⟨aa, ca, rfl⟩ := own_slice oA
 have BA : Below w1.heap.size w1 wA := of_drew bA
 have OA := Lib.hid (own_base oA (show B ≤ w1.drew.heap.size from hBw1))
 have PA := Lib.hid (HP.out.keep (keep_below (ts := []) BA (Nat.le_refl _)) (by simp) (by simp))
 have NA := Lib.hid (HN.out.keep (keep_below (ts := []) BA (Nat.le_refl _)) (by simp))
 have PO := Lib.hid (show wA.ownsRow B 77 2 (.slice (some ⟨gg, 0, none⟩) (fr0.length + 1) cap) (fr0.length + 1) (flatR ps) from by have := PA.out.1; rwa [HPLN.out] at this)
 have hBA := Lib.hid (show B ≤ wA.heap.size from Nat.le_trans hBw1 BA.size)
 have KA := Lib.hid (HK1.out.trans (keepR_below BA hBw1 (.slice (some ⟨gg, 0, none⟩) (fr0.length + 1) cap)))
 have SA : wA.cell? ⟨b, 0, none⟩ = some (.slice (some ⟨gg, 0, none⟩) (fr0.length + 1) cap) := (BA.cell (by exact hbl)).trans kk0
 have AC := Below.alloc (Below.refl wA.heap.size wA) (Nat.le_refl _) (Obj.cells #[.string ⟨#[]⟩, .slice aa a.length ca] 77)
 have HAC := Lib.hid AC
 have lA := Nat.lt_of_lt_of_le hbl BA.size
 have SB : (wA.alloc (Obj.cells #[.string ⟨#[]⟩, .slice aa a.length ca] 77)).cell? ⟨b, 0, none⟩ = some (.slice (some ⟨gg, 0, none⟩) (fr0.length + 1) cap) := (AC.cell (by exact lA)).trans SA
 have HSA := Lib.hid SA
 have HSB := Lib.hid SB
 clear oA bA BA SA SB AC
 refine hKB _ _ (.inr HSA.out) ?_
 (try simp only [Act.put, List.getElem_toArray, List.getElem_cons_zero, List.getElem_cons_succ, List.setIfInBounds_toArray, List.set_cons_zero, List.set_cons_succ])
 refine wpAnyB_free (fuel := 5) (i := 7) (v := ?_) rfl (by kernel_rfl) (by kernel_rfl) (by kernel_rfl) (by kernel_rfl) (fun _ _ _ h => h) (.inr HSA.out) ?_ (by rfl) ?_
 rotate_left
 ·intro w'; go_simp; (try with_reducible rfl)
 simp only [Act.put, List.getElem_toArray, List.getElem_cons_zero, List.getElem_cons_succ, List.setIfInBounds_toArray, List.set_cons_zero, List.set_cons_succ]
 refine wpAnyB_one (fuel := 4) (i := 8) rfl (by kernel_rfl) ?_
 intro KB hKB
 go_simp
 refine hKB _ _ (.inr HSB.out) ?_
 (try simp only [Act.put, List.getElem_toArray, List.getElem_cons_zero, List.getElem_cons_succ, List.setIfInBounds_toArray, List.set_cons_zero, List.set_cons_succ])
 refine wpAnyB_one (fuel := 3) (i := 9) rfl (by kernel_rfl) ?_
 intro KB hKB
 refine step_append_new rfl (.tmp 34) (.tmp 38) 22 rfl 77 i0 (.agg #[.string ⟨#[]⟩, .slice none 0 0]) 2 40 Tryz.underlying22 Hi.out.1 Hi.out.2.1 Hi.out.2.2.1 Hi.out.2.2.2 rfl (by decide) B (.slice (some ⟨gg, 0, none⟩) (fr0.length + 1) cap) (fr0.length + 1) (flatR ps) rfl (PO.out.alloc _) ⟨wA.heap.size, 0, none⟩ 1 1 [.string ⟨#[]⟩, .slice aa a.length ca] rfl rfl (new_at2 _ _ _ _) (fun u hu => by simp at hu; rcases hu with rfl | rfl <;> rfl) (by unfold maxLen; have := HPL.out; have := HPLN.out; omega) (by have := HPL.out; have := HPLN.out; omega) (by have := hBA.out; simp; omega) ?_
 intro v' wC oC gC nC
 obtain ⟨oa', oc', rfl⟩ := own_slice oC
 have KC1 := keepR_below (B := B) HAC.out hBA.out (.slice (some ⟨gg, 0, none⟩) (fr0.length + 1) cap)
 have KC2 := keepR_grown (PO.out.alloc _) gC (by have := hBA.out; simp; omega) nC
 have NC : DBlk wC b _ _ _ 0 := (NA.out.keep (keep_below (ts := []) HAC.out (Nat.le_refl _)) (by simp)).keep (ts := [77]) (keep_row (PO.out.alloc _) gC (by simp) (by have := hBA.out; simp; omega)) (by decide)
 obtain ⟨SC, _, _, _, fC⟩ := NC.cells
 have fC0 := fC 0
 have HSC := Lib.hid SC
 have HNC := Lib.hid NC
 have HOC := Lib.hid oC
 have HKC := Lib.hid (KA.out.trans (KC1.trans KC2))
 have HKC2 := Lib.hid (KC1.trans KC2)
 clear oC gC nC KC1 KC2 NC fC SC
 refine hKB _ _ (.inr HSC.out) ?_
 (try simp only [Act.put, List.getElem_toArray, List.getElem_cons_zero, List.getElem_cons_succ, List.setIfInBounds_toArray, List.set_cons_zero, List.set_cons_succ])
 refine wpAnyB_free (fuel := 2) (i := 10) (v := ?_) rfl (by kernel_rfl) (by kernel_rfl) (by kernel_rfl) (by kernel_rfl) (fun _ _ _ h => h) (.inr HSC.out) ?_ (by rfl) ?_
 rotate_left
 ·intro w'; go_simp; (try with_reducible rfl)
 simp only [Act.put, List.getElem_toArray, List.getElem_cons_zero, List.getElem_cons_succ, List.setIfInBounds_toArray, List.set_cons_zero, List.set_cons_succ]
 refine wpAnyB_free (fuel := 1) (i := 11) (v := ?_) rfl (by kernel_rfl) (by kernel_rfl) (by kernel_rfl) (by kernel_rfl) (fun _ _ _ h => h) (.inr HSC.out) ?_ (by rfl) ?_
 rotate_left
 ·intro w'; go_simp; (try with_reducible rfl)
 simp only [Act.put, List.getElem_toArray, List.getElem_cons_zero, List.getElem_cons_succ, List.setIfInBounds_toArray, List.set_cons_zero, List.set_cons_succ]
 refine wpAnyB_one (fuel := 0) (i := 12) rfl (by kernel_rfl) ?_
 intro KB hKB
 have SC := HSC.out
 go_simp
 refine hKB _ _ (.inl (by kernel_rfl)) ?_
 (try simp only [Act.put, List.getElem_toArray, List.getElem_cons_zero, List.getElem_cons_succ, List.setIfInBounds_toArray, List.set_cons_zero, List.set_cons_succ])
 refine wpAnyB_done (by kernel_rfl) ?_
 have KD1 : Keep B [49] wC (wC.setCell ⟨b, 0, none⟩ (.slice oa' ((fr0.length + 1) + 1) oc')) := keep_set HNC.out (by simp) hB _ rfl _
 have KAD : Keep B TD wA (wC.setCell ⟨b, 0, none⟩ (.slice oa' ((fr0.length + 1) + 1) oc')) := HKC2.out.keep.trans (KD1.more (by simp))
 have OD : OwnR (wC.setCell ⟨b, 0, none⟩ (.slice oa' ((fr0.length + 1) + 1) oc')) B (.slice oa' ((fr0.length + 1) + 1) oc') (ps ++ [(noTextR ⟨t, a⟩, .slice aa a.length ca)]) := ownR_mk (by have h1 := KD1.own HOC.out (by decide); rw [HPLN.out, flatR_snoc]; exact h1) (fun q hq => KAD.own (PA.out.2 q hq) (by decide)) (KAD.own OA.out (by decide))
 have ND : DBlk (wC.setCell ⟨b, 0, none⟩ (.slice oa' ((fr0.length + 1) + 1) oc')) b (.slice oa' ((fr0.length + 1) + 1) oc') ad bv 0 := HNC.out.set0
 have KD : KeepR B w (wC.setCell ⟨b, 0, none⟩ (.slice oa' ((fr0.length + 1) + 1) oc')) (.slice (some ⟨gg, 0, none⟩) (fr0.length + 1) cap) (.slice oa' ((fr0.length + 1) + 1) oc') := HKC.out.trans (keepR_of KD1 (by simp) (by decide) _)
 have HD : Holds8 (wC.setCell ⟨b, 0, none⟩ (.slice oa' ((fr0.length + 1) + 1) oc')) B bv [] := by rw [HH.out.2 rfl]; exact holds8_nil _ _
 obtain ⟨wD, hwD⟩ : ∃ wD, wD = wC.setCell ⟨b, 0, none⟩ (.slice oa' ((fr0.length + 1) + 1) oc') := ⟨_, rfl⟩
 change (Exit.then _ _) _ _ (wC.setCell ⟨b, 0, none⟩ (.slice oa' ((fr0.length + 1) + 1) oc'))
 rw [← hwD] at OD ND KD HD ⊢
 have HOD := Lib.hid OD
 have HND := Lib.hid ND
 have HKD := Lib.hid KD
 have HHD := Lib.hid HD
 clear OD ND KD HD KD1 KAD hwD
 go_wp2_with fail
 refine (writeStringD_any B b _ ad bv 0 [] t _ (by exact HND.out) HA.out hB (by exact HHD.out) (by have := HF.out.text; simp; omega)).mono ?_
 rintro e wE ⟨⟨nE, rfl⟩, ⟨bE, NE, HE⟩, KE⟩
 have OE := HOD.out.keep KE (by decide) (by decide)
 have FIN : ∃ ov', DSt wE B b ov' (putR (x :: r) t a) ∧ KeepR B w wE (.slice (some ⟨gg, 0, none⟩) (fr0.length + 1) cap) ov' := by
  rw [putR_fresh HNA.out]
  exact ⟨_, ⟨_, _, _, _, NE, .inr rfl, OE, HE, .inr ⟨⟨t, a⟩, (x :: r), ps, _, rfl, rfl, HPS.out, rfl⟩⟩, HKD.out.trans (keepR_of KE (by simp) (by decide) _)⟩
 have HFIN := Lib.hid FIN
 clear FIN OE KE NE HE
 go_wp2_with fail
 go_end0
 exact ⟨rfl, HFIN.out⟩

set_option maxHeartbeats 4000000 in
set_option maxRecDepth 100000 in
theorem putD_alike (B b : Nat) (ov : Value) (l : List RunD) (t : ByteArray) (a : List (ByteArray × ByteArray)) (av : Value) (w : World) (h : DSt w B b ov l) (hB : B ≤ b) (hf : FitsD l t a) (hv : ∀ w', Keep B TD w w' → AtRow w' av a) (x : RunD) (r : List RunD) (hl : l = x :: r) (hal : x.attrs = a) :
 Calls Tryz.prog 16 #[.pointer (some ⟨b, 0, none⟩), .string t, av] w (PutDOut w B b ov l t a) := by
 have hBw : B ≤ w.heap.size := Nat.le_trans hB (Nat.le_of_lt h.lt)
 obtain ⟨la, lc, rfl⟩ := (hv w (Keep.refl _ _ _)).shape
 have HV := Lib.hid hv
 have HF := Lib.hid hf
 have HS := Lib.hid h
 obtain ⟨ps0, ad0, bv0, bt0, hN0, hA0, hP0, hH0, hcase⟩ := h
 have hblw := lt_of_heap hN0
 obtain ⟨fr0, xv, rfl, hfr, rfl⟩ : ∃ fr xv, ps0 = fr ++ [(noTextR x, xv)] ∧ fr.map (·.1) = r.reverse ∧ bt0 = x.text.data.toList := by
  rcases hcase with ⟨h, _⟩ | ⟨x', r', fr, xv, h, h2, h3, h4⟩
  ·rw [hl] at h; cases h
  ·rw [hl] at h
   simp only [List.cons.injEq] at h
   obtain ⟨rfl, rfl⟩ := h
   exact ⟨fr, xv, h2, h3, h4⟩
 subst hl
 obtain ⟨gg, cap, hov⟩ := ownsRow_open hP0.len (Nat.succ_pos _)
 subst hov
 obtain ⟨xa, xc, hxv⟩ : ∃ a c, xv = .slice a (noTextR x).attrs.length c := own_slice (hP0.2 (noTextR x, xv) (by simp))
 subst hxv
 obtain ⟨nf, hnf⟩ : ∃ nf, nf = fr0.length := ⟨_, rfl⟩
 have k0 : w.cell? ⟨b, 0, none⟩ = some (.slice (some ⟨gg, 0, none⟩) (fr0.length + 1) cap) := hN0.cells.1
 have q1 := (last_cellsR hP0.len).2
 simp only at q1
 have hgw : gg < w.heap.size := by obtain ⟨_, cs, hcs⟩ := own_heap hP0.len; exact lt_of_heap hcs
 have i1 : (0 : Int) ≤ (fr0.length : Int) := by omega
 have i2 : (fr0.length : Int) < (fr0.length : Int) + 1 := by omega
 have i3 : decide ((fr0.length : Int) < 0) = false := decide_eq_false (by omega)
 have hm : fr0.length ≤ 1000000 := by
  have h1 := congrArg List.length hfr
  rw [List.length_map, List.length_reverse] at h1
  have := HF.out.len
  rw [List.length_cons] at this
  omega
 have HFR := Lib.hid hfr
 have HA0 := Lib.hid hA0
 have HN0 := Lib.hid hN0
 have HP0 := Lib.hid hP0
 have HH0 := Lib.hid hH0
 have HAL := Lib.hid (fun n => same_any (.slice xa (noTextR x).attrs.length xc) (.slice la a.length lc) (noTextR x).attrs a (w.drewN n) ((row_of_own (hP0.2 (noTextR x, .slice xa (noTextR x).attrs.length xc) (by simp))).below (below_drewN (Below.refl _ _) n)) ((hv w (Keep.refl _ _ _)).below (below_drewN (Below.refl _ _) n)))
 clear hf hv hN0 hA0 hP0 hH0 hcase hfr
 have hsb : sameB (noTextR x).attrs a = true := decide_eq_true hal
 have HAT := Lib.hid hal
 clear hal
 go_enter Tryz.func16, Tryz.ntmps16
 go_wp2_with fail
 refine (HAL.out 0).mono ?_
 rintro e w0 ⟨rfl, n0, rfl⟩
 rw [hsb]
 go_wp2_with fail
 refine (writeStringD_any B b _ ad0 bv0 0 x.text.data.toList t _ (by exact HN0.out) HA0.out hB (by exact HH0.out) (by have h1 := HF.out.text; have h2 := HF.out.last x r rfl; have h3 : x.text.data.toList.length = x.text.size := rfl; omega)).mono ?_
 rintro e wE ⟨⟨nE, rfl⟩, ⟨bE, NE, HE⟩, KE⟩
 have KE2 : Keep B [49, 5] w wE := (keep_below (ts := [49, 5]) (below_drewN (Below.refl w.heap.size w) n0) hBw).trans KE
 have OE := HP0.out.keep KE2 (by decide) (by decide)
 have FIN : ∃ ov', DSt wE B b ov' (putR (x :: r) t a) ∧ KeepR B w wE (.slice (some ⟨gg, 0, none⟩) (fr0.length + 1) cap) ov' := by
  rw [putR, if_pos HAT.out]
  exact ⟨_, ⟨_, _, _, _, NE, .inr rfl, OE, HE, .inr ⟨{ x with text := cat x.text t }, r, fr0, _, rfl, rfl, HFR.out, rfl⟩⟩, keepR_of KE2 (by simp) (by decide) _⟩
 have HFIN := Lib.hid FIN
 clear FIN OE KE2 KE NE HE
 go_wp2_with fail
 go_end0
 exact ⟨rfl, HFIN.out⟩

theorem putD_any (B b : Nat) (ov : Value) (l : List RunD) (t : ByteArray) (a : List (ByteArray × ByteArray)) (av : Value) (w : World) (h : DSt w B b ov l) (hB : B ≤ b) (hf : FitsD l t a) (hv : ∀ w', Keep B TD w w' → AtRow w' av a) :
 Calls Tryz.prog 16 #[.pointer (some ⟨b, 0, none⟩), .string t, av] w (PutDOut w B b ov l t a) := by
 cases l with
 | nil => exact putD_empty B b ov [] t a av w h hB hf hv rfl
 | cons x r =>
   by_cases hal : x.attrs = a
   ·exact putD_alike B b ov (x :: r) t a av w h hB hf hv x r rfl hal
   ·exact putD_other B b ov (x :: r) t a av w h hB hf hv x r rfl hal
end Go.Proofs.YtlfodemmdfaeeaaGreatDoor
