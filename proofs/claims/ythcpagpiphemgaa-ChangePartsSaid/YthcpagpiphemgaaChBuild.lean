/- strings.Builder's methods at a builder that lies inside of the program's normal. -/
import Derived.Test.YthcpagpiphemgaaChMem
import Derived.Lib.Builder
import Derived.Lib.AppendStr
import Derived.Lib.UnsafeStr
import Derived.Laws.Externs
import Derived.Laws.IdiomCopy
import Derived.RegionTactic
namespace Go.Proofs.Ythcpagpiphemgaa
open Go.RowKit Ch

abbrev selfB (b : Nat) : Value := .pointer (some ⟨b, 1, none⟩)
def Addrs (b : Nat) (ad : Value) : Prop := ad = .pointer none ∨ ad = selfB b
theorem infoBld : (Try.prog.info? 56).map (fun i => i.size != 0) = some true := by kernel_rfl
theorem infoU8 : (Try.prog.info? 5).map (fun i => (i.zero, i.size, i.bytes)) = some (some (.int .u8 0), 1, 1) := by kernel_rfl
theorem liesBld : liesAt Try.prog Try.prog.depth 60 (4 / Try.prog.cellsOf 60) 1 56 1 = true := by kernel_rfl
theorem NBlk.shape {w : World} {b : Nat} {ov ad bv : Value} {g : Int} (h : NBlk w b ov ad bv g) : w.shape? b = some (60, 4) := by
  unfold NBlk at h
  simp [World.shape?, h]
def CCOut (w : World) (b : Nat) (ov bv : Value) (g : Int) (e : Ending) (w' : World) : Prop := e = .returned (.tuple #[]) ∧ NBlk w' b ov (selfB b) bv g ∧ w.grownBy w' (some b)

set_option maxHeartbeats 1000000 in
set_option maxRecDepth 100000 in
theorem copyCheck_any (b : Nat) (ov ad bv : Value) (g : Int) (w : World) (h : NBlk w b ov ad bv g) (ha : Addrs b ad) :
    Calls Try.prog 70 #[selfB b] w (CCOut w b ov bv g) := by
  obtain ⟨j, hj, hjs⟩ := Option.map_eq_some_iff.1 infoBld
  have hj0 : j.size ≠ 0 := by simpa using hjs
  obtain ⟨k0, k1, k2, k3, k4⟩ := h.cells
  have f1 := k4 1
  have HN := Lib.hid h
  rcases ha with rfl | rfl
  · clear h k0 k2 k3 k4 hjs
    go_enter Try.func70, Try.ntmps70
    go_wp2_with fail
    rw [Lib.run_to_unsafe w ⟨b, 1, none⟩ Try.underlying53 Try.underlying90 hj hj0 HN.out.shape (show 1 < 4 by decide)]
    simp only [Result.andThen]
    rw [Oper.upon_value]
    go_wp2_with fail
    rw [run_callFunc_extern Try.func72 (by kernel_rfl) (by kernel_rfl) (by kernel_rfl) (e := Extern.AbiNoEscape.same) (by kernel_rfl)]
    rw [Lib.run_noEscape]
    simp only [Result.andThen]
    rw [Oper.upon_value]
    go_wp2_with fail
    rw [Lib.run_from_unsafe w ⟨b, 1, none⟩ Try.underlying90 Try.underlying53 hj HN.out.shape liesBld]
    simp only [Result.andThen]
    rw [Oper.upon_value]
    go_wp2_with fail
    go_end0
    exact ⟨rfl, HN.out.set1, only_setCell (grown_refl _ _) rfl _⟩
  · clear h k0 k2 k3 k4 hjs
    go_enter Try.func70, Try.ntmps70
    go_wp2_with fail
    rw [Lib.run_neq_ptr_same w _ Try.underlying53 hj]
    go_wp2_with fail
    go_end0
    exact ⟨rfl, HN.out, grown_refl _ _⟩

/-- What a builder holds. -/
def Holds8 (w : World) (B : Nat) (bv : Value) (bt : List UInt8) : Prop := w.ownsRow B 5 1 bv bt.length (Lib.byteCells bt) ∧ (bt = [] → bv = .slice none 0 0)
theorem holds8_nil (w : World) (B : Nat) : Holds8 w B (.slice none 0 0) [] := ⟨World.ownsRow_nil _ _ _ _, fun _ => rfl⟩
def WSOut (w : World) (B b : Nat) (ov : Value) (g : Int) (bt : List UInt8) (e : Ending) (w' : World) : Prop :=
  (∃ n : Int, e = .returned (.tuple #[.int .i64 n, .nilIface])) ∧ (∃ bv, NBlk w' b ov (selfB b) bv g ∧ Holds8 w' B bv bt) ∧ Keep B [60, 5] w w'

set_option maxHeartbeats 2000000 in
set_option maxRecDepth 100000 in
theorem writeString_any (B b : Nat) (ov ad bv : Value) (g : Int) (bt : List UInt8) (s : ByteArray) (w : World) (h : NBlk w b ov ad bv g) (ha : Addrs b ad) (hB : B ≤ b) (hh : Holds8 w B bv bt) (hl : bt.length + s.size ≤ 140737488355328) :
    Calls Try.prog 63 #[selfB b, .string s] w (WSOut w B b ov g (bt ++ s.data.toList)) := by
  have HC := Lib.hid (copyCheck_any b ov ad bv g w h ha)
  have HN := Lib.hid h
  have HH := Lib.hid hh
  have HL := Lib.hid hl
  have HBw := Lib.hid (show B ≤ w.heap.size from Nat.le_trans hB (Nat.le_of_lt (lt_of_heap h)))
  obtain ⟨i0, hi, hz0, hz1, hz2⟩ := info_parts infoU8
  have Hi := Lib.hid (And.intro hi (And.intro hz0 (And.intro hz1 hz2)))
  clear h hh hl hi hz0 hz1 hz2
  go_enter Try.func63, Try.ntmps63
  go_wp2_with fail
  refine HC.out.mono ?_
  rintro e w1 ⟨rfl, h1, g1⟩
  obtain ⟨k0, k1, k2, k3, k4⟩ := h1.cells
  have H1 := Lib.hid h1
  have K1 : Keep B [60, 5] w w1 := keep_grown g1 HBw.out fun k hk => by
    cases hk
    exact ⟨hB, _, _, _, HN.out, by simp⟩
  have O1 : w1.ownsRow B 5 1 bv bt.length (Lib.byteCells bt) := HH.out.1.kept g1 (.inr (own_ne HH.out.1 HN.out (by decide)))
  have HK1 := Lib.hid K1
  have HO1 := Lib.hid O1
  have hs1 : B ≤ w1.heap.size := Nat.le_trans HBw.out g1.size
  clear h1 g1 K1 O1 k0 k1 k3 k4
  go_wp2_with (at_builtin; refine Lib.wpList_append_own_string _ rfl (.tmp 12) (.tmp 13) 54 9 rfl B 5 i0 Try.underlying54 Try.underlying9 Hi.out.1 Hi.out.2.1 Hi.out.2.2.1 Hi.out.2.2.2 bv bt.length (Lib.byteCells bt) rfl HO1.out s rfl (by have := HL.out; unfold maxLen; omega) HL.out hs1 ?_; intro v' w2 o2 g2 i2; obtain ⟨va, vc, rfl⟩ := own_slice o2; have I2 := Lib.hid i2; clear i2; have H2 : NBlk w2 b ov (selfB b) bv g := (g2.block b (lt_of_heap H1.out) (fun e => own_ne HO1.out H1.out (by decide) e.symm)).trans H1.out; have f2 : w2.frozen? ⟨b, 2, none⟩ = false := H2.cells.2.2.2.2 2; obtain ⟨q0, q1, q2, q3, q4⟩ := H2.cells; have HH2 := Lib.hid H2; have HO2 := Lib.hid o2; have HG2 := Lib.hid g2; clear H2 o2 g2 q0 q1 q3 q4 k2)
  go_ret2
  refine ⟨⟨_, rfl⟩, ⟨_, HH2.out.set2, ?_⟩, ?_⟩
  · have hk2 : Keep B [60] w2 (w2.setCell ⟨b, 2, none⟩ (.slice va (bt.length + s.size) vc)) := keep_set HH2.out (by simp) hB _ rfl _
    have := hk2.own HO2.out (by decide)
    refine ⟨?_, fun e => ?_⟩
    · rw [List.length_append, Lib.byteCells_append]
      exact this
    · obtain ⟨e1, e2⟩ := List.append_eq_nil_iff.1 e
      exact I2.out.2 ⟨HH.out.2 e1, by rw [size_data, e2]; rfl⟩
  · exact (HK1.out.trans (keep_row HO1.out HG2.out (by simp) hs1)).trans (keep_set HH2.out (by simp) hB _ rfl _)

theorem heap_freeze (w : World) (p : Addr) (n i : Nat) (h : i ≠ p.block) : (w.freeze p n).heap[i]? = w.heap[i]? := by
  unfold World.freeze
  split
  · rfl
  · simp only [Array.getElem?_modify]
    rw [if_neg (fun e => h e.symm)]
theorem keep_freeze {B g : Nat} {ts : List TypeId} {w : World} {cs : Array Value} {e : TypeId} {fr : Nat × Nat} (hb : w.heap[g]? = some (.cells cs e fr)) (he : e ∈ ts) (hB : B ≤ g) (n : Nat) : Keep B ts w (w.freeze ⟨g, 0, none⟩ n) :=
  ⟨Lib.below_freeze (Below.refl _ _) hB n, fun i cs' e' fr' hi he' => by
    rw [heap_freeze w _ n i (fun hh => by
      subst hh
      rw [hb] at hi
      simp only [Option.some.injEq, Obj.cells.injEq] at hi
      exact he' (hi.2.1 ▸ he))]
    exact hi⟩
theorem Keep.drew {B : Nat} {ts : List TypeId} {a w : World} (h : Keep B ts a w) : Keep B ts a w.drew := ⟨h.below.drew, h.kept⟩
theorem of_drewK {B : Nat} {ts : List TypeId} {a w : World} (h : Keep B ts a.drew w) : Keep B ts a w := ⟨⟨h.below.os, h.below.tape, h.below.output, h.below.size, h.below.block⟩, h.kept⟩
def StrOut (w : World) (B : Nat) (bt : List UInt8) (e : Ending) (w' : World) : Prop := e = .returned (.string ⟨bt.toArray⟩) ∧ Keep B [5] w w'

set_option maxHeartbeats 2000000 in
set_option maxRecDepth 100000 in
theorem builderString_any (B b : Nat) (ov ad bv : Value) (g : Int) (bt : List UInt8) (w : World) (h : NBlk w b ov ad bv g) (hh : Holds8 w B bv bt) :
    Calls Try.prog 64 #[selfB b] w (StrOut w B bt) := by
  obtain ⟨k0, k1, k2, k3, k4⟩ := h.cells
  by_cases h0 : bt = []
  · obtain rfl := hh.2 h0
    have e0 : (⟨bt.toArray⟩ : ByteArray) = ⟨#[]⟩ := by rw [h0]
    have HE := Lib.hid (show (⟨#[]⟩ : ByteArray) = ⟨bt.toArray⟩ from e0.symm)
    have hUS : ∀ q : Option Addr, (Builtin.unsafeString_ #[87, 3] 9 #[.pointer q, .int .i64 0]).run Try.prog w.drew = .ok (.string .empty) w.drew := fun q => Lib.run_unsafeString_none w.drew _ _ _ q
    have hSD : (Builtin.unsafeSliceData_ #[54] 87 #[.slice none 0 0]).run Try.prog w.drew = .ok (.pointer none) w.drew := rfl
    have c1 : w.drew.cell? ⟨b, 2, none⟩ = some (.slice none 0 0) := k2
    clear h hh e0 h0 k0 k1 k3 k4
    go_enter Try.func64, Try.ntmps64
    go_wp2_with fail
    go_region
    all_goals (go_wp2_with fail; go_ret; exact ⟨by rw [← HE.out]; rfl, (Keep.refl _ _ _).drew⟩)
  · have hl0 : bt.length ≠ 0 := by simpa using h0
    obtain ⟨gg, cap, cur, rfl, hbg, hg, hnc, hcm, hcs, htake⟩ : ∃ gg cap cur, bv = .slice (some ⟨gg, 0, none⟩) bt.length cap ∧ B ≤ gg ∧ w.heap[gg]? = some (.cells cur 5 (0, 0)) ∧ bt.length ≤ cap ∧ cap ≤ maxLen ∧ cur.size = cap * 1 ∧ cur.toList.take (bt.length * 1) = Lib.byteCells bt := by
      rcases hh.1.2 with ⟨_, hz⟩ | ⟨gg, cap, cur, hv, r⟩
      · exact absurd hz hl0
      · exact ⟨gg, cap, cur, hv, r⟩
    have c1 : w.drew.cell? ⟨b, 2, none⟩ = some (.slice (some ⟨gg, 0, none⟩) bt.length cap) := k2
    have hSD : (Builtin.unsafeSliceData_ #[54] 87 #[.slice (some ⟨gg, 0, none⟩) bt.length cap]).run Try.prog w.drew = .ok (.pointer (some ⟨gg, 0, none⟩)) w.drew :=
      Lib.run_unsafeSliceData_row _ _ _ _ _ _ (by omega)
    have hUS : (Builtin.unsafeString_ #[87, 3] 9 #[.pointer (some ⟨gg, 0, none⟩), .int .i64 bt.length]).run Try.prog w.drew = .ok (.string ⟨bt.toArray⟩) (w.drew.freeze ⟨gg, 0, none⟩ bt.length) := by
      refine Lib.run_unsafeString_row w.drew 87 3 9 5 Try.underlying87 (by kernel_rfl) gg cur.size (by have hg' : w.drew.heap[gg]? = some (.cells cur 5 (0, 0)) := hg; simp [World.shape?, hg']) bt h0 (by omega) (by unfold maxLen at hcm; omega) ?_
      intro j x hx
      exact hh.1.cells (g := gg) rfl j (.int .u8 x.toNat) (by simp [Lib.byteCells, hx])
    have HG := Lib.hid hg
    have HBG := Lib.hid hbg
    clear h hh h0 hl0 k0 k1 k3 k4 hg hnc hcm hcs htake hbg
    go_enter Try.func64, Try.ntmps64
    go_wp2_with fail
    go_region
    all_goals (go_wp2_with fail; go_ret; exact ⟨rfl, (Keep.refl _ _ _).drew.trans (keep_freeze (w := w.drew) HG.out (by simp) HBG.out _)⟩)

def ResetOut (w : World) (b : Nat) (ov : Value) (g : Int) (e : Ending) (w' : World) : Prop := e = .returned (.tuple #[]) ∧ NBlk w' b ov (.pointer none) (.slice none 0 0) g ∧ w.grownBy w' (some b)
set_option maxHeartbeats 1000000 in
set_option maxRecDepth 100000 in
theorem reset_any (b : Nat) (ov ad bv : Value) (g : Int) (w : World) (h : NBlk w b ov ad bv g) :
    Calls Try.prog 65 #[selfB b] w (ResetOut w b ov g) := by
  obtain ⟨k0, k1, k2, k3, k4⟩ := h.cells
  have f1 := k4 1
  have f2 := k4 2
  have HN := Lib.hid h
  have hlt := lt_of_heap h
  clear h k0 k3 k4
  go_enter Try.func65, Try.ntmps65
  go_wp2_with fail
  go_end0
  exact ⟨rfl, HN.out.set1.set2, only_setCell (p := ⟨b, 2, none⟩) (only_setCell (p := ⟨b, 1, none⟩) (grown_refl _ (some b)) rfl _) rfl _⟩
end Go.Proofs.Ythcpagpiphemgaa
