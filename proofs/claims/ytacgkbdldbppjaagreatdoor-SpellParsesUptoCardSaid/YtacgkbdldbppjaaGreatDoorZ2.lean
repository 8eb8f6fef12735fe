/- Texts of this seat, put together in build order: ChBuild, AtClone, ChCopy, ChSame, ChSt, RegionB, ChPut, ChPut2, ChPut3, ChAdd, ChLim, Sp, SpM, SpRd. -/
import Derived.Test.YtacgkbdldbppjaaGreatDoorZ1
import Derived.Lib.Builder
import Derived.Lib.AppendStr
import Derived.Lib.UnsafeStr
import Derived.Laws.Externs
import Derived.Laws.IdiomCopy
import Derived.RegionTactic
import Derived.Lib.Hide
import Derived.Below
import Derived.WalkKit
import Derived.WalkLawsBesides
import Derived.WalkSpells
import Derived.Deep.RegionHeld3
import Derived.StillTailTactics
import Derived.Test.YtacgkbdldbppjaaGreatDoorProg
import Derived.BigRegion
import Derived.Lib.ItoaNum
import Derived.Lib.ItoaMem
import Derived.Lib.AtoiAll
import Derived.Lib.SmallJoins
import Derived.BigQuiet
import Derived.Deep.QuietTactic
/- strings.Builder's methods at a builder that lies inside of the program's normal. -/
namespace Go.Proofs.YtacgkbdldbppjaaGreatDoor
open Go.RowKit Ch

abbrev selfB (b : Nat) : Value := .pointer (some ⟨b, 1, none⟩)
def Addrs (b : Nat) (ad : Value) : Prop := ad = .pointer none ∨ ad = selfB b
theorem infoBld : (Tryz.prog.info? 58).map (fun i => i.size != 0) = some true := by kernel_rfl
theorem infoU8 : (Tryz.prog.info? 5).map (fun i => (i.zero, i.size, i.bytes)) = some (some (.int .u8 0), 1, 1) := by kernel_rfl
theorem liesBld : liesAt Tryz.prog Tryz.prog.depth 89 (4 / Tryz.prog.cellsOf 89) 1 58 1 = true := by kernel_rfl
theorem NBlk.shape {w : World} {b : Nat} {ov ad bv : Value} {g : Int} (h : NBlk w b ov ad bv g) : w.shape? b = some (89, 4) := by
  unfold NBlk at h
  simp [World.shape?, h]
def CCOut (w : World) (b : Nat) (ov bv : Value) (g : Int) (e : Ending) (w' : World) : Prop := e = .returned (.tuple #[]) ∧ NBlk w' b ov (selfB b) bv g ∧ w.grownBy w' (some b)

set_option maxHeartbeats 1000000 in
set_option maxRecDepth 100000 in
theorem copyCheck_any (b : Nat) (ov ad bv : Value) (g : Int) (w : World) (h : NBlk w b ov ad bv g) (ha : Addrs b ad) :
    Calls Tryz.prog 58 #[selfB b] w (CCOut w b ov bv g) := by
  obtain ⟨j, hj, hjs⟩ := Option.map_eq_some_iff.1 infoBld
  have hj0 : j.size ≠ 0 := by simpa using hjs
  obtain ⟨k0, k1, k2, k3, k4⟩ := h.cells
  have f1 := k4 1
  have HN := Lib.hid h
  rcases ha with rfl | rfl
  · clear h k0 k2 k3 k4 hjs
    go_enter Tryz.func58, Tryz.ntmps58
    go_wp2_with fail
    rw [Lib.run_to_unsafe w ⟨b, 1, none⟩ Tryz.underlying55 Tryz.underlying117 hj hj0 HN.out.shape (show 1 < 4 by decide)]
    simp only [Result.andThen]
    rw [Oper.upon_value]
    go_wp2_with fail
    rw [run_callFunc_extern Tryz.func87 (by kernel_rfl) (by kernel_rfl) (by kernel_rfl) (e := Extern.AbiNoEscape.same) (by kernel_rfl)]
    rw [Lib.run_noEscape]
    simp only [Result.andThen]
    rw [Oper.upon_value]
    go_wp2_with fail
    rw [Lib.run_from_unsafe w ⟨b, 1, none⟩ Tryz.underlying117 Tryz.underlying55 hj HN.out.shape liesBld]
    simp only [Result.andThen]
    rw [Oper.upon_value]
    go_wp2_with fail
    go_end0
    exact ⟨rfl, HN.out.set1, only_setCell (grown_refl _ _) rfl _⟩
  · clear h k0 k2 k3 k4 hjs
    go_enter Tryz.func58, Tryz.ntmps58
    go_wp2_with fail
    rw [Lib.run_neq_ptr_same w _ Tryz.underlying55 hj]
    go_wp2_with fail
    go_end0
    exact ⟨rfl, HN.out, grown_refl _ _⟩

/-- What a builder holds. -/
def Holds8 (w : World) (B : Nat) (bv : Value) (bt : List UInt8) : Prop := w.ownsRow B 5 1 bv bt.length (Lib.byteCells bt) ∧ (bt = [] → bv = .slice none 0 0)
theorem holds8_nil (w : World) (B : Nat) : Holds8 w B (.slice none 0 0) [] := ⟨World.ownsRow_nil _ _ _ _, fun _ => rfl⟩
def WSOut (w : World) (B b : Nat) (ov : Value) (g : Int) (bt : List UInt8) (e : Ending) (w' : World) : Prop :=
  (∃ n : Int, e = .returned (.tuple #[.int .i64 n, .nilIface])) ∧ (∃ bv, NBlk w' b ov (selfB b) bv g ∧ Holds8 w' B bv bt) ∧ Keep B [89, 5] w w'

set_option maxHeartbeats 2000000 in
set_option maxRecDepth 100000 in
theorem writeString_any (B b : Nat) (ov ad bv : Value) (g : Int) (bt : List UInt8) (s : ByteArray) (w : World) (h : NBlk w b ov ad bv g) (ha : Addrs b ad) (hB : B ≤ b) (hh : Holds8 w B bv bt) (hl : bt.length + s.size ≤ 140737488355328) :
    Calls Tryz.prog 30 #[selfB b, .string s] w (WSOut w B b ov g (bt ++ s.data.toList)) := by
  have HC := Lib.hid (copyCheck_any b ov ad bv g w h ha)
  have HN := Lib.hid h
  have HH := Lib.hid hh
  have HL := Lib.hid hl
  have HBw := Lib.hid (show B ≤ w.heap.size from Nat.le_trans hB (Nat.le_of_lt (lt_of_heap h)))
  obtain ⟨i0, hi, hz0, hz1, hz2⟩ := info_parts infoU8
  have Hi := Lib.hid (And.intro hi (And.intro hz0 (And.intro hz1 hz2)))
  clear h hh hl hi hz0 hz1 hz2
  go_enter Tryz.func30, Tryz.ntmps30
  go_wp2_with fail
  refine HC.out.mono ?_
  rintro e w1 ⟨rfl, h1, g1⟩
  obtain ⟨k0, k1, k2, k3, k4⟩ := h1.cells
  have H1 := Lib.hid h1
  have K1 : Keep B [89, 5] w w1 := keep_grown g1 HBw.out fun k hk => by
    cases hk
    exact ⟨hB, _, _, _, HN.out, by simp⟩
  have O1 : w1.ownsRow B 5 1 bv bt.length (Lib.byteCells bt) := HH.out.1.kept g1 (.inr (own_ne HH.out.1 HN.out (by decide)))
  have HK1 := Lib.hid K1
  have HO1 := Lib.hid O1
  have hs1 : B ≤ w1.heap.size := Nat.le_trans HBw.out g1.size
  clear h1 g1 K1 O1 k0 k1 k3 k4
  go_wp2_with (at_builtin; refine Lib.wpList_append_own_string _ rfl (.tmp 12) (.tmp 13) 56 9 rfl B 5 i0 Tryz.underlying56 Tryz.underlying9 Hi.out.1 Hi.out.2.1 Hi.out.2.2.1 Hi.out.2.2.2 bv bt.length (Lib.byteCells bt) rfl HO1.out s rfl (by have := HL.out; unfold maxLen; omega) HL.out hs1 ?_; intro v' w2 o2 g2 i2; obtain ⟨va, vc, rfl⟩ := own_slice o2; have I2 := Lib.hid i2; clear i2; have H2 : NBlk w2 b ov (selfB b) bv g := (g2.block b (lt_of_heap H1.out) (fun e => own_ne HO1.out H1.out (by decide) e.symm)).trans H1.out; have f2 : w2.frozen? ⟨b, 2, none⟩ = false := H2.cells.2.2.2.2 2; obtain ⟨q0, q1, q2, q3, q4⟩ := H2.cells; have HH2 := Lib.hid H2; have HO2 := Lib.hid o2; have HG2 := Lib.hid g2; clear H2 o2 g2 q0 q1 q3 q4 k2)
  go_ret2
  refine ⟨⟨_, rfl⟩, ⟨_, HH2.out.set2, ?_⟩, ?_⟩
  · have hk2 : Keep B [89] w2 (w2.setCell ⟨b, 2, none⟩ (.slice va (bt.length + s.size) vc)) := keep_set HH2.out (by simp) hB _ rfl _
    have := hk2.own HO2.out (by decide)
    refine ⟨?_, fun e => ?_⟩
    · rw [List.length_append, Lib.byteCells_append]
      exact this
    · obtain ⟨e1, e2⟩ := List.append_eq_nil_iff.1 e
      exact I2.out.2 ⟨HH.out.2 e1, by rw [size_data, e2]; rfl⟩
  · exact (HK1.out.trans (keep_row HO1.out HG2.out (by simp) hs1)).trans (keep_set HH2.out (by simp) hB _ rfl _)

theorem heap_freeze (w : World) (p : Addr) (n i : Nat) (h : i ≠ p.block) : (w.freeze p n).heap[i]? = w.heap[i]? := by
  unfold World.freeze
  split
  · rfl
  · simp only [Array.getElem?_modify]
    rw [if_neg (fun e => h e.symm)]
theorem keep_freeze {B g : Nat} {ts : List TypeId} {w : World} {cs : Array Value} {e : TypeId} {fr : Nat × Nat} (hb : w.heap[g]? = some (.cells cs e fr)) (he : e ∈ ts) (hB : B ≤ g) (n : Nat) : Keep B ts w (w.freeze ⟨g, 0, none⟩ n) :=
  ⟨Lib.below_freeze (Below.refl _ _) hB n, fun i cs' e' fr' hi he' => by
    rw [heap_freeze w _ n i (fun hh => by
      subst hh
      rw [hb] at hi
      simp only [Option.some.injEq, Obj.cells.injEq] at hi
      exact he' (hi.2.1 ▸ he))]
    exact hi⟩
theorem Keep.drew {B : Nat} {ts : List TypeId} {a w : World} (h : Keep B ts a w) : Keep B ts a w.drew := ⟨h.below.drew, h.kept⟩
theorem of_drewK {B : Nat} {ts : List TypeId} {a w : World} (h : Keep B ts a.drew w) : Keep B ts a w := ⟨⟨h.below.os, h.below.tape, h.below.output, h.below.size, h.below.block⟩, h.kept⟩
def StrOut (w : World) (B : Nat) (bt : List UInt8) (e : Ending) (w' : World) : Prop := e = .returned (.string ⟨bt.toArray⟩) ∧ Keep B [5] w w'

set_option maxHeartbeats 2000000 in
set_option maxRecDepth 100000 in
theorem builderString_any (B b : Nat) (ov ad bv : Value) (g : Int) (bt : List UInt8) (w : World) (h : NBlk w b ov ad bv g) (hh : Holds8 w B bv bt) :
    Calls Tryz.prog 34 #[selfB b] w (StrOut w B bt) := by
  obtain ⟨k0, k1, k2, k3, k4⟩ := h.cells
  by_cases h0 : bt = []
  · obtain rfl := hh.2 h0
    have e0 : (⟨bt.toArray⟩ : ByteArray) = ⟨#[]⟩ := by rw [h0]
    have HE := Lib.hid (show (⟨#[]⟩ : ByteArray) = ⟨bt.toArray⟩ from e0.symm)
    have hUS : ∀ q : Option Addr, (Builtin.unsafeString_ #[94, 3] 9 #[.pointer q, .int .i64 0]).run Tryz.prog w.drew = .ok (.string .empty) w.drew := fun q => Lib.run_unsafeString_none w.drew _ _ _ q
    have hSD : (Builtin.unsafeSliceData_ #[56] 94 #[.slice none 0 0]).run Tryz.prog w.drew = .ok (.pointer none) w.drew := rfl
    have c1 : w.drew.cell? ⟨b, 2, none⟩ = some (.slice none 0 0) := k2
    clear h hh e0 h0 k0 k1 k3 k4
    go_enter Tryz.func34, Tryz.ntmps34
    go_wp2_with fail
    go_region
    all_goals (go_wp2_with fail; go_ret; exact ⟨by rw [← HE.out]; rfl, (Keep.refl _ _ _).drew⟩)
  · have hl0 : bt.length ≠ 0 := by simpa using h0
    obtain ⟨gg, cap, cur, rfl, hbg, hg, hnc, hcm, hcs, htake⟩ : ∃ gg cap cur, bv = .slice (some ⟨gg, 0, none⟩) bt.length cap ∧ B ≤ gg ∧ w.heap[gg]? = some (.cells cur 5 (0, 0)) ∧ bt.length ≤ cap ∧ cap ≤ maxLen ∧ cur.size = cap * 1 ∧ cur.toList.take (bt.length * 1) = Lib.byteCells bt := by
      rcases hh.1.2 with ⟨_, hz⟩ | ⟨gg, cap, cur, hv, r⟩
      · exact absurd hz hl0
      · exact ⟨gg, cap, cur, hv, r⟩
    have c1 : w.drew.cell? ⟨b, 2, none⟩ = some (.slice (some ⟨gg, 0, none⟩) bt.length cap) := k2
    have hSD : (Builtin.unsafeSliceData_ #[56] 94 #[.slice (some ⟨gg, 0, none⟩) bt.length cap]).run Tryz.prog w.drew = .ok (.pointer (some ⟨gg, 0, none⟩)) w.drew :=
      Lib.run_unsafeSliceData_row _ _ _ _ _ _ (by omega)
    have hUS : (Builtin.unsafeString_ #[94, 3] 9 #[.pointer (some ⟨gg, 0, none⟩), .int .i64 bt.length]).run Tryz.prog w.drew = .ok (.string ⟨bt.toArray⟩) (w.drew.freeze ⟨gg, 0, none⟩ bt.length) := by
      refine Lib.run_unsafeString_row w.drew 94 3 9 5 Tryz.underlying94 (by kernel_rfl) gg cur.size (by have hg' : w.drew.heap[gg]? = some (.cells cur 5 (0, 0)) := hg; simp [World.shape?, hg']) bt h0 (by omega) (by unfold maxLen at hcm; omega) ?_
      intro j x hx
      exact hh.1.cells (g := gg) rfl j (.int .u8 x.toNat) (by simp [Lib.byteCells, hx])
    have HG := Lib.hid hg
    have HBG := Lib.hid hbg
    clear h hh h0 hl0 k0 k1 k3 k4 hg hnc hcm hcs htake hbg
    go_enter Tryz.func34, Tryz.ntmps34
    go_wp2_with fail
    go_region
    all_goals (go_wp2_with fail; go_ret; exact ⟨rfl, (Keep.refl _ _ _).drew.trans (keep_freeze (w := w.drew) HG.out (by simp) HBG.out _)⟩)

def ResetOut (w : World) (b : Nat) (ov : Value) (g : Int) (e : Ending) (w' : World) : Prop := e = .returned (.tuple #[]) ∧ NBlk w' b ov (.pointer none) (.slice none 0 0) g ∧ w.grownBy w' (some b)
set_option maxHeartbeats 1000000 in
set_option maxRecDepth 100000 in
theorem reset_any (b : Nat) (ov ad bv : Value) (g : Int) (w : World) (h : NBlk w b ov ad bv g) :
    Calls Tryz.prog 103 #[selfB b] w (ResetOut w b ov g) := by
  obtain ⟨k0, k1, k2, k3, k4⟩ := h.cells
  have f1 := k4 1
  have f2 := k4 2
  have HN := Lib.hid h
  have hlt := lt_of_heap h
  clear h k0 k3 k4
  go_enter Tryz.func103, Tryz.ntmps103
  go_wp2_with fail
  go_end0
  exact ⟨rfl, HN.out.set1.set2, only_setCell (p := ⟨b, 2, none⟩) (only_setCell (p := ⟨b, 1, none⟩) (grown_refl _ (some b)) rfl _) rfl _⟩
end Go.Proofs.YtacgkbdldbppjaaGreatDoor

/- strings.Clone: the same bytes, in new memory. -/
namespace Go.Proofs.YtacgkbdldbppjaaGreatDoor
open Go.RowKit

theorem clone_any (s : ByteArray) (w : World) (hs : s.size ≤ 281474976710656) :
    Calls Tryz.prog 116 #[.string s] w fun e w' => e = .returned (.string s) ∧ Below w.heap.size w w' := by
  go_enter Tryz.func116, Tryz.ntmps116
  go_wp2_with fail
  refine (Tryz.stringslite_Clone s _ hs).mono ?_
  rintro e w1 ⟨rfl, hb1⟩
  go_wp2_with fail
  go_ret
  exact ⟨rfl, hb1⟩
end Go.Proofs.YtacgkbdldbppjaaGreatDoor

/- The program's cloneAttrs: attributes in other memory. -/
namespace Go.Proofs.YtacgkbdldbppjaaGreatDoor
open Go.RowKit Ch

/-- Attributes as they come up anywhere below: few, and short. -/
def SmallA (l : List (ByteArray × ByteArray)) : Prop := l.length ≤ 1048576 ∧ ∀ x ∈ l, x.1.size ≤ 1048576 ∧ x.2.size ≤ 1048576
theorem SmallA.sized {l : List (ByteArray × ByteArray)} (h : SmallA l) : Sized l := fun x hx => by
  have := h.2 x hx
  unfold maxLen
  omega
theorem flat_take_succ {l : List (ByteArray × ByteArray)} {k : Nat} (h : k < l.length) : flat (l.take (k + 1)) = flat (l.take k) ++ [.string l[k].1, .string l[k].2] := by
  rw [List.take_succ_eq_append_getElem h, flat_snoc]
theorem take_len {α : Type} {l : List α} {k : Nat} (h : k ≤ l.length) : (l.take k).length = k := by rw [List.length_take]; omega

set_option maxRecDepth 100000 in
set_option maxHeartbeats 4000000 in
theorem cloneAttrs_any (v : Value) (l : List (ByteArray × ByteArray)) (w : World) (hv : AtRow w v l) (hz : SmallA l) : Calls Tryz.prog 102 #[v] w (MergeOut w l) := by
  obtain ⟨a, cap, rfl, h1, h2, h3⟩ := hv
  have hn : l.length ≤ 9223372036854775807 := Nat.le_trans h1 h2
  have H3 := Lib.hid h3
  have Hz := Lib.hid hz
  obtain ⟨i0, hi, hz0, hz1, hz2⟩ := info_parts infoAttr
  have Hi := Lib.hid (And.intro hi (And.intro hz0 (And.intro hz1 hz2)))
  clear h1 h2 h3 hz hi hz0 hz1 hz2
  go_enter Tryz.func102, Tryz.ntmps102
  go_wp2_with fail
  go_loopw [3, 8] (fun o i wr => ∃ n : Nat, i = .int .i64 (n : Int) ∧ n ≤ l.length ∧ wr.ownsRow w.heap.size 52 2 o n (flat (l.take n)) ∧ Below w.heap.size w wr) (fun _ i _ => l.length - (intOf i).toNat)
  case atStart => exact ⟨0, rfl, Nat.zero_le _, World.ownsRow_nil _ _ _ _, Below.refl _ _⟩
  case round =>
    obtain ⟨n, rfl, hk, hown, hb⟩ := hrel
    obtain ⟨oa, oc, rfl⟩ := own_slice hown
    have HO := Lib.hid hown
    have HB := Lib.hid hb
    by_cases hlt : n < l.length
    · have hlt' : (n : Int) < (l.length : Int) := by omega
      obtain ⟨b, off, rfl, hbl, x1', z1'⟩ := H3.out n hlt
      obtain ⟨s0, s1⟩ := Hz.out.2 _ (List.getElem_mem hlt)
      have hln := Hz.out.1
      have hf := flat_take_succ hlt
      have x1 : wr.cell? ⟨b, off + n * 2, none⟩ = some (.string l[n].1) := by rw [hb.cell (by exact hbl)]; exact x1'
      have z1 : wr.cell? ⟨b, off + n * 2 + 1, none⟩ = some (.string l[n].2) := by rw [hb.cell (by exact hbl)]; exact z1'
      obtain ⟨x, hx⟩ : ∃ x, x = l[n] := ⟨_, rfl⟩
      rw [← hx] at x1 z1 hf s0 s1
      have hs0 := hb.size
      obtain ⟨W, hW⟩ : ∃ W, W = wr.alloc (.cells #[.string x.1, .string x.2] 52) := ⟨_, rfl⟩
      have BW := Lib.hid (show Below wr.heap.size wr W by rw [hW]; exact below_box _ _)
      have c0 : W.cell? ⟨wr.heap.size, 0, none⟩ = some (.string x.1) := by rw [hW]; go_simp
      have c1 : W.cell? ⟨wr.heap.size, 1, none⟩ = some (.string x.2) := by rw [hW]; go_simp
      have hlW : wr.heap.size < W.heap.size := by rw [hW]; simp
      have HW := Lib.hid hW
      have HF := Lib.hid hf
      have HN := Lib.hid (And.intro s0 (And.intro s1 hln))
      have HNE := Lib.hid (show some wr.heap.size ≠ (Value.slice oa n oc).ownBlock from fun e => by have := (hown.lt _ e.symm).2; omega)
      clear hx hown hb x1' z1' hW hf s0 s1 hln
      go_wp2_with fail
      rw [← HW.out]
      go_region_held3 (fun w' => w'.cell? ⟨wr.heap.size, 0, none⟩ = some (.string x.1) ∧ w'.cell? ⟨wr.heap.size, 1, none⟩ = some (.string x.2))
        (first
          | exact ⟨c0, c1⟩
          | exact ⟨(BA.cell (by exact hlW)).trans c0, (BA.cell (by exact hlW)).trans c1⟩
          | exact ⟨(BB.cell (by exact hlW)).trans c0, (BB.cell (by exact hlW)).trans c1⟩
          | exact ⟨((BB.alloc BB.size _).cell (by exact hlW)).trans c0, ((BB.alloc BB.size _).cell (by exact hlW)).trans c1⟩
          | exact ⟨k0, k1⟩)
        (first
          | (go_at_call_of 116 (Value.string x.1); refine (clone_any _ _ (by have := HN.out.1; omega)).mono ?_; rintro e wA ⟨rfl, hbA⟩; have BA : Below W.heap.size W wA := of_drew hbA)
          | (go_at_call_of 116 (Value.string x.2); refine (clone_any _ _ (by have := HN.out.2.1; omega)).mono ?_; rintro e wB ⟨rfl, hbB⟩; have BB : Below W.heap.size W wB := BA.trans (hbB.mono BA.size); have OB := row_below (row_below HO.out BW.out) BB)
          | (refine step_append_own rfl (.tmp 12) (.tmp 20) 46 rfl 52 i0 (.agg #[.string ⟨#[]⟩, .string ⟨#[]⟩]) 2 32 Tryz.underlying46 Hi.out.1 Hi.out.2.1 Hi.out.2.2.1 Hi.out.2.2.2 rfl (by decide) w.heap.size _ n (flat (l.take n)) rfl (OB.alloc _) ⟨wB.heap.size, 0, none⟩ 1 1 [.string x.1, .string x.2] rfl rfl (new_at2 _ _ _ _) (fun u hu => by simp at hu; rcases hu with rfl | rfl <;> rfl) (by unfold maxLen; have := HN.out.2.2; omega) (by have := HN.out.2.2; omega) (by have := BB.size; have := BW.out.size; simp; omega) ?_; intro v' wC oC gC; have k0 : wC.cell? ⟨wr.heap.size, 0, none⟩ = some (.string x.1) := gC.cell (((BB.alloc BB.size _).cell (by exact hlW)).trans c0) HNE.out; have k1 : wC.cell? ⟨wr.heap.size, 1, none⟩ = some (.string x.2) := gC.cell (((BB.alloc BB.size _).cell (by exact hlW)).trans c1) HNE.out))
      have hl1 : (l.take (n + 1)).length = n + 1 := take_len (by omega)
      have B1 : Below w.heap.size w wC := ((HB.out.trans (BW.out.mono hs0)).trans ((BB.alloc BB.size _).mono (Nat.le_trans hs0 BW.out.size))).grown gC (by have := BB.size; have := BW.out.size; simp; omega) (fun k hk => (HO.out.lt k hk).1)
      rw [← HF.out] at oC
      have OC := Lib.hid oC
      have HB1 := Lib.hid B1
      clear B1 BA BB OB k0 k1 oC gC hbA hbB c0 c1 hl1 x1 z1
      go_wp2_with fail
      go_roundw
      case rel => exact ⟨n + 1, by go_num, by omega, OC.out, HB1.out⟩
      case measure => simp [intOf]; omega
    · have hkn : n = l.length := by omega
      subst hkn
      rw [List.take_length] at hown
      have HO := Lib.hid hown
      clear hown hb
      go_wp2_with fail
      go_ret
      exact ⟨_, rfl, HO.out, HB.out⟩
end Go.Proofs.YtacgkbdldbppjaaGreatDoor

/- Are two operations, two changesets the same: the program's alike and Same. -/
namespace Go.Proofs.YtacgkbdldbppjaaGreatDoor
open Go.RowKit Ch

instance : DecidableEq OpD := fun x y => decidable_of_iff (x.kind = y.kind ∧ x.n = y.n ∧ x.text = y.text ∧ x.attrs = y.attrs)
  ⟨fun ⟨h1, h2, h3, h4⟩ => by cases x; cases y; simp_all, fun h => by subst h; exact ⟨rfl, rfl, rfl, rfl⟩⟩
def alikeB (x y : OpD) : Bool := decide (x.kind = y.kind ∧ x.attrs = y.attrs)
def sameOp (x y : OpD) : Bool := decide (x = y)
def sameOps (l m : List OpD) : Bool := decide (l = m)
def sameCh (f g : Int) (l m : List OpD) : Bool := decide (f = g ∧ l = m)
theorem sameOps_len {l m : List OpD} (h : l.length ≠ m.length) : sameOps l m = false := decide_eq_false fun e => h (by rw [e])
theorem sameOps_at {l m : List OpD} {n : Nat} (h1 : n < l.length) (h2 : n < m.length) (h : l[n] ≠ m[n]) : sameOps l m = false := decide_eq_false fun e => by
  subst e; exact h rfl
theorem sameOps_all {l m : List OpD} (hl : l.length = m.length) (h : ∀ j (h1 : j < l.length) (h2 : j < m.length), l[j] = m[j]) : sameOps l m = true := decide_eq_true (List.ext_getElem hl h)
theorem alikeB_kind {x y : OpD} (h : x.kind ≠ y.kind) : alikeB x y = false := decide_eq_false fun e => h e.1
theorem alikeB_same {x y : OpD} (h : x.kind = y.kind) : alikeB x y = sameB x.attrs y.attrs := by
  unfold alikeB sameB
  by_cases ha : x.attrs = y.attrs
  · rw [decide_eq_true ha, decide_eq_true ⟨h, ha⟩]
  · rw [decide_eq_false ha, decide_eq_false fun e => ha e.2]

def OutB (w : World) (r : Bool) (e : Ending) (w' : World) : Prop := e = .returned (.bool r) ∧ Below w.heap.size w w'
theorem outB_mk {w w' : World} {r r' : Bool} (h : r = r') (hb : Below w.heap.size w w') : OutB w r (.returned (.bool r')) w' := ⟨by rw [h], hb⟩

set_option maxRecDepth 100000 in
set_option maxHeartbeats 2000000 in
theorem alike_any (x y : OpD) (xv yv : Value) (w : World) (hx : AtRow w xv x.attrs) (hy : AtRow w yv y.attrs) :
    Calls Tryz.prog 77 #[opAgg x xv, opAgg y yv] w (OutB w (alikeB x y)) := by
  have Hx := Lib.hid hx
  have Hy := Lib.hid hy
  obtain ⟨a, c, rfl⟩ := hx.shape
  obtain ⟨b, d, rfl⟩ := hy.shape
  obtain ⟨W, hW⟩ : ∃ W, W = (w.alloc (.cells #[.int .i64 x.kind, .int .i64 x.n, .string x.text, .slice a x.attrs.length c] 48)).alloc (.cells #[.int .i64 y.kind, .int .i64 y.n, .string y.text, .slice b y.attrs.length d] 48) := ⟨_, rfl⟩
  have BW := Lib.hid (show Below w.heap.size w W by rw [hW]; exact ((Below.refl _ _).alloc (Nat.le_refl _) _).alloc (by simp) _)
  have c0 : W.cell? ⟨w.heap.size, 0, none⟩ = some (.int .i64 x.kind) := by rw [hW]; go_simp
  have c3 : W.cell? ⟨w.heap.size, 3, none⟩ = some (.slice a x.attrs.length c) := by rw [hW]; go_simp
  have d0 : W.cell? ⟨w.heap.size + 1, 0, none⟩ = some (.int .i64 y.kind) := by rw [hW]; go_simp
  have d3 : W.cell? ⟨w.heap.size + 1, 3, none⟩ = some (.slice b y.attrs.length d) := by rw [hW]; go_simp
  have HW := Lib.hid hW
  clear hx hy hW
  by_cases hk : x.kind = y.kind
  · have k1 : (x.kind == y.kind) = true := by rw [beq_iff_eq]; exact hk
    have hR := Lib.hid (alikeB_same hk)
    clear hk
    go_enter Tryz.func77, Tryz.ntmps77
    go_wp2_with fail
    rw [← HW.out]
    go_wp2_with fail
    refine (same_any _ _ x.attrs y.attrs _ (Hx.out.below BW.out) (Hy.out.below BW.out)).mono ?_
    rintro e w1 ⟨rfl, k, rfl⟩
    go_wp2_with fail
    go_ret
    exact outB_mk hR.out (below_drewN BW.out _)
  · have k1 : (x.kind == y.kind) = false := by rw [beq_eq_false_iff_ne]; exact hk
    have hR := Lib.hid (alikeB_kind hk)
    clear hk
    go_enter Tryz.func77, Tryz.ntmps77
    go_wp2_with fail
    rw [← HW.out]
    go_wp2_with fail
    go_ret
    exact outB_mk hR.out (BW.out)

theorem beq_text {a b : ByteArray} : (a.toList == b.toList) = decide (a = b) := by
  by_cases h : a = b
  · rw [h]; simp
  · rw [decide_eq_false h, beq_eq_false_iff_ne]
    exact fun e => h (toList_ba e)

set_option maxRecDepth 100000 in
set_option maxHeartbeats 2000000 in
theorem same1_any (x y : OpD) (xv yv : Value) (w : World) (hx : AtRow w xv x.attrs) (hy : AtRow w yv y.attrs) :
    Calls Tryz.prog 76 #[opAgg x xv, opAgg y yv] w (OutB w (sameOp x y)) := by
  have Hx := Lib.hid hx
  have Hy := Lib.hid hy
  obtain ⟨a, c, rfl⟩ := hx.shape
  obtain ⟨b, d, rfl⟩ := hy.shape
  obtain ⟨W, hW⟩ : ∃ W, W = (w.alloc (.cells #[.int .i64 x.kind, .int .i64 x.n, .string x.text, .slice a x.attrs.length c] 48)).alloc (.cells #[.int .i64 y.kind, .int .i64 y.n, .string y.text, .slice b y.attrs.length d] 48) := ⟨_, rfl⟩
  have BW := Lib.hid (show Below w.heap.size w W by rw [hW]; exact ((Below.refl _ _).alloc (Nat.le_refl _) _).alloc (by simp) _)
  have c0 : W.cell? ⟨w.heap.size, 0, none⟩ = some (.int .i64 x.kind) := by rw [hW]; go_simp
  have c1 : W.cell? ⟨w.heap.size, 1, none⟩ = some (.int .i64 x.n) := by rw [hW]; go_simp
  have c2 : W.cell? ⟨w.heap.size, 2, none⟩ = some (.string x.text) := by rw [hW]; go_simp
  have c3 : W.cell? ⟨w.heap.size, 3, none⟩ = some (.slice a x.attrs.length c) := by rw [hW]; go_simp
  have d0 : W.cell? ⟨w.heap.size + 1, 0, none⟩ = some (.int .i64 y.kind) := by rw [hW]; go_simp
  have d1 : W.cell? ⟨w.heap.size + 1, 1, none⟩ = some (.int .i64 y.n) := by rw [hW]; go_simp
  have d2 : W.cell? ⟨w.heap.size + 1, 2, none⟩ = some (.string y.text) := by rw [hW]; go_simp
  have d3 : W.cell? ⟨w.heap.size + 1, 3, none⟩ = some (.slice b y.attrs.length d) := by rw [hW]; go_simp
  have hs : w.heap.size + 1 < W.heap.size := by rw [hW]; simp
  have hs' : w.heap.size < W.heap.size := by omega
  have HW := Lib.hid hW
  have HC := Lib.hid (alike_any x y _ _ W (hx.below BW.out) (hy.below BW.out))
  clear hx hy hW
  cases hal : alikeB x y with
  | false =>
    rw [hal] at HC
    have hR := Lib.hid (show sameOp x y = false from decide_eq_false fun e => by rw [e] at hal; simp [alikeB] at hal)
    clear hal
    go_enter Tryz.func76, Tryz.ntmps76
    go_wp2_with fail
    rw [← HW.out]
    go_wp2_with fail
    refine HC.out.mono ?_
    rintro e w1 ⟨rfl, hb⟩
    go_wp2_with fail
    go_ret
    exact outB_mk hR.out (BW.out.trans (hb.mono BW.out.size))
  | true =>
    rw [hal] at HC
    have hal2 := of_decide_eq_true hal
    by_cases hn : x.n = y.n
    · have n1 : (x.n == y.n) = true := by rw [beq_iff_eq]; exact hn
      by_cases ht : x.text = y.text
      · have t1 : (x.text.toList == y.text.toList) = true := by rw [ht]; simp
        have hR := Lib.hid (show sameOp x y = true from decide_eq_true (by cases x; cases y; simp_all))
        clear hal hal2 hn ht
        go_enter Tryz.func76, Tryz.ntmps76
        go_wp2_with fail
        rw [← HW.out]
        go_wp2_with fail
        refine HC.out.mono ?_
        rintro e w1 ⟨rfl, hb⟩
        have c1' := (hb.cell (p := ⟨w.heap.size, 1, none⟩) (by exact hs')).trans c1
        have c2' := (hb.cell (p := ⟨w.heap.size, 2, none⟩) (by exact hs')).trans c2
        have d1' := (hb.cell (p := ⟨w.heap.size + 1, 1, none⟩) (by exact hs)).trans d1
        have d2' := (hb.cell (p := ⟨w.heap.size + 1, 2, none⟩) (by exact hs)).trans d2
        have B1 := Lib.hid (BW.out.trans (hb.mono BW.out.size))
        clear hb
        go_wp2_with fail
        go_ret
        exact outB_mk hR.out (B1.out)
      · have t1 : (x.text.toList == y.text.toList) = false := by rw [beq_text]; exact decide_eq_false ht
        have hR := Lib.hid (show sameOp x y = false from decide_eq_false fun e => ht (by rw [e]))
        clear hal hal2 hn ht
        go_enter Tryz.func76, Tryz.ntmps76
        go_wp2_with fail
        rw [← HW.out]
        go_wp2_with fail
        refine HC.out.mono ?_
        rintro e w1 ⟨rfl, hb⟩
        have c1' := (hb.cell (p := ⟨w.heap.size, 1, none⟩) (by exact hs')).trans c1
        have c2' := (hb.cell (p := ⟨w.heap.size, 2, none⟩) (by exact hs')).trans c2
        have d1' := (hb.cell (p := ⟨w.heap.size + 1, 1, none⟩) (by exact hs)).trans d1
        have d2' := (hb.cell (p := ⟨w.heap.size + 1, 2, none⟩) (by exact hs)).trans d2
        have B1 := Lib.hid (BW.out.trans (hb.mono BW.out.size))
        clear hb
        go_wp2_with fail
        go_ret
        exact outB_mk hR.out (B1.out)
    · have n1 : (x.n == y.n) = false := by rw [beq_eq_false_iff_ne]; exact hn
      have hR := Lib.hid (show sameOp x y = false from decide_eq_false fun e => hn (by rw [e]))
      clear hal hal2 hn
      go_enter Tryz.func76, Tryz.ntmps76
      go_wp2_with fail
      rw [← HW.out]
      go_wp2_with fail
      refine HC.out.mono ?_
      rintro e w1 ⟨rfl, hb⟩
      have c1' := (hb.cell (p := ⟨w.heap.size, 1, none⟩) (by exact hs')).trans c1
      have d1' := (hb.cell (p := ⟨w.heap.size + 1, 1, none⟩) (by exact hs)).trans d1
      have B1 := Lib.hid (BW.out.trans (hb.mono BW.out.size))
      clear hb
      go_wp2_with fail
      go_ret
      exact outB_mk hR.out (B1.out)

set_option maxRecDepth 100000 in
set_option maxHeartbeats 4000000 in
theorem eqFunc_any (v u : Value) (l m : List OpD) (w : World) (hv : OpRow w v l) (hu : OpRow w u m) :
    Calls Tryz.prog 75 #[v, u, .func (.func 76) #[] #[]] w (OutB w (sameOps l m)) := by
  obtain ⟨a, cap, rfl, h1, h2, h3⟩ := hv
  obtain ⟨a', cap', rfl, h1', h2', h3'⟩ := hu
  have hn : l.length ≤ 9223372036854775807 := Nat.le_trans h1 h2
  have hn' : m.length ≤ 9223372036854775807 := Nat.le_trans h1' h2'
  have H3 := Lib.hid h3
  have H3' := Lib.hid h3'
  clear h1 h2 h3 h1' h2' h3'
  by_cases hlen : l.length = m.length
  · have Hlen := Lib.hid hlen
    have hle2 : ((l.length : Int) == (m.length : Int)) = true := by rw [hlen]; simp
    have hle3 : ((l.length : Int) != (m.length : Int)) = false := by rw [hlen]; simp
    clear hlen
    go_enter Tryz.func75, Tryz.ntmps75
    go_wp2_with fail
    go_loopw [17] (fun i wr => ∃ n : Nat, i = .int .i64 (n : Int) ∧ n ≤ l.length ∧ (∀ j (h1 : j < l.length) (h2 : j < m.length), j < n → l[j] = m[j]) ∧ Below w.heap.size w wr) (fun i _ => l.length - (intOf i).toNat)
    case atStart => exact ⟨0, rfl, by omega, fun j _ _ h => by omega, Below.refl _ _⟩
    case round =>
      obtain ⟨n, rfl, hk, hall, hb⟩ := hrel
      have Hall := Lib.hid hall
      have HB := Lib.hid hb
      clear hall
      by_cases hlt : n < l.length
      · have hlt2 : n < m.length := by have := Hlen.out; omega
        have hlt' : (n : Int) < (l.length : Int) := by omega
        have hlt2' : (n : Int) < (m.length : Int) := by omega
        obtain ⟨b, off, rfl, hbl, xv, r0, _, x0, x1, x2, x3⟩ := H3.out n hlt
        obtain ⟨b', off', rfl, hbl', yv, q0, _, y0, y1, y2, y3⟩ := H3'.out n hlt2
        have step : l[n] = m[n] → ∀ j (h1 : j < l.length) (h2 : j < m.length), j < n + 1 → l[j] = m[j] := fun hh j hj1 hj2 hjk => by
          by_cases e : j = n
          · subst e; exact hh
          · exact Hall.out j hj1 hj2 (by omega)
        have Step := Lib.hid step
        have Bad := Lib.hid (sameOps_at hlt hlt2)
        have hab : sameOp l[n] m[n] = decide (l[n] = m[n]) := rfl
        obtain ⟨x, hx⟩ : ∃ x, x = l[n] := ⟨_, rfl⟩
        obtain ⟨y, hy⟩ : ∃ y, y = m[n] := ⟨_, rfl⟩
        rw [← hx] at r0 x0 x1 x2 Step Bad hab
        rw [← hy] at q0 y0 y1 y2 Step Bad hab
        obtain ⟨ar, cr, rfl⟩ := r0.shape
        obtain ⟨at2, cs, rfl⟩ := q0.shape
        have x0' := (hb.cell (p := ⟨b, off + n * 4, none⟩) (by exact hbl)).trans x0
        have x1' := (hb.cell (p := ⟨b, off + n * 4 + 1, none⟩) (by exact hbl)).trans x1
        have x2' := (hb.cell (p := ⟨b, off + n * 4 + 2, none⟩) (by exact hbl)).trans x2
        have x3' := (hb.cell (p := ⟨b, off + n * 4 + 3, none⟩) (by exact hbl)).trans x3
        have y0' := (hb.cell (p := ⟨b', off' + n * 4, none⟩) (by exact hbl')).trans y0
        have y1' := (hb.cell (p := ⟨b', off' + n * 4 + 1, none⟩) (by exact hbl')).trans y1
        have y2' := (hb.cell (p := ⟨b', off' + n * 4 + 2, none⟩) (by exact hbl')).trans y2
        have y3' := (hb.cell (p := ⟨b', off' + n * 4 + 3, none⟩) (by exact hbl')).trans y3
        have g1 := Nat.lt_of_lt_of_le hbl' hb.size
        have hs0 := hb.size
        obtain ⟨X, hX⟩ : ∃ X, X = (wr.alloc (.cells #[.int .i64 x.kind, .int .i64 x.n, .string x.text, .slice ar x.attrs.length cr] 48)).alloc (.cells #[.int .i64 y.kind, .int .i64 y.n, .string y.text, .slice at2 y.attrs.length cs] 48) := ⟨_, rfl⟩
        have BX := Lib.hid (show Below w.heap.size w X by rw [hX]; exact (hb.alloc hs0 _).alloc (by simp; omega) _)
        have e0 : X.cell? ⟨wr.heap.size, 0, none⟩ = some (.int .i64 x.kind) := by rw [hX]; go_simp
        have e1 : X.cell? ⟨wr.heap.size, 1, none⟩ = some (.int .i64 x.n) := by rw [hX]; go_simp
        have e2 : X.cell? ⟨wr.heap.size, 2, none⟩ = some (.string x.text) := by rw [hX]; go_simp
        have e3 : X.cell? ⟨wr.heap.size, 3, none⟩ = some (.slice ar x.attrs.length cr) := by rw [hX]; go_simp
        have f0 : X.cell? ⟨wr.heap.size + 1, 0, none⟩ = some (.int .i64 y.kind) := by rw [hX]; go_simp
        have f1 : X.cell? ⟨wr.heap.size + 1, 1, none⟩ = some (.int .i64 y.n) := by rw [hX]; go_simp
        have f2 : X.cell? ⟨wr.heap.size + 1, 2, none⟩ = some (.string y.text) := by rw [hX]; go_simp
        have f3 : X.cell? ⟨wr.heap.size + 1, 3, none⟩ = some (.slice at2 y.attrs.length cs) := by rw [hX]; go_simp
        have HX := Lib.hid hX
        have HC := Lib.hid (same1_any x y _ _ X (r0.below BX.out) (q0.below BX.out))
        clear hx hy r0 q0 x0 x1 x2 x3 y0 y1 y2 y3 hb hX step Hall
        by_cases hxy : x = y
        · rw [decide_eq_true hxy] at hab
          rw [hab] at HC
          have S := Lib.hid (Step.out hxy)
          clear hab hxy Step Bad
          go_wp2_with fail
          rw [← HX.out]
          go_wp2_with fail
          refine HC.out.mono ?_
          rintro e w2 ⟨rfl, b2⟩
          have B2 := Lib.hid (BX.out.trans (b2.mono BX.out.size))
          clear b2
          go_wp2_with fail
          go_roundw
          case rel => exact ⟨n + 1, by go_num, by omega, S.out, B2.out⟩
          case measure => simp [intOf]; omega
        · rw [decide_eq_false hxy] at hab
          rw [hab] at HC
          have S := Lib.hid (Bad.out hxy)
          clear hab hxy Step Bad
          go_wp2_with fail
          rw [← HX.out]
          go_wp2_with fail
          refine HC.out.mono ?_
          rintro e w2 ⟨rfl, b2⟩
          have B2 := Lib.hid (BX.out.trans (b2.mono BX.out.size))
          clear b2
          go_wp2_with fail
          go_ret
          exact outB_mk S.out (B2.out)
      · have hkn : n = l.length := by omega
        have hs := Lib.hid (sameOps_all Hlen.out fun j h1 h2 => Hall.out j h1 h2 (by omega))
        subst hkn
        clear Hall hb
        go_wp2_with fail
        go_ret
        exact outB_mk hs.out (HB.out)
  · have hs := Lib.hid (sameOps_len hlen)
    have hle2 : ((l.length : Int) == (m.length : Int)) = false := by rw [beq_eq_false_iff_ne]; omega
    have hle3 : ((l.length : Int) != (m.length : Int)) = true := by rw [bne_iff_ne]; omega
    clear hlen
    go_enter Tryz.func75, Tryz.ntmps75
    go_wp2_with fail
    go_ret
    exact outB_mk hs.out (Below.refl _ _)

set_option maxRecDepth 100000 in
set_option maxHeartbeats 2000000 in
theorem changeSame_any (f g : Int) (v u : Value) (l m : List OpD) (w : World) (hv : OpRow w v l) (hu : OpRow w u m) :
    Calls Tryz.prog 47 #[chAgg f v, chAgg g u] w (OutB w (sameCh f g l m)) := by
  have Hv := Lib.hid hv
  have Hu := Lib.hid hu
  obtain ⟨a, c, rfl⟩ := hv.shape
  obtain ⟨b, d, rfl⟩ := hu.shape
  obtain ⟨W, hW⟩ : ∃ W, W = (w.alloc (.cells #[.int .i64 f, .slice a l.length c] 24)).alloc (.cells #[.int .i64 g, .slice b m.length d] 24) := ⟨_, rfl⟩
  have BW := Lib.hid (show Below w.heap.size w W by rw [hW]; exact ((Below.refl _ _).alloc (Nat.le_refl _) _).alloc (by simp) _)
  have c0 : W.cell? ⟨w.heap.size, 0, none⟩ = some (.int .i64 f) := by rw [hW]; go_simp
  have c1 : W.cell? ⟨w.heap.size, 1, none⟩ = some (.slice a l.length c) := by rw [hW]; go_simp
  have d0 : W.cell? ⟨w.heap.size + 1, 0, none⟩ = some (.int .i64 g) := by rw [hW]; go_simp
  have d1 : W.cell? ⟨w.heap.size + 1, 1, none⟩ = some (.slice b m.length d) := by rw [hW]; go_simp
  have HW := Lib.hid hW
  have HC := Lib.hid (eqFunc_any _ _ l m W (hv.below BW.out) (hu.below BW.out))
  clear hv hu hW
  by_cases hf : f = g
  · have k1 : (f == g) = true := by rw [beq_iff_eq]; exact hf
    have hR := Lib.hid (show sameCh f g l m = sameOps l m by unfold sameCh sameOps; simp [hf])
    clear hf
    go_enter Tryz.func47, Tryz.ntmps47
    go_wp2_with fail
    rw [← HW.out]
    go_wp2_with fail
    refine HC.out.mono ?_
    rintro e w1 ⟨rfl, hb⟩
    go_wp2_with fail
    go_ret
    exact outB_mk hR.out (BW.out.trans (hb.mono BW.out.size))
  · have k1 : (f == g) = false := by rw [beq_eq_false_iff_ne]; exact hf
    have hR := Lib.hid (show sameCh f g l m = false from decide_eq_false fun e => hf e.1)
    clear hf
    go_enter Tryz.func47, Tryz.ntmps47
    go_wp2_with fail
    rw [← HW.out]
    go_wp2_with fail
    go_ret
    exact outB_mk hR.out (BW.out)
end Go.Proofs.YtacgkbdldbppjaaGreatDoor

/- The program's normal on the way, in memory; its finish. -/
namespace Go.Proofs.YtacgkbdldbppjaaGreatDoor
open Go.RowKit Ch

theorem run_append_new {P : Program} (w : World) (base : Nat) (t ty e : TypeId) (i : TypeInfo) (z : Value) (size bytes : Nat) (ht : P.underlying t = some (.slice e)) (hi : P.info? e = some i) (hz : i.zero = some z)
    (hsize : i.size = size) (hby : i.bytes = bytes) (hzs : z.cells.size = size) (hsz : 0 < size)
    (v : Value) (n : Nat) (xs : List Value) (hown : w.ownsRow base e size v n xs)
    (a : Addr) (m c : Nat) (news : List Value) (hl : news.length = m * size) (hnews : ∀ j u, news[j]? = some u → w.cell? (a.add j) = some u) (h1 : ∀ u ∈ news, u.oneCell' = true)
    (h63 : n + m ≤ maxLen) (hbytes : (n + m) * bytes ≤ 140737488355328) (hbase : base ≤ w.heap.size) :
    ∃ v' w', (Builtin.append_ #[t, t] ty #[v, .slice (some a) m c]).run P w = .ok v' w' ∧ w'.ownsRow base e size v' (n + m) (xs ++ news) ∧ w.grownBy w' v.ownBlock ∧
      ∀ j, j < w.heap.size → v.ownBlock ≠ some j → v'.ownBlock ≠ some j := by
  obtain ⟨v', w', hrun, h2, h3, _⟩ := run_append_own (P := P) w base t ty e i z size bytes ht hi hz hsize hby hzs hsz v n xs hown a m c news hl hnews h1 h63 hbytes hbase
  refine ⟨v', w', hrun, h2, h3, fun j hj hne => ?_⟩
  rcases hown.2 with ⟨rfl, rfl⟩ | ⟨g, cap, cur, rfl, hb, hg, hn, hm, hc, ht2⟩
  · have hx : xs = [] := List.length_eq_zero_iff.1 (by rw [hown.1]; simp)
    subst hx
    obtain ⟨v2, w2, hrun2, k2, k3, _⟩ := run_append_own (P := P) w w.heap.size t ty e i z size bytes ht hi hz hsize hby hzs hsz (.slice none 0 0) 0 [] (World.ownsRow_nil w _ e size) a m c news hl hnews h1 h63 hbytes (Nat.le_refl _)
    rw [hrun] at hrun2
    simp only [Result.ok.injEq] at hrun2
    obtain ⟨rfl, rfl⟩ := hrun2
    intro hv
    have := (k2.lt j hv).1
    omega
  · by_cases hroom : n + m ≤ cap
    · have hrr := run_append_room_cells (P := P) w t ty e i ht hi g 0 n cap a m c news (by rw [hsize]; exact hl) hnews h1 hroom
        (fun k hk => by
          have hk2 : n * i.size + k < cur.size := by
            rw [hc, hsize]
            have : n * size + m * size ≤ cap * size := by rw [← Nat.add_mul]; exact Nat.mul_le_mul_right _ hroom
            omega
          simp [World.cell?, hg, Array.getElem?_eq_getElem hk2])
        (fun k hk => by simp [World.frozen?, hg])
      rw [hrun] at hrr
      simp only [Result.ok.injEq] at hrr
      obtain ⟨rfl, _⟩ := hrr
      exact hne
    · obtain ⟨v2, w2, hrun2, k2, k3⟩ := run_append_arg_grows (P := P) w t ty e i z size bytes ht hi hz hsize hby hzs hsz ⟨g, 0, none⟩ n cap xs hown.1 (hown.cells (g := g) rfl) a m c news hl hnews (by omega) h63 hbytes
      rw [hrun] at hrun2
      simp only [Result.ok.injEq] at hrun2
      obtain ⟨rfl, rfl⟩ := hrun2
      intro hv
      have := (k2.lt j hv).1
      omega
/-- .. as a step of a region that draws. -/
theorem step_append_new {P : Program} {ops : Array Oper} {o : Oper} {a : Act} {w : World} {K : Act → World → Prop} {Q : Exit → Act → World → Prop} {E : Prop}
    (hg : o.guard = none) (s x : Operand) (t : TypeId) (hop : o.op = Op.call { callee := Callee.builtin Builtin.append, args := #[s, x], argTypes := #[t, t] })
    (e : TypeId) (i : TypeInfo) (z : Value) (size bytes : Nat) (h1 : P.underlying t = some (.slice e)) (h2 : P.info? e = some i) (h3 : i.zero = some z) (h4 : i.size = size) (h5 : i.bytes = bytes) (h6 : z.cells.size = size) (h7 : 0 < size)
    (base : Nat) (v : Value) (n : Nat) (xs : List Value) (hs : a.eval s = v) (hown : w.ownsRow base e size v n xs)
    (ad : Addr) (m c : Nat) (news : List Value) (hx : a.eval x = .slice (some ad) m c) (hn : news.length = m * size) (hc : ∀ j u, news[j]? = some u → w.cell? (ad.add j) = some u) (h1c : ∀ u ∈ news, u.oneCell' = true)
    (b1 : n + m ≤ maxLen) (b2 : (n + m) * bytes ≤ 140737488355328) (hbase : base ≤ w.heap.size)
    (hK : ∀ v' w', w'.ownsRow base e size v' (n + m) (xs ++ news) → w.grownBy w' v.ownBlock → (∀ j, j < w.heap.size → v.ownBlock ≠ some j → v'.ownBlock ≠ some j) → K (a.put o.dst v') w') :
    if Region.wanted o (yielded ops a.tmps) = true then Oper.wp P o a w K Q else E := by
  have hw : Region.wanted o (yielded ops a.tmps) = true := by simp [Region.wanted, hg]
  rw [if_pos hw]
  obtain ⟨v', w', hrun, r1, r2, r3⟩ := run_append_new (P := P) w base t o.type e i z size bytes h1 h2 h3 h4 h5 h6 h7 v n xs hown ad m c news hn hc h1c b1 b2 hbase
  unfold Oper.wp
  simp [execOp, hop, resolve, invoke, builtin, hs, hx, hrun, Result.andThen]
  exact hK v' w' r1 r2 r3

/-- .. and of a list. -/
theorem wpList_append_new {P : Program} {ops : Array Oper} {rest : List Oper} {o : Oper} {a : Act} {w : World} {Q : Exit → Act → World → Prop}
    (hgd : o.guard = none) (s x : Operand) (t : TypeId) (hop : o.op = Op.call { callee := Callee.builtin Builtin.append, args := #[s, x], argTypes := #[t, t] })
    (e : TypeId) (i : TypeInfo) (z : Value) (size bytes : Nat) (h1 : P.underlying t = some (.slice e)) (h2 : P.info? e = some i) (h3 : i.zero = some z) (h4 : i.size = size) (h5 : i.bytes = bytes) (h6 : z.cells.size = size) (h7 : 0 < size)
    (base : Nat) (v : Value) (n : Nat) (xs : List Value) (hs : a.eval s = v) (hown : w.ownsRow base e size v n xs)
    (ad : Addr) (m c : Nat) (news : List Value) (hx : a.eval x = .slice (some ad) m c) (hn : news.length = m * size) (hc : ∀ j u, news[j]? = some u → w.cell? (ad.add j) = some u) (h1c : ∀ u ∈ news, u.oneCell' = true)
    (b1 : n + m ≤ maxLen) (b2 : (n + m) * bytes ≤ 140737488355328) (hbase : base ≤ w.heap.size)
    (h : ∀ v' w', w'.ownsRow base e size v' (n + m) (xs ++ news) → w.grownBy w' v.ownBlock → (∀ j, j < w.heap.size → v.ownBlock ≠ some j → v'.ownBlock ≠ some j) → wpList P ops Q rest (a.put o.dst v') w') : wpList P ops Q (o :: rest) a w := by
  refine wpList_plain hgd fun K hK => ?_
  obtain ⟨v', w', hr, r1, r2, r3⟩ := run_append_new (P := P) w base t o.type e i z size bytes h1 h2 h3 h4 h5 h6 h7 v n xs hown ad m c news hn hc h1c b1 b2 hbase
  unfold Oper.wp execOp
  simp only [hop, resolve, invoke, builtin, Sem.run_bind, Sem.run_pure, Result.andThen_ok, List.map_toArray, List.map_cons, List.map_nil, hs, hx, hr]
  exact hK _ _ (h v' w' r1 r2 r3)

/-- The types of the blocks that normal's methods write into. -/
abbrev TS : List TypeId := [48, 89, 5]
/-- What a method keeps: all but blocks of those types; and of rows of operations all but the one that it is given. -/
structure KeepO (B : Nat) (w w' : World) (ov ov' : Value) : Prop where
  keep : Keep B TS w w'
  ops : ∀ (i : Nat) (cs : Array Value) (fr : Nat × Nat), w.heap[i]? = some (Obj.cells cs 48 fr) → ov.ownBlock ≠ some i → w'.heap[i]? = some (Obj.cells cs 48 fr) ∧ ov'.ownBlock ≠ some i
theorem KeepO.trans {B : Nat} {a b c : World} {u v x : Value} (h : KeepO B a b u v) (k : KeepO B b c v x) : KeepO B a c u x :=
  ⟨h.keep.trans k.keep, fun i cs fr hi hne => k.ops i cs fr (h.ops i cs fr hi hne).1 (h.ops i cs fr hi hne).2⟩
theorem keepO_of {B : Nat} {ts : List TypeId} {w w' : World} (h : Keep B ts w w') (hs : ∀ t, t ∈ ts → t ∈ TS) (ho : 48 ∉ ts) (v : Value) : KeepO B w w' v v :=
  ⟨h.more hs, fun i cs fr hi hne => ⟨h.kept i cs _ fr hi ho, hne⟩⟩
theorem keepO_below {B : Nat} {w w' : World} (h : Below w.heap.size w w') (hB : B ≤ w.heap.size) (v : Value) : KeepO B w w' v v :=
  keepO_of (ts := []) (keep_below h hB) (fun t ht => by cases ht) (by simp) v
theorem keepO_grown {B n : Nat} {w w' : World} {v v' : Value} {xs : List Value} (h : w.ownsRow B 48 4 v n xs) (hg : w.grownBy w' v.ownBlock) (hB : B ≤ w.heap.size) (hn : ∀ j, j < w.heap.size → v.ownBlock ≠ some j → v'.ownBlock ≠ some j) : KeepO B w w' v v' :=
  ⟨keep_row h hg (by simp) hB, fun i cs fr hi hne => ⟨(hg.block i (lt_of_heap hi) (fun e => hne e.symm)).trans hi, hn i (lt_of_heap hi) hne⟩⟩
theorem KeepO.base {B C : Nat} {w w' : World} {u v : Value} (h : KeepO B w w' u v) (hc : C ≤ B) : KeepO C w w' u v := ⟨h.keep.mono hc, h.ops⟩

def noText (o : OpD) : OpD := { o with text := ⟨#[]⟩ }
theorem noText_attrs (o : OpD) : (noText o).attrs = o.attrs := rfl
/-- On the way: the last operation's text lies in the builder. -/
def NSt (w : World) (B b : Nat) (ov : Value) (l : List OpD) (g : Int) : Prop :=
  ∃ (ps : List (OpD × Value)) (ad bv : Value) (bt : List UInt8), NBlk w b ov ad bv g ∧ Addrs b ad ∧ OwnP w B ov ps ∧ Holds8 w B bv bt ∧
    ((l = [] ∧ ps = [] ∧ bt = []) ∨ ∃ x r fr xv, l = x :: r ∧ ps = fr ++ [(noText x, xv)] ∧ fr.map (·.1) = r.reverse ∧ bt = x.text.data.toList)
/-- The last one has its text. -/
def FSt (w : World) (B b : Nat) (ov : Value) (l : List OpD) (g : Int) : Prop :=
  ∃ (ps : List (OpD × Value)) (ad bv : Value), NBlk w b ov ad bv g ∧ Addrs b ad ∧ OwnP w B ov ps ∧ Holds8 w B bv [] ∧ ps.map (·.1) = l.reverse
theorem NSt.lt {w : World} {B b : Nat} {ov : Value} {l : List OpD} {g : Int} (h : NSt w B b ov l g) : b < w.heap.size := by
  obtain ⟨_, _, _, _, h, _⟩ := h
  exact lt_of_heap h

/-- The last operation of a row of one's own. -/
theorem last_cells {w : World} {B gg cap : Nat} {fr : List (OpD × Value)} {p : OpD × Value} (h : w.ownsRow B 48 4 (.slice (some ⟨gg, 0, none⟩) (fr.length + 1) cap) (fr.length + 1) (flatO (fr ++ [p]))) :
    w.cell? ⟨gg, fr.length * 4, none⟩ = some (.int .i64 p.1.kind) ∧ w.cell? ⟨gg, fr.length * 4 + 1, none⟩ = some (.int .i64 p.1.n) ∧ w.cell? ⟨gg, fr.length * 4 + 2, none⟩ = some (.string p.1.text) ∧ w.cell? ⟨gg, fr.length * 4 + 3, none⟩ = some p.2 := by
  have e : ∀ j, j < 4 → w.cell? ⟨gg, fr.length * 4 + j, none⟩ = (opCells p)[j]? := fun j hj => by
    rw [h.cellAt _ (by omega), flatO_snoc, List.getElem?_append_right (by rw [flatO_len]; omega), flatO_len]
    congr 1
    omega
  exact ⟨e 0 (by omega), e 1 (by omega), e 2 (by omega), e 3 (by omega)⟩
theorem last_set {w : World} {B gg cap : Nat} {fr : List (OpD × Value)} {p q : OpD × Value} (h : w.ownsRow B 48 4 (.slice (some ⟨gg, 0, none⟩) (fr.length + 1) cap) (fr.length + 1) (flatO (fr ++ [p]))) (j : Nat) (u : Value) (hq : (opCells p).set j u = opCells q) :
    (w.setCell ⟨gg, fr.length * 4 + j, none⟩ u).ownsRow B 48 4 (.slice (some ⟨gg, 0, none⟩) (fr.length + 1) cap) (fr.length + 1) (flatO (fr ++ [q])) := by
  have := (h.stored (fr.length * 4 + j) u).1
  have e : (flatO (fr ++ [p])).set (fr.length * 4 + j) u = flatO (fr ++ [q]) := by
    rw [flatO_snoc, flatO_snoc, List.set_append_right _ _ (by rw [flatO_len]; omega), flatO_len, ← hq]
    congr 2
    omega
  rw [e] at this
  exact this
theorem OwnP.len {w : World} {B : Nat} {v : Value} {fr : List (OpD × Value)} {p : OpD × Value} (h : OwnP w B v (fr ++ [p])) : w.ownsRow B 48 4 v (fr.length + 1) (flatO (fr ++ [p])) := by
  have := h.1
  rwa [List.length_append, List.length_singleton] at this
theorem ownP_mk {w : World} {B : Nat} {v : Value} {fr : List (OpD × Value)} {p : OpD × Value} (h : w.ownsRow B 48 4 v (fr.length + 1) (flatO (fr ++ [p]))) (ha : ∀ q ∈ fr, w.ownsRow B 52 2 q.2 q.1.attrs.length (flat q.1.attrs)) (hp : w.ownsRow B 52 2 p.2 p.1.attrs.length (flat p.1.attrs)) : OwnP w B v (fr ++ [p]) := by
  refine ⟨by rw [List.length_append, List.length_singleton]; exact h, fun q hq => ?_⟩
  rcases List.mem_append.1 hq with hq | hq
  · exact ha q hq
  · rw [List.mem_singleton.1 hq]; exact hp
theorem own_heap {w : World} {B k gg n m cap : Nat} {e : TypeId} {xs : List Value} (h : w.ownsRow B e k (.slice (some ⟨gg, 0, none⟩) n cap) m xs) : B ≤ gg ∧ ∃ cs, w.heap[gg]? = some (.cells cs e (0, 0)) := by
  rcases h.2 with ⟨h', _⟩ | ⟨g', cap', cur, h', hb, hg, _⟩
  · simp at h'
  · simp only [Value.slice.injEq, Option.some.injEq, Addr.mk.injEq, and_true] at h'
    obtain ⟨rfl, _, _⟩ := h'
    exact ⟨hb, cur, hg⟩
/-- One field of the last operation, written. -/
theorem OwnP.setLast {w : World} {B gg cap : Nat} {fr : List (OpD × Value)} {x y : OpD} {xv : Value} (h : OwnP w B (.slice (some ⟨gg, 0, none⟩) (fr.length + 1) cap) (fr ++ [(x, xv)])) (j : Nat) (u : Value) (hq : (opCells (x, xv)).set j u = opCells (y, xv)) (ha : y.attrs = x.attrs) :
    OwnP (w.setCell ⟨gg, fr.length * 4 + j, none⟩ u) B (.slice (some ⟨gg, 0, none⟩) (fr.length + 1) cap) (fr ++ [(y, xv)]) ∧ KeepO B w (w.setCell ⟨gg, fr.length * 4 + j, none⟩ u) (.slice (some ⟨gg, 0, none⟩) (fr.length + 1) cap) (.slice (some ⟨gg, 0, none⟩) (fr.length + 1) cap) := by
  obtain ⟨hB, cs, hg⟩ := own_heap h.len
  have hk : Keep B [48] w (w.setCell ⟨gg, fr.length * 4 + j, none⟩ u) := keep_set hg (by simp) hB _ rfl u
  refine ⟨ownP_mk (last_set h.len j u hq) (fun q hq => hk.own (h.2 q (List.mem_append_left _ hq)) (by decide)) ?_, hk.more (by simp), fun i cs' fr' hi hne => ⟨?_, hne⟩⟩
  · have := hk.own (h.2 (x, xv) (by simp)) (by decide)
    show World.ownsRow _ _ _ _ xv y.attrs.length (flat y.attrs)
    rw [ha]
    exact this
  · rw [Below.heap_setCell _ _ _ _ (fun e => hne (by rw [e]; rfl))]
    exact hi
theorem set_other {w : World} {p q : Addr} {u v : Value} (h : p.block ≠ q.block) (hc : w.cell? q = some v) : (w.setCell p u).cell? q = some v :=
  (World.cell?_of_block (Below.heap_setCell w p u q.block fun e => h e.symm)).trans hc
def FinOut (w : World) (B b : Nat) (ov : Value) (l : List OpD) (g : Int) (e : Ending) (w' : World) : Prop := e = .returned (.tuple #[]) ∧ FSt w' B b ov l g ∧ KeepO B w w' ov ov

set_option maxHeartbeats 4000000 in
set_option maxRecDepth 100000 in
theorem finish_any (B b : Nat) (ov : Value) (l : List OpD) (g : Int) (w : World) (h : NSt w B b ov l g) (hB : B ≤ b) (hl : l.length ≤ 4096) :
    Calls Tryz.prog 86 #[.pointer (some ⟨b, 0, none⟩)] w (FinOut w B b ov l g) := by
  have hBw : B ≤ w.heap.size := Nat.le_trans hB (Nat.le_of_lt h.lt)
  obtain ⟨ps, ad, bv, bt, hN, hA, hP, hH, hcase⟩ := h
  obtain ⟨k0, k1, k2, k3, k4⟩ := hN.cells
  rcases hcase with ⟨rfl, rfl, rfl⟩ | ⟨x, r, fr, xv, rfl, rfl, hfr, rfl⟩
  · obtain ⟨a, c, rfl⟩ := own_slice hP.1
    have HF := Lib.hid (show FSt w B b (.slice a ([] : List (OpD × Value)).length c) [] g from ⟨[], ad, bv, hN, hA, hP, hH, rfl⟩)
    clear hN hP hH hA k1 k2 k3 k4
    go_enter Tryz.func86, Tryz.ntmps86
    go_wp2_with fail
    go_end0
    exact ⟨rfl, HF.out, keepO_below (Below.refl _ _) hBw _⟩
  · obtain ⟨gg, cap, hov⟩ := ownsRow_open hP.len (Nat.succ_pos _)
    subst hov
    have hm : fr.length ≤ 4096 := by
      have := congrArg List.length hfr
      simp at this hl
      omega
    obtain ⟨q0, q1, q2, q3⟩ := last_cells hP.len
    have f2 : w.frozen? ⟨gg, fr.length * 4 + 2, none⟩ = false := hP.len.frozenAt _
    have HN := Lib.hid hN
    have HP := Lib.hid hP
    have HH := Lib.hid hH
    have HFR := Lib.hid hfr
    clear hN hP hH hA k1 k2 k3 k4 q0 q1 q3 hfr hl
    have hneq : gg ≠ b := by
      obtain ⟨_, cs, hcs⟩ := own_heap HP.out.len
      exact block_ne hcs HN.out (by decide)
    have HNE := Lib.hid hneq
    have i1 : (0 : Int) ≤ (fr.length : Int) := by omega
    have i2 : (fr.length : Int) < (fr.length : Int) + 1 := by omega
    clear hneq
    go_enter Tryz.func86, Tryz.ntmps86
    go_wp2_with fail
    go_region_held3 (fun w' => w'.cell? ⟨b, 0, none⟩ = some (.slice (some ⟨gg, 0, none⟩) (fr.length + 1) cap))
      (first
        | exact k0
        | exact kA
        | exact set_other HNE.out kA)
      (first
        | (go_at_call 34; refine (builderString_any B b _ ad bv g x.text.data.toList _ (by exact HN.out) (by exact HH.out)).mono ?_; rintro e wA ⟨rfl, KA⟩; have NA := NBlk.keep (w := w.drew) HN.out KA (by decide); have kA := NA.cells.1; have PA := OwnP.keep (w := w.drew) HP.out KA (by decide) (by decide); have qA := (last_cells PA.len).2.2.1; have fA : wA.frozen? ⟨gg, fr.length * 4 + 2, none⟩ = false := PA.len.frozenAt _))
    obtain ⟨P2, K2⟩ := OwnP.setLast (y := x) PA 2 (.string ⟨x.text.data⟩) rfl rfl
    have N2 := NBlk.keep (w := wA) NA (keep_set (B := B) (ts := [48]) (own_heap PA.len).2.choose_spec (by simp) (own_heap PA.len).1 ⟨gg, fr.length * 4 + 2, none⟩ rfl (.string ⟨x.text.data⟩)) (by decide)
    have KK := Lib.hid ((keepO_of (B := B) (of_drewK KA) (by simp) (by decide) (.slice (some ⟨gg, 0, none⟩) (fr.length + 1) cap)).trans K2)
    have HP2 := Lib.hid P2
    have HN2 := Lib.hid N2
    clear P2 K2 N2 PA NA KA kA qA fA
    go_wp2_with fail
    refine (reset_any b _ ad bv g _ HN2.out).mono ?_
    rintro e w3 ⟨rfl, N3, g3⟩
    have K3 : Keep B [89] _ w3 := keep_grown g3 (by have := KK.out.keep.below.size; omega) fun k hk => by
      cases hk
      exact ⟨hB, _, _, _, HN2.out, by simp⟩
    have F3 : FSt w3 B b (.slice (some ⟨gg, 0, none⟩) (fr.length + 1) cap) (x :: r) g := ⟨_, _, _, N3, .inl rfl, HP2.out.keep K3 (by decide) (by decide), holds8_nil _ _, by rw [List.map_append, HFR.out, List.reverse_cons]; rfl⟩
    have KK3 := KK.out.trans (keepO_of K3 (by simp) (by decide) _)
    have HF3 := Lib.hid F3
    have HK3 := Lib.hid KK3
    clear N3 g3 K3 F3 KK3
    go_wp2_with fail
    go_end0
    exact ⟨rfl, HF3.out, HK3.out⟩
end Go.Proofs.YtacgkbdldbppjaaGreatDoor

/- Regions that draw their order, in which what is loaded is written at the end: a condition on the world that holds up to the operations that break it, each of which waits for every load that leans on it. -/
namespace Go.Proofs.YtacgkbdldbppjaaGreatDoor
open Go

section
variable {P : Program} {ops : Array Oper} {Q : Exit → Act → World → Prop} {md : Region.Mode} {S : World → Prop} {brk : List Nat}

/-- Has one of brk come up? -/
def brokenB (brk : List Nat) (listed : Array Bool) : Bool := brk.any fun k => listed.getD k false
/-- Whatever order is picked from here on; S holds behind every operation till one of brk has come up. -/
def wpAnyB (P : Program) (md : Region.Mode) (ops : Array Oper) (Q : Exit → Act → World → Prop) (S : World → Prop) (brk : List Nat) : Nat → Array Bool → Act → World → Prop
  | 0, listed, a, w => Region.ready md ops listed = [] ∧ Q .normal a w
  | fuel + 1, listed, a, w =>
    (Region.ready md ops listed = [] → Q .normal a w) ∧
    ∀ i ∈ Region.ready md ops listed, wpOp P ops Q i (fun a' w' => (brokenB brk (listed.setIfInBounds i true) = true ∨ S w') ∧ wpAnyB P md ops Q S brk fuel (listed.setIfInBounds i true) a' w') a w
theorem wpAny_of_B : ∀ (fuel : Nat) (listed : Array Bool) (a : Act) (w : World), wpAnyB P md ops Q S brk fuel listed a w → wpAny P md ops Q fuel listed a w
  | 0, _, _, _, h => h
  | fuel + 1, _, _, _, h => ⟨h.1, fun i hi => wpOp_mono (fun a' w' h' => wpAny_of_B fuel _ a' w' h'.2) (h.2 i hi)⟩
theorem broken_set {listed : Array Bool} {i : Nat} (h : i ∉ brk) : brokenB brk (listed.setIfInBounds i true) = brokenB brk listed := by
  unfold brokenB
  rw [Bool.eq_iff_iff, List.any_eq_true, List.any_eq_true]
  constructor
  · rintro ⟨k, hk, h1⟩
    refine ⟨k, hk, ?_⟩
    rw [getD_set_ne false (fun e => h (by rw [e]; exact hk))] at h1
    exact h1
  · rintro ⟨k, hk, h1⟩
    refine ⟨k, hk, ?_⟩
    rw [getD_set_ne false (fun e => h (by rw [e]; exact hk))]
    exact h1

/-- Does j wait for i? -/
def waitsB (md : Region.Mode) (ops : Array Oper) (j i : Nat) : Bool :=
  match ops[j]? with
  | some oj => oj.after.any fun e => Region.binds md e && e.on == i
  | none => false
theorem not_ready {listed : Array Bool} {c p : Nat} (hw : waitsB md ops c p = true) (hp : listed.getD p true = false) : c ∉ Region.ready md ops listed := fun hc => by
  obtain ⟨_, oc, hoc, hall⟩ := mem_ready.1 hc
  unfold waitsB at hw
  rw [hoc] at hw
  obtain ⟨e, he, hb⟩ := Array.any_eq_true'.1 hw
  rw [Bool.and_eq_true, beq_iff_eq] at hb
  have h1 := hall e he hb.1
  rw [hb.2] at h1
  rcases Nat.lt_or_ge p listed.size with h' | h'
  · simp [h'] at hp h1; rw [hp] at h1; cases h1
  · simp [Array.getElem?_eq_none h'] at h1

/-- What may come up, and yields in every world that meets T, may be taken first: T is nothing; or S, and as long as it is to come none of brk may (chain: from it up to them). -/
theorem wpAnyB_first {i : Nat} {oi : Oper} {v : Value} {T : World → Prop} (chain : List Nat) (hib : i ∉ brk) (hT : (∀ w, T w) ∨ ((∀ w, S w → T w) ∧ (∀ c ∈ chain, c ≠ i → ∃ p ∈ chain, waitsB md ops c p = true) ∧ ∀ j ∈ brk, j ∈ chain))
    (hi : ops[i]? = some oi) (hsel : ∀ (j : Nat) (o : Oper) cs b, ops[j]? = some o → o.op ≠ .select cs b) (hQ : ∀ c a w, Q (.panic c) (a.put oi.dst v) w → Q (.panic c) a w) :
    ∀ (fuel : Nat) (listed : Array Bool) (a : Act) (w : World),
      (∀ j oj, ops[j]? = some oj → j ≠ i → listed.getD j true = false → (∀ e ∈ oj.after, Region.binds md e = true → e.on ≠ i) → oi.apart ops oj = true) →
      ((∀ w, T w) ∨ ∀ c ∈ chain, listed.getD c true = false) →
      i ∈ Region.ready md ops listed → YieldsIf P ops T oi v a →
      wpAnyB P md ops Q S brk fuel (listed.setIfInBounds i true) (a.put oi.dst v) w → (brokenB brk listed = true ∨ S w) → wpAnyB P md ops Q S brk (fuel + 1) listed a w := by
  have key : ∀ (listed : Array Bool) (w : World), ((∀ w, T w) ∨ ∀ c ∈ chain, listed.getD c true = false) → (brokenB brk listed = true ∨ S w) → T w := fun listed w hun hb => by
    rcases hT with h | ⟨h, _, hbk⟩
    · exact h w
    · rcases hun with h' | hun
      · exact h' w
      · rcases hb with hb | hb
        · unfold brokenB at hb
          obtain ⟨k, hk, h1⟩ := List.any_eq_true.1 hb
          have h2 := hun k (hbk k hk)
          rcases Nat.lt_or_ge k listed.size with h' | h'
          · simp [h'] at h1 h2; rw [h2] at h1; cases h1
          · simp [Array.getElem?_eq_none h'] at h1
        · exact h w hb
  intro fuel
  induction fuel with
  | zero =>
    intro listed a w _ hun hr hy H hb
    refine ⟨fun h => (by rw [h] at hr; cases hr), fun j hj => ?_⟩
    by_cases hji : j = i
    · subst hji
      exact hy.wpOp hi (key listed w hun hb) ⟨by rw [broken_set hib]; exact hb, H⟩
    · have := ready_mono hj hji
      rw [H.1] at this
      cases this
  | succ fuel ih =>
    intro listed a w hfree hun0 hr hy H hb
    refine ⟨fun h => (by rw [h] at hr; cases hr), fun j hj => ?_⟩
    by_cases hji : j = i
    · subst hji; exact hy.wpOp hi (key listed w hun0 hb) ⟨by rw [broken_set hib]; exact hb, H⟩
    · have h1 := H.2 j (ready_mono hj hji)
      obtain ⟨hjun, oj, hoj, hall⟩ := mem_ready.1 hj
      have hnot : ∀ e ∈ oj.after, Region.binds md e = true → e.on ≠ i := fun e he hb heq => by
        have h1 := hall e he hb
        have h0 := (mem_ready.1 hr).1
        rw [heq] at h1
        rcases Nat.lt_or_ge i listed.size with h' | h'
        · simp [h'] at h0 h1; rw [h0] at h1; cases h1
        · simp [Array.getElem?_eq_none h'] at h1
      have h2 := wpOp_putIf hoj (hfree j oj hoj hji hjun hnot) (fun cs b => hsel i oi cs b hi) (fun cs b => hsel j oj cs b hoj) hQ hy h1
      have hfree' : ∀ k ok, ops[k]? = some ok → k ≠ i → (listed.setIfInBounds j true).getD k true = false →
          (∀ e ∈ ok.after, Region.binds md e = true → e.on ≠ i) → oi.apart ops ok = true := fun k ok hk hki hun hno => by
        refine hfree k ok hk hki ?_ hno
        by_cases hjk : j = k
        · subst hjk; exact hjun
        · rw [getD_set_ne true hjk] at hun; exact hun
      have hjc : (∀ w, T w) ∨ j ∉ chain := by
        rcases hT with h | ⟨_, hcw, _⟩
        · exact .inl h
        · rcases hun0 with h | hun
          · exact .inl h
          · refine .inr fun hc => ?_
            obtain ⟨p, hp, hw⟩ := hcw j hc hji
            exact not_ready hw (hun p hp) hj
      have hcomm : (listed.setIfInBounds i true).setIfInBounds j true = (listed.setIfInBounds j true).setIfInBounds i true := Array.setIfInBounds_comm _ _ (fun e => hji e.symm)
      rw [hcomm] at h2
      refine wpOp_mono (fun a' w' h3 => ?_) h2
      have hb3 : brokenB brk (listed.setIfInBounds j true) = true ∨ S w' := by
        have := h3.2.1
        rwa [broken_set hib] at this
      refine ⟨hb3, ih (listed.setIfInBounds j true) a' w' hfree' ?_ (ready_mono hr (Ne.symm hji)) h3.1 h3.2.2 hb3⟩
      rcases hjc with h | h
      · exact .inl h
      · rcases hun0 with h' | hun
        · exact .inl h'
        · refine .inr fun c hc => ?_
          rw [getD_set_ne true (fun e => h (by rw [e]; exact hc))]
          exact hun c hc

/-- The moves: what looks at no memory. -/
theorem wpAnyB_free {i : Nat} {oi : Oper} {v : Value} {fuel : Nat} {listed : Array Bool} {a : Act} {w : World} (hi : ops[i]? = some oi)
    (hib : brk.contains i = false) (hs : Region.noSelect ops = true) (hf : Region.free md ops listed i = true) (hr : (Region.ready md ops listed).contains i = true)
    (hQ : ∀ c a w, Q (.panic c) (a.put oi.dst v) w → Q (.panic c) a w) (hb : brokenB brk listed = true ∨ S w) (hy : ∀ w, (execOp a.eval oi).run P w = .ok (.value v) w) (hw : Region.wanted oi (yielded ops a.tmps) = true)
    (h : wpAnyB P md ops Q S brk fuel (listed.setIfInBounds i true) (a.put oi.dst v) w) : wpAnyB P md ops Q S brk (fuel + 1) listed a w :=
  wpAnyB_first (T := fun _ => True) [] (fun hh => by rw [List.contains_iff_mem.2 hh] at hib; cases hib) (.inl fun _ => trivial) hi (Region.noSelect_spec hs) hQ fuel listed a w (Region.free_spec hi hf) (.inl fun _ => trivial) (by simpa using hr) (.inl ⟨hw, fun w _ => hy w⟩) h hb
/-- .. what looks at memory of which S tells. -/
def chainOk (md : Region.Mode) (ops : Array Oper) (listed : Array Bool) (brk : List Nat) (i : Nat) (chain : List Nat) : Bool :=
  (chain.all fun c => c == i || chain.any fun p => waitsB md ops c p) && (brk.all fun j => chain.contains j) && chain.all fun c => !(listed.getD c true)
theorem wpAnyB_load (chain : List Nat) {i : Nat} {oi : Oper} {v : Value} {fuel : Nat} {listed : Array Bool} {a : Act} {w : World} (hi : ops[i]? = some oi)
    (hib : brk.contains i = false) (hs : Region.noSelect ops = true) (hf : Region.free md ops listed i = true) (hr : (Region.ready md ops listed).contains i = true) (hc : chainOk md ops listed brk i chain = true)
    (hQ : ∀ c a w, Q (.panic c) (a.put oi.dst v) w → Q (.panic c) a w) (hb : brokenB brk listed = true ∨ S w) (hy : ∀ w, S w → (execOp a.eval oi).run P w = .ok (.value v) w) (hw : Region.wanted oi (yielded ops a.tmps) = true)
    (h : wpAnyB P md ops Q S brk fuel (listed.setIfInBounds i true) (a.put oi.dst v) w) : wpAnyB P md ops Q S brk (fuel + 1) listed a w := by
  unfold chainOk at hc
  rw [Bool.and_eq_true, Bool.and_eq_true, List.all_eq_true, List.all_eq_true, List.all_eq_true] at hc
  obtain ⟨⟨h1, h2⟩, h3⟩ := hc
  refine wpAnyB_first (T := S) chain (fun hh => by rw [List.contains_iff_mem.2 hh] at hib; cases hib) (.inr ⟨fun _ h => h, fun c hc hne => ?_, fun j hj => List.contains_iff_mem.1 (h2 j hj)⟩) hi (Region.noSelect_spec hs) hQ fuel listed a w (Region.free_spec hi hf) (.inr fun c hc => by simpa using h3 c hc) (by simpa using hr) (.inl ⟨hw, hy⟩) h hb
  have := h1 c hc
  rw [Bool.or_eq_true, beq_iff_eq, List.any_eq_true] at this
  exact this.resolve_left hne
/-- The one that may come up. -/
theorem wpAnyB_one {i : Nat} {o : Oper} {fuel : Nat} {listed : Array Bool} {a : Act} {w : World} (ho : ops[i]? = some o) (hr : Region.ready md ops listed = [i])
    (h : ∀ K' : Act → World → Prop, (∀ a w, (brokenB brk (listed.setIfInBounds i true) = true ∨ S w) → wpAnyB P md ops Q S brk fuel (listed.setIfInBounds i true) a w → K' a w) → if Region.wanted o (yielded ops a.tmps) = true then Oper.wp P o a w K' Q else K' (a.put o.dst undef) w) :
    wpAnyB P md ops Q S brk (fuel + 1) listed a w :=
  ⟨fun h0 => (by rw [hr] at h0; cases h0), fun j hj => by
    rw [hr] at hj
    obtain rfl : j = i := by simpa using hj
    exact wpOp_step ho (fun K' hK => h K' (fun a w hS hW => hK a w ⟨hS, hW⟩))⟩
theorem wpAnyB_done {listed : Array Bool} {a : Act} {w : World} (hr : Region.ready md ops listed = []) (h : Q .normal a w) : wpAnyB P md ops Q S brk 0 listed a w := ⟨hr, h⟩
theorem wp_region_B (S : World → Prop) (brk : List Nat) {id : Nat} {a : Act} {w : World} (hm : P.follows .mixedOrders = true)
    (h : wpAnyB P .any ops Q S brk ops.size (Array.replicate ops.size false) a w.drew) : (Code.region id ops true).wp P Q a w :=
  wp_region_any hm (wpAny_of_B _ _ _ _ h)
end
end Go.Proofs.YtacgkbdldbppjaaGreatDoor

/- The program's put: an operation behind the others, as one with the last, if they do the same. -/
namespace Go.Proofs.YtacgkbdldbppjaaGreatDoor
open Go.RowKit Ch

theorem NSt.below {w w' : World} {B b : Nat} {ov : Value} {l : List OpD} {g : Int} (h : NSt w B b ov l g) (hb : Below w.heap.size w w') : NSt w' B b ov l g := by
  obtain ⟨ps, ad, bv, bt, h1, h2, h3, h4, h5⟩ := h
  have hk : Keep w.heap.size [] w w' := keep_below hb (Nat.le_refl _)
  exact ⟨ps, ad, bv, bt, h1.keep hk (by simp), h2, h3.keep hk (by simp) (by simp), ⟨hk.own h4.1 (by simp), h4.2⟩, h5⟩
theorem NSt.ov_lt {w : World} {B b : Nat} {ov : Value} {l : List OpD} {g : Int} (h : NSt w B b ov l g) : ∀ j, ov.ownBlock = some j → j < w.heap.size := by
  obtain ⟨ps, _, _, _, _, _, h3, _⟩ := h
  exact fun j hj => (h3.1.lt j hj).2
theorem NSt.slice {w : World} {B b : Nat} {ov : Value} {l : List OpD} {g : Int} (h : NSt w B b ov l g) : ∃ a c, ov = .slice a l.length c := by
  obtain ⟨ps, _, _, _, _, _, h3, _, h5⟩ := h
  obtain ⟨a, c, rfl⟩ := own_slice h3.1
  have : ps.length = l.length := by
    rcases h5 with ⟨rfl, rfl, _⟩ | ⟨x, r, fr, xv, rfl, rfl, hf, _⟩
    · rfl
    · have := congrArg List.length hf
      simp at this ⊢
      exact this
  exact ⟨a, c, by rw [this]⟩
theorem new_at4 (w : World) (u0 u1 u2 u3 : Value) (e : TypeId) : ∀ j x, [u0, u1, u2, u3][j]? = some x → (w.alloc (.cells #[u0, u1, u2, u3] e)).cell? ((⟨w.heap.size, 0, none⟩ : Addr).add j) = some x := by
  intro j x hj
  match j, hj with
  | 0, hj => simp at hj; subst hj; go_simp
  | 1, hj => simp at hj; subst hj; go_simp
  | 2, hj => simp at hj; subst hj; go_simp
  | 3, hj => simp at hj; subst hj; go_simp
  | j + 4, hj => simp at hj
theorem heap_new (w : World) (o : Obj) : (w.alloc o).heap[w.heap.size]? = some o := heap_alloc_new w o
def PutOut (w : World) (B b : Nat) (ov : Value) (l : List OpD) (o : OpD) (g : Int) (e : Ending) (w' : World) : Prop := e = .returned (.tuple #[]) ∧ ∃ ov', NSt w' B b ov' (put l o) g ∧ KeepO B w w' ov ov'
/-- What a put asks. -/
structure Fits (l : List OpD) (o : OpD) : Prop where
  len : l.length ≤ 4000
  last : ∀ x r, l = x :: r → 0 ≤ x.n ∧ x.n ≤ 1073741824 ∧ x.text.size ≤ 1073741824
  n0 : 0 ≤ o.n
  n1 : o.n ≤ 1073741824
  text : o.text.size ≤ 1073741824
  attrs : SmallA o.attrs

set_option maxHeartbeats 4000000 in
set_option maxRecDepth 100000 in
theorem put_empty (B b : Nat) (ov : Value) (l : List OpD) (g : Int) (o : OpD) (av : Value) (w : World) (h : NSt w B b ov l g) (hB : B ≤ b) (hf : Fits l o) (hv : ∀ w', Below B w w' → AtRow w' av o.attrs) (hnil : l = []) :
    Calls Tryz.prog 85 #[.pointer (some ⟨b, 0, none⟩), opAgg o av] w (PutOut w B b ov l o g) := by
  have hBw : B ≤ w.heap.size := Nat.le_trans hB (Nat.le_of_lt h.lt)
  obtain ⟨ar, cr, rfl⟩ := (hv w (Below.refl _ _)).shape
  obtain ⟨W, hW⟩ : ∃ W, W = w.alloc (.cells #[.int .i64 o.kind, .int .i64 o.n, .string o.text, .slice ar o.attrs.length cr] 48) := ⟨_, rfl⟩
  have BW : Below w.heap.size w W := by rw [hW]; exact below_box _ _
  have HBW := Lib.hid BW
  have hbox : W.heap[w.heap.size]? = some (.cells #[.int .i64 o.kind, .int .i64 o.n, .string o.text, .slice ar o.attrs.length cr] 48 (0, 0)) := by rw [hW]; exact heap_new _ _
  have HBX := Lib.hid hbox
  have HNE := Lib.hid (show ov.ownBlock ≠ some w.heap.size from fun e => by have := h.ov_lt _ e; omega)
  have HS := Lib.hid (h.below BW)
  have HV := Lib.hid hv
  have HF := Lib.hid hf
  have HW := Lib.hid hW
  have HBw := Lib.hid hBw
  obtain ⟨oa, oc, rfl⟩ := h.slice
  subst hnil
  have hblw := h.lt
  have p0 : w.cell? ⟨b, 0, none⟩ = some (.slice oa 0 oc) := by
    obtain ⟨_, _, _, _, hN0, _⟩ := h
    exact hN0.cells.1
  clear hf hv hW BW hbox hBw
  go_enter Tryz.func85, Tryz.ntmps85
  go_wp2_with fail
  rw [← HW.out]
  go_wp2_with fail
  go_quiet (fail)
  go_wp2_with fail
  refine (finish_any B b _ _ g _ (HS.out.below (below_drewN (Below.refl _ _) nq)) hB (by have := HF.out.len; omega)).mono ?_
  rintro e w1 ⟨rfl, F1, KF⟩
  have hb1 : w1.heap[w.heap.size]? = some (.cells #[.int .i64 o.kind, .int .i64 o.n, .string o.text, .slice ar o.attrs.length cr] 48 (0, 0)) := (KF.ops _ _ _ (by exact HBX.out) HNE.out).1
  have K1 : KeepO B w w1 (.slice oa 0 oc) (.slice oa 0 oc) := (keepO_below (below_drewN HBW.out nq) HBw.out _).trans KF
  have HK1 := Lib.hid K1
  have HB1 := Lib.hid hb1
  have hs1 : w.heap.size < w1.heap.size := lt_of_heap hb1
  obtain ⟨ps, ad, bv, hN, hA, hP, hH, hps⟩ := F1
  have hpl : ps.length ≤ 4000 := by have h1 := congrArg List.length hps; rw [List.length_map, List.length_reverse] at h1; have := HF.out.len; omega
  have hPL : ps.length = 0 := by
    obtain ⟨a', c', e⟩ := own_slice hP.1
    simp only [Value.slice.injEq] at e
    exact e.2.1.symm
  have HPLN := Lib.hid hPL
  obtain ⟨k0, k1, k2, k3, k4⟩ := hN.cells
  have hbl : b < w1.heap.size := lt_of_heap hN
  have c0 : w1.cell? ⟨w.heap.size, 0, none⟩ = some (.int .i64 o.kind) := by rw [Lib.cell_of_heap hb1]; rfl
  have c1 : w1.cell? ⟨w.heap.size, 1, none⟩ = some (.int .i64 o.n) := by rw [Lib.cell_of_heap hb1]; rfl
  have c3 : w1.cell? ⟨w.heap.size, 3, none⟩ = some (.slice ar o.attrs.length cr) := by rw [Lib.cell_of_heap hb1]; rfl
  obtain ⟨i0, hi, hz0, hz1, hz2⟩ := info_parts infoOp
  have Hi := Lib.hid (And.intro hi (And.intro hz0 (And.intro hz1 hz2)))
  have HN := Lib.hid hN
  have HP := Lib.hid hP
  have HH := Lib.hid hH
  have HA := Lib.hid hA
  have HPS := Lib.hid hps
  have HCL := Lib.hid (fun W' (hb : Below w1.heap.size w1 W') => cloneAttrs_any (.slice ar o.attrs.length cr) o.attrs W' (HV.out W' (K1.keep.below.trans (hb.mono (Nat.le_trans HBw.out K1.keep.below.size)))) HF.out.attrs)
  have HPL := Lib.hid hpl
  have hnb : w.heap.size ≠ b := by
    have := HS.out.lt
    have := HBW.out.size
    exact block_ne hb1 hN (by decide)
  have HNB := Lib.hid hnb
  clear hN hP hH hA hps hPL KF K1 hi hz0 hz1 hz2 k1 k2 k3 k4 hb1 hpl hnb
  go_wp2_with fail
  have S1 : w1.drew.cell? ⟨b, 0, none⟩ = some (.slice oa 0 oc) ∧ w1.drew.cell? ⟨w.heap.size, 0, none⟩ = some (.int .i64 o.kind) ∧ w1.drew.cell? ⟨w.heap.size, 1, none⟩ = some (.int .i64 o.n) ∧ w1.drew.cell? ⟨w.heap.size, 3, none⟩ = some (.slice ar o.attrs.length cr) := ⟨k0, c0, c1, c3⟩
  refine wp_region_B (fun w' => w'.cell? ⟨b, 0, none⟩ = some (.slice oa 0 oc) ∧ w'.cell? ⟨w.heap.size, 0, none⟩ = some (.int .i64 o.kind) ∧ w'.cell? ⟨w.heap.size, 1, none⟩ = some (.int .i64 o.n) ∧ w'.cell? ⟨w.heap.size, 3, none⟩ = some (.slice ar o.attrs.length cr)) [17] (by kernel_rfl) (?_ : wpAnyB _ _ _ _ _ _ 18 (Array.replicate 18 false) _ _)
  refine wpAnyB_free (fuel := 17) (i := 0) (v := ?_) rfl (by kernel_rfl) (by kernel_rfl) (by kernel_rfl) (by kernel_rfl) (fun _ _ _ h => h) (.inr S1) ?_ (by rfl) ?_
  rotate_left
  · intro w'; go_simp; (try with_reducible rfl)
  simp only [Act.put, List.setIfInBounds_toArray]
  refine wpAnyB_free (fuel := 16) (i := 1) (v := ?_) rfl (by kernel_rfl) (by kernel_rfl) (by kernel_rfl) (by kernel_rfl) (fun _ _ _ h => h) (.inr S1) ?_ (by rfl) ?_
  rotate_left
  · intro w'; go_simp; (try with_reducible rfl)
  simp only [Act.put]
  refine wpAnyB_free (fuel := 15) (i := 2) (v := ?_) rfl (by kernel_rfl) (by kernel_rfl) (by kernel_rfl) (by kernel_rfl) (fun _ _ _ h => h) (.inr S1) ?_ (by rfl) ?_
  rotate_left
  · intro w'; go_simp; (try with_reducible rfl)
  simp only [Act.put]
  refine wpAnyB_free (fuel := 14) (i := 3) (v := ?_) rfl (by kernel_rfl) (by kernel_rfl) (by kernel_rfl) (by kernel_rfl) (fun _ _ _ h => h) (.inr S1) ?_ (by rfl) ?_
  rotate_left
  · intro w'; go_simp; (try with_reducible rfl)
  simp only [Act.put]
  refine wpAnyB_load [4,14,17] (fuel := 13) (i := 4) (v := ?_) rfl (by kernel_rfl) (by kernel_rfl) (by kernel_rfl) (by kernel_rfl) (by kernel_rfl) (fun _ _ _ h => h) (.inr S1) ?_ (by rfl) ?_
  rotate_left
  · intro w' hw'; go_simp; (try with_reducible rfl)
  simp only [Act.put]
  refine wpAnyB_free (fuel := 12) (i := 5) (v := ?_) rfl (by kernel_rfl) (by kernel_rfl) (by kernel_rfl) (by kernel_rfl) (fun _ _ _ h => h) (.inr S1) ?_ (by rfl) ?_
  rotate_left
  · intro w'; go_simp; (try with_reducible rfl)
  simp only [Act.put]
  refine wpAnyB_load [6,12,13,14,17] (fuel := 11) (i := 6) (v := ?_) rfl (by kernel_rfl) (by kernel_rfl) (by kernel_rfl) (by kernel_rfl) (by kernel_rfl) (fun _ _ _ h => h) (.inr S1) ?_ (by rfl) ?_
  rotate_left
  · intro w' hw'; go_simp; (try with_reducible rfl)
  simp only [Act.put]
  refine wpAnyB_free (fuel := 10) (i := 7) (v := ?_) rfl (by kernel_rfl) (by kernel_rfl) (by kernel_rfl) (by kernel_rfl) (fun _ _ _ h => h) (.inr S1) ?_ (by rfl) ?_
  rotate_left
  · intro w'; go_simp; (try with_reducible rfl)
  simp only [Act.put]
  refine wpAnyB_load [8,12,13,14,17] (fuel := 9) (i := 8) (v := ?_) rfl (by kernel_rfl) (by kernel_rfl) (by kernel_rfl) (by kernel_rfl) (by kernel_rfl) (fun _ _ _ h => h) (.inr S1) ?_ (by rfl) ?_
  rotate_left
  · intro w' hw'; go_simp; (try with_reducible rfl)
  simp only [Act.put]
  refine wpAnyB_free (fuel := 8) (i := 9) (v := ?_) rfl (by kernel_rfl) (by kernel_rfl) (by kernel_rfl) (by kernel_rfl) (fun _ _ _ h => h) (.inr S1) ?_ (by rfl) ?_
  rotate_left
  · intro w'; go_simp; (try with_reducible rfl)
  simp only [Act.put]
  refine wpAnyB_load [10,11,12,13,14,17] (fuel := 7) (i := 10) (v := ?_) rfl (by kernel_rfl) (by kernel_rfl) (by kernel_rfl) (by kernel_rfl) (by kernel_rfl) (fun _ _ _ h => h) (.inr S1) ?_ (by rfl) ?_
  rotate_left
  · intro w' hw'; go_simp; (try with_reducible rfl)
  simp only [Act.put]
  refine wpAnyB_one (fuel := 6) (i := 11) rfl (by kernel_rfl) ?_
  intro KB hKB
  go_simp
  refine (HCL.out _ (Below.refl _ _).drew).mono ?_
  rintro e wA ⟨vA, rfl, oA, bA⟩
  obtain ⟨aa, ca, rfl⟩ := own_slice oA
  have BA : Below w1.heap.size w1 wA := of_drew bA
  have OA := Lib.hid (own_base oA (show B ≤ w1.drew.heap.size from by have := hbl; show B ≤ w1.heap.size; omega))
  have PA := Lib.hid (HP.out.keep (keep_below (ts := []) BA (Nat.le_refl _)) (by simp) (by simp))
  have NA := Lib.hid (HN.out.keep (keep_below (ts := []) BA (Nat.le_refl _)) (by simp))
  have HA1 := Lib.hid (show Holds8 wA B bv [] from ⟨(keep_below (B := B) (ts := []) BA (by omega)).own HH.out.1 (by simp), HH.out.2⟩)
  have PO := Lib.hid (show wA.ownsRow B 48 4 (.slice oa 0 oc) 0 (flatO ps) from by have := PA.out.1; rwa [HPLN.out] at this)
  have bxA := Lib.hid ((BA.block _ hs1).trans HB1.out)
  have hBA := Lib.hid (show B ≤ wA.heap.size from by have := BA.size; omega)
  have KA := Lib.hid (HK1.out.trans (keepO_below BA (by omega) _))
  have SA : wA.cell? ⟨b, 0, none⟩ = some (.slice oa 0 oc) ∧ wA.cell? ⟨w.heap.size, 0, none⟩ = some (.int .i64 o.kind) ∧ wA.cell? ⟨w.heap.size, 1, none⟩ = some (.int .i64 o.n) ∧ wA.cell? ⟨w.heap.size, 3, none⟩ = some (.slice ar o.attrs.length cr) := ⟨(BA.cell (by exact hbl)).trans k0, (BA.cell (by exact hs1)).trans c0, (BA.cell (by exact hs1)).trans c1, (BA.cell (by exact hs1)).trans c3⟩
  have AC := Below.alloc (Below.refl wA.heap.size wA) (Nat.le_refl _) (Obj.cells #[.int .i64 o.kind, .int .i64 o.n, .string ⟨#[]⟩, .slice aa o.attrs.length ca] 48)
  have HAC := Lib.hid AC
  have lA := Nat.lt_of_lt_of_le hbl BA.size
  have lA2 := Nat.lt_of_lt_of_le hs1 BA.size
  have SB : (wA.alloc (Obj.cells #[.int .i64 o.kind, .int .i64 o.n, .string ⟨#[]⟩, .slice aa o.attrs.length ca] 48)).cell? ⟨b, 0, none⟩ = some (.slice oa 0 oc) ∧ (wA.alloc (Obj.cells #[.int .i64 o.kind, .int .i64 o.n, .string ⟨#[]⟩, .slice aa o.attrs.length ca] 48)).cell? ⟨w.heap.size, 0, none⟩ = some (.int .i64 o.kind) ∧ (wA.alloc (Obj.cells #[.int .i64 o.kind, .int .i64 o.n, .string ⟨#[]⟩, .slice aa o.attrs.length ca] 48)).cell? ⟨w.heap.size, 1, none⟩ = some (.int .i64 o.n) ∧ (wA.alloc (Obj.cells #[.int .i64 o.kind, .int .i64 o.n, .string ⟨#[]⟩, .slice aa o.attrs.length ca] 48)).cell? ⟨w.heap.size, 3, none⟩ = some (.slice ar o.attrs.length cr) := ⟨(AC.cell (by exact lA)).trans SA.1, (AC.cell (by exact lA2)).trans SA.2.1, (AC.cell (by exact lA2)).trans SA.2.2.1, (AC.cell (by exact lA2)).trans SA.2.2.2⟩
  have HSA := Lib.hid SA
  have HSB := Lib.hid SB
  clear oA bA BA SA SB AC
  refine hKB _ _ (.inr HSA.out) ?_
  try simp only [Act.put, List.setIfInBounds_toArray, List.set_cons_zero, List.set_cons_succ]
  refine wpAnyB_free (fuel := 5) (i := 12) (v := ?_) rfl (by kernel_rfl) (by kernel_rfl) (by kernel_rfl) (by kernel_rfl) (fun _ _ _ h => h) (.inr HSA.out) ?_ (by rfl) ?_
  rotate_left
  · intro w'; go_simp; (try with_reducible rfl)
  simp only [Act.put, List.setIfInBounds_toArray]
  refine wpAnyB_one (fuel := 4) (i := 13) rfl (by kernel_rfl) ?_
  intro KB hKB
  go_simp
  refine hKB _ _ (.inr HSB.out) ?_
  try simp only [Act.put, List.setIfInBounds_toArray, List.set_cons_zero, List.set_cons_succ]
  refine wpAnyB_one (fuel := 3) (i := 14) rfl (by kernel_rfl) ?_
  intro KB hKB
  refine step_append_new rfl (.tmp 43) (.tmp 52) 22 rfl 48 i0 (.agg #[.int .i64 0, .int .i64 0, .string ⟨#[]⟩, .slice none 0 0]) 4 56 Tryz.underlying22 Hi.out.1 Hi.out.2.1 Hi.out.2.2.1 Hi.out.2.2.2 rfl (by decide) B (.slice oa 0 oc) 0 (flatO ps) rfl (PO.out.alloc _) ⟨wA.heap.size, 0, none⟩ 1 1 [.int .i64 o.kind, .int .i64 o.n, .string ⟨#[]⟩, .slice aa o.attrs.length ca] rfl rfl (new_at4 _ _ _ _ _ _) (fun u hu => by simp at hu; rcases hu with rfl | rfl | rfl | rfl <;> rfl) (by unfold maxLen; have := HPL.out; have := HPLN.out; omega) (by have := HPL.out; have := HPLN.out; omega) (by have := hBA.out; simp; omega) ?_
  intro v' wC oC gC nC
  obtain ⟨oa', oc', rfl⟩ := own_slice oC
  have KC1 := keepO_below (B := B) HAC.out hBA.out (.slice oa 0 oc)
  have KC2 := keepO_grown (PO.out.alloc _) gC (by have := hBA.out; simp; omega) nC
  have NC : NBlk wC b _ _ _ g := (NA.out.keep (keep_below (ts := []) HAC.out (Nat.le_refl _)) (by simp)).keep (ts := [48]) (keep_row (PO.out.alloc _) gC (by simp) (by have := hBA.out; simp; omega)) (by decide)
  have bC := (KC2.ops w.heap.size _ _ ((HAC.out.block _ (lt_of_heap bxA.out)).trans bxA.out) HNE.out).1
  obtain ⟨kC, _, _, _, fC⟩ := NC.cells
  have fC0 := fC 0
  have SC : wC.cell? ⟨b, 0, none⟩ = some (.slice oa 0 oc) ∧ wC.cell? ⟨w.heap.size, 0, none⟩ = some (.int .i64 o.kind) ∧ wC.cell? ⟨w.heap.size, 1, none⟩ = some (.int .i64 o.n) ∧ wC.cell? ⟨w.heap.size, 3, none⟩ = some (.slice ar o.attrs.length cr) := ⟨kC, by rw [Lib.cell_of_heap bC]; rfl, by rw [Lib.cell_of_heap bC]; rfl, by rw [Lib.cell_of_heap bC]; rfl⟩
  have HSC := Lib.hid SC
  have HNC := Lib.hid NC
  have HOC := Lib.hid oC
  have HBC := Lib.hid bC
  have HKC := Lib.hid (KA.out.trans (KC1.trans KC2))
  have HKC2 := Lib.hid (KC1.trans KC2)
  clear oC gC nC KC1 KC2 NC fC SC bC
  refine hKB _ _ (.inr HSC.out) ?_
  try simp only [Act.put, List.setIfInBounds_toArray]
  refine wpAnyB_free (fuel := 2) (i := 15) (v := ?_) rfl (by kernel_rfl) (by kernel_rfl) (by kernel_rfl) (by kernel_rfl) (fun _ _ _ h => h) (.inr HSC.out) ?_ (by rfl) ?_
  rotate_left
  · intro w'; go_simp; (try with_reducible rfl)
  simp only [Act.put]
  refine wpAnyB_free (fuel := 1) (i := 16) (v := ?_) rfl (by kernel_rfl) (by kernel_rfl) (by kernel_rfl) (by kernel_rfl) (fun _ _ _ h => h) (.inr HSC.out) ?_ (by rfl) ?_
  rotate_left
  · intro w'; go_simp; (try with_reducible rfl)
  simp only [Act.put]
  refine wpAnyB_one (fuel := 0) (i := 17) rfl (by kernel_rfl) ?_
  intro KB hKB
  go_simp
  refine hKB _ _ (.inl (by kernel_rfl)) ?_
  try simp only [Act.put, List.setIfInBounds_toArray, List.set_cons_zero, List.set_cons_succ]
  refine wpAnyB_done (by kernel_rfl) ?_
  have KD1 : Keep B [89] wC (wC.setCell ⟨b, 0, none⟩ (.slice oa' (0 + 1) oc')) := keep_set HNC.out (by simp) hB _ rfl _
  have KAD : Keep B TS wA (wC.setCell ⟨b, 0, none⟩ (.slice oa' (0 + 1) oc')) := HKC2.out.keep.trans (KD1.more (by simp))
  have OD : OwnP (wC.setCell ⟨b, 0, none⟩ (.slice oa' (0 + 1) oc')) B (.slice oa' (0 + 1) oc') (ps ++ [(noText o, .slice aa o.attrs.length ca)]) := ownP_mk (by have h1 := KD1.own HOC.out (by decide); rw [HPLN.out, flatO_snoc]; exact h1) (fun q hq => KAD.own (PA.out.2 q hq) (by decide)) (KAD.own OA.out (by decide))
  have ND : NBlk (wC.setCell ⟨b, 0, none⟩ (.slice oa' (0 + 1) oc')) b (.slice oa' (0 + 1) oc') ad bv g := HNC.out.set0
  have KD : KeepO B w (wC.setCell ⟨b, 0, none⟩ (.slice oa' (0 + 1) oc')) (.slice oa 0 oc) (.slice oa' (0 + 1) oc') := HKC.out.trans (keepO_of KD1 (by simp) (by decide) _)
  have bD : (wC.setCell ⟨b, 0, none⟩ (.slice oa' (0 + 1) oc')).heap[w.heap.size]? = _ := KD1.kept _ _ _ _ HBC.out (by decide)
  have HD : Holds8 (wC.setCell ⟨b, 0, none⟩ (.slice oa' (0 + 1) oc')) B bv [] := by rw [HH.out.2 rfl]; exact holds8_nil _ _
  obtain ⟨wD, hwD⟩ : ∃ wD, wD = wC.setCell ⟨b, 0, none⟩ (.slice oa' (0 + 1) oc') := ⟨_, rfl⟩
  change (Exit.then _ _) _ _ (wC.setCell ⟨b, 0, none⟩ (.slice oa' (0 + 1) oc'))
  rw [← hwD] at OD ND KD bD HD ⊢
  have HOD := Lib.hid OD
  have HND := Lib.hid ND
  have HKD := Lib.hid KD
  have HHD := Lib.hid HD
  have HbD := Lib.hid bD
  have c2 : wD.cell? ⟨w.heap.size, 2, none⟩ = some (.string o.text) := by rw [Lib.cell_of_heap bD]; rfl
  clear OD ND KD bD HD KD1 KAD hwD S1
  go_wp2_with fail
  go_region_held3 (fun w' => w'.cell? ⟨w.heap.size, 2, none⟩ = some (.string o.text))
    (first
      | exact c2
      | exact cE)
    (first
      | (go_at_call 30; refine (writeString_any B b _ ad bv g [] o.text _ (by exact HND.out) HA.out hB (by exact HHD.out) (by have := HF.out.text; simp; omega)).mono ?_; rintro e wE ⟨⟨nE, rfl⟩, ⟨bE, NE, HE⟩, KE⟩; have kbE := KE.kept (w := wD.drew) _ _ _ _ HbD.out (by decide); have cE : wE.cell? ⟨w.heap.size, 2, none⟩ = some (.string o.text) := by rw [Lib.cell_of_heap kbE]; rfl))
  have KE2 : Keep B [89, 5] wD wE := of_drewK KE
  have OE := HOD.out.keep KE2 (by decide) (by decide)
  have FIN : ∃ ov', NSt wE B b ov' (put [] o) g ∧ KeepO B w wE (.slice oa 0 oc) ov' := by
    rw [show put [] o = o :: [] from rfl]
    exact ⟨_, ⟨_, _, _, _, NE, .inr rfl, OE, HE, .inr ⟨o, [], ps, _, rfl, rfl, HPS.out, rfl⟩⟩, HKD.out.trans (keepO_of KE2 (by simp) (by decide) _)⟩
  have HFIN := Lib.hid FIN
  clear FIN OE KE2 KE kbE cE NE HE
  go_wp2_with fail
  go_end0
  exact ⟨rfl, HFIN.out⟩
end Go.Proofs.YtacgkbdldbppjaaGreatDoor

/- put behind another operation -/
namespace Go.Proofs.YtacgkbdldbppjaaGreatDoor
open Go.RowKit Ch

set_option maxHeartbeats 4000000 in
set_option maxRecDepth 100000 in
theorem put_other (B b : Nat) (ov : Value) (l : List OpD) (g : Int) (o : OpD) (av : Value) (w : World) (h : NSt w B b ov l g) (hB : B ≤ b) (hf : Fits l o) (hv : ∀ w', Below B w w' → AtRow w' av o.attrs) (x : OpD) (r : List OpD) (hl : l = x :: r) (hal : ¬ (x.kind = o.kind ∧ x.attrs = o.attrs)) :
    Calls Tryz.prog 85 #[.pointer (some ⟨b, 0, none⟩), opAgg o av] w (PutOut w B b ov l o g) := by
  have hBw : B ≤ w.heap.size := Nat.le_trans hB (Nat.le_of_lt h.lt)
  obtain ⟨ar, cr, rfl⟩ := (hv w (Below.refl _ _)).shape
  obtain ⟨W, hW⟩ : ∃ W, W = w.alloc (.cells #[.int .i64 o.kind, .int .i64 o.n, .string o.text, .slice ar o.attrs.length cr] 48) := ⟨_, rfl⟩
  have BW : Below w.heap.size w W := by rw [hW]; exact below_box _ _
  have HBW := Lib.hid BW
  have hbox : W.heap[w.heap.size]? = some (.cells #[.int .i64 o.kind, .int .i64 o.n, .string o.text, .slice ar o.attrs.length cr] 48 (0, 0)) := by rw [hW]; exact heap_new _ _
  have HBX := Lib.hid hbox
  have HNE := Lib.hid (show ov.ownBlock ≠ some w.heap.size from fun e => by have := h.ov_lt _ e; omega)
  have HS := Lib.hid (h.below BW)
  have HV := Lib.hid hv
  have HF := Lib.hid hf
  have HW := Lib.hid hW
  have HBw := Lib.hid hBw
  obtain ⟨ps0, ad0, bv0, bt0, hN0, hA0, hP0, hH0, hcase⟩ := h
  have hblw := lt_of_heap hN0
  obtain ⟨fr, xv, rfl, hfr, rfl⟩ : ∃ fr xv, ps0 = fr ++ [(noText x, xv)] ∧ fr.map (·.1) = r.reverse ∧ bt0 = x.text.data.toList := by
    rcases hcase with ⟨h, _⟩ | ⟨x', r', fr, xv, h, h2, h3, h4⟩
    · rw [hl] at h; cases h
    · rw [hl] at h
      simp only [List.cons.injEq] at h
      obtain ⟨rfl, rfl⟩ := h
      exact ⟨fr, xv, h2, h3, h4⟩
  subst hl
  obtain ⟨gg, cap, hov⟩ := ownsRow_open hP0.len (Nat.succ_pos _)
  subst hov
  obtain ⟨xa, xc, hxv⟩ : ∃ a c, xv = .slice a (noText x).attrs.length c := own_slice (hP0.2 (noText x, xv) (by simp))
  subst hxv
  have p0 : w.cell? ⟨b, 0, none⟩ = some (.slice (some ⟨gg, 0, none⟩) (fr.length + 1) cap) := hN0.cells.1
  have hm : fr.length ≤ 4000 := by
    have h1 := congrArg List.length hfr
    rw [List.length_map, List.length_reverse] at h1
    have := hf.len
    rw [List.length_cons] at this
    omega
  have NW : NBlk W b _ ad0 bv0 g := hN0.keep (keep_below (ts := []) BW (Nat.le_refl _)) (by simp)
  have PW := hP0.keep (keep_below (ts := []) BW (Nat.le_refl _)) (by simp) (by simp)
  have k0 : W.cell? ⟨b, 0, none⟩ = some (.slice (some ⟨gg, 0, none⟩) (fr.length + 1) cap) := NW.cells.1
  obtain ⟨q0, q1, q2, q3⟩ := last_cells PW.len
  have c0 : W.cell? ⟨w.heap.size, 0, none⟩ = some (.int .i64 o.kind) := by rw [Lib.cell_of_heap hbox]; rfl
  have c1 : W.cell? ⟨w.heap.size, 1, none⟩ = some (.int .i64 o.n) := by rw [Lib.cell_of_heap hbox]; rfl
  have c2 : W.cell? ⟨w.heap.size, 2, none⟩ = some (.string o.text) := by rw [Lib.cell_of_heap hbox]; rfl
  have c3 : W.cell? ⟨w.heap.size, 3, none⟩ = some (.slice ar o.attrs.length cr) := by rw [Lib.cell_of_heap hbox]; rfl
  have hbW : b < W.heap.size := lt_of_heap NW
  have hgW : gg < W.heap.size := by obtain ⟨_, cs, hcs⟩ := own_heap PW.len; exact lt_of_heap hcs
  have hxW : w.heap.size < W.heap.size := lt_of_heap hbox
  have i1 : (0 : Int) ≤ (fr.length : Int) := by omega
  have i2 : (fr.length : Int) < (fr.length : Int) + 1 := by omega
  have i3 : decide ((0 : Int) ≤ (fr.length : Int)) = true := decide_eq_true (by omega)
  have HPW := Lib.hid PW
  have HNW := Lib.hid NW
  have HFR := Lib.hid hfr
  have HM := Lib.hid hm
  have HA0 := Lib.hid hA0
  have HH0 := Lib.hid (show Holds8 W B bv0 x.text.data.toList from ⟨(keep_below (B := B) (ts := []) BW hBw).own hH0.1 (by simp), hH0.2⟩)
  have HAL := Lib.hid (fun W' (hb : Below W.heap.size W W') => alike_any (noText x) o (.slice xa (noText x).attrs.length xc) (.slice ar o.attrs.length cr) W' (row_of_own ((keep_below (B := B) (ts := []) hb (Nat.le_trans hBw BW.size)).own (PW.2 (noText x, .slice xa (noText x).attrs.length xc) (by simp)) (by simp))) (hv W' ((BW.mono hBw).trans (hb.mono (Nat.le_trans hBw BW.size)))))
  rw [show alikeB (noText x) o = false from decide_eq_false hal] at HAL
  have HNA := Lib.hid hal
  clear hf hv hW BW hbox hBw hN0 hA0 hP0 hH0 hcase NW PW hfr hal
  go_enter Tryz.func85, Tryz.ntmps85
  go_wp2_with fail
  rw [← HW.out]
  go_wp2_with fail
  go_region_held3 (fun w' => w'.cell? ⟨b, 0, none⟩ = some (.slice (some ⟨gg, 0, none⟩) (fr.length + 1) cap) ∧ w'.cell? ⟨gg, fr.length * 4, none⟩ = some (.int .i64 (noText x).kind) ∧ w'.cell? ⟨gg, fr.length * 4 + 1, none⟩ = some (.int .i64 (noText x).n) ∧ w'.cell? ⟨gg, fr.length * 4 + 2, none⟩ = some (.string (noText x).text) ∧ w'.cell? ⟨gg, fr.length * 4 + 3, none⟩ = some (.slice xa (noText x).attrs.length xc) ∧ w'.cell? ⟨w.heap.size, 0, none⟩ = some (.int .i64 o.kind) ∧ w'.cell? ⟨w.heap.size, 1, none⟩ = some (.int .i64 o.n) ∧ w'.cell? ⟨w.heap.size, 2, none⟩ = some (.string o.text) ∧ w'.cell? ⟨w.heap.size, 3, none⟩ = some (.slice ar o.attrs.length cr))
    (first
      | exact ⟨k0, q0, q1, q2, q3, c0, c1, c2, c3⟩
      | exact ⟨(BB.cell (by exact hbW)).trans k0, (BB.cell (by exact hgW)).trans q0, (BB.cell (by exact hgW)).trans q1, (BB.cell (by exact hgW)).trans q2, (BB.cell (by exact hgW)).trans q3, (BB.cell (by exact hxW)).trans c0, (BB.cell (by exact hxW)).trans c1, (BB.cell (by exact hxW)).trans c2, (BB.cell (by exact hxW)).trans c3⟩)
    (first
      | (go_at_call 77; refine (HAL.out _ (Below.refl _ _).drew).mono ?_; rintro e wB ⟨rfl, hbB⟩; have BB : Below W.heap.size W wB := of_drew hbB))
  have HBB := Lib.hid BB
  have HBX2 := Lib.hid ((BB.block _ hxW).trans HBX.out)
  clear BB hbB k0 q0 q1 q2 q3 c0 c1 c2 c3 p0
  go_wp2_with fail
  refine (finish_any B b _ _ g _ (HS.out.below HBB.out) hB (by have := HF.out.len; omega)).mono ?_
  rintro e w1 ⟨rfl, F1, KF⟩
  have hb1 : w1.heap[w.heap.size]? = some (.cells #[.int .i64 o.kind, .int .i64 o.n, .string o.text, .slice ar o.attrs.length cr] 48 (0, 0)) := (KF.ops _ _ _ HBX2.out HNE.out).1
  have K1 : KeepO B w w1 (.slice (some ⟨gg, 0, none⟩) (fr.length + 1) cap) (.slice (some ⟨gg, 0, none⟩) (fr.length + 1) cap) := (keepO_below (HBW.out.trans (HBB.out.mono HBW.out.size)) HBw.out _).trans KF
  have HK1 := Lib.hid K1
  have HB1 := Lib.hid hb1
  have hs1 : w.heap.size < w1.heap.size := lt_of_heap hb1
  obtain ⟨ps, ad, bv, hN, hA, hP, hH, hps⟩ := F1
  have hpl : ps.length ≤ 4000 := by have h1 := congrArg List.length hps; rw [List.length_map, List.length_reverse] at h1; have := HF.out.len; omega
  have hPL : ps.length = (fr.length + 1) := by
    obtain ⟨a', c', e⟩ := own_slice hP.1
    simp only [Value.slice.injEq] at e
    exact e.2.1.symm
  have HPLN := Lib.hid hPL
  obtain ⟨k0, k1, k2, k3, k4⟩ := hN.cells
  have hbl : b < w1.heap.size := lt_of_heap hN
  have c0 : w1.cell? ⟨w.heap.size, 0, none⟩ = some (.int .i64 o.kind) := by rw [Lib.cell_of_heap hb1]; rfl
  have c1 : w1.cell? ⟨w.heap.size, 1, none⟩ = some (.int .i64 o.n) := by rw [Lib.cell_of_heap hb1]; rfl
  have c3 : w1.cell? ⟨w.heap.size, 3, none⟩ = some (.slice ar o.attrs.length cr) := by rw [Lib.cell_of_heap hb1]; rfl
  obtain ⟨i0, hi, hz0, hz1, hz2⟩ := info_parts infoOp
  have Hi := Lib.hid (And.intro hi (And.intro hz0 (And.intro hz1 hz2)))
  have HN := Lib.hid hN
  have HP := Lib.hid hP
  have HH := Lib.hid hH
  have HA := Lib.hid hA
  have HPS := Lib.hid hps
  have HCL := Lib.hid (fun W' (hb : Below w1.heap.size w1 W') => cloneAttrs_any (.slice ar o.attrs.length cr) o.attrs W' (HV.out W' (K1.keep.below.trans (hb.mono (Nat.le_trans HBw.out K1.keep.below.size)))) HF.out.attrs)
  have HPL := Lib.hid hpl
  have hnb : w.heap.size ≠ b := by
    have := HS.out.lt
    have := HBW.out.size
    exact block_ne hb1 hN (by decide)
  have HNB := Lib.hid hnb
  clear hN hP hH hA hps hPL KF K1 hi hz0 hz1 hz2 k1 k2 k3 k4 hb1 hpl hnb
  go_wp2_with fail
  have S1 : w1.drew.cell? ⟨b, 0, none⟩ = some (.slice (some ⟨gg, 0, none⟩) (fr.length + 1) cap) ∧ w1.drew.cell? ⟨w.heap.size, 0, none⟩ = some (.int .i64 o.kind) ∧ w1.drew.cell? ⟨w.heap.size, 1, none⟩ = some (.int .i64 o.n) ∧ w1.drew.cell? ⟨w.heap.size, 3, none⟩ = some (.slice ar o.attrs.length cr) := ⟨k0, c0, c1, c3⟩
  refine wp_region_B (fun w' => w'.cell? ⟨b, 0, none⟩ = some (.slice (some ⟨gg, 0, none⟩) (fr.length + 1) cap) ∧ w'.cell? ⟨w.heap.size, 0, none⟩ = some (.int .i64 o.kind) ∧ w'.cell? ⟨w.heap.size, 1, none⟩ = some (.int .i64 o.n) ∧ w'.cell? ⟨w.heap.size, 3, none⟩ = some (.slice ar o.attrs.length cr)) [17] (by kernel_rfl) (?_ : wpAnyB _ _ _ _ _ _ 18 (Array.replicate 18 false) _ _)
  refine wpAnyB_free (fuel := 17) (i := 0) (v := ?_) rfl (by kernel_rfl) (by kernel_rfl) (by kernel_rfl) (by kernel_rfl) (fun _ _ _ h => h) (.inr S1) ?_ (by rfl) ?_
  rotate_left
  · intro w'; go_simp; (try with_reducible rfl)
  simp only [Act.put, List.setIfInBounds_toArray]
  refine wpAnyB_free (fuel := 16) (i := 1) (v := ?_) rfl (by kernel_rfl) (by kernel_rfl) (by kernel_rfl) (by kernel_rfl) (fun _ _ _ h => h) (.inr S1) ?_ (by rfl) ?_
  rotate_left
  · intro w'; go_simp; (try with_reducible rfl)
  simp only [Act.put]
  refine wpAnyB_free (fuel := 15) (i := 2) (v := ?_) rfl (by kernel_rfl) (by kernel_rfl) (by kernel_rfl) (by kernel_rfl) (fun _ _ _ h => h) (.inr S1) ?_ (by rfl) ?_
  rotate_left
  · intro w'; go_simp; (try with_reducible rfl)
  simp only [Act.put]
  refine wpAnyB_free (fuel := 14) (i := 3) (v := ?_) rfl (by kernel_rfl) (by kernel_rfl) (by kernel_rfl) (by kernel_rfl) (fun _ _ _ h => h) (.inr S1) ?_ (by rfl) ?_
  rotate_left
  · intro w'; go_simp; (try with_reducible rfl)
  simp only [Act.put]
  refine wpAnyB_load [4,14,17] (fuel := 13) (i := 4) (v := ?_) rfl (by kernel_rfl) (by kernel_rfl) (by kernel_rfl) (by kernel_rfl) (by kernel_rfl) (fun _ _ _ h => h) (.inr S1) ?_ (by rfl) ?_
  rotate_left
  · intro w' hw'; go_simp; (try with_reducible rfl)
  simp only [Act.put]
  refine wpAnyB_free (fuel := 12) (i := 5) (v := ?_) rfl (by kernel_rfl) (by kernel_rfl) (by kernel_rfl) (by kernel_rfl) (fun _ _ _ h => h) (.inr S1) ?_ (by rfl) ?_
  rotate_left
  · intro w'; go_simp; (try with_reducible rfl)
  simp only [Act.put]
  refine wpAnyB_load [6,12,13,14,17] (fuel := 11) (i := 6) (v := ?_) rfl (by kernel_rfl) (by kernel_rfl) (by kernel_rfl) (by kernel_rfl) (by kernel_rfl) (fun _ _ _ h => h) (.inr S1) ?_ (by rfl) ?_
  rotate_left
  · intro w' hw'; go_simp; (try with_reducible rfl)
  simp only [Act.put]
  refine wpAnyB_free (fuel := 10) (i := 7) (v := ?_) rfl (by kernel_rfl) (by kernel_rfl) (by kernel_rfl) (by kernel_rfl) (fun _ _ _ h => h) (.inr S1) ?_ (by rfl) ?_
  rotate_left
  · intro w'; go_simp; (try with_reducible rfl)
  simp only [Act.put]
  refine wpAnyB_load [8,12,13,14,17] (fuel := 9) (i := 8) (v := ?_) rfl (by kernel_rfl) (by kernel_rfl) (by kernel_rfl) (by kernel_rfl) (by kernel_rfl) (fun _ _ _ h => h) (.inr S1) ?_ (by rfl) ?_
  rotate_left
  · intro w' hw'; go_simp; (try with_reducible rfl)
  simp only [Act.put]
  refine wpAnyB_free (fuel := 8) (i := 9) (v := ?_) rfl (by kernel_rfl) (by kernel_rfl) (by kernel_rfl) (by kernel_rfl) (fun _ _ _ h => h) (.inr S1) ?_ (by rfl) ?_
  rotate_left
  · intro w'; go_simp; (try with_reducible rfl)
  simp only [Act.put]
  refine wpAnyB_load [10,11,12,13,14,17] (fuel := 7) (i := 10) (v := ?_) rfl (by kernel_rfl) (by kernel_rfl) (by kernel_rfl) (by kernel_rfl) (by kernel_rfl) (fun _ _ _ h => h) (.inr S1) ?_ (by rfl) ?_
  rotate_left
  · intro w' hw'; go_simp; (try with_reducible rfl)
  simp only [Act.put]
  refine wpAnyB_one (fuel := 6) (i := 11) rfl (by kernel_rfl) ?_
  intro KB hKB
  go_simp
  refine (HCL.out _ (Below.refl _ _).drew).mono ?_
  rintro e wA ⟨vA, rfl, oA, bA⟩
  obtain ⟨aa, ca, rfl⟩ := own_slice oA
  have BA : Below w1.heap.size w1 wA := of_drew bA
  have OA := Lib.hid (own_base oA (show B ≤ w1.drew.heap.size from by have := hbl; show B ≤ w1.heap.size; omega))
  have PA := Lib.hid (HP.out.keep (keep_below (ts := []) BA (Nat.le_refl _)) (by simp) (by simp))
  have NA := Lib.hid (HN.out.keep (keep_below (ts := []) BA (Nat.le_refl _)) (by simp))
  have HA1 := Lib.hid (show Holds8 wA B bv [] from ⟨(keep_below (B := B) (ts := []) BA (by omega)).own HH.out.1 (by simp), HH.out.2⟩)
  have PO := Lib.hid (show wA.ownsRow B 48 4 (.slice (some ⟨gg, 0, none⟩) (fr.length + 1) cap) (fr.length + 1) (flatO ps) from by have := PA.out.1; rwa [HPLN.out] at this)
  have bxA := Lib.hid ((BA.block _ hs1).trans HB1.out)
  have hBA := Lib.hid (show B ≤ wA.heap.size from by have := BA.size; omega)
  have KA := Lib.hid (HK1.out.trans (keepO_below BA (by omega) _))
  have SA : wA.cell? ⟨b, 0, none⟩ = some (.slice (some ⟨gg, 0, none⟩) (fr.length + 1) cap) ∧ wA.cell? ⟨w.heap.size, 0, none⟩ = some (.int .i64 o.kind) ∧ wA.cell? ⟨w.heap.size, 1, none⟩ = some (.int .i64 o.n) ∧ wA.cell? ⟨w.heap.size, 3, none⟩ = some (.slice ar o.attrs.length cr) := ⟨(BA.cell (by exact hbl)).trans k0, (BA.cell (by exact hs1)).trans c0, (BA.cell (by exact hs1)).trans c1, (BA.cell (by exact hs1)).trans c3⟩
  have AC := Below.alloc (Below.refl wA.heap.size wA) (Nat.le_refl _) (Obj.cells #[.int .i64 o.kind, .int .i64 o.n, .string ⟨#[]⟩, .slice aa o.attrs.length ca] 48)
  have HAC := Lib.hid AC
  have lA := Nat.lt_of_lt_of_le hbl BA.size
  have lA2 := Nat.lt_of_lt_of_le hs1 BA.size
  have SB : (wA.alloc (Obj.cells #[.int .i64 o.kind, .int .i64 o.n, .string ⟨#[]⟩, .slice aa o.attrs.length ca] 48)).cell? ⟨b, 0, none⟩ = some (.slice (some ⟨gg, 0, none⟩) (fr.length + 1) cap) ∧ (wA.alloc (Obj.cells #[.int .i64 o.kind, .int .i64 o.n, .string ⟨#[]⟩, .slice aa o.attrs.length ca] 48)).cell? ⟨w.heap.size, 0, none⟩ = some (.int .i64 o.kind) ∧ (wA.alloc (Obj.cells #[.int .i64 o.kind, .int .i64 o.n, .string ⟨#[]⟩, .slice aa o.attrs.length ca] 48)).cell? ⟨w.heap.size, 1, none⟩ = some (.int .i64 o.n) ∧ (wA.alloc (Obj.cells #[.int .i64 o.kind, .int .i64 o.n, .string ⟨#[]⟩, .slice aa o.attrs.length ca] 48)).cell? ⟨w.heap.size, 3, none⟩ = some (.slice ar o.attrs.length cr) := ⟨(AC.cell (by exact lA)).trans SA.1, (AC.cell (by exact lA2)).trans SA.2.1, (AC.cell (by exact lA2)).trans SA.2.2.1, (AC.cell (by exact lA2)).trans SA.2.2.2⟩
  have HSA := Lib.hid SA
  have HSB := Lib.hid SB
  clear oA bA BA SA SB AC
  refine hKB _ _ (.inr HSA.out) ?_
  try simp only [Act.put, List.setIfInBounds_toArray, List.set_cons_zero, List.set_cons_succ]
  refine wpAnyB_free (fuel := 5) (i := 12) (v := ?_) rfl (by kernel_rfl) (by kernel_rfl) (by kernel_rfl) (by kernel_rfl) (fun _ _ _ h => h) (.inr HSA.out) ?_ (by rfl) ?_
  rotate_left
  · intro w'; go_simp; (try with_reducible rfl)
  simp only [Act.put, List.setIfInBounds_toArray]
  refine wpAnyB_one (fuel := 4) (i := 13) rfl (by kernel_rfl) ?_
  intro KB hKB
  go_simp
  refine hKB _ _ (.inr HSB.out) ?_
  try simp only [Act.put, List.setIfInBounds_toArray, List.set_cons_zero, List.set_cons_succ]
  refine wpAnyB_one (fuel := 3) (i := 14) rfl (by kernel_rfl) ?_
  intro KB hKB
  refine step_append_new rfl (.tmp 43) (.tmp 52) 22 rfl 48 i0 (.agg #[.int .i64 0, .int .i64 0, .string ⟨#[]⟩, .slice none 0 0]) 4 56 Tryz.underlying22 Hi.out.1 Hi.out.2.1 Hi.out.2.2.1 Hi.out.2.2.2 rfl (by decide) B (.slice (some ⟨gg, 0, none⟩) (fr.length + 1) cap) (fr.length + 1) (flatO ps) rfl (PO.out.alloc _) ⟨wA.heap.size, 0, none⟩ 1 1 [.int .i64 o.kind, .int .i64 o.n, .string ⟨#[]⟩, .slice aa o.attrs.length ca] rfl rfl (new_at4 _ _ _ _ _ _) (fun u hu => by simp at hu; rcases hu with rfl | rfl | rfl | rfl <;> rfl) (by unfold maxLen; have := HPL.out; have := HPLN.out; omega) (by have := HPL.out; have := HPLN.out; omega) (by have := hBA.out; simp; omega) ?_
  intro v' wC oC gC nC
  obtain ⟨oa', oc', rfl⟩ := own_slice oC
  have KC1 := keepO_below (B := B) HAC.out hBA.out (.slice (some ⟨gg, 0, none⟩) (fr.length + 1) cap)
  have KC2 := keepO_grown (PO.out.alloc _) gC (by have := hBA.out; simp; omega) nC
  have NC : NBlk wC b _ _ _ g := (NA.out.keep (keep_below (ts := []) HAC.out (Nat.le_refl _)) (by simp)).keep (ts := [48]) (keep_row (PO.out.alloc _) gC (by simp) (by have := hBA.out; simp; omega)) (by decide)
  have bC := (KC2.ops w.heap.size _ _ ((HAC.out.block _ (lt_of_heap bxA.out)).trans bxA.out) HNE.out).1
  obtain ⟨kC, _, _, _, fC⟩ := NC.cells
  have fC0 := fC 0
  have SC : wC.cell? ⟨b, 0, none⟩ = some (.slice (some ⟨gg, 0, none⟩) (fr.length + 1) cap) ∧ wC.cell? ⟨w.heap.size, 0, none⟩ = some (.int .i64 o.kind) ∧ wC.cell? ⟨w.heap.size, 1, none⟩ = some (.int .i64 o.n) ∧ wC.cell? ⟨w.heap.size, 3, none⟩ = some (.slice ar o.attrs.length cr) := ⟨kC, by rw [Lib.cell_of_heap bC]; rfl, by rw [Lib.cell_of_heap bC]; rfl, by rw [Lib.cell_of_heap bC]; rfl⟩
  have HSC := Lib.hid SC
  have HNC := Lib.hid NC
  have HOC := Lib.hid oC
  have HBC := Lib.hid bC
  have HKC := Lib.hid (KA.out.trans (KC1.trans KC2))
  have HKC2 := Lib.hid (KC1.trans KC2)
  clear oC gC nC KC1 KC2 NC fC SC bC
  refine hKB _ _ (.inr HSC.out) ?_
  try simp only [Act.put, List.setIfInBounds_toArray]
  refine wpAnyB_free (fuel := 2) (i := 15) (v := ?_) rfl (by kernel_rfl) (by kernel_rfl) (by kernel_rfl) (by kernel_rfl) (fun _ _ _ h => h) (.inr HSC.out) ?_ (by rfl) ?_
  rotate_left
  · intro w'; go_simp; (try with_reducible rfl)
  simp only [Act.put]
  refine wpAnyB_free (fuel := 1) (i := 16) (v := ?_) rfl (by kernel_rfl) (by kernel_rfl) (by kernel_rfl) (by kernel_rfl) (fun _ _ _ h => h) (.inr HSC.out) ?_ (by rfl) ?_
  rotate_left
  · intro w'; go_simp; (try with_reducible rfl)
  simp only [Act.put]
  refine wpAnyB_one (fuel := 0) (i := 17) rfl (by kernel_rfl) ?_
  intro KB hKB
  go_simp
  refine hKB _ _ (.inl (by kernel_rfl)) ?_
  try simp only [Act.put, List.setIfInBounds_toArray, List.set_cons_zero, List.set_cons_succ]
  refine wpAnyB_done (by kernel_rfl) ?_
  have KD1 : Keep B [89] wC (wC.setCell ⟨b, 0, none⟩ (.slice oa' ((fr.length + 1) + 1) oc')) := keep_set HNC.out (by simp) hB _ rfl _
  have KAD : Keep B TS wA (wC.setCell ⟨b, 0, none⟩ (.slice oa' ((fr.length + 1) + 1) oc')) := HKC2.out.keep.trans (KD1.more (by simp))
  have OD : OwnP (wC.setCell ⟨b, 0, none⟩ (.slice oa' ((fr.length + 1) + 1) oc')) B (.slice oa' ((fr.length + 1) + 1) oc') (ps ++ [(noText o, .slice aa o.attrs.length ca)]) := ownP_mk (by have h1 := KD1.own HOC.out (by decide); rw [HPLN.out, flatO_snoc]; exact h1) (fun q hq => KAD.own (PA.out.2 q hq) (by decide)) (KAD.own OA.out (by decide))
  have ND : NBlk (wC.setCell ⟨b, 0, none⟩ (.slice oa' ((fr.length + 1) + 1) oc')) b (.slice oa' ((fr.length + 1) + 1) oc') ad bv g := HNC.out.set0
  have KD : KeepO B w (wC.setCell ⟨b, 0, none⟩ (.slice oa' ((fr.length + 1) + 1) oc')) (.slice (some ⟨gg, 0, none⟩) (fr.length + 1) cap) (.slice oa' ((fr.length + 1) + 1) oc') := HKC.out.trans (keepO_of KD1 (by simp) (by decide) _)
  have bD : (wC.setCell ⟨b, 0, none⟩ (.slice oa' ((fr.length + 1) + 1) oc')).heap[w.heap.size]? = _ := KD1.kept _ _ _ _ HBC.out (by decide)
  have HD : Holds8 (wC.setCell ⟨b, 0, none⟩ (.slice oa' ((fr.length + 1) + 1) oc')) B bv [] := by rw [HH.out.2 rfl]; exact holds8_nil _ _
  obtain ⟨wD, hwD⟩ : ∃ wD, wD = wC.setCell ⟨b, 0, none⟩ (.slice oa' ((fr.length + 1) + 1) oc') := ⟨_, rfl⟩
  change (Exit.then _ _) _ _ (wC.setCell ⟨b, 0, none⟩ (.slice oa' ((fr.length + 1) + 1) oc'))
  rw [← hwD] at OD ND KD bD HD ⊢
  have HOD := Lib.hid OD
  have HND := Lib.hid ND
  have HKD := Lib.hid KD
  have HHD := Lib.hid HD
  have HbD := Lib.hid bD
  have c2 : wD.cell? ⟨w.heap.size, 2, none⟩ = some (.string o.text) := by rw [Lib.cell_of_heap bD]; rfl
  clear OD ND KD bD HD KD1 KAD hwD S1
  go_wp2_with fail
  go_region_held3 (fun w' => w'.cell? ⟨w.heap.size, 2, none⟩ = some (.string o.text))
    (first
      | exact c2
      | exact cE)
    (first
      | (go_at_call 30; refine (writeString_any B b _ ad bv g [] o.text _ (by exact HND.out) HA.out hB (by exact HHD.out) (by have := HF.out.text; simp; omega)).mono ?_; rintro e wE ⟨⟨nE, rfl⟩, ⟨bE, NE, HE⟩, KE⟩; have kbE := KE.kept (w := wD.drew) _ _ _ _ HbD.out (by decide); have cE : wE.cell? ⟨w.heap.size, 2, none⟩ = some (.string o.text) := by rw [Lib.cell_of_heap kbE]; rfl))
  have KE2 : Keep B [89, 5] wD wE := of_drewK KE
  have OE := HOD.out.keep KE2 (by decide) (by decide)
  have FIN : ∃ ov', NSt wE B b ov' (put (x :: r) o) g ∧ KeepO B w wE (.slice (some ⟨gg, 0, none⟩) (fr.length + 1) cap) ov' := by
    rw [show put (x :: r) o = o :: (x :: r) from put_fresh fun y s e => by simp only [List.cons.injEq] at e; obtain ⟨rfl, rfl⟩ := e; exact HNA.out]
    exact ⟨_, ⟨_, _, _, _, NE, .inr rfl, OE, HE, .inr ⟨o, (x :: r), ps, _, rfl, rfl, HPS.out, rfl⟩⟩, HKD.out.trans (keepO_of KE2 (by simp) (by decide) _)⟩
  have HFIN := Lib.hid FIN
  clear FIN OE KE2 KE kbE cE NE HE
  go_wp2_with fail
  go_end0
  exact ⟨rfl, HFIN.out⟩
end Go.Proofs.YtacgkbdldbppjaaGreatDoor

/- put as one with the last -/
namespace Go.Proofs.YtacgkbdldbppjaaGreatDoor
open Go.RowKit Ch

set_option maxHeartbeats 4000000 in
set_option maxRecDepth 100000 in
theorem put_alike (B b : Nat) (ov : Value) (l : List OpD) (g : Int) (o : OpD) (av : Value) (w : World) (h : NSt w B b ov l g) (hB : B ≤ b) (hf : Fits l o) (hv : ∀ w', Below B w w' → AtRow w' av o.attrs) (x : OpD) (r : List OpD) (hl : l = x :: r) (hal : x.kind = o.kind ∧ x.attrs = o.attrs) :
    Calls Tryz.prog 85 #[.pointer (some ⟨b, 0, none⟩), opAgg o av] w (PutOut w B b ov l o g) := by
  have hBw : B ≤ w.heap.size := Nat.le_trans hB (Nat.le_of_lt h.lt)
  obtain ⟨ar, cr, rfl⟩ := (hv w (Below.refl _ _)).shape
  obtain ⟨W, hW⟩ : ∃ W, W = w.alloc (.cells #[.int .i64 o.kind, .int .i64 o.n, .string o.text, .slice ar o.attrs.length cr] 48) := ⟨_, rfl⟩
  have BW : Below w.heap.size w W := by rw [hW]; exact below_box _ _
  have HBW := Lib.hid BW
  have hbox : W.heap[w.heap.size]? = some (.cells #[.int .i64 o.kind, .int .i64 o.n, .string o.text, .slice ar o.attrs.length cr] 48 (0, 0)) := by rw [hW]; exact heap_new _ _
  have HBX := Lib.hid hbox
  have HNE := Lib.hid (show ov.ownBlock ≠ some w.heap.size from fun e => by have := h.ov_lt _ e; omega)
  have HS := Lib.hid (h.below BW)
  have HV := Lib.hid hv
  have HF := Lib.hid hf
  have HW := Lib.hid hW
  have HBw := Lib.hid hBw
  obtain ⟨ps0, ad0, bv0, bt0, hN0, hA0, hP0, hH0, hcase⟩ := h
  have hblw := lt_of_heap hN0
  obtain ⟨fr, xv, rfl, hfr, rfl⟩ : ∃ fr xv, ps0 = fr ++ [(noText x, xv)] ∧ fr.map (·.1) = r.reverse ∧ bt0 = x.text.data.toList := by
    rcases hcase with ⟨h, _⟩ | ⟨x', r', fr, xv, h, h2, h3, h4⟩
    · rw [hl] at h; cases h
    · rw [hl] at h
      simp only [List.cons.injEq] at h
      obtain ⟨rfl, rfl⟩ := h
      exact ⟨fr, xv, h2, h3, h4⟩
  subst hl
  obtain ⟨gg, cap, hov⟩ := ownsRow_open hP0.len (Nat.succ_pos _)
  subst hov
  obtain ⟨xa, xc, hxv⟩ : ∃ a c, xv = .slice a (noText x).attrs.length c := own_slice (hP0.2 (noText x, xv) (by simp))
  subst hxv
  have p0 : w.cell? ⟨b, 0, none⟩ = some (.slice (some ⟨gg, 0, none⟩) (fr.length + 1) cap) := hN0.cells.1
  have hm : fr.length ≤ 4000 := by
    have h1 := congrArg List.length hfr
    rw [List.length_map, List.length_reverse] at h1
    have := hf.len
    rw [List.length_cons] at this
    omega
  have NW : NBlk W b _ ad0 bv0 g := hN0.keep (keep_below (ts := []) BW (Nat.le_refl _)) (by simp)
  have PW := hP0.keep (keep_below (ts := []) BW (Nat.le_refl _)) (by simp) (by simp)
  have k0 : W.cell? ⟨b, 0, none⟩ = some (.slice (some ⟨gg, 0, none⟩) (fr.length + 1) cap) := NW.cells.1
  obtain ⟨q0, q1, q2, q3⟩ := last_cells PW.len
  have c0 : W.cell? ⟨w.heap.size, 0, none⟩ = some (.int .i64 o.kind) := by rw [Lib.cell_of_heap hbox]; rfl
  have c1 : W.cell? ⟨w.heap.size, 1, none⟩ = some (.int .i64 o.n) := by rw [Lib.cell_of_heap hbox]; rfl
  have c2 : W.cell? ⟨w.heap.size, 2, none⟩ = some (.string o.text) := by rw [Lib.cell_of_heap hbox]; rfl
  have c3 : W.cell? ⟨w.heap.size, 3, none⟩ = some (.slice ar o.attrs.length cr) := by rw [Lib.cell_of_heap hbox]; rfl
  have hbW : b < W.heap.size := lt_of_heap NW
  have hgW : gg < W.heap.size := by obtain ⟨_, cs, hcs⟩ := own_heap PW.len; exact lt_of_heap hcs
  have hxW : w.heap.size < W.heap.size := lt_of_heap hbox
  have i1 : (0 : Int) ≤ (fr.length : Int) := by omega
  have i2 : (fr.length : Int) < (fr.length : Int) + 1 := by omega
  have i3 : decide ((0 : Int) ≤ (fr.length : Int)) = true := decide_eq_true (by omega)
  have HPW := Lib.hid PW
  have HNW := Lib.hid NW
  have HFR := Lib.hid hfr
  have HM := Lib.hid hm
  have HA0 := Lib.hid hA0
  have HH0 := Lib.hid (show Holds8 W B bv0 x.text.data.toList from ⟨(keep_below (B := B) (ts := []) BW hBw).own hH0.1 (by simp), hH0.2⟩)
  have HAL := Lib.hid (fun W' (hb : Below W.heap.size W W') => alike_any (noText x) o (.slice xa (noText x).attrs.length xc) (.slice ar o.attrs.length cr) W' (row_of_own ((keep_below (B := B) (ts := []) hb (Nat.le_trans hBw BW.size)).own (PW.2 (noText x, .slice xa (noText x).attrs.length xc) (by simp)) (by simp))) (hv W' ((BW.mono hBw).trans (hb.mono (Nat.le_trans hBw BW.size)))))
  rw [show alikeB (noText x) o = true from decide_eq_true hal] at HAL
  have HNA := Lib.hid hal
  clear hf hv hW BW hbox hBw hN0 hA0 hP0 hH0 hcase NW PW hfr hal
  go_enter Tryz.func85, Tryz.ntmps85
  go_wp2_with fail
  rw [← HW.out]
  go_wp2_with fail
  go_region_held3 (fun w' => w'.cell? ⟨b, 0, none⟩ = some (.slice (some ⟨gg, 0, none⟩) (fr.length + 1) cap) ∧ w'.cell? ⟨gg, fr.length * 4, none⟩ = some (.int .i64 (noText x).kind) ∧ w'.cell? ⟨gg, fr.length * 4 + 1, none⟩ = some (.int .i64 (noText x).n) ∧ w'.cell? ⟨gg, fr.length * 4 + 2, none⟩ = some (.string (noText x).text) ∧ w'.cell? ⟨gg, fr.length * 4 + 3, none⟩ = some (.slice xa (noText x).attrs.length xc) ∧ w'.cell? ⟨w.heap.size, 0, none⟩ = some (.int .i64 o.kind) ∧ w'.cell? ⟨w.heap.size, 1, none⟩ = some (.int .i64 o.n) ∧ w'.cell? ⟨w.heap.size, 2, none⟩ = some (.string o.text) ∧ w'.cell? ⟨w.heap.size, 3, none⟩ = some (.slice ar o.attrs.length cr))
    (first
      | exact ⟨k0, q0, q1, q2, q3, c0, c1, c2, c3⟩
      | exact ⟨(BB.cell (by exact hbW)).trans k0, (BB.cell (by exact hgW)).trans q0, (BB.cell (by exact hgW)).trans q1, (BB.cell (by exact hgW)).trans q2, (BB.cell (by exact hgW)).trans q3, (BB.cell (by exact hxW)).trans c0, (BB.cell (by exact hxW)).trans c1, (BB.cell (by exact hxW)).trans c2, (BB.cell (by exact hxW)).trans c3⟩)
    (first
      | (go_at_call 77; refine (HAL.out _ (Below.refl _ _).drew).mono ?_; rintro e wB ⟨rfl, hbB⟩; have BB : Below W.heap.size W wB := of_drew hbB))
  have HBB := Lib.hid BB
  have HBX2 := Lib.hid ((BB.block _ hxW).trans HBX.out)
  have kB : wB.cell? ⟨b, 0, none⟩ = some (.slice (some ⟨gg, 0, none⟩) (fr.length + 1) cap) := (BB.cell (by exact hbW)).trans k0
  have qB : wB.cell? ⟨gg, fr.length * 4 + 1, none⟩ = some (.int .i64 (noText x).n) := (BB.cell (by exact hgW)).trans q1
  have cB : wB.cell? ⟨w.heap.size, 1, none⟩ = some (.int .i64 o.n) := (BB.cell (by exact hxW)).trans c1
  have PB := HPW.out.keep (keep_below (ts := []) BB (Nat.le_refl _)) (by simp) (by simp)
  have NB := HNW.out.keep (keep_below (ts := []) BB (Nat.le_refl _)) (by simp)
  have HB8 := Lib.hid (show Holds8 wB B bv0 x.text.data.toList from ⟨(keep_below (B := B) (ts := []) BB (Nat.le_trans HBw.out HBW.out.size)).own HH0.out.1 (by simp), HH0.out.2⟩)
  have fB : wB.frozen? ⟨gg, fr.length * 4 + 1, none⟩ = false := PB.len.frozenAt _
  have hwr : IntKind.i64.wrap ((noText x).n + o.n) = (noText x).n + o.n := by
    have h1 := HF.out.last x r rfl
    have h2 := HF.out.n0
    have h3 := HF.out.n1
    have h4 : (noText x).n = x.n := rfl
    exact IntWalk.i64_in _ (by omega)
  have HPB := Lib.hid PB
  have HNB := Lib.hid NB
  clear BB hbB k0 q0 q1 q2 q3 c0 c1 c2 c3 p0 PB NB
  go_wp2_with fail
  go_region
  obtain ⟨P1, K1⟩ := OwnP.setLast (y := noText { x with n := x.n + o.n, text := cat x.text o.text }) HPB.out 1 (.int .i64 ((noText x).n + o.n)) rfl rfl
  have KS : Keep B [48] wB (wB.setCell ⟨gg, fr.length * 4 + 1, none⟩ (.int .i64 ((noText x).n + o.n))) := keep_set (own_heap HPB.out.len).2.choose_spec (by simp) (own_heap HPB.out.len).1 ⟨gg, fr.length * 4 + 1, none⟩ rfl _
  have N1 := HNB.out.keep KS (by decide)
  have hgx : gg ≠ w.heap.size := fun e => HNE.out (by rw [e]; rfl)
  have b1 : (wB.setCell ⟨gg, fr.length * 4 + 1, none⟩ (.int .i64 ((noText x).n + o.n))).heap[w.heap.size]? = _ := (Below.heap_setCell _ _ _ _ (fun e => hgx e.symm)).trans HBX2.out
  have H1 : Holds8 (wB.setCell ⟨gg, fr.length * 4 + 1, none⟩ (.int .i64 ((noText x).n + o.n))) B bv0 x.text.data.toList := ⟨KS.own HB8.out.1 (by decide), HB8.out.2⟩
  have K2 : KeepO B w (wB.setCell ⟨gg, fr.length * 4 + 1, none⟩ (.int .i64 ((noText x).n + o.n))) (.slice (some ⟨gg, 0, none⟩) (fr.length + 1) cap) (.slice (some ⟨gg, 0, none⟩) (fr.length + 1) cap) := (keepO_below (HBW.out.trans (HBB.out.mono HBW.out.size)) HBw.out _).trans K1
  obtain ⟨wS, hwS⟩ : ∃ wS, wS = wB.setCell ⟨gg, fr.length * 4 + 1, none⟩ (.int .i64 ((noText x).n + o.n)) := ⟨_, rfl⟩
  rw [← hwS] at P1 N1 b1 H1 K2 ⊢
  have HP1 := Lib.hid P1
  have HN1 := Lib.hid N1
  have HH1 := Lib.hid H1
  have HK2 := Lib.hid K2
  have HB1 := Lib.hid b1
  have c2 : wS.cell? ⟨w.heap.size, 2, none⟩ = some (.string o.text) := by rw [Lib.cell_of_heap b1]; rfl
  clear P1 N1 H1 K2 KS K1 b1 hwS hgx kB qB cB fB hwr
  go_wp2_with fail
  go_region_held3 (fun w' => w'.cell? ⟨w.heap.size, 2, none⟩ = some (.string o.text))
    (first
      | exact c2
      | exact cE)
    (first
      | (go_at_call 30; refine (writeString_any B b _ ad0 bv0 g x.text.data.toList o.text _ (by exact HN1.out) HA0.out hB (by exact HH1.out) (by have h1 := HF.out.text; have h2 := (HF.out.last x r rfl).2.2; have h3 : x.text.data.toList.length = x.text.size := rfl; omega)).mono ?_; rintro e wE ⟨⟨nE, rfl⟩, ⟨bE, NE, HE⟩, KE⟩; have kbE := KE.kept (w := wS.drew.drew) _ _ _ _ HB1.out (by decide); have cE : wE.cell? ⟨w.heap.size, 2, none⟩ = some (.string o.text) := by rw [Lib.cell_of_heap kbE]; rfl))
  have KE2 : Keep B [89, 5] wS wE := of_drewK (of_drewK KE)
  have OE := HP1.out.keep KE2 (by decide) (by decide)
  have FIN : ∃ ov', NSt wE B b ov' (put (x :: r) o) g ∧ KeepO B w wE (.slice (some ⟨gg, 0, none⟩) (fr.length + 1) cap) ov' := by
    rw [show put (x :: r) o = { x with n := x.n + o.n, text := cat x.text o.text } :: r by rw [put, if_pos HNA.out]]
    exact ⟨_, ⟨_, _, _, _, NE, .inr rfl, OE, HE, .inr ⟨{ x with n := x.n + o.n, text := cat x.text o.text }, r, fr, _, rfl, rfl, HFR.out, rfl⟩⟩, HK2.out.trans (keepO_of KE2 (by simp) (by decide) _)⟩
  have HFIN := Lib.hid FIN
  clear FIN OE KE2 KE kbE cE NE HE c2
  go_wp2_with fail
  go_end0
  exact ⟨rfl, HFIN.out⟩
end Go.Proofs.YtacgkbdldbppjaaGreatDoor

/- The program's deleted and add. -/
namespace Go.Proofs.YtacgkbdldbppjaaGreatDoor
open Go.RowKit Ch

theorem put_any (B b : Nat) (ov : Value) (l : List OpD) (g : Int) (o : OpD) (av : Value) (w : World) (h : NSt w B b ov l g) (hB : B ≤ b) (hf : Fits l o) (hv : ∀ w', Below B w w' → AtRow w' av o.attrs) :
    Calls Tryz.prog 85 #[.pointer (some ⟨b, 0, none⟩), opAgg o av] w (PutOut w B b ov l o g) := by
  cases l with
  | nil => exact put_empty B b ov [] g o av w h hB hf hv rfl
  | cons x r =>
    by_cases hal : x.kind = o.kind ∧ x.attrs = o.attrs
    · exact put_alike B b ov (x :: r) g o av w h hB hf hv x r rfl hal
    · exact put_other B b ov (x :: r) g o av w h hB hf hv x r rfl hal

theorem NSt.cell3 {w : World} {B b : Nat} {ov : Value} {l : List OpD} {g : Int} (h : NSt w B b ov l g) : w.cell? ⟨b, 3, none⟩ = some (.int .i64 g) ∧ w.frozen? ⟨b, 3, none⟩ = false := by
  obtain ⟨_, _, _, _, hN, _⟩ := h
  exact ⟨hN.cells.2.2.2.1, hN.cells.2.2.2.2 3⟩
theorem NSt.setG {w : World} {B b : Nat} {ov : Value} {l : List OpD} {g : Int} (h : NSt w B b ov l g) (hB : B ≤ b) (k : Int) : NSt (w.setCell ⟨b, 3, none⟩ (.int .i64 k)) B b ov l k ∧ KeepO B w (w.setCell ⟨b, 3, none⟩ (.int .i64 k)) ov ov := by
  obtain ⟨ps, ad, bv, bt, h1, h2, h3, h4, h5⟩ := h
  have hk : Keep B [89] w (w.setCell ⟨b, 3, none⟩ (.int .i64 k)) := keep_set h1 (by simp) hB _ rfl _
  exact ⟨⟨ps, ad, bv, bt, h1.set3, h2, h3.keep hk (by decide) (by decide), ⟨hk.own h4.1 (by decide), h4.2⟩, h5⟩, keepO_of hk (by simp) (by decide) _⟩
theorem NSt.drew {w : World} {B b : Nat} {ov : Value} {l : List OpD} {g : Int} (h : NSt w B b ov l g) : NSt w.drew B b ov l g := h
theorem KeepO.of_drew {B : Nat} {a w : World} {u v : Value} (h : KeepO B a.drew w u v) : KeepO B a w u v := ⟨of_drewK h.keep, h.ops⟩

def DelOut (w : World) (B b : Nat) (ov : Value) (l : List OpD) (g : Int) (e : Ending) (w' : World) : Prop := e = .returned (.tuple #[]) ∧ ∃ ov', NSt w' B b ov' (flush (l, g)) 0 ∧ KeepO B w w' ov ov'

set_option maxHeartbeats 2000000 in
set_option maxRecDepth 100000 in
theorem deleted_any (B b : Nat) (ov : Value) (l : List OpD) (g : Int) (w : World) (h : NSt w B b ov l g) (hB : B ≤ b) (hg : 0 ≤ g) (hf : Fits l (delO g)) :
    Calls Tryz.prog 84 #[.pointer (some ⟨b, 0, none⟩)] w (DelOut w B b ov l g) := by
  have c3 := h.cell3.1
  have HS := Lib.hid h
  have HF := Lib.hid hf
  have hBw := Lib.hid (show B ≤ w.heap.size from Nat.le_trans hB (Nat.le_of_lt h.lt))
  by_cases hp : 0 < g
  · have hfl : flush (l, g) = put l (delO g) := by unfold flush; rw [if_pos (by exact hp)]
    have HP := Lib.hid (fun W (hW : NSt W B b ov l g) => put_any B b ov l g (delO g) (.slice none 0 0) W hW hB hf (fun w' _ => ⟨none, 0, rfl, Nat.le_refl _, Nat.zero_le _, fun i hi => absurd hi (Nat.not_lt_zero _)⟩))
    have HFL := Lib.hid hfl
    clear h hf hfl
    go_enter Tryz.func84, Tryz.ntmps84
    go_wp2_with fail
    go_region_held3 (fun w' => w'.cell? ⟨b, 3, none⟩ = some (.int .i64 g))
      (first
        | exact c3
        | exact c3A)
      (first
        | (go_at_call 85; refine (HP.out _ (by exact HS.out)).mono ?_; rintro e wA ⟨rfl, ovA, NA, KA⟩; have c3A := NA.cell3.1))
    obtain ⟨N2, K2⟩ := NA.setG hB 0
    have f3 := NA.cell3.2
    have FIN : ∃ ov', NSt (wA.setCell ⟨b, 3, none⟩ (.int .i64 0)) B b ov' (flush (l, g)) 0 ∧ KeepO B w (wA.setCell ⟨b, 3, none⟩ (.int .i64 0)) ov ov' := ⟨ovA, by rw [HFL.out]; exact N2, (KeepO.of_drew KA).trans K2⟩
    have HFIN := Lib.hid FIN
    clear N2 K2 FIN KA NA
    go_wp2_with fail
    go_end0
    exact ⟨rfl, HFIN.out⟩
  · have hg0 : g = 0 := by omega
    subst hg0
    have hfl : flush (l, 0) = l := by unfold flush; rw [if_neg (by show ¬ (0 : Int) < 0; omega)]
    have FIN : ∃ ov', NSt w B b ov' (flush (l, 0)) 0 ∧ KeepO B w w ov ov' := ⟨ov, by rw [hfl]; exact h, keepO_below (Below.refl _ _) hBw.out _⟩
    have HFIN := Lib.hid FIN
    clear h hf hfl FIN hp hg
    go_enter Tryz.func84, Tryz.ntmps84
    go_wp2_with fail
    go_end0
    exact ⟨rfl, HFIN.out⟩

/-- What an add asks of the state and of the operation. -/
structure FitsS (s : List OpD × Int) (o : OpD) : Prop where
  g0 : 0 ≤ s.2
  g1 : s.2 ≤ 536870912
  del : Fits s.1 (delO s.2)
  ins : Fits s.1 o
  keep : Fits (flush s) o
  o1 : o.n ≤ 536870912
def AddOut (w : World) (B b : Nat) (ov : Value) (s : List OpD × Int) (o : OpD) (e : Ending) (w' : World) : Prop := e = .returned (.tuple #[]) ∧ ∃ ov', NSt w' B b ov' (Ch.add s o).1 (Ch.add s o).2 ∧ KeepO B w w' ov ov'

set_option maxHeartbeats 4000000 in
set_option maxRecDepth 100000 in
theorem add_any (B b : Nat) (ov : Value) (s : List OpD × Int) (o : OpD) (av : Value) (w : World) (h : NSt w B b ov s.1 s.2) (hB : B ≤ b) (hf : FitsS s o) (hv : ∀ w', Below B w w' → AtRow w' av o.attrs) :
    Calls Tryz.prog 56 #[.pointer (some ⟨b, 0, none⟩), opAgg o av] w (AddOut w B b ov s o) := by
  obtain ⟨l, g⟩ := s
  have hBw : B ≤ w.heap.size := Nat.le_trans hB (Nat.le_of_lt h.lt)
  obtain ⟨ar, cr, rfl⟩ := (hv w (Below.refl _ _)).shape
  obtain ⟨W, hW⟩ : ∃ W, W = w.alloc (.cells #[.int .i64 o.kind, .int .i64 o.n, .string o.text, .slice ar o.attrs.length cr] 48) := ⟨_, rfl⟩
  have BW : Below w.heap.size w W := by rw [hW]; exact below_box _ _
  have hbox : W.heap[w.heap.size]? = some (.cells #[.int .i64 o.kind, .int .i64 o.n, .string o.text, .slice ar o.attrs.length cr] 48 (0, 0)) := by rw [hW]; exact heap_new _ _
  have HNE := Lib.hid (show ov.ownBlock ≠ some w.heap.size from fun e => by have := h.ov_lt _ e; omega)
  have HBX := Lib.hid hbox
  have HBW := Lib.hid BW
  have HS := Lib.hid (h.below BW)
  have HV := Lib.hid hv
  have HF := Lib.hid hf
  have HW := Lib.hid hW
  have HBw := Lib.hid hBw
  have hblw := h.lt
  have p3 := h.cell3.1
  have k3 := HS.out.cell3.1
  have f3 := HS.out.cell3.2
  have c0 : W.cell? ⟨w.heap.size, 0, none⟩ = some (.int .i64 o.kind) := by rw [Lib.cell_of_heap hbox]; rfl
  have c1 : W.cell? ⟨w.heap.size, 1, none⟩ = some (.int .i64 o.n) := by rw [Lib.cell_of_heap hbox]; rfl
  have c2 : W.cell? ⟨w.heap.size, 2, none⟩ = some (.string o.text) := by rw [Lib.cell_of_heap hbox]; rfl
  have c3 : W.cell? ⟨w.heap.size, 3, none⟩ = some (.slice ar o.attrs.length cr) := by rw [Lib.cell_of_heap hbox]; rfl
  by_cases hk3 : o.kind = 3
  · have t3 : (o.kind == 3) = true := by rw [hk3]; rfl
    have hR : add (l, g) o = (l, g + o.n) := by unfold add; rw [if_pos hk3]
    have hwr : IntKind.i64.wrap (g + o.n) = g + o.n := by
      have h1 := hf.g0
      have h2 := hf.g1
      have h3 := hf.o1
      have h4 := hf.ins.n0
      exact IntWalk.i64_in _ (by simp only at h1 h2; omega)
    obtain ⟨N2, K2⟩ := HS.out.setG hB (g + o.n)
    have FIN : ∃ ov', NSt (W.setCell ⟨b, 3, none⟩ (.int .i64 (g + o.n))) B b ov' (add (l, g) o).1 (add (l, g) o).2 ∧ KeepO B w (W.setCell ⟨b, 3, none⟩ (.int .i64 (g + o.n))) ov ov' := ⟨ov, by rw [hR]; exact N2, (keepO_below BW hBw _).trans K2⟩
    have HFIN := Lib.hid FIN
    clear h hf hv hW BW hbox hBw hk3 hR N2 K2 FIN
    go_enter Tryz.func56, Tryz.ntmps56
    go_wp2_with fail
    rw [← HW.out]
    go_wp2_with fail
    go_region
    go_wp2_with fail
    go_end0
    obtain ⟨ov', a1, a2⟩ := HFIN.out
    exact ⟨rfl, ov', a1, ⟨a2.keep.drew, a2.ops⟩⟩
  · have t3 : (o.kind == 3) = false := by rw [beq_eq_false_iff_ne]; exact hk3
    by_cases hk1 : o.kind = 1
    · have t1 : (o.kind == 1) = true := by rw [hk1]; rfl
      have HR := Lib.hid (show add (l, g) o = (put (flush (l, g)) o, 0) by unfold add; rw [if_neg hk3, if_pos hk1])
      clear h hf hv hW BW hbox hBw hk3 hk1 p3 k3 f3
      go_enter Tryz.func56, Tryz.ntmps56
      go_wp2_with fail
      rw [← HW.out]
      go_wp2_with fail
      refine (deleted_any B b ov l g _ HS.out hB HF.out.g0 HF.out.del).mono ?_
      rintro e wA ⟨rfl, ovA, NA, KA⟩
      have bA := (KA.ops w.heap.size _ _ HBX.out HNE.out)
      have a0 : wA.cell? ⟨w.heap.size, 0, none⟩ = some (.int .i64 o.kind) := by rw [Lib.cell_of_heap bA.1]; rfl
      have a1 : wA.cell? ⟨w.heap.size, 1, none⟩ = some (.int .i64 o.n) := by rw [Lib.cell_of_heap bA.1]; rfl
      have a2 : wA.cell? ⟨w.heap.size, 2, none⟩ = some (.string o.text) := by rw [Lib.cell_of_heap bA.1]; rfl
      have a3 : wA.cell? ⟨w.heap.size, 3, none⟩ = some (.slice ar o.attrs.length cr) := by rw [Lib.cell_of_heap bA.1]; rfl
      have KWA := Lib.hid ((keepO_below HBW.out HBw.out ov).trans KA)
      have HNA := Lib.hid NA
      have HbA := Lib.hid bA
      clear NA KA bA c0 c1 c2 c3
      go_wp2_with fail
      go_region_held3 (fun w' => w'.cell? ⟨w.heap.size, 0, none⟩ = some (.int .i64 o.kind) ∧ w'.cell? ⟨w.heap.size, 1, none⟩ = some (.int .i64 o.n) ∧ w'.cell? ⟨w.heap.size, 2, none⟩ = some (.string o.text) ∧ w'.cell? ⟨w.heap.size, 3, none⟩ = some (.slice ar o.attrs.length cr))
        (first
          | exact ⟨a0, a1, a2, a3⟩
          | exact cC)
        (first
          | (go_at_call 85; refine (put_any B b _ _ 0 o _ wA.drew (by exact HNA.out) hB HF.out.keep (fun w' hb => HV.out w' (KWA.out.keep.below.trans ⟨hb.os, hb.tape, hb.output, hb.size, hb.block⟩))).mono ?_; rintro e wC ⟨rfl, ovC, NC, KC⟩; have bC := (KC.ops w.heap.size _ _ HbA.out.1 HbA.out.2).1; have cC : wC.cell? ⟨w.heap.size, 0, none⟩ = some (.int .i64 o.kind) ∧ wC.cell? ⟨w.heap.size, 1, none⟩ = some (.int .i64 o.n) ∧ wC.cell? ⟨w.heap.size, 2, none⟩ = some (.string o.text) ∧ wC.cell? ⟨w.heap.size, 3, none⟩ = some (.slice ar o.attrs.length cr) := ⟨by rw [Lib.cell_of_heap bC]; rfl, by rw [Lib.cell_of_heap bC]; rfl, by rw [Lib.cell_of_heap bC]; rfl, by rw [Lib.cell_of_heap bC]; rfl⟩))
      have FIN : ∃ ov', NSt wC B b ov' (add (l, g) o).1 (add (l, g) o).2 ∧ KeepO B w wC ov ov' := ⟨ovC, by rw [HR.out]; exact NC, KWA.out.trans (KeepO.of_drew KC)⟩
      have HFIN := Lib.hid FIN
      clear FIN NC KC bC cC
      go_wp2_with fail
      go_end0
      exact ⟨rfl, HFIN.out⟩
    · have t1 : (o.kind == 1) = false := by rw [beq_eq_false_iff_ne]; exact hk1
      have HR := Lib.hid (show add (l, g) o = (put l o, g) by unfold add; rw [if_neg hk3, if_neg hk1])
      clear h hf hv hW BW hbox hBw hk3 hk1 p3 k3 f3
      go_enter Tryz.func56, Tryz.ntmps56
      go_wp2_with fail
      rw [← HW.out]
      go_wp2_with fail
      go_region_held3 (fun w' => w'.cell? ⟨w.heap.size, 0, none⟩ = some (.int .i64 o.kind) ∧ w'.cell? ⟨w.heap.size, 1, none⟩ = some (.int .i64 o.n) ∧ w'.cell? ⟨w.heap.size, 2, none⟩ = some (.string o.text) ∧ w'.cell? ⟨w.heap.size, 3, none⟩ = some (.slice ar o.attrs.length cr))
        (first
          | exact ⟨c0, c1, c2, c3⟩
          | exact cC)
        (first
          | (go_at_call 85; refine (put_any B b _ l g o _ W.drew (by exact HS.out) hB HF.out.ins (fun w' hb => HV.out w' ((HBW.out.mono HBw.out).trans ⟨hb.os, hb.tape, hb.output, hb.size, hb.block⟩))).mono ?_; rintro e wC ⟨rfl, ovC, NC, KC⟩; have bC := (KC.ops w.heap.size _ _ (by exact HBX.out) HNE.out).1; have cC : wC.cell? ⟨w.heap.size, 0, none⟩ = some (.int .i64 o.kind) ∧ wC.cell? ⟨w.heap.size, 1, none⟩ = some (.int .i64 o.n) ∧ wC.cell? ⟨w.heap.size, 2, none⟩ = some (.string o.text) ∧ wC.cell? ⟨w.heap.size, 3, none⟩ = some (.slice ar o.attrs.length cr) := ⟨by rw [Lib.cell_of_heap bC]; rfl, by rw [Lib.cell_of_heap bC]; rfl, by rw [Lib.cell_of_heap bC]; rfl, by rw [Lib.cell_of_heap bC]; rfl⟩))
      have FIN : ∃ ov', NSt wC B b ov' (add (l, g) o).1 (add (l, g) o).2 ∧ KeepO B w wC ov ov' := ⟨ovC, by rw [HR.out]; exact NC, (keepO_below HBW.out HBw.out ov).trans (KeepO.of_drew KC)⟩
      have HFIN := Lib.hid FIN
      clear FIN NC KC bC cC
      go_wp2_with fail
      go_end0
      exact ⟨rfl, HFIN.out⟩
end Go.Proofs.YtacgkbdldbppjaaGreatDoor

/- How large the normal form's parts are on the way. -/
namespace Go.Proofs.YtacgkbdldbppjaaGreatDoor
open Go.RowKit Ch Rn

structure VOp (o : OpD) : Prop where
  n0 : 0 ≤ o.n
  n1 : o.n ≤ 20000
  text : o.text.size ≤ 80000
  kind : o.kind = 1 ∨ o.kind = 2 ∨ o.kind = 3
  attrs : SmallA o.attrs
theorem small_chg {l : List (ByteArray × ByteArray)} (h : chgE l = 0) : SmallA l := by
  unfold chgE at h
  split at h
  · rename_i hb
    obtain ⟨h1, h2⟩ := of_decide_eq_true hb
    refine ⟨by omega, fun x hx => ?_⟩
    obtain ⟨i, hi, rfl⟩ := List.getElem_of_mem hx
    have h3 := h2 i hi
    unfold chgOne at h3
    rw [Bool.and_eq_true, Bool.and_eq_true] at h3
    have hk := h3.1.1
    have hv := h3.1.2
    unfold keyB at hk
    unfold valB at hv
    simp only [decide_eq_true_eq] at hk hv
    omega
  · omega
theorem small_rgt {l : List (ByteArray × ByteArray)} (h : rgtE l = 0) : SmallA l := by
  unfold rgtE at h
  split at h
  · rename_i hb
    obtain ⟨h1, h2⟩ := of_decide_eq_true hb
    refine ⟨by omega, fun x hx => ?_⟩
    obtain ⟨i, hi, rfl⟩ := List.getElem_of_mem hx
    have h3 := h2 i hi
    unfold rgtOne at h3
    rw [Bool.and_eq_true, Bool.and_eq_true] at h3
    have hk := h3.1.1
    have hv := h3.1.2
    unfold keyB at hk
    unfold valNE valB at hv
    simp only [Bool.and_eq_true, decide_eq_true_eq] at hk hv
    omega
  · omega
theorem text_lim {s : ByteArray} (h : er s.data.toList = 0) : s.size ≤ 80000 := by
  cases hr : rd s.data.toList with
  | none => rw [er_none hr] at h; omega
  | some cs =>
    rw [rd_T hr, T_size]
    have h1 := (rd_some hr).2.2
    have h2 := (txt_len cs).2
    omega
theorem n_le_kd {ops : List OpD} (h : allE ops) : ∀ o ∈ ops, o.kind ≠ 2 → o.n ≤ kd ops := by
  induction ops with
  | nil => intro o ho; cases ho
  | cons x r ih =>
    intro o ho hk
    have hr : allE r := fun y hy => h y (List.mem_cons_of_mem _ hy)
    have h0 := kd_nonneg hr
    rw [kd]
    rcases List.mem_cons.1 ho with rfl | ho
    · rw [if_neg hk]; omega
    · have := ih hr o ho hk
      split
      · omega
      · have := opE_n (h x (List.mem_cons_self ..)) (by assumption); omega
theorem vop_of {f : Int} {ops : List OpD} (h : OkC f ops) {o : OpD} (ho : o ∈ ops) : VOp o := by
  obtain ⟨h1, h2, _, h4, h5, _⟩ := h
  have he := h4 o ho
  rcases opE_kind he with k | k | k
  · obtain ⟨a, b, c⟩ := (opE_keep k).1 he
    have := n_le_kd h4 o ho (by omega)
    exact ⟨by omega, by omega, by omega, .inl k, small_chg c⟩
  · obtain ⟨a, b, c, d⟩ := (opE_put k).1 he
    exact ⟨by omega, by omega, text_lim c, .inr (.inl k), small_rgt d⟩
  · obtain ⟨a, b, c⟩ := (opE_cut k).1 he
    have := n_le_kd h4 o ho (by omega)
    refine ⟨by omega, by omega, by omega, .inr (.inr k), ?_⟩
    rw [List.length_eq_zero_iff.1 c]
    exact ⟨by simp, fun x hx => by cases hx⟩

def InB (a : Int) (c : Nat) (l : List OpD) : Prop := ∀ x ∈ l, 0 ≤ x.n ∧ x.n ≤ a ∧ x.text.size ≤ c
theorem put_in {a a' : Int} {c c' : Nat} {l : List OpD} {o : OpD} (hl : InB a c l) (h0 : 0 ≤ o.n) (h1 : o.n ≤ a') (h2 : o.text.size ≤ c') (ha : 0 ≤ a) : InB (a + a') (c + c') (put l o) := by
  cases l with
  | nil =>
    intro y hy
    simp only [put, List.mem_singleton] at hy
    subst hy
    omega
  | cons x r =>
    have hx := hl x (List.mem_cons_self ..)
    rw [put]
    split
    · intro y hy
      rcases List.mem_cons.1 hy with rfl | hy
      · refine ⟨by show 0 ≤ x.n + o.n; omega, by show x.n + o.n ≤ _; omega, ?_⟩
        show (cat x.text o.text).size ≤ _
        rw [cat_size]
        omega
      · have := hl y (List.mem_cons_of_mem _ hy); omega
    · intro y hy
      rcases List.mem_cons.1 hy with rfl | hy
      · omega
      · have := hl y hy; omega
/-- How large a state is behind k operations. -/
structure Lim (k : Nat) (s : List OpD × Int) : Prop where
  ops : InB (20000 * k) (80000 * k) s.1
  g0 : 0 ≤ s.2
  g1 : s.2 ≤ 20000 * k
  siz : siz s ≤ k
theorem flush_in {k : Nat} {s : List OpD × Int} (h : Lim k s) (hs : St s) : InB (20000 * k) (80000 * k) (flush s) := by
  unfold flush
  split
  · rw [put_fresh fun x r e h3 => hs.2 x r e h3.1]
    intro y hy
    rcases List.mem_cons.1 hy with rfl | hy
    · refine ⟨h.g0, h.g1, ?_⟩
      show (0 : Nat) ≤ _
      omega
    · exact h.ops y hy
  · exact h.ops
theorem lim_add {k : Nat} {s : List OpD × Int} {o : OpD} (h : Lim k s) (hs : St s) (ho : VOp o) : Lim (k + 1) (Ch.add s o) := by
  have hz := Nat.le_trans (siz_add s o) (Nat.add_le_add_right h.siz 1)
  have hg0 := h.g0
  have hg1 := h.g1
  have e1 : (20000 : Int) * ((k + 1 : Nat) : Int) = 20000 * k + 20000 := by omega
  have e2 : 80000 * (k + 1) = 80000 * k + 80000 := by omega
  have hk : (0 : Int) ≤ 20000 * (k : Int) := by omega
  have n0 := ho.n0
  have n1 := ho.n1
  by_cases h3 : o.kind = 3
  · have e : Ch.add s o = (s.1, s.2 + o.n) := by unfold Ch.add; rw [if_pos h3]
    rw [e] at hz ⊢
    refine ⟨fun x hx => ?_, by show 0 ≤ s.2 + o.n; omega, by show s.2 + o.n ≤ _; omega, hz⟩
    have := h.ops x hx
    rw [e1, e2]; omega
  · by_cases h1 : o.kind = 1
    · have e : Ch.add s o = (put (flush s) o, 0) := by unfold Ch.add; rw [if_neg h3, if_pos h1]
      rw [e] at hz ⊢
      refine ⟨?_, Int.le_refl _, by show (0 : Int) ≤ _; omega, hz⟩
      rw [e1, e2]
      exact put_in (flush_in h hs) n0 n1 ho.text hk
    · have e : Ch.add s o = (put s.1 o, s.2) := by unfold Ch.add; rw [if_neg h3, if_neg h1]
      rw [e] at hz ⊢
      refine ⟨?_, hg0, by show s.2 ≤ _; omega, hz⟩
      rw [e1, e2]
      exact put_in h.ops n0 n1 ho.text hk
theorem small_nil : SmallA [] := ⟨by simp, fun x hx => by cases hx⟩
theorem fits_mk {k : Nat} {l : List OpD} {o : OpD} (hk : k ≤ 2000) (hl : InB (20000 * k) (80000 * k) l) (hn : l.length ≤ 4000) (h0 : 0 ≤ o.n) (h1 : o.n ≤ 1073741824) (h2 : o.text.size ≤ 1073741824) (h3 : SmallA o.attrs) : Fits l o :=
  ⟨hn, fun x r e => by
    have := hl x (by rw [e]; exact List.mem_cons_self ..)
    omega, h0, h1, h2, h3⟩
theorem fits_del {k : Nat} {s : List OpD × Int} (h : Lim k s) (hk : k ≤ 2000) : Fits s.1 (delO s.2) := by
  have hz := h.siz
  have hg := h.g1
  have hl : s.1.length ≤ siz s := by unfold siz; omega
  exact fits_mk hk h.ops (by omega) h.g0 (by show s.2 ≤ _; omega) (by show (0 : Nat) ≤ _; omega) small_nil
theorem fitsS_of {k : Nat} {s : List OpD × Int} {o : OpD} (h : Lim k s) (hs : St s) (ho : VOp o) (hk : k ≤ 2000) : FitsS s o := by
  have hz := h.siz
  have hg := h.g1
  have hl : s.1.length ≤ siz s := by unfold siz; omega
  have hf := flush_len s
  have n1 := ho.n1
  have n2 := ho.text
  exact ⟨h.g0, by omega, fits_del h hk, fits_mk hk h.ops (by omega) ho.n0 (by omega) (by omega) ho.attrs, fits_mk hk (flush_in h hs) (by omega) ho.n0 (by omega) (by omega) ho.attrs, by omega⟩
/-- Behind k operations of a right changeset. -/
theorem lim_fold {f : Int} {ops : List OpD} (h : OkC f ops) (k : Nat) (hk : k ≤ ops.length) : Lim k (fold (ops.take k)) ∧ St (fold (ops.take k)) := by
  induction k with
  | zero => exact ⟨⟨(fun x hx => by cases hx), Int.le_refl _, Int.le_refl _, Nat.le_refl _⟩, trivial, (fun x r e => by cases e)⟩
  | succ k ih =>
    obtain ⟨h1, h2⟩ := ih (by omega)
    have hlt : k < ops.length := by omega
    rw [List.take_succ_eq_append_getElem hlt, fold_snoc]
    have hv := vop_of h (List.getElem_mem hlt)
    exact ⟨lim_add h1 h2 hv, h2.add hv.kind⟩
end Go.Proofs.YtacgkbdldbppjaaGreatDoor

/- Plain maths of changesets as text: how each thing is written, how it is read; what was written is read, what was read is written so. -/
namespace Go.Proofs.YtacgkbdldbppjaaGreatDoor
namespace Sp
open Go.Lib Ch

def ctl (b : UInt8) : Bool := decide (b.toNat < 32 ∨ b.toNat = 127)
def hexd (n : Nat) : UInt8 := UInt8.ofNat (if n < 10 then 48 + n else 87 + n)
def hexv (b : UInt8) : Option Nat :=
  if 48 ≤ b.toNat ∧ b.toNat ≤ 57 then some (b.toNat - 48) else if 97 ≤ b.toNat ∧ b.toNat ≤ 102 then some (b.toNat - 87) else none
/-- A byte in quotes. -/
def qb (b : UInt8) : List UInt8 :=
  if b = 10 then [92, 110] else if ctl b = true then [92, 120, hexd (b.toNat / 16), hexd (b.toNat % 16)] else if b = 34 ∨ b = 92 then [92, b] else [b]
/-- A text in quotes. -/
def qt (l : List UInt8) : List UInt8 := 34 :: (l.flatMap qb ++ [34])

/-- What reading comes to: a value and how many bytes it is of; or how far on the first wrong thing stands. -/
inductive R (α : Type) where
  | ok (v : α) (n : Nat)
  | bad (k : Nat)
def R.shift {α : Type} (d : Nat) : R α → R α
  | .ok v n => .ok v (d + n)
  | .bad k => .bad (d + k)
def bnd {α β : Type} (p : List UInt8 → R α) (q : α → List UInt8 → R β) (l : List UInt8) : R β :=
  match p l with
  | .ok v n => (q v (l.drop n)).shift n
  | .bad k => .bad k
def ret {α : Type} (v : α) (_ : List UInt8) : R α := .ok v 0
theorem bnd_ok {α β : Type} {p : List UInt8 → R α} {q : α → List UInt8 → R β} {l : List UInt8} {v : α} {n : Nat} (h : p l = .ok v n) : bnd p q l = (q v (l.drop n)).shift n := by unfold bnd; rw [h]
theorem bnd_bad {α β : Type} {p : List UInt8 → R α} {q : α → List UInt8 → R β} {l : List UInt8} {k : Nat} (h : p l = .bad k) : bnd p q l = .bad k := by unfold bnd; rw [h]
theorem shift_ok {α : Type} {d n : Nat} {x : R α} {v : α} (h : x.shift d = .ok v n) : ∃ m, x = .ok v m ∧ n = d + m := by
  cases x with
  | ok u m => simp only [R.shift, R.ok.injEq] at h; exact ⟨m, by rw [h.1], h.2.symm⟩
  | bad k => cases h
theorem bnd_inv {α β : Type} {p : List UInt8 → R α} {q : α → List UInt8 → R β} {l : List UInt8} {v : β} {n : Nat} (h : bnd p q l = .ok v n) : ∃ u i j, p l = .ok u i ∧ q u (l.drop i) = .ok v j ∧ n = i + j := by
  unfold bnd at h
  cases hp : p l with
  | bad k => rw [hp] at h; cases h
  | ok u i =>
    rw [hp] at h
    obtain ⟨j, h1, h2⟩ := shift_ok h
    exact ⟨u, i, j, rfl, h1, h2⟩

def must (c : UInt8) (l : List UInt8) : R Unit := if l.head? = some c then .ok () 1 else .bad 0
def take1 : List UInt8 → R UInt8
  | [] => .bad 0
  | b :: _ => .ok b 1
def digit16 : List UInt8 → R Nat
  | [] => .bad 0
  | b :: _ => match hexv b with
    | some n => .ok n 1
    | none => .bad 0
/-- The byte behind a 92, and what follows it: the 92's own place is d ahead. -/
def hexes (l : List UInt8) : R UInt8 :=
  match digit16 l with
  | .bad k => .bad (2 + k)
  | .ok h _ => match digit16 (l.drop 1) with
    | .bad k => .bad (3 + k)
    | .ok g _ => if ctl (UInt8.ofNat (h * 16 + g)) = true ∧ UInt8.ofNat (h * 16 + g) ≠ 10 then .ok (UInt8.ofNat (h * 16 + g)) 4 else .bad 0
def inside : List UInt8 → R UInt8
  | [] => .bad 0
  | b :: t => if ctl b = true then .bad 0 else if b ≠ 92 then .ok b 1 else match t with
    | [] => .bad 1
    | c :: u => if c = 34 ∨ c = 92 then .ok c 2 else if c = 110 then .ok 10 2 else if c = 120 then hexes u else .bad 1
def body : Nat → List UInt8 → R (List UInt8)
  | 0, _ => .bad 0
  | f + 1, l => if l.head? = some 34 then .ok [] 1 else bnd inside (fun b => bnd (body f) fun r => ret (b :: r)) l
def quoted : List UInt8 → R (List UInt8) := bnd (must 34) fun _ l => body (l.length + 1) l
def dig (b : UInt8) : Bool := decide (48 ≤ b.toNat ∧ b.toNat ≤ 57)
def kb (b : UInt8) : Bool := decide (65 ≤ b.toNat ∧ b.toNat ≤ 90 ∨ 97 ≤ b.toNat ∧ b.toNat ≤ 122 ∨ 48 ≤ b.toNat ∧ b.toNat ≤ 57 ∨ b.toNat = 45 ∨ b.toNat = 95)
def val (d : List UInt8) : Nat := d.foldl (fun a b => a * 10 + (b.toNat - 48)) 0
def numOk (d : List UInt8) : Prop := d ≠ [] ∧ d.length ≤ 18 ∧ (d.head? = some 48 → d = [48])
instance (d : List UInt8) : Decidable (numOk d) := inferInstanceAs (Decidable (_ ∧ _ ∧ (_ → _)))
def number (l : List UInt8) : R Nat := if numOk (l.takeWhile dig) then .ok (val (l.takeWhile dig)) (l.takeWhile dig).length else .bad 0
def key (l : List UInt8) : R (List UInt8) := if l.takeWhile kb = [] then .bad 0 else .ok (l.takeWhile kb) (l.takeWhile kb).length
def ba (l : List UInt8) : ByteArray := ⟨l.toArray⟩
abbrev A := ByteArray × ByteArray
def attr : List UInt8 → R A := bnd key fun k => bnd (must 58) fun _ => bnd quoted fun v => ret (ba k, ba v)
def more : Nat → List UInt8 → R (List A)
  | 0, _ => .bad 0
  | f + 1, l => if l.head? = some 44 then bnd (must 44) (fun _ => bnd attr fun a => bnd (more f) fun r => ret (a :: r)) l else bnd (must 125) (fun _ => ret []) l
def attrs : List UInt8 → R (List A) := bnd (must 123) fun _ => bnd attr fun a => bnd (fun l => more (l.length + 1) l) fun r => ret (a :: r)
def opt (l : List UInt8) : R (List A) := if l.head? = some 123 then attrs l else .ok [] 0
def none0 : ByteArray := ⟨#[]⟩
def kind (b : UInt8) : List UInt8 → R OpD :=
  if b = 45 then bnd number fun n => ret ⟨3, n, none0, []⟩
  else if b = 61 then bnd number fun n => bnd opt fun a => ret ⟨1, n, none0, a⟩
  else bnd quoted fun t => bnd opt fun a => ret ⟨2, 0, ba t, a⟩
def op (l : List UInt8) : R OpD :=
  match l with
  | [] => .bad 0
  | b :: t => if b = 45 ∨ b = 61 ∨ b = 43 then (kind b t).shift 1 else .bad 0
def ops : Nat → List UInt8 → R (List OpD)
  | 0, _ => .bad 0
  | f + 1, l => if l = [] then .ok [] 0 else bnd (must 32) (fun _ => bnd op fun o => bnd (ops f) fun r => ret (o :: r)) l
def change : List UInt8 → R (Nat × List OpD) := bnd number fun n => bnd (fun l => ops (l.length + 1) l) fun r => ret (n, r)

/-! ### How it is written -/
def pAttr (x : A) : List UInt8 := x.1.data.toList ++ 58 :: qt x.2.data.toList
def pMore (r : List A) : List UInt8 := r.flatMap (fun y => 44 :: pAttr y) ++ [125]
def pAttrs : List A → List UInt8
  | [] => []
  | x :: r => 123 :: (pAttr x ++ pMore r)
def pKind (o : OpD) : List UInt8 := if o.kind = 1 then 61 :: itoa o.n else if o.kind = 3 then 45 :: itoa o.n else if o.kind = 2 then 43 :: qt o.text.data.toList else []
def pOp (o : OpD) : List UInt8 := 32 :: (pKind o ++ pAttrs o.attrs)
def pCh (f : Int) (l : List OpD) : List UInt8 := itoa f ++ l.flatMap pOp

/-! ### Bytes -/
theorem b_eq {a b : UInt8} : a = b ↔ a.toNat = b.toNat := ⟨fun h => by rw [h], fun h => UInt8.toNat_inj.1 h⟩
theorem b_lt (a : UInt8) : a.toNat < 256 := a.toNat_lt
theorem of_nat {n : Nat} (h : n < 256) : (UInt8.ofNat n).toNat = n := by simp; omega
theorem hexv_hexd {n : Nat} (h : n < 16) : hexv (hexd n) = some n := by
  unfold hexv hexd
  split <;> rw [of_nat (by omega)]
  · rw [if_pos (by omega)]; congr 1; omega
  · rw [if_neg (by omega), if_pos (by omega)]; congr 1; omega
theorem hexd_hexv {b : UInt8} {n : Nat} (h : hexv b = some n) : b = hexd n ∧ n < 16 := by
  have hb := b_lt b
  unfold hexv at h
  split at h
  · obtain rfl := Option.some.inj h
    refine ⟨b_eq.2 ?_, by omega⟩
    unfold hexd
    rw [if_pos (by omega), of_nat (by omega)]; omega
  · split at h
    · obtain rfl := Option.some.inj h
      refine ⟨b_eq.2 ?_, by omega⟩
      unfold hexd
      rw [if_neg (by omega), of_nat (by omega)]; omega
    · cases h
theorem hex_join (b : UInt8) : UInt8.ofNat (b.toNat / 16 * 16 + b.toNat % 16) = b := b_eq.2 (by have := b_lt b; rw [of_nat (by omega)]; omega)

theorem digit16_ok {b : UInt8} {n : Nat} (h : hexv b = some n) (t : List UInt8) : digit16 (b :: t) = .ok n 1 := by
  show (match hexv b with | some n => R.ok n 1 | none => R.bad 0) = _
  rw [h]
theorem digit16_bad {b : UInt8} (h : hexv b = none) (t : List UInt8) : digit16 (b :: t) = .bad 0 := by
  show (match hexv b with | some n => R.ok n 1 | none => R.bad 0) = _
  rw [h]

/-! ### What was written is read -/
theorem inside_qb (b : UInt8) (r : List UInt8) : inside (qb b ++ r) = .ok b (qb b).length := by
  have hb := b_lt b
  unfold qb
  by_cases h1 : b = 10
  · subst h1
    rw [if_pos rfl]; rfl
  rw [if_neg h1]
  by_cases h2 : ctl b = true
  · rw [if_pos h2]
    have e1 := digit16_ok (hexv_hexd (show b.toNat / 16 < 16 by omega)) (hexd (b.toNat % 16) :: r)
    have e2 := digit16_ok (hexv_hexd (show b.toNat % 16 < 16 by omega)) r
    have e3 : hexes (hexd (b.toNat / 16) :: hexd (b.toNat % 16) :: r) = .ok b 4 := by
      unfold hexes
      rw [e1]
      simp only [List.drop_succ_cons, List.drop_zero]
      rw [e2]
      simp only [hex_join]
      rw [if_pos ⟨h2, h1⟩]
    exact e3
  rw [if_neg h2]
  by_cases h3 : b = 34 ∨ b = 92
  · rw [if_pos h3]
    rcases h3 with rfl | rfl <;> rfl
  · rw [if_neg h3]
    show (if ctl b = true then R.bad 0 else if b ≠ 92 then R.ok b 1 else _) = _
    rw [if_neg h2, if_pos (fun h => h3 (.inr h))]; rfl
theorem qb_head (b : UInt8) : (qb b).head? ≠ some 34 ∧ qb b ≠ [] := by
  unfold qb
  by_cases h1 : b = 10
  · rw [if_pos h1]; exact ⟨by decide, by simp⟩
  rw [if_neg h1]
  by_cases h2 : ctl b = true
  · rw [if_pos h2]; exact ⟨by simp, by simp⟩
  rw [if_neg h2]
  by_cases h3 : b = 34 ∨ b = 92
  · rw [if_pos h3]; exact ⟨by simp, by simp⟩
  · rw [if_neg h3]; exact ⟨by simp only [List.head?_cons, ne_eq, Option.some.injEq]; exact fun h => h3 (.inl h), by simp⟩
theorem body_qt (l r : List UInt8) : ∀ f, l.length < f → body f (l.flatMap qb ++ 34 :: r) = .ok l (l.flatMap qb ++ [34]).length := by
  induction l with
  | nil => intro f hf; cases f with
    | zero => exact absurd hf (Nat.not_lt_zero _)
    | succ f => rfl
  | cons b l ih =>
    intro f hf
    cases f with
    | zero => exact absurd hf (Nat.not_lt_zero _)
    | succ f =>
      have hq := qb_head b
      have e : (b :: l).flatMap qb ++ 34 :: r = qb b ++ (l.flatMap qb ++ 34 :: r) := by simp
      have hh : ((b :: l).flatMap qb ++ 34 :: r).head? ≠ some 34 := by
        rw [e]
        cases hx : qb b with
        | nil => exact absurd hx hq.2
        | cons x t => intro h; apply hq.1; rw [hx]; exact h
      unfold body
      rw [if_neg hh, e, bnd_ok (inside_qb b _), List.drop_left, bnd_ok (ih f (by simpa using hf))]
      simp [ret, R.shift]
theorem quoted_qt (l r : List UInt8) : quoted (qt l ++ r) = .ok l (qt l).length := by
  have h1 : must 34 (qt l ++ r) = .ok () 1 := rfl
  have e : (qt l ++ r).drop 1 = l.flatMap qb ++ 34 :: r := by simp [qt]
  unfold quoted
  rw [bnd_ok h1, e, body_qt l r _ (by
    have : ∀ m : List UInt8, m.length ≤ (m.flatMap qb).length := fun m => by
      induction m with
      | nil => simp
      | cons b m ih =>
        have := (qb_head b).2
        have h2 : 1 ≤ (qb b).length := by cases hx : qb b with
          | nil => exact absurd hx this
          | cons _ _ => simp
        simp only [List.flatMap_cons, List.length_append, List.length_cons]; omega
    have := this l
    simp only [List.length_append, List.length_cons]; omega)]
  simp [R.shift, qt]; omega

/-! Numbers -/
theorem dg_nat {n : Nat} (h : n < 10) : (UInt8.ofNat (48 + n)).toNat = 48 + n := of_nat (by omega)
theorem dec_dig (u : Nat) : ∀ b ∈ decDigits u, dig b = true := by
  induction u using Nat.strongRecOn with
  | ind u ih =>
    intro b hb
    rw [decDigits] at hb
    split at hb
    · obtain rfl := List.mem_singleton.1 hb
      unfold dig; rw [dg_nat (by omega)]; exact decide_eq_true (by omega)
    · rcases List.mem_append.1 hb with h | h
      · exact ih _ (by omega) b h
      · obtain rfl := List.mem_singleton.1 h
        unfold dig; rw [dg_nat (by omega)]; exact decide_eq_true (by omega)
theorem val_snoc (d : List UInt8) (b : UInt8) : val (d ++ [b]) = val d * 10 + (b.toNat - 48) := by unfold val; rw [List.foldl_append]; rfl
theorem val_dec (u : Nat) : val (decDigits u) = u := by
  induction u using Nat.strongRecOn with
  | ind u ih =>
    rw [decDigits]
    split
    · show 0 * 10 + ((UInt8.ofNat (48 + u)).toNat - 48) = u
      rw [dg_nat (by omega)]; omega
    · rw [val_snoc, ih _ (by omega), dg_nat (by omega)]; omega
theorem dec_ne (u : Nat) : decDigits u ≠ [] := by
  rw [decDigits]; split <;> simp
theorem dec_len (k : Nat) : ∀ u : Nat, u < 10 ^ (k + 1) → (decDigits u).length ≤ k + 1 := by
  induction k with
  | zero => intro u h; rw [decDigits, dif_pos (by omega)]; simp
  | succ k ih =>
    intro u h
    rw [decDigits]
    split
    · simp
    · have := ih (u / 10) (by rw [Nat.pow_succ] at h; omega)
      simp only [List.length_append, List.length_cons, List.length_nil]; omega
theorem dec_head (u : Nat) (h : 1 ≤ u) : (decDigits u).head? ≠ some 48 := by
  induction u using Nat.strongRecOn with
  | ind u ih =>
    rw [decDigits]
    split
    · intro h2
      simp only [List.head?_cons, Option.some.injEq] at h2
      have := congrArg UInt8.toNat h2
      rw [dg_nat (by omega)] at this
      have e : (48 : UInt8).toNat = 48 := rfl
      omega
    · have h2 := ih (u / 10) (by omega) (by omega)
      cases hx : decDigits (u / 10) with
      | nil => exact absurd hx (dec_ne _)
      | cons a t => rw [hx] at h2; exact h2
theorem dec_numOk {u : Nat} (h : u < 1000000000000000000) : numOk (decDigits u) := by
  refine ⟨dec_ne u, dec_len 17 u (by simpa using h), fun h1 => ?_⟩
  rcases Nat.eq_zero_or_pos u with rfl | h2
  · rw [decDigits, dif_pos (by omega)]; rfl
  · exact absurd h1 (dec_head u h2)
theorem takeWhile_app {p : UInt8 → Bool} {d r : List UInt8} (hd : ∀ b ∈ d, p b = true) (hr : ∀ b, r.head? = some b → p b = false) : (d ++ r).takeWhile p = d := by
  induction d with
  | nil =>
    cases r with
    | nil => rfl
    | cons b t => rw [List.nil_append, List.takeWhile_cons, hr b rfl]; rfl
  | cons a d ih =>
    rw [List.cons_append, List.takeWhile_cons, hd a (List.mem_cons_self ..)]
    simp only [if_true]
    rw [ih fun b hb => hd b (List.mem_cons_of_mem _ hb)]
theorem number_dec {u : Nat} {r : List UInt8} (h : u < 1000000000000000000) (hr : ∀ b, r.head? = some b → dig b = false) : number (decDigits u ++ r) = .ok u (decDigits u).length := by
  unfold number
  rw [takeWhile_app (dec_dig u) hr, if_pos (dec_numOk h), val_dec]
theorem dec_inv {d : List UInt8} (hd : ∀ b ∈ d, dig b = true) (h : numOk d) : decDigits (val d) = d := by
  have key : ∀ n, ∀ d : List UInt8, d.length = n → (∀ b ∈ d, dig b = true) → d ≠ [] → (d.head? = some 48 → d = [48]) → decDigits (val d) = d := by
    intro n
    induction n with
    | zero => intro d h0 _ h1; exact absurd (List.length_eq_zero_iff.1 h0) h1
    | succ n ih =>
      intro d hl hd hne hz
      rcases List.eq_nil_or_concat d with rfl | ⟨e, b, rfl⟩
      · exact absurd rfl hne
      rw [List.concat_eq_append] at hl hd hz ⊢
      have hb : dig b = true := hd b (by simp)
      have hb' := of_decide_eq_true hb
      cases he : e with
      | nil =>
        subst he
        have e1 : val ([] ++ [b]) = b.toNat - 48 := by rw [val_snoc]; unfold val; simp
        rw [e1, decDigits, dif_pos (by omega)]
        rw [List.nil_append]
        congr 1
        exact b_eq.2 (by rw [of_nat (by omega)]; omega)
      | cons x t =>
        rw [← he]
        have hne' : e ≠ [] := by rw [he]; simp
        have hz' : e.head? = some 48 → e = [48] := fun h => by
          exfalso
          have h2 := hz (by rw [he] at h ⊢; exact h)
          rw [he] at h2
          simp at h2
        have h3 := ih e (by simp at hl; omega) (fun c hc => hd c (by simp [hc])) hne' hz'
        have h4 : 1 ≤ val e := by
          rcases Nat.eq_zero_or_pos (val e) with h5 | h5
          · exfalso
            rw [h5, decDigits, dif_pos (by omega)] at h3
            have h6 := hz (by rw [← h3]; rfl)
            rw [← h3] at h6
            simp at h6
          · exact h5
        rw [val_snoc, decDigits, dif_neg (by omega)]
        have e2 : (val e * 10 + (b.toNat - 48)) / 10 = val e := by omega
        have e3 : (val e * 10 + (b.toNat - 48)) % 10 = b.toNat - 48 := by omega
        rw [e2, e3, h3]
        congr 1
        congr 1
        exact b_eq.2 (by rw [of_nat (by omega)]; omega)
  exact key _ d rfl hd h.1 h.2.2
theorem val_lt (d : List UInt8) (hd : ∀ b ∈ d, dig b = true) : val d < 10 ^ d.length := by
  have key : ∀ n, ∀ d : List UInt8, d.length = n → (∀ b ∈ d, dig b = true) → val d < 10 ^ n := by
    intro n
    induction n with
    | zero => intro d h _; rw [List.length_eq_zero_iff.1 h]; simp [val]
    | succ n ih =>
      intro d hl hd
      rcases List.eq_nil_or_concat d with rfl | ⟨e, b, rfl⟩
      · simp at hl
      rw [List.concat_eq_append] at hl hd ⊢
      have hb := of_decide_eq_true (show dig b = true from hd b (by simp))
      have := ih e (by simp at hl; omega) fun c hc => hd c (by simp [hc])
      rw [val_snoc, Nat.pow_succ]
      omega
  exact key _ d rfl hd
theorem tw_mem {p : UInt8 → Bool} (l : List UInt8) : ∀ b ∈ l.takeWhile p, p b = true := by
  induction l with
  | nil => intro b h; cases h
  | cons a t ih =>
    intro b h
    rw [List.takeWhile_cons] at h
    split at h
    · rename_i h1
      rcases List.mem_cons.1 h with rfl | h
      · exact h1
      · exact ih b h
    · cases h
theorem tw_drop {p : UInt8 → Bool} (l : List UInt8) : l.takeWhile p ++ l.drop (l.takeWhile p).length = l := by
  induction l with
  | nil => rfl
  | cons a t ih =>
    rw [List.takeWhile_cons]
    split
    · simp [ih]
    · rfl

/-! Keys, attributes, operations -/
theorem ba_data (s : ByteArray) : ba s.data.toList = s := ba_eq rfl
theorem data_ba (l : List UInt8) : (ba l).data.toList = l := rfl
def goodK (k : ByteArray) : Prop := k.data.toList ≠ [] ∧ ∀ b ∈ k.data.toList, kb b = true
theorem key_p {k : ByteArray} {r : List UInt8} (h : goodK k) (hr : ∀ b, r.head? = some b → kb b = false) : key (k.data.toList ++ r) = .ok k.data.toList k.data.toList.length := by
  unfold key
  rw [takeWhile_app h.2 hr, if_neg h.1]
theorem must_p (c : UInt8) (r : List UInt8) : must c (c :: r) = .ok () 1 := by simp [must]
theorem attr_p {x : A} (h : goodK x.1) (r : List UInt8) : attr (pAttr x ++ r) = .ok x (pAttr x).length := by
  have e : pAttr x ++ r = x.1.data.toList ++ (58 :: (qt x.2.data.toList ++ r)) := by simp [pAttr]
  unfold attr
  rw [e, bnd_ok (key_p h fun b hb => by obtain rfl := Option.some.inj hb; rfl), List.drop_left, bnd_ok (must_p 58 _)]
  rw [show (58 :: (qt x.2.data.toList ++ r)).drop 1 = qt x.2.data.toList ++ r from rfl, bnd_ok (quoted_qt _ r)]
  simp only [ret, R.shift, ba_data, pAttr, R.ok.injEq, List.length_append, List.length_cons, true_and]
  omega
theorem more_p {l : List A} (h : ∀ x ∈ l, goodK x.1) (r : List UInt8) : ∀ f, l.length < f → more f (pMore l ++ r) = .ok l (pMore l).length := by
  induction l with
  | nil =>
    intro f hf
    cases f with
    | zero => exact absurd hf (Nat.not_lt_zero _)
    | succ f =>
      unfold more
      rw [show pMore [] ++ r = 125 :: r from rfl, if_neg (by simp), bnd_ok (must_p 125 r)]
      rfl
  | cons x l ih =>
    intro f hf
    cases f with
    | zero => exact absurd hf (Nat.not_lt_zero _)
    | succ f =>
      have e : pMore (x :: l) ++ r = 44 :: (pAttr x ++ (pMore l ++ r)) := by simp [pMore]
      unfold more
      rw [e, if_pos (by rfl), bnd_ok (must_p 44 _), show (44 :: (pAttr x ++ (pMore l ++ r))).drop 1 = pAttr x ++ (pMore l ++ r) from rfl]
      rw [bnd_ok (attr_p (h x (List.mem_cons_self ..)) _), List.drop_left, bnd_ok (ih (fun y hy => h y (List.mem_cons_of_mem _ hy)) f (by simpa using hf))]
      simp only [ret, R.shift, pMore, R.ok.injEq, List.length_append, List.length_cons, List.length_nil, List.flatMap_cons, true_and]
      omega
theorem pMore_len (l : List A) : l.length < (pMore l).length := by
  induction l with
  | nil => simp [pMore]
  | cons x l ih => simp [pMore] at ih ⊢; omega
theorem attrs_p {x : A} {l : List A} (h : ∀ y ∈ x :: l, goodK y.1) (r : List UInt8) : attrs (pAttrs (x :: l) ++ r) = .ok (x :: l) (pAttrs (x :: l)).length := by
  have e : pAttrs (x :: l) ++ r = 123 :: (pAttr x ++ (pMore l ++ r)) := by simp [pAttrs]
  unfold attrs
  rw [e, bnd_ok (must_p 123 _), show (123 :: (pAttr x ++ (pMore l ++ r))).drop 1 = pAttr x ++ (pMore l ++ r) from rfl]
  rw [bnd_ok (attr_p (h x (List.mem_cons_self ..)) _), List.drop_left, bnd_ok (p := fun l => more (l.length + 1) l) (more_p (fun y hy => h y (List.mem_cons_of_mem _ hy)) r _ (by have := pMore_len l; simp only [List.length_append]; omega))]
  simp only [ret, R.shift, pAttrs, R.ok.injEq, List.length_append, List.length_cons, true_and]
  omega
theorem opt_p {l : List A} (h : ∀ y ∈ l, goodK y.1) {r : List UInt8} (hr : r.head? ≠ some 123) : opt (pAttrs l ++ r) = .ok l (pAttrs l).length := by
  unfold opt
  cases l with
  | nil => rw [if_neg (by exact hr)]; rfl
  | cons x l => rw [if_pos (by rfl)]; exact attrs_p h r
structure GoodO (o : OpD) : Prop where
  n0 : 0 ≤ o.n
  n1 : o.n < 1000000000000000000
  kind : o.kind = 1 ∨ o.kind = 2 ∨ o.kind = 3
  keys : ∀ y ∈ o.attrs, goodK y.1
  text : o.kind ≠ 2 → o.text = none0
  put : o.kind = 2 → o.n = 0
  cut : o.kind = 3 → o.attrs = []
theorem itoa_n {n : Int} (h : 0 ≤ n) : itoa n = decDigits n.toNat := by unfold itoa; rw [if_neg (by omega)]
theorem pAttrs_head {l : List A} {r : List UInt8} {b : UInt8} (hr : r.head? = none ∨ r.head? = some 32) (h : (pAttrs l ++ r).head? = some b) : b = 123 ∨ b = 32 := by
  cases l with
  | nil =>
    rcases hr with hr | hr
    · rw [show (pAttrs [] ++ r).head? = r.head? from rfl, hr] at h; cases h
    · rw [show (pAttrs [] ++ r).head? = r.head? from rfl, hr] at h; exact .inr (Option.some.inj h).symm
  | cons x l => exact .inl (Option.some.inj h).symm
theorem kind_p {o : OpD} (h : GoodO o) {r : List UInt8} (hr : r.head? = none ∨ r.head? = some 32) : op (pKind o ++ pAttrs o.attrs ++ r) = .ok o (pKind o ++ pAttrs o.attrs).length := by
  obtain ⟨k, n, t, a⟩ := o
  have hr' : r.head? ≠ some 123 := by rcases hr with hr | hr <;> rw [hr] <;> decide
  have hdig : ∀ b, (pAttrs a ++ r).head? = some b → dig b = false := fun b hb => by
    rcases pAttrs_head hr hb with rfl | rfl <;> rfl
  have hn : (n.toNat : Int) = n := Int.toNat_of_nonneg h.n0
  have hlt : n.toNat < 1000000000000000000 := by have := h.n1; simp only at this; omega
  rcases h.kind with h1 | h2 | h3
  · simp only at h1; subst h1
    have ht := h.text (show (1 : Int) ≠ 2 by decide); simp only at ht; subst ht
    have e : pKind ⟨1, n, none0, a⟩ ++ pAttrs a ++ r = 61 :: (decDigits n.toNat ++ (pAttrs a ++ r)) := by simp [pKind, itoa_n h.n0]
    have e2 : (pKind ⟨1, n, none0, a⟩ ++ pAttrs a).length = 1 + ((decDigits n.toNat).length + (pAttrs a).length) := by simp [pKind, itoa_n h.n0]; omega
    rw [e, e2]
    unfold op
    simp only
    rw [if_pos (by decide)]
    unfold kind
    rw [if_neg (by decide), if_pos rfl, bnd_ok (number_dec hlt hdig), List.drop_left, bnd_ok (opt_p h.keys hr')]
    simp [ret, R.shift, hn]
  · simp only at h2; subst h2
    have ht := h.put rfl; simp only at ht; subst ht
    have e : pKind ⟨2, 0, t, a⟩ ++ pAttrs a ++ r = 43 :: (qt t.data.toList ++ (pAttrs a ++ r)) := by simp [pKind]
    have e2 : (pKind ⟨2, 0, t, a⟩ ++ pAttrs a).length = 1 + ((qt t.data.toList).length + (pAttrs a).length) := by simp [pKind]; omega
    rw [e, e2]
    unfold op
    simp only
    rw [if_pos (by decide)]
    unfold kind
    rw [if_neg (by decide), if_neg (by decide), bnd_ok (quoted_qt _ _), List.drop_left, bnd_ok (opt_p h.keys hr')]
    simp [ret, R.shift, ba_data]
  · simp only at h3; subst h3
    have ht := h.text (show (3 : Int) ≠ 2 by decide); simp only at ht; subst ht
    have ha := h.cut rfl; simp only at ha; subst ha
    have e : pKind ⟨3, n, none0, []⟩ ++ pAttrs [] ++ r = 45 :: (decDigits n.toNat ++ (pAttrs [] ++ r)) := by simp [pKind, itoa_n h.n0]
    have e2 : (pKind ⟨3, n, none0, []⟩ ++ pAttrs []).length = 1 + (decDigits n.toNat).length := by simp [pKind, itoa_n h.n0, pAttrs]; omega
    rw [e, e2]
    unfold op
    simp only
    rw [if_pos (by decide)]
    unfold kind
    rw [if_pos rfl, bnd_ok (number_dec hlt hdig)]
    simp [ret, R.shift, hn]
theorem ops_p {l : List OpD} (h : ∀ o ∈ l, GoodO o) : ∀ f, l.length < f → ops f (l.flatMap pOp) = .ok l (l.flatMap pOp).length := by
  induction l with
  | nil =>
    intro f hf
    cases f with
    | zero => exact absurd hf (Nat.not_lt_zero _)
    | succ f => rfl
  | cons o l ih =>
    intro f hf
    cases f with
    | zero => exact absurd hf (Nat.not_lt_zero _)
    | succ f =>
      have e : (o :: l).flatMap pOp = 32 :: (pKind o ++ pAttrs o.attrs ++ l.flatMap pOp) := by simp [pOp]
      have hr : (l.flatMap pOp).head? = none ∨ (l.flatMap pOp).head? = some 32 := by
        cases l with
        | nil => exact .inl rfl
        | cons x l => exact .inr rfl
      unfold ops
      rw [e, if_neg (by simp), bnd_ok (must_p 32 _), show (32 :: (pKind o ++ pAttrs o.attrs ++ l.flatMap pOp)).drop 1 = pKind o ++ pAttrs o.attrs ++ l.flatMap pOp from rfl]
      rw [bnd_ok (kind_p (h o (List.mem_cons_self ..)) hr), List.drop_left, bnd_ok (ih (fun y hy => h y (List.mem_cons_of_mem _ hy)) f (by simpa using hf))]
      simp only [ret, R.shift, R.ok.injEq, List.length_append, List.length_cons, true_and]
      omega
theorem pOp_len (l : List OpD) : l.length ≤ (l.flatMap pOp).length := by
  induction l with
  | nil => simp
  | cons x l ih => simp [pOp] at ih ⊢; omega
theorem change_p {f : Int} {l : List OpD} (h0 : 0 ≤ f) (h1 : f < 1000000000000000000) (h : ∀ o ∈ l, GoodO o) : change (pCh f l) = .ok (f.toNat, l) (pCh f l).length := by
  have hr : ∀ b, (l.flatMap pOp).head? = some b → dig b = false := fun b hb => by
    cases l with
    | nil => cases hb
    | cons x l => obtain rfl := Option.some.inj hb; rfl
  unfold change pCh
  rw [itoa_n h0, bnd_ok (number_dec (by omega) hr), List.drop_left, bnd_ok (p := fun l => ops (l.length + 1) l) (ops_p h _ (by have := pOp_len l; omega))]
  simp [ret, R.shift]

/-! ### What was read is written so -/
/-- What p reads is written by pr. -/
def Says {α : Type} (p : List UInt8 → R α) (pr : α → List UInt8) : Prop := ∀ l v n, p l = .ok v n → l = pr v ++ l.drop n ∧ (pr v).length = n
theorem says_bnd {α β : Type} {p : List UInt8 → R α} {q : α → List UInt8 → R β} {pp : α → List UInt8} {pq : α → β → List UInt8} {pr : β → List UInt8}
    (hp : Says p pp) (hq : ∀ u, Says (q u) (pq u)) (he : ∀ l u i v j, p l = .ok u i → q u (l.drop i) = .ok v j → pr v = pp u ++ pq u v) : Says (bnd p q) pr := by
  intro l v n h
  obtain ⟨u, i, j, h1, h2, rfl⟩ := bnd_inv h
  obtain ⟨a1, a2⟩ := hp _ _ _ h1
  obtain ⟨b1, b2⟩ := hq _ _ _ _ h2
  rw [he l u i v j h1 h2]
  refine ⟨?_, by rw [List.length_append, a2, b2]⟩
  rw [List.append_assoc, ← List.drop_drop, ← b1]
  exact a1
theorem says_ret {α : Type} (v : α) {pr : α → List UInt8} (h : pr v = []) : Says (ret v) pr := by
  intro l u n hh
  simp only [ret, R.ok.injEq] at hh
  obtain ⟨rfl, rfl⟩ := hh
  rw [h]; exact ⟨rfl, rfl⟩
theorem says_must (c : UInt8) : Says (must c) fun _ => [c] := by
  intro l v n h
  unfold must at h
  split at h
  · rename_i h1
    simp only [R.ok.injEq] at h
    obtain ⟨_, rfl⟩ := h
    cases l with
    | nil => cases h1
    | cons a t => obtain rfl := Option.some.inj h1; exact ⟨rfl, rfl⟩
  · cases h
theorem hexes_ok {l : List UInt8} {v : UInt8} {n : Nat} (h : hexes l = .ok v n) : n = 4 ∧ ctl v = true ∧ v ≠ 10 ∧ ∃ r, l = hexd (v.toNat / 16) :: hexd (v.toNat % 16) :: r := by
  cases l with
  | nil => cases h
  | cons a t =>
    unfold hexes at h
    cases ha : hexv a with
    | none => rw [digit16_bad ha] at h; cases h
    | some x =>
      rw [digit16_ok ha] at h
      cases t with
      | nil => cases h
      | cons b u =>
        simp only [List.drop_succ_cons, List.drop_zero] at h
        cases hb : hexv b with
        | none => rw [digit16_bad hb] at h; cases h
        | some y =>
          rw [digit16_ok hb] at h
          simp only at h
          split at h
          · rename_i h1
            simp only [R.ok.injEq] at h
            obtain ⟨rfl, rfl⟩ := h
            obtain ⟨rfl, h2⟩ := hexd_hexv ha
            obtain ⟨rfl, h3⟩ := hexd_hexv hb
            have e : (UInt8.ofNat (x * 16 + y)).toNat = x * 16 + y := of_nat (by omega)
            refine ⟨rfl, h1.1, h1.2, u, ?_⟩
            rw [e, show (x * 16 + y) / 16 = x by omega, show (x * 16 + y) % 16 = y by omega]
          · cases h
theorem says_inside {l : List UInt8} {v : UInt8} {n : Nat} (h : inside l = .ok v n) (h34 : l.head? ≠ some 34) : l = qb v ++ l.drop n ∧ (qb v).length = n := by
  cases l with
  | nil => cases h
  | cons b t =>
    simp only [inside] at h
    split at h
    · cases h
    rename_i h1
    split at h
    · rename_i h2
      simp only [R.ok.injEq] at h
      obtain ⟨rfl, rfl⟩ := h
      have hb10 : b ≠ 10 := fun e => h1 (by rw [e]; rfl)
      have hb34 : b ≠ 34 := fun e => h34 (by rw [e]; rfl)
      have e : qb b = [b] := by unfold qb; rw [if_neg hb10, if_neg h1, if_neg (fun h => h.elim hb34 h2)]
      rw [e]; exact ⟨rfl, rfl⟩
    · rename_i h2
      have h2 : b = 92 := Classical.byContradiction h2
      subst h2
      cases t with
      | nil => cases h
      | cons c u =>
        simp only at h
        split at h
        · rename_i h3
          simp only [R.ok.injEq] at h
          obtain ⟨rfl, rfl⟩ := h
          rcases h3 with rfl | rfl <;> exact ⟨rfl, rfl⟩
        split at h
        · rename_i h3
          simp only [R.ok.injEq] at h
          obtain ⟨rfl, rfl⟩ := h
          subst h3; exact ⟨rfl, rfl⟩
        split at h
        · rename_i h3
          subst h3
          obtain ⟨rfl, a1, a2, r, rfl⟩ := hexes_ok h
          have e : qb v = [92, 120, hexd (v.toNat / 16), hexd (v.toNat % 16)] := by unfold qb; rw [if_neg a2, if_pos a1]
          rw [e]; exact ⟨rfl, rfl⟩
        · cases h
theorem says_body (f : Nat) : Says (body f) fun v => v.flatMap qb ++ [34] := by
  induction f with
  | zero => intro l v n h; cases h
  | succ f ih =>
    intro l v n h
    unfold body at h
    split at h
    · rename_i h1
      simp only [R.ok.injEq] at h
      obtain ⟨rfl, rfl⟩ := h
      cases l with
      | nil => cases h1
      | cons a t => obtain rfl := Option.some.inj h1; exact ⟨rfl, rfl⟩
    · rename_i h1
      obtain ⟨u, i, j, h2, h3, rfl⟩ := bnd_inv h
      obtain ⟨a1, a2⟩ := says_inside h2 h1
      obtain ⟨us, i2, j2, h4, h5, rfl⟩ := bnd_inv h3
      simp only [ret, R.ok.injEq] at h5
      obtain ⟨rfl, rfl⟩ := h5
      obtain ⟨b1, b2⟩ := ih _ _ _ h4
      dsimp only at b1 b2 ⊢
      have e : (u :: us).flatMap qb ++ [34] = qb u ++ (us.flatMap qb ++ [34]) := by simp
      rw [e]
      refine ⟨?_, by rw [List.length_append, a2, b2]; omega⟩
      rw [List.append_assoc, show l.drop (i + (i2 + 0)) = (l.drop i).drop i2 by rw [List.drop_drop, Nat.add_zero], ← b1]
      exact a1
theorem says_quoted : Says quoted qt := by
  refine says_bnd (pq := fun _ v => v.flatMap qb ++ [34]) (says_must 34) (fun _ l v n h => says_body _ _ _ _ h) fun l u i v j _ _ => ?_
  rfl
theorem says_number : Says number fun n => decDigits n := by
  intro l v n h
  unfold number at h
  split at h
  · rename_i h1
    simp only [R.ok.injEq] at h
    obtain ⟨rfl, rfl⟩ := h
    dsimp only
    rw [dec_inv (tw_mem l) h1]
    exact ⟨(tw_drop l).symm, rfl⟩
  · cases h
theorem number_lt {l : List UInt8} {v n : Nat} (h : number l = .ok v n) : v < 1000000000000000000 := by
  unfold number at h
  split at h
  · rename_i h1
    simp only [R.ok.injEq] at h
    obtain ⟨rfl, rfl⟩ := h
    have := val_lt _ (tw_mem (p := dig) l)
    have h2 : 10 ^ (l.takeWhile dig).length ≤ 10 ^ 18 := Nat.pow_le_pow_right (by omega) h1.2.1
    have e : (10 : Nat) ^ 18 = 1000000000000000000 := by decide
    omega
  · cases h
theorem says_key : Says key id := by
  intro l v n h
  unfold key at h
  split at h
  · cases h
  · simp only [R.ok.injEq] at h
    obtain ⟨rfl, rfl⟩ := h
    exact ⟨(tw_drop l).symm, rfl⟩
theorem says_attr : Says attr pAttr := by
  refine says_bnd (pq := fun _ x => 58 :: qt x.2.data.toList) says_key (fun k => ?_) fun l u i v j h1 h2 => ?_
  · refine says_bnd (pq := fun _ x => qt x.2.data.toList) (says_must 58) (fun _ => ?_) fun l u i v j _ _ => rfl
    refine says_bnd (pp := qt) (pq := fun _ _ => []) says_quoted (fun v => says_ret _ rfl) fun l u i v j _ h => ?_
    simp only [ret, R.ok.injEq] at h
    obtain ⟨rfl, rfl⟩ := h
    rw [data_ba, List.append_nil]
  · obtain ⟨_, _, _, _, h3, _⟩ := bnd_inv h2
    obtain ⟨_, _, _, _, h4, _⟩ := bnd_inv h3
    simp only [ret, R.ok.injEq] at h4
    obtain ⟨rfl, rfl⟩ := h4
    rfl
theorem says_more (f : Nat) : Says (more f) pMore := by
  induction f with
  | zero => intro l v n h; cases h
  | succ f ih =>
    intro l v n h
    unfold more at h
    split at h
    · refine says_bnd (pq := fun _ v => (pMore v).drop 1) (says_must 44) (fun _ => ?_) (fun l u i v j _ h2 => ?_) _ _ _ h
      · refine says_bnd (pp := pAttr) (pq := fun _ v => pMore (v.drop 1)) says_attr (fun a => ?_) fun l u i v j _ h2 => ?_
        · refine says_bnd (pp := pMore) (pq := fun _ _ => []) ih (fun r => says_ret _ rfl) fun l u i v j _ h2 => ?_
          simp only [ret, R.ok.injEq] at h2
          obtain ⟨rfl, rfl⟩ := h2
          simp
        · obtain ⟨_, _, _, _, h3, _⟩ := bnd_inv h2
          simp only [ret, R.ok.injEq] at h3
          obtain ⟨rfl, rfl⟩ := h3
          simp [pMore]
      · obtain ⟨_, _, _, _, h3, _⟩ := bnd_inv h2
        obtain ⟨_, _, _, _, h3, _⟩ := bnd_inv h3
        simp only [ret, R.ok.injEq] at h3
        obtain ⟨rfl, rfl⟩ := h3
        simp [pMore]
    · refine says_bnd (pq := fun _ _ => []) (says_must 125) (fun _ => says_ret _ rfl) (fun l u i v j _ h2 => ?_) _ _ _ h
      simp only [ret, R.ok.injEq] at h2
      obtain ⟨rfl, rfl⟩ := h2
      rfl
theorem says_attrs : Says attrs pAttrs := by
  refine says_bnd (pq := fun _ v => (pAttrs v).drop 1) (says_must 123) (fun _ => ?_) fun l u i v j _ h2 => ?_
  · refine says_bnd (pp := pAttr) (pq := fun _ v => pMore (v.drop 1)) says_attr (fun a => ?_) fun l u i v j _ h2 => ?_
    · refine says_bnd (pp := pMore) (pq := fun _ _ => []) (fun l v n h => says_more _ _ _ _ h) (fun r => says_ret _ rfl) fun l u i v j _ h2 => ?_
      simp only [ret, R.ok.injEq] at h2
      obtain ⟨rfl, rfl⟩ := h2
      simp
    · obtain ⟨_, _, _, _, h3, _⟩ := bnd_inv h2
      simp only [ret, R.ok.injEq] at h3
      obtain ⟨rfl, rfl⟩ := h3
      simp [pAttrs]
  · obtain ⟨_, _, _, _, h3, _⟩ := bnd_inv h2
    obtain ⟨_, _, _, _, h3, _⟩ := bnd_inv h3
    simp only [ret, R.ok.injEq] at h3
    obtain ⟨rfl, rfl⟩ := h3
    rfl
theorem says_opt : Says opt pAttrs := by
  intro l v n h
  unfold opt at h
  split at h
  · exact says_attrs _ _ _ h
  · simp only [R.ok.injEq] at h
    obtain ⟨rfl, rfl⟩ := h
    exact ⟨rfl, rfl⟩
theorem says_op : Says op fun o => pKind o ++ pAttrs o.attrs := by
  intro l v n h
  cases l with
  | nil => cases h
  | cons b t =>
    unfold op at h
    simp only at h
    split at h
    rotate_left
    · cases h
    rename_i hb
    obtain ⟨m, h, rfl⟩ := shift_ok h
    unfold kind at h
    split at h
    · rename_i hk; subst hk
      obtain ⟨u, i, j, h1, h2, rfl⟩ := bnd_inv h
      simp only [ret, R.ok.injEq] at h2
      obtain ⟨rfl, rfl⟩ := h2
      obtain ⟨a1, a2⟩ := says_number _ _ _ h1
      have e : pKind ⟨3, (u : Int), none0, []⟩ ++ pAttrs [] = 45 :: decDigits u := by simp [pKind, pAttrs, itoa_nonneg]
      simp only [e, Nat.add_zero, List.length_cons, a2]
      refine ⟨?_, by omega⟩
      rw [Nat.add_comm 1 i, List.drop_succ_cons, List.cons_append, ← a1]
    split at h
    · rename_i _ hk; subst hk
      obtain ⟨u, i, j, h1, h2, rfl⟩ := bnd_inv h
      obtain ⟨a, i2, j2, h3, h4, rfl⟩ := bnd_inv h2
      simp only [ret, R.ok.injEq] at h4
      obtain ⟨rfl, rfl⟩ := h4
      obtain ⟨a1, a2⟩ := says_number _ _ _ h1
      obtain ⟨b1, b2⟩ := says_opt _ _ _ h3
      have e : pKind ⟨1, (u : Int), none0, a⟩ ++ pAttrs a = 61 :: (decDigits u ++ pAttrs a) := by simp [pKind, itoa_nonneg]
      simp only [e, Nat.add_zero, List.length_cons, List.length_append, a2, b2]
      refine ⟨?_, by omega⟩
      rw [Nat.add_comm 1 (i + i2), List.drop_succ_cons, List.cons_append, List.append_assoc, ← List.drop_drop, ← b1, ← a1]
    · rename_i h45 h61
      obtain rfl : b = 43 := (hb.resolve_left h45).resolve_left h61
      obtain ⟨u, i, j, h1, h2, rfl⟩ := bnd_inv h
      obtain ⟨a, i2, j2, h3, h4, rfl⟩ := bnd_inv h2
      simp only [ret, R.ok.injEq] at h4
      obtain ⟨rfl, rfl⟩ := h4
      obtain ⟨a1, a2⟩ := says_quoted _ _ _ h1
      obtain ⟨b1, b2⟩ := says_opt _ _ _ h3
      have e : pKind ⟨2, 0, ba u, a⟩ ++ pAttrs a = 43 :: (qt u ++ pAttrs a) := by simp [pKind, data_ba]
      simp only [e, Nat.add_zero, List.length_cons, List.length_append, a2, b2]
      refine ⟨?_, by omega⟩
      rw [Nat.add_comm 1 (i + i2), List.drop_succ_cons, List.cons_append, List.append_assoc, ← List.drop_drop, ← b1, ← a1]
theorem says_ops (f : Nat) : Says (ops f) fun v => v.flatMap pOp := by
  induction f with
  | zero => intro l v n h; cases h
  | succ f ih =>
    intro l v n h
    unfold ops at h
    split at h
    · simp only [R.ok.injEq] at h
      obtain ⟨rfl, rfl⟩ := h
      exact ⟨rfl, rfl⟩
    · refine says_bnd (pq := fun _ v => (v.flatMap pOp).drop 1) (says_must 32) (fun _ => ?_) (fun l u i v j _ h2 => ?_) _ _ _ h
      · refine says_bnd (pp := fun o => pKind o ++ pAttrs o.attrs) (pq := fun _ v => (v.drop 1).flatMap pOp) says_op (fun a => ?_) fun l u i v j _ h2 => ?_
        · refine says_bnd (pp := fun v => v.flatMap pOp) (pq := fun _ _ => []) ih (fun r => says_ret _ rfl) fun l u i v j _ h2 => ?_
          simp only [ret, R.ok.injEq] at h2
          obtain ⟨rfl, rfl⟩ := h2
          simp
        · obtain ⟨_, _, _, _, h3, _⟩ := bnd_inv h2
          simp only [ret, R.ok.injEq] at h3
          obtain ⟨rfl, rfl⟩ := h3
          simp [pOp]
      · obtain ⟨_, _, _, _, h3, _⟩ := bnd_inv h2
        obtain ⟨_, _, _, _, h3, _⟩ := bnd_inv h3
        simp only [ret, R.ok.injEq] at h3
        obtain ⟨rfl, rfl⟩ := h3
        simp [pOp]
theorem says_change : Says change fun v => pCh v.1 v.2 := by
  refine says_bnd (pp := fun n => decDigits n) (pq := fun _ v => v.2.flatMap pOp) says_number (fun n => ?_) fun l u i v j _ h2 => ?_
  · refine says_bnd (pp := fun v => v.flatMap pOp) (pq := fun _ _ => []) (fun l v n h => says_ops _ _ _ _ h) (fun r => says_ret _ rfl) fun l u i v j _ h2 => ?_
    simp only [ret, R.ok.injEq] at h2
    obtain ⟨rfl, rfl⟩ := h2
    simp
  · obtain ⟨_, _, _, _, h3, _⟩ := bnd_inv h2
    simp only [ret, R.ok.injEq] at h3
    obtain ⟨rfl, rfl⟩ := h3
    simp [pCh, itoa_nonneg]

end Sp
end Go.Proofs.YtacgkbdldbppjaaGreatDoor

/- Plain maths of changesets as text: of those that may be; how long their text is; what Print, Parse, Quote, Read come to. -/
namespace Go.Proofs.YtacgkbdldbppjaaGreatDoor
open Go.RowKit Ch
namespace Sp
open Go.Lib

theorem goodK_of {k : ByteArray} (h : keyB k = true) : goodK k := by
  unfold keyB at h
  obtain ⟨h1, h2, h3⟩ := of_decide_eq_true h
  refine ⟨fun e => by rw [size_data, e] at h2; simp at h2, fun b hb => ?_⟩
  obtain ⟨i, hi, rfl⟩ := List.getElem_of_mem hb
  exact h1 i (by rw [size_data]; exact hi)
theorem chg_keys {l : List A} (h : chgE l = 0) : l.length ≤ 8 ∧ ∀ y ∈ l, goodK y.1 ∧ y.1.size ≤ 32 ∧ y.2.size ≤ 64 := by
  unfold chgE at h
  split at h
  · rename_i hb
    obtain ⟨h1, h2⟩ := of_decide_eq_true hb
    refine ⟨h1, fun x hx => ?_⟩
    obtain ⟨i, hi, rfl⟩ := List.getElem_of_mem hx
    have h3 := h2 i hi
    unfold chgOne at h3
    rw [Bool.and_eq_true, Bool.and_eq_true] at h3
    have hk := h3.1.1
    have hv := h3.1.2
    refine ⟨goodK_of hk, ?_⟩
    unfold keyB at hk
    unfold valB at hv
    simp only [decide_eq_true_eq] at hk hv
    exact ⟨hk.2.2, hv.2⟩
  · omega
theorem rgt_keys {l : List A} (h : rgtE l = 0) : l.length ≤ 8 ∧ ∀ y ∈ l, goodK y.1 ∧ y.1.size ≤ 32 ∧ y.2.size ≤ 64 := by
  unfold rgtE at h
  split at h
  · rename_i hb
    obtain ⟨h1, h2⟩ := of_decide_eq_true hb
    refine ⟨h1, fun x hx => ?_⟩
    obtain ⟨i, hi, rfl⟩ := List.getElem_of_mem hx
    have h3 := h2 i hi
    unfold rgtOne at h3
    rw [Bool.and_eq_true, Bool.and_eq_true] at h3
    have hk := h3.1.1
    have hv := h3.1.2
    refine ⟨goodK_of hk, ?_⟩
    unfold keyB at hk
    unfold valNE valB at hv
    simp only [Bool.and_eq_true, decide_eq_true_eq] at hk hv
    exact ⟨hk.2.2, hv.2.2⟩
  · omega
theorem none_of {s : ByteArray} (h : s.size = 0) : s = none0 := ba_eq (List.length_eq_zero_iff.1 (show s.data.toList.length = 0 from h))
theorem attrs_of {o : OpD} (h : opE o = 0) : o.attrs.length ≤ 8 ∧ ∀ y ∈ o.attrs, goodK y.1 ∧ y.1.size ≤ 32 ∧ y.2.size ≤ 64 := by
  rcases opE_kind h with k | k | k
  · exact chg_keys ((opE_keep k).1 h).2.2
  · exact rgt_keys ((opE_put k).1 h).2.2.2
  · have := ((opE_cut k).1 h).2.2
    rw [List.length_eq_zero_iff.1 this]
    exact ⟨Nat.zero_le _, fun y hy => by cases hy⟩
theorem goodO_of {f : Int} {ops : List OpD} (h : OkC f ops) {o : OpD} (ho : o ∈ ops) : GoodO o := by
  have hv := vop_of h ho
  have he := h.2.2.2.1 o ho
  refine ⟨hv.n0, by have := hv.n1; omega, hv.kind, fun y hy => ((attrs_of he).2 y hy).1, fun k => ?_, fun k => ((opE_put k).1 he).1, fun k => List.length_eq_zero_iff.1 ((opE_cut k).1 he).2.2⟩
  rcases hv.kind with k1 | k1 | k1
  · exact none_of ((opE_keep k1).1 he).2.1
  · exact absurd k1 k
  · exact none_of ((opE_cut k1).1 he).2.1

/-! How long -/
theorem qb_len (b : UInt8) : (qb b).length ≤ 4 := by
  unfold qb
  split
  · simp
  · split
    · simp
    · split <;> simp
theorem qt_len (l : List UInt8) : (qt l).length ≤ 4 * l.length + 2 := by
  have : (l.flatMap qb).length ≤ 4 * l.length := by
    induction l with
    | nil => simp
    | cons b l ih =>
      have := qb_len b
      simp only [List.flatMap_cons, List.length_append, List.length_cons]; omega
  simp only [qt, List.length_cons, List.length_append, List.length_nil]; omega
theorem itoa_len {n : Int} (h : 0 ≤ n) (h1 : n ≤ 20000) : (itoa n).length ≤ 5 := by
  rw [itoa_n h]
  exact dec_len 4 n.toNat (by omega)
theorem pAttr_len {x : A} (h1 : x.1.size ≤ 32) (h2 : x.2.size ≤ 64) : (pAttr x).length ≤ 291 := by
  have := qt_len x.2.data.toList
  rw [size_data] at h1 h2
  simp only [pAttr, List.length_append, List.length_cons]; omega
theorem pMore_le {l : List A} (h : ∀ y ∈ l, y.1.size ≤ 32 ∧ y.2.size ≤ 64) : (pMore l).length ≤ 292 * l.length + 1 := by
  induction l with
  | nil => simp [pMore]
  | cons x l ih =>
    have h1 := ih fun y hy => h y (List.mem_cons_of_mem _ hy)
    have h2 := pAttr_len (h x (List.mem_cons_self ..)).1 (h x (List.mem_cons_self ..)).2
    simp [pMore] at h1 ⊢
    omega
theorem pAttrs_le {l : List A} (h0 : l.length ≤ 8) (h : ∀ y ∈ l, y.1.size ≤ 32 ∧ y.2.size ≤ 64) : (pAttrs l).length ≤ 2400 := by
  cases l with
  | nil => simp [pAttrs]
  | cons x l =>
    have h1 := pMore_le (l := l) fun y hy => h y (List.mem_cons_of_mem _ hy)
    have h2 := pAttr_len (h x (List.mem_cons_self ..)).1 (h x (List.mem_cons_self ..)).2
    simp [pAttrs] at h0 ⊢
    omega
theorem pOp_le {f : Int} {ops : List OpD} (h : OkC f ops) {o : OpD} (ho : o ∈ ops) : (pOp o).length ≤ 400000 := by
  have hv := vop_of h ho
  have he := h.2.2.2.1 o ho
  have h1 := pAttrs_le (attrs_of he).1 fun y hy => ((attrs_of he).2 y hy).2
  have h2 := itoa_len hv.n0 hv.n1
  have h3 := qt_len o.text.data.toList
  have h4 := hv.text
  rw [size_data] at h4
  have h5 : (pKind o).length ≤ 320010 := by
    unfold pKind
    split
    · simp; omega
    · split
      · simp; omega
      · split
        · simp; omega
        · simp
  simp [pOp]; omega
theorem pOps_le {k : Nat} (l : List OpD) (h : ∀ o ∈ l, (pOp o).length ≤ k) : (l.flatMap pOp).length ≤ k * l.length := by
  induction l with
  | nil => simp
  | cons x l ih =>
    have h1 := ih fun y hy => h y (List.mem_cons_of_mem _ hy)
    have h2 := h x (List.mem_cons_self ..)
    simp only [List.flatMap_cons, List.length_append, List.length_cons, Nat.mul_add, Nat.mul_one]; omega
theorem pCh_le {f : Int} {ops : List OpD} (h : OkC f ops) : (itoa f).length ≤ 5 ∧ (ops.flatMap pOp).length ≤ 800000000 := by
  have h1 := pOps_le (k := 400000) ops fun o ho => pOp_le h ho
  exact ⟨itoa_len h.1 h.2.1, by have := h.2.2.1; omega⟩

/-! All is read -/
theorem says_le {α : Type} {p : List UInt8 → R α} {pr : α → List UInt8} (hp : Says p pr) {l : List UInt8} {v : α} {n : Nat} (h : p l = .ok v n) : n ≤ l.length := by
  obtain ⟨h1, h2⟩ := hp _ _ _ h
  have := congrArg List.length h1
  rw [List.length_append] at this
  omega
theorem ops_end (f : Nat) : ∀ {l : List UInt8} {v : List OpD} {n : Nat}, ops f l = .ok v n → n = l.length := by
  induction f with
  | zero => intro l v n h; cases h
  | succ f ih =>
    intro l v n h
    unfold ops at h
    split at h
    · rename_i h1
      simp only [R.ok.injEq] at h
      rw [h1, ← h.2]; rfl
    · obtain ⟨u, i, j, h1, h2, rfl⟩ := bnd_inv h
      obtain ⟨o, i2, j2, h3, h4, rfl⟩ := bnd_inv h2
      obtain ⟨r, i3, j3, h5, h6, rfl⟩ := bnd_inv h4
      simp only [ret, R.ok.injEq] at h6
      have a1 := says_le (says_must 32) h1
      have a2 := says_le says_op h3
      have a3 := ih h5
      rw [List.length_drop] at a2 a3
      rw [List.length_drop] at a3
      omega
theorem change_end {l : List UInt8} {v : Nat × List OpD} {n : Nat} (h : change l = .ok v n) : n = l.length := by
  obtain ⟨u, i, j, h1, h2, rfl⟩ := bnd_inv h
  obtain ⟨r, i2, j2, h3, h4, rfl⟩ := bnd_inv h2
  simp only [ret, R.ok.injEq] at h4
  have a1 := says_le says_number h1
  have a2 := ops_end _ h3
  rw [List.length_drop] at a2
  omega
theorem change_says {l : List UInt8} {v : Nat × List OpD} {n : Nat} (h : change l = .ok v n) : pCh v.1 v.2 = l := by
  have h1 := (says_change _ _ _ h).1
  rw [change_end h, List.drop_length, List.append_nil] at h1
  exact h1.symm

/-! What the functions come to -/
/-- Print: the code, the text. -/
def printF (f : Int) (ops : List OpD) : Int × List UInt8 := if toE f ops ≠ 0 then (toE f ops, []) else if 262144 < (pCh f (norm ops)).length then (3, []) else (0, pCh f (norm ops))
/-- Parse: the fault's code, its place, the changeset. -/
structure PF where
  code : Int
  at_ : Int
  fr : Int
  ops : List OpD
def parseR : R (Nat × List OpD) → PF
  | .bad k => ⟨40, k, 0, []⟩
  | .ok c _ => if toE c.1 c.2 ≠ 0 then ⟨toE c.1 c.2, -1, 0, []⟩ else if c.2 = norm c.2 then ⟨0, 0, c.1, c.2⟩ else ⟨40, -1, 0, []⟩
def parseF (s : List UInt8) : PF := if 262144 < s.length then ⟨2, -1, 0, []⟩ else parseR (change s)
/-- Read: the fault's code, its place, the text, its end. -/
structure RF where
  code : Int
  at_ : Int
  text : List UInt8
  fin : Int
def readR (a : Nat) : R (List UInt8) → RF
  | .bad k => ⟨40, ((a + k : Nat) : Int), [], 0⟩
  | .ok v n => ⟨0, 0, v, ((a + n : Nat) : Int)⟩
def readF (s : List UInt8) (at_ : Int) : RF := if at_ < 0 ∨ (s.length : Int) < at_ then ⟨1, -1, [], 0⟩ else readR at_.toNat (quoted (s.drop at_.toNat))

theorem change_norm {f : Int} {ops : List OpD} (h : toE f ops = 0) : change (pCh f (norm ops)) = .ok (f.toNat, norm ops) (pCh f (norm ops)).length := by
  have h1 := (toE_iff f ops).1 h
  have h2 := (norm_ok h1).1
  exact change_p h1.1 (by have := h1.2.1; omega) fun o ho => goodO_of h2 ho
theorem parse_norm {f : Int} {ops : List OpD} (h : toE f ops = 0) (hl : (pCh f (norm ops)).length ≤ 262144) : parseF (pCh f (norm ops)) = ⟨0, 0, f, norm ops⟩ := by
  have h1 := (toE_iff f ops).1 h
  have hf : (f.toNat : Int) = f := Int.toNat_of_nonneg h1.1
  unfold parseF
  rw [if_neg (by omega), change_norm h]
  unfold parseR
  simp only
  rw [hf, if_neg (by rw [(norm_to h).1]; simp), if_pos (norm_norm h1).symm]
/-- What Print wrote, Parse reads. -/
theorem print_parse {f : Int} {ops : List OpD} (h : (printF f ops).1 = 0) : toE f ops = 0 ∧ parseF (printF f ops).2 = ⟨0, 0, f, norm ops⟩ := by
  unfold printF at h ⊢
  by_cases h1 : toE f ops = 0
  · rw [if_neg (by rw [h1]; simp)] at h ⊢
    by_cases h2 : 262144 < (pCh f (norm ops)).length
    · rw [if_pos h2] at h; simp at h
    · rw [if_neg h2]
      exact ⟨h1, parse_norm h1 (by omega)⟩
  · rw [if_pos (by simpa using h1)] at h
    exact absurd h h1
theorem print_bad {f : Int} {ops : List OpD} (h : (printF f ops).1 ≠ 0) : (printF f ops).2 = [] ∧ ((printF f ops).1 = toE f ops ∨ toE f ops = 0 ∧ (printF f ops).1 = 3) := by
  unfold printF at h ⊢
  by_cases h1 : toE f ops = 0
  · rw [if_neg (by rw [h1]; simp)] at h ⊢
    by_cases h2 : 262144 < (pCh f (norm ops)).length
    · rw [if_pos h2]; exact ⟨rfl, .inr ⟨h1, rfl⟩⟩
    · rw [if_neg h2] at h; simp at h
  · rw [if_pos (by simpa using h1)]
    exact ⟨rfl, .inl rfl⟩
/-- What Parse read, Print writes. -/
theorem parse_print {s : List UInt8} (h : (parseF s).code = 0) : toE (parseF s).fr (parseF s).ops = 0 ∧ (parseF s).ops = norm (parseF s).ops ∧ printF (parseF s).fr (parseF s).ops = (0, s) ∧ s.length ≤ 262144 := by
  unfold parseF at h ⊢
  by_cases h1 : 262144 < s.length
  · rw [if_pos h1] at h; simp at h
  · rw [if_neg h1] at h ⊢
    cases hc : change s with
    | bad k => rw [hc] at h; simp [parseR] at h
    | ok c n =>
      rw [hc] at h
      unfold parseR at h ⊢
      simp only at h ⊢
      by_cases h2 : toE c.1 c.2 = 0
      · rw [if_neg (by rw [h2]; simp)] at h ⊢
        by_cases h3 : c.2 = norm c.2
        · rw [if_pos h3]
          refine ⟨h2, h3, ?_, by omega⟩
          unfold printF
          simp only
          rw [if_neg (by rw [h2]; simp), ← h3, change_says hc, if_neg h1]
        · rw [if_neg h3] at h; simp at h
      · rw [if_pos (by simpa using h2)] at h
        simp only at h
        exact absurd h h2
theorem parse_bad {s : List UInt8} (h : (parseF s).code ≠ 0) : (parseF s).fr = 0 ∧ (parseF s).ops = [] := by
  unfold parseF at h ⊢
  split
  · exact ⟨rfl, rfl⟩
  · rename_i h1
    rw [if_neg h1] at h
    cases hc : change s with
    | bad k => exact ⟨rfl, rfl⟩
    | ok c n =>
      rw [hc] at h
      unfold parseR at h ⊢
      simp only at h ⊢
      split
      · exact ⟨rfl, rfl⟩
      · rename_i h2
        rw [if_neg h2] at h
        split
        · rename_i h3
          rw [if_pos h3] at h; simp at h
        · exact ⟨rfl, rfl⟩
/-- A text in quotes is read wherever it stands. -/
theorem read_qt (b s r : List UInt8) : readF (b ++ (qt s ++ r)) (b.length : Int) = ⟨0, 0, s, ((b.length + (qt s).length : Nat) : Int)⟩ := by
  unfold readF
  rw [if_neg (by simp only [List.length_append, Int.natCast_add]; omega), Int.toNat_natCast, List.drop_left, quoted_qt]
  rfl
/-- One text, one normal form. -/
theorem print_inj {f g : Int} {l m : List OpD} (h1 : (printF f l).1 = 0) (h2 : (printF g m).1 = 0) : (f = g ∧ norm l = norm m) ↔ (printF f l).2 = (printF g m).2 := by
  obtain ⟨a1, a2⟩ := print_parse h1
  obtain ⟨b1, b2⟩ := print_parse h2
  constructor
  · rintro ⟨rfl, h3⟩
    unfold printF
    rw [a1, b1, h3]
  · intro h3
    rw [h3, b2] at a2
    simp only [PF.mk.injEq] at a2
    exact ⟨a2.2.2.1.symm, a2.2.2.2.symm⟩

/-! One line, no control bytes -/
theorem hexd_plain {n : Nat} (h : n < 16) : ctl (hexd n) = false := by
  have : ∀ n < 16, ctl (hexd n) = false := by decide
  exact this n h
theorem qb_plain (b : UInt8) : ∀ x ∈ qb b, ctl x = false := by
  have hb := b_lt b
  unfold qb
  intro x hx
  split at hx
  · simp at hx; rcases hx with rfl | rfl <;> rfl
  · split at hx
    · simp at hx
      rcases hx with rfl | rfl | rfl | rfl
      · rfl
      · rfl
      · exact hexd_plain (by omega)
      · exact hexd_plain (by omega)
    · rename_i h2
      split at hx
      · simp at hx
        rcases hx with rfl | rfl
        · rfl
        · exact Bool.eq_false_iff.2 h2
      · simp at hx; subst hx; exact Bool.eq_false_iff.2 h2
theorem qt_plain (l : List UInt8) : ∀ x ∈ qt l, ctl x = false := by
  intro x hx
  simp only [qt, List.mem_cons, List.mem_append, List.mem_flatMap, List.not_mem_nil, or_false] at hx
  rcases hx with rfl | ⟨b, _, hb⟩ | rfl
  · rfl
  · exact qb_plain b x hb
  · rfl

/-! One insert -/
theorem change_one (s : List UInt8) : change (48 :: 32 :: 43 :: qt s) = .ok (0, [⟨2, 0, ba s, []⟩]) (3 + (qt s).length) := by
  have h : ∀ o ∈ [(⟨2, 0, ba s, []⟩ : OpD)], GoodO o := by
    intro o ho
    obtain rfl := List.mem_singleton.1 ho
    exact ⟨Int.le_refl _, by show (0 : Int) < _; decide, .inr (.inl rfl), fun y hy => (by cases hy), fun h => absurd rfl h, fun _ => rfl, fun h => absurd (show (2 : Int) = 3 from h) (by decide)⟩
  have e : pCh 0 [⟨2, 0, ba s, []⟩] = 48 :: 32 :: 43 :: qt s := by
    have e1 : itoa 0 = [48] := by rw [itoa_n (Int.le_refl _), decDigits]; rfl
    simp [pCh, e1, pOp, pKind, pAttrs, data_ba]
  have := change_p (f := 0) (l := [⟨2, 0, ba s, []⟩]) (Int.le_refl _) (by decide) h
  rw [e] at this
  rw [this]
  simp; omega
theorem norm_one (t : ByteArray) : norm [⟨2, 0, t, []⟩] = [⟨2, 0, t, []⟩] := by
  simp [norm, fold, add, flush, put, trim]
theorem parse_one (s : List UInt8) (h : (qt s).length ≤ 262141) : parseF (48 :: 32 :: 43 :: qt s) = if toE 0 [⟨2, 0, ba s, []⟩] = 0 then ⟨0, 0, 0, [⟨2, 0, ba s, []⟩]⟩ else ⟨toE 0 [⟨2, 0, ba s, []⟩], -1, 0, []⟩ := by
  unfold parseF
  rw [if_neg (by simp; omega), change_one]
  unfold parseR
  simp only [norm_one]
  by_cases h1 : toE 0 [⟨2, 0, ba s, []⟩] = 0
  · rw [if_pos h1, if_neg (by simpa using h1)]; simp
  · rw [if_neg h1, if_pos (by simpa using h1)]; rfl
theorem toE_empty : toE 0 [⟨2, 0, ba [], []⟩] = 30 := by decide +kernel
end Sp
end Go.Proofs.YtacgkbdldbppjaaGreatDoor

/- The reader: its block in memory; what its smallest methods do. -/
namespace Go.Proofs.YtacgkbdldbppjaaGreatDoor
open Go.RowKit Ch

abbrev RT : TypeId := 71
/-- The reader in block b: at a of the text s. -/
def RdAt (w : World) (b : Nat) (s : ByteArray) (a : Nat) : Prop := w.heap[b]? = some (.cells #[.string s, .int .i64 a] 71 (0, 0)) ∧ a ≤ s.size ∧ s.size ≤ maxLen
def rst (s : ByteArray) (a : Nat) : List UInt8 := s.data.toList.drop a
theorem rst_cons {s : ByteArray} {a : Nat} (h : a < s.size) : rst s a = s[a] :: rst s (a + 1) := by
  unfold rst
  rw [List.drop_eq_getElem_cons (by simpa using h)]
  rfl
theorem rst_nil {s : ByteArray} {a : Nat} (h : s.size ≤ a) : rst s a = [] := List.drop_eq_nil_of_le (by simpa using h)
theorem rst_drop (s : ByteArray) (a n : Nat) : (rst s a).drop n = rst s (a + n) := by unfold rst; rw [List.drop_drop]
/-- What a reader throws. -/
abbrev thrown (k : Nat) : Ending := .panicked [{ v := .iface 105 (.int .i64 k), recovered := false }]
structure RdOk (b : Nat) (s : ByteArray) (a : Nat) (w w' : World) : Prop where
  at_ : RdAt w' b s a
  keep : Keep b [RT] w w'

def RdGo {α : Type} (b : Nat) (s : ByteArray) (a : Nat) (x : Sp.R α) (val : α → World → Value → Prop) (w : World) (e : Ending) (w' : World) : Prop :=
  match x with
  | .ok v n => ∃ u, e = .returned u ∧ val v w' u ∧ RdOk b s (a + n) w w'
  | .bad k => e = thrown (a + k) ∧ Keep b [RT] w w'

theorem RdAt.keep {w w' : World} {b : Nat} {s : ByteArray} {a : Nat} (h : RdAt w b s a) (hk : w'.heap[b]? = w.heap[b]?) : RdAt w' b s a := ⟨hk.trans h.1, h.2⟩
theorem keep_drewN {B : Nat} {ts : List TypeId} {a w : World} (h : Keep B ts a w) (n : Nat) : Keep B ts a (w.drewN n) := ⟨below_drewN h.below n, fun i cs e fr hi he => by rw [← h.kept i cs e fr hi he]; rfl⟩

theorem b_beq (x y : UInt8) : ((x.toNat : Int) == (y.toNat : Int)) = decide (x = y) := by
  by_cases h : x = y
  · subst h; simp
  · rw [decide_eq_false h, beq_eq_false_iff_ne]
    exact fun e => h (Sp.b_eq.2 (by omega))

set_option maxHeartbeats 1000000 in
theorem sees_any (b : Nat) (s : ByteArray) (a : Nat) (c : UInt8) (w : World) (h : RdAt w b s a) :
    Calls Tryz.prog 67 #[.pointer (some ⟨b, 0, none⟩), .int .u8 c.toNat] w fun e w' => e = .returned (.bool (decide ((rst s a).head? = some c))) ∧ ∃ n, w' = w.drewN n := by
  obtain ⟨h0, h1, h2⟩ := h
  have h2' : s.size ≤ 9223372036854775807 := h2
  have c0 : w.cell? ⟨b, 0, none⟩ = some (.string s) := (Lib.cell_of_heap h0 0).trans rfl
  have c1 : w.cell? ⟨b, 1, none⟩ = some (.int .i64 a) := (Lib.cell_of_heap h0 1).trans rfl
  by_cases hlt : a < s.size
  · have hlt' : (a : Int) < (s.size : Int) := by omega
    have Hr := Lib.hid (rst_cons hlt)
    go_enter Tryz.func67, Tryz.ntmps67
    go_wp2_with fail
    go_quiet (fail)
    go_wp2_with fail
    go_ret
    refine ⟨?_, _, rfl⟩
    rw [Hr.out]
    refine congrArg (fun b => Ending.returned (Value.bool b)) ?_
    simp only [List.head?_cons, Option.some.injEq]
    exact b_beq _ _
  · have hlt' : ¬ (a : Int) < (s.size : Int) := by omega
    have Hr := Lib.hid (rst_nil (s := s) (a := a) (by omega))
    go_enter Tryz.func67, Tryz.ntmps67
    go_wp2_with fail
    go_quiet (fail)
    go_wp2_with fail
    go_ret
    refine ⟨?_, _, rfl⟩
    rw [Hr.out]
    rfl

theorem RdAt.drewN {w : World} {b : Nat} {s : ByteArray} {a : Nat} (h : RdAt w b s a) (n : Nat) : RdAt (w.drewN n) b s a := h
/-- The reader goes on. -/
theorem RdAt.step {w : World} {b : Nat} {s : ByteArray} {a : Nat} (h : RdAt w b s a) (k : Nat) (hk : k ≤ s.size) : RdAt (w.setCell ⟨b, 1, none⟩ (.int .i64 k)) b s k ∧ Keep b [RT] w (w.setCell ⟨b, 1, none⟩ (.int .i64 k)) :=
  ⟨⟨(Joins.block_setCell h.1 _).trans rfl, hk, h.2.2⟩, keep_set h.1 (List.mem_singleton.2 rfl) (Nat.le_refl _) _ rfl _⟩
theorem RdAt.free {w : World} {b : Nat} {s : ByteArray} {a : Nat} (h : RdAt w b s a) (i : Nat) : w.frozen? ⟨b, i, none⟩ = false := Joins.unfrozen_of_block h.1 i
theorem RdAt.c0 {w : World} {b : Nat} {s : ByteArray} {a : Nat} (h : RdAt w b s a) : w.cell? ⟨b, 0, none⟩ = some (.string s) := (Lib.cell_of_heap h.1 0).trans rfl
theorem RdAt.c1 {w : World} {b : Nat} {s : ByteArray} {a : Nat} (h : RdAt w b s a) : w.cell? ⟨b, 1, none⟩ = some (.int .i64 a) := (Lib.cell_of_heap h.1 1).trans rfl
theorem rst_head {s : ByteArray} {a : Nat} {x : UInt8} {t : List UInt8} (h : rst s a = x :: t) : ∃ hlt : a < s.size, s[a] = x ∧ t = rst s (a + 1) := by
  rcases Nat.lt_or_ge a s.size with hlt | hge
  · rw [rst_cons hlt] at h
    simp only [List.cons.injEq] at h
    exact ⟨hlt, h.1, h.2.symm⟩
  · rw [rst_nil hge] at h; cases h
theorem head_lt {s : ByteArray} {a : Nat} {x : UInt8} (h : (rst s a).head? = some x) : a < s.size := by
  rcases Nat.lt_or_ge a s.size with hlt | hge
  · exact hlt
  · rw [rst_nil hge] at h; cases h

set_option maxHeartbeats 1000000 in
theorem must_ok (b : Nat) (s : ByteArray) (a : Nat) (c : UInt8) (w : World) (h : RdAt w b s a) (hd : (rst s a).head? = some c) :
    Calls Tryz.prog 66 #[.pointer (some ⟨b, 0, none⟩), .int .u8 c.toNat] w fun e w' => e = .returned (.tuple #[]) ∧ RdAt w' b s (a + 1) ∧ Keep b [RT] w w' := by
  have hlt := head_lt hd
  have H := Lib.hid h
  have h2' : s.size ≤ 9223372036854775807 := h.2.2
  have HS := Lib.hid (sees_any b s a c w h)
  have hd' : decide ((rst s a).head? = some c) = true := decide_eq_true hd
  have c1 := h.c1
  have f1 := h.free 1
  clear h hd
  go_enter Tryz.func66, Tryz.ntmps66
  go_wp2_with fail
  refine HS.out.mono ?_
  rintro e w1 ⟨rfl, n, rfl⟩
  rw [hd']
  go_wp2_with fail
  go_end0
  refine ⟨rfl, ?_⟩
  obtain ⟨g1, g2⟩ := (H.out.drewN n).step (a + 1) hlt
  exact ⟨g1, (keep_drewN (Keep.refl _ _ _) n).trans g2⟩
set_option maxHeartbeats 1000000 in
theorem must_bad (b : Nat) (s : ByteArray) (a : Nat) (c : UInt8) (w : World) (h : RdAt w b s a) (hd : ¬ (rst s a).head? = some c) :
    Calls Tryz.prog 66 #[.pointer (some ⟨b, 0, none⟩), .int .u8 c.toNat] w fun e w' => e = thrown a ∧ Keep b [RT] w w' := by
  have HS := Lib.hid (sees_any b s a c w h)
  have hd' : decide ((rst s a).head? = some c) = false := decide_eq_false hd
  have c1 := h.c1
  clear h hd
  go_enter Tryz.func66, Tryz.ntmps66
  go_wp2_with fail
  refine HS.out.mono ?_
  rintro e w1 ⟨rfl, n, rfl⟩
  rw [hd']
  go_wp2_with fail
  exact ⟨rfl, rfl, keep_drewN (Keep.refl _ _ _) n⟩

set_option maxHeartbeats 1000000 in
theorem take_ok (b : Nat) (s : ByteArray) (a : Nat) (x : UInt8) (t : List UInt8) (w : World) (h : RdAt w b s a) (hd : rst s a = x :: t) :
    Calls Tryz.prog 89 #[.pointer (some ⟨b, 0, none⟩)] w fun e w' => e = .returned (.int .u8 x.toNat) ∧ RdAt w' b s (a + 1) ∧ Keep b [RT] w w' := by
  obtain ⟨hlt, hx, ht⟩ := rst_head hd
  have H := Lib.hid h
  have h2' : s.size ≤ 9223372036854775807 := h.2.2
  have hne : ((a : Int) == (s.size : Int)) = false := by rw [beq_eq_false_iff_ne]; omega
  have hlt' : (a : Int) < (s.size : Int) := by omega
  have c0 := h.c0
  have c1 := h.c1
  have f1 := h.free 1
  have HX := Lib.hid hx
  clear h hd hx ht
  go_enter Tryz.func89, Tryz.ntmps89
  go_wp2_with fail
  go_quiet (fail)
  go_wp2_with fail
  go_quiet (fail)
  go_wp2_with fail
  go_ret
  refine ⟨congrArg (fun c : UInt8 => Ending.returned (.int .u8 c.toNat)) HX.out, ((H.out.drewN _).step (a + 1) hlt).1.drewN _, keep_drewN ((keep_drewN (Keep.refl _ _ _) _).trans ((H.out.drewN _).step (a + 1) hlt).2) _⟩
theorem take_bad (b : Nat) (s : ByteArray) (a : Nat) (w : World) (h : RdAt w b s a) (hd : rst s a = []) :
    Calls Tryz.prog 89 #[.pointer (some ⟨b, 0, none⟩)] w fun e w' => e = thrown a ∧ Keep b [RT] w w' := by
  have he : a = s.size := by
    rcases Nat.lt_or_ge a s.size with hlt | hge
    · rw [rst_cons hlt] at hd; cases hd
    · exact Nat.le_antisymm h.2.1 hge
  have hne : ((a : Int) == (s.size : Int)) = true := by rw [beq_iff_eq]; omega
  have c0 := h.c0
  have c1 := h.c1
  have h2' : s.size ≤ 9223372036854775807 := h.2.2
  clear h hd he
  go_enter Tryz.func89, Tryz.ntmps89
  go_wp2_with fail
  go_quiet (fail)
  go_wp2_with fail
  exact ⟨rfl, rfl, keep_drewN (Keep.refl _ _ _) _⟩

theorem control_any (x : UInt8) (w : World) : Calls Tryz.prog 63 #[.int .u8 x.toNat] w fun e w' => e = .returned (.bool (Sp.ctl x)) ∧ w' = w := by
  have hx := Sp.b_lt x
  obtain ⟨q, hq⟩ : ∃ q, q = Sp.ctl x := ⟨_, rfl⟩
  rw [← hq]
  have Hq := Lib.hid hq
  clear hq
  go_enter Tryz.func63, Tryz.ntmps63
  go_wp2_with fail
  all_goals
    go_ret
    refine ⟨congrArg (fun b => Ending.returned (Value.bool b)) ?_, by trivial⟩
    rw [Hq.out]
    clear Hq
    unfold Sp.ctl
    generalize x.toNat = n at *
    rw [Bool.eq_iff_iff]
    simp
    try omega
theorem digit_any (x : UInt8) (w : World) : Calls Tryz.prog 93 #[.int .u8 x.toNat] w fun e w' => e = .returned (.bool (Sp.dig x)) ∧ w' = w := by
  have hx := Sp.b_lt x
  obtain ⟨q, hq⟩ : ∃ q, q = Sp.dig x := ⟨_, rfl⟩
  rw [← hq]
  have Hq := Lib.hid hq
  clear hq
  go_enter Tryz.func93, Tryz.ntmps93
  go_wp2_with fail
  all_goals
    go_ret
    refine ⟨congrArg (fun b => Ending.returned (Value.bool b)) ?_, by trivial⟩
    rw [Hq.out]
    clear Hq
    unfold Sp.dig
    generalize x.toNat = n at *
    rw [Bool.eq_iff_iff]
    simp
    try omega
theorem keyByte_any (x : UInt8) (w : World) : Calls Tryz.prog 127 #[.int .u8 x.toNat] w fun e w' => e = .returned (.bool (Sp.kb x)) ∧ w' = w := by
  have hx := Sp.b_lt x
  obtain ⟨q, hq⟩ : ∃ q, q = Sp.kb x := ⟨_, rfl⟩
  rw [← hq]
  have Hq := Lib.hid hq
  clear hq
  go_enter Tryz.func127, Tryz.ntmps127
  go_wp2
  all_goals
    go_ret
    refine ⟨congrArg (fun b => Ending.returned (Value.bool b)) ?_, by trivial⟩
    rw [Hq.out]
    clear Hq
    unfold Sp.kb
    generalize x.toNat = n at *
    rw [Bool.eq_iff_iff]
    simp
    try omega

end Go.Proofs.YtacgkbdldbppjaaGreatDoor
