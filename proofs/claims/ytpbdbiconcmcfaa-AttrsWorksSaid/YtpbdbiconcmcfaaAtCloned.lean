/- The program's mergeAttrs: what merge gathers, its texts in new memory. -/
import Derived.Test.YtpbdbiconcmcfaaAtMergeWalk
import Derived.Deep.RegionHeld3
namespace Go.Proofs.Ytpbdbiconcmcfaa
open Go.RowKit At

theorem ownsRow_open {w : World} {base k : Nat} {e : TypeId} {v : Value} {n : Nat} {xs : List Value} (h : w.ownsRow base e k v n xs) (hn : 0 < n) : ∃ g cap, v = .slice (some ⟨g, 0, none⟩) n cap := by
  rcases h.2 with ⟨_, h⟩ | ⟨g, cap, _, hv, _⟩
  · omega
  · exact ⟨g, cap, hv⟩
theorem flat_at0 {l : List (ByteArray × ByteArray)} {i : Nat} (h : i < l.length) : (flat l)[i * 2]? = some (.string l[i].1) := by
  induction l generalizing i with
  | nil => simp at h
  | cons x r ih =>
    cases i with
    | zero => rfl
    | succ i =>
      have e : (i + 1) * 2 = i * 2 + 1 + 1 := by omega
      rw [e]
      exact ih (by simpa using h)
theorem flat_at1 {l : List (ByteArray × ByteArray)} {i : Nat} (h : i < l.length) : (flat l)[i * 2 + 1]? = some (.string l[i].2) := by
  induction l generalizing i with
  | nil => simp at h
  | cons x r ih =>
    cases i with
    | zero => rfl
    | succ i =>
      have e : (i + 1) * 2 + 1 = i * 2 + 1 + 1 + 1 := by omega
      rw [e]
      exact ih (by simpa using h)
theorem set_same {α : Type} (l : List α) (i : Nat) (x : α) (h : l[i]? = some x) : l.set i x = l := by
  induction l generalizing i with
  | nil => rfl
  | cons a r ih =>
    cases i with
    | zero => simp at h; subst h; rfl
    | succ i => rw [List.set_cons_succ, ih i (by simpa using h)]

/-- What the region's walk holds of the world at hand. -/
theorem regS {W w' : World} {box g j : Nat} {k v : Value} (h : Below W.heap.size W w') (hbx : box < W.heap.size) (hg : g < W.heap.size) (f1 : W.cell? ⟨box, 0, none⟩ = some k) (f2 : W.cell? ⟨box, 1, none⟩ = some v)
    (f3 : W.cell? ⟨g, j, none⟩ = some k) (f4 : W.cell? ⟨g, j + 1, none⟩ = some v) (f5 : W.frozen? ⟨g, j, none⟩ = false) (f6 : W.frozen? ⟨g, j + 1, none⟩ = false) :
    w'.cell? ⟨box, 0, none⟩ = some k ∧ w'.cell? ⟨box, 1, none⟩ = some v ∧ w'.cell? ⟨g, j, none⟩ = some k ∧ w'.cell? ⟨g, j + 1, none⟩ = some v ∧ w'.frozen? ⟨g, j, none⟩ = false ∧ w'.frozen? ⟨g, j + 1, none⟩ = false :=
  ⟨by rw [h.cell (by exact hbx)]; exact f1, by rw [h.cell (by exact hbx)]; exact f2, by rw [h.cell (by exact hg)]; exact f3, by rw [h.cell (by exact hg)]; exact f4, by rw [h.frozen (by exact hg)]; exact f5, by rw [h.frozen (by exact hg)]; exact f6⟩

theorem regS_stored {w : World} {box g j : Nat} {k v : Value} (hne : box ≠ g)
    (h : w.cell? ⟨box, 0, none⟩ = some k ∧ w.cell? ⟨box, 1, none⟩ = some v ∧ w.cell? ⟨g, j, none⟩ = some k ∧ w.cell? ⟨g, j + 1, none⟩ = some v ∧ w.frozen? ⟨g, j, none⟩ = false ∧ w.frozen? ⟨g, j + 1, none⟩ = false) :
    ((w.setCell ⟨g, j, none⟩ k).setCell ⟨g, j + 1, none⟩ v).cell? ⟨box, 0, none⟩ = some k ∧ ((w.setCell ⟨g, j, none⟩ k).setCell ⟨g, j + 1, none⟩ v).cell? ⟨box, 1, none⟩ = some v ∧ ((w.setCell ⟨g, j, none⟩ k).setCell ⟨g, j + 1, none⟩ v).cell? ⟨g, j, none⟩ = some k ∧ ((w.setCell ⟨g, j, none⟩ k).setCell ⟨g, j + 1, none⟩ v).cell? ⟨g, j + 1, none⟩ = some v ∧ ((w.setCell ⟨g, j, none⟩ k).setCell ⟨g, j + 1, none⟩ v).frozen? ⟨g, j, none⟩ = false ∧ ((w.setCell ⟨g, j, none⟩ k).setCell ⟨g, j + 1, none⟩ v).frozen? ⟨g, j + 1, none⟩ = false := by
  obtain ⟨h1, h2, h3, h4, h5, h6⟩ := h
  have hne' : ¬ g = box := fun e => hne e.symm
  refine ⟨?_, ?_, ?_, ?_, ?_, ?_⟩ <;> go_simp

set_option maxRecDepth 100000 in
set_option maxHeartbeats 2000000 in
theorem cloned_any (F : FuncId) (C : Array Value) (ch : O → O → O) (v u : Value) (a b : List (ByteArray × ByteArray)) (w : World) (hF : Chooses F C ch w) (hv : AtRow w v a) (hu : AtRow w u b) (la : a.length ≤ 8) (lb : b.length ≤ 8)
    (hsz : ∀ x ∈ mergeL ch a b, x.1.size ≤ 64 ∧ x.2.size ≤ 64) :
    Calls Try.prog 20 #[v, u, .func (.func F) #[] C] w (MergeOut w (mergeL ch a b)) := by
  have hlen := mergeL_len ch a b
  have Hm := Lib.hid (merge_any F C ch v u a b w hF hv hu la lb)
  obtain ⟨R, hR⟩ : ∃ R, R = mergeL ch a b := ⟨_, rfl⟩
  rw [← hR] at Hm hsz hlen ⊢
  have Hsz := Lib.hid hsz
  have hl16 : R.length ≤ 16 := by omega
  have hn64 : R.length ≤ 9223372036854775807 := by omega
  clear hR hsz hlen hv hu la lb hF
  go_enter Try.func20, Try.ntmps20
  go_wp2_with fail
  refine Hm.out.mono ?_
  rintro e w1 ⟨v1, rfl, hown, hb⟩
  have Hown := Lib.hid hown
  have Hb := Lib.hid hb
  have hs1 := hb.size
  obtain ⟨a1, cap1, rfl⟩ : ∃ a1 cap1, v1 = .slice a1 R.length cap1 := by
    rcases hown.2 with ⟨rfl, h⟩ | ⟨g, cap, _, rfl, _⟩
    · exact ⟨none, 0, by rw [h]⟩
    · exact ⟨_, _, rfl⟩
  clear hown hb
  go_wp2_with fail
  go_loopw [16] (fun i wr => ∃ n : Nat, i = .int .i64 (n : Int) ∧ n ≤ R.length ∧ wr.ownsRow w.heap.size 33 2 (.slice a1 R.length cap1) R.length (flat R) ∧ Below w.heap.size w wr) (fun i _ => R.length - (intOf i).toNat)
  case atStart => exact ⟨0, rfl, by omega, Hown.out, Hb.out⟩
  case round =>
    obtain ⟨n, rfl, hk, hown, hb⟩ := hrel
    by_cases hlt : n < R.length
    · have hlt' : (n : Int) < (R.length : Int) := by omega
      obtain ⟨g, cap, he⟩ := ownsRow_open hown (by omega)
      simp only [Value.slice.injEq, true_and] at he
      obtain ⟨rfl, rfl⟩ := he
      have hg := hown.lt g rfl
      have c1 : wr.cell? ⟨g, n * 2, none⟩ = some (.string R[n].1) := by rw [hown.cellAt _ (by omega), flat_at0 hlt]
      have c2 : wr.cell? ⟨g, n * 2 + 1, none⟩ = some (.string R[n].2) := by rw [hown.cellAt _ (by omega), flat_at1 hlt]
      have c3 : wr.frozen? ⟨g, n * 2, none⟩ = false := hown.frozenAt _
      have c4 : wr.frozen? ⟨g, n * 2 + 1, none⟩ = false := hown.frozenAt _
      have y1 := (Hsz.out _ (List.getElem_mem hlt)).1
      have y2 := (Hsz.out _ (List.getElem_mem hlt)).2
      obtain ⟨x, hx⟩ : ∃ x, x = R[n] := ⟨_, rfl⟩
      rw [← hx] at c1 c2 y1 y2
      have hown' := Lib.hid hown
      have hb' := Lib.hid hb
      have Hx := Lib.hid hx
      clear hown hb hx
      go_wp2_with fail
      obtain ⟨W, hW⟩ : ∃ W, W = wr.alloc (Obj.cells #[.string x.1, .string x.2] 33) := ⟨_, rfl⟩
      rw [← hW]
      have g1 : W.cell? ⟨wr.heap.size, 0, none⟩ = some (.string x.1) := by rw [hW]; go_simp
      have g2 : W.cell? ⟨wr.heap.size, 1, none⟩ = some (.string x.2) := by rw [hW]; go_simp
      have BW : Below wr.heap.size wr W := by rw [hW]; exact (Below.refl _ _).alloc (Nat.le_refl _) _
      have g3 : W.cell? ⟨g, n * 2, none⟩ = some (.string x.1) := by rw [BW.cell (by exact hg.2)]; exact c1
      have g4 : W.cell? ⟨g, n * 2 + 1, none⟩ = some (.string x.2) := by rw [BW.cell (by exact hg.2)]; exact c2
      have g5 : W.frozen? ⟨g, n * 2, none⟩ = false := by rw [BW.frozen (by exact hg.2)]; exact c3
      have g6 : W.frozen? ⟨g, n * 2 + 1, none⟩ = false := by rw [BW.frozen (by exact hg.2)]; exact c4
      have z1 : wr.heap.size < W.heap.size := by rw [hW]; simp
      have z2 : g < W.heap.size := by omega
      have z3 : wr.heap.size ≠ g := by omega
      have HBW := Lib.hid BW
      clear hW c1 c2 c3 c4 BW
      go_region_held3 (fun w' => w'.cell? ⟨wr.heap.size, 0, none⟩ = some (.string x.1) ∧ w'.cell? ⟨wr.heap.size, 1, none⟩ = some (.string x.2) ∧ w'.cell? ⟨g, n * 2, none⟩ = some (.string x.1) ∧ w'.cell? ⟨g, n * 2 + 1, none⟩ = some (.string x.2) ∧ w'.frozen? ⟨g, n * 2, none⟩ = false ∧ w'.frozen? ⟨g, n * 2 + 1, none⟩ = false)
        (first
          | exact regS (Below.refl _ _).drew z1 z2 g1 g2 g3 g4 g5 g6
          | exact regS BA z1 z2 g1 g2 g3 g4 g5 g6
          | exact regS BB z1 z2 g1 g2 g3 g4 g5 g6
          | exact regS_stored z3 (regS BB z1 z2 g1 g2 g3 g4 g5 g6)
          | (trace_state; fail))
        (first
          | (go_at_call_of 35 (Value.string x.1); refine (clone_any _ _ (by omega)).mono ?_; rintro e wA ⟨rfl, hbA⟩; have BA : Below W.heap.size W wA := ((Below.refl _ _).drew).trans (hbA.mono (Nat.le_refl _)))
          | (go_at_call_of 35 (Value.string x.2); refine (clone_any _ _ (by omega)).mono ?_; rintro e wB ⟨rfl, hbB⟩; have BB : Below W.heap.size W wB := BA.trans (hbB.mono BA.size)))
      have BWB : Below wr.heap.size wr wB := HBW.out.trans (BB.mono HBW.out.size)
      have o1 := (row_below hown'.out BWB).stored (n * 2) (.string x.1)
      rw [set_same _ _ _ (by rw [Hx.out]; exact flat_at0 hlt)] at o1
      have o2 := o1.1.stored (n * 2 + 1) (.string x.2)
      rw [set_same _ _ _ (by rw [Hx.out]; exact flat_at1 hlt)] at o2
      have O2 := Lib.hid o2.1
      have BF : Below w.heap.size w ((wB.setCell ⟨g, n * 2, none⟩ (.string x.1)).setCell ⟨g, n * 2 + 1, none⟩ (.string x.2)) := ((hb'.out.trans (BWB.mono hb'.out.size)).setCell hg.1 _).setCell hg.1 _
      have HBF := Lib.hid BF
      clear o1 o2 BF BWB BA BB hbA hbB g1 g2 g3 g4 g5 g6
      go_wp2_with fail
      go_roundw
      case rel => exact ⟨n + 1, by go_num, by omega, O2.out, HBF.out⟩
      case measure => simp [intOf]; omega
    · have hkn : n = R.length := by omega
      subst hkn
      have hown' := Lib.hid hown
      have hb' := Lib.hid hb
      clear hown hb
      go_wp2_with fail
      go_ret
      exact ⟨_, rfl, hown'.out, hb'.out⟩
end Go.Proofs.Ytpbdbiconcmcfaa
