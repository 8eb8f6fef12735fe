/- Texts of this seat, put together: ChNormal, ChNormOk, ChSmallO. -/
import Derived.Test.YtgalhfnejhboaaaDoorGF3
import Derived.Test.YtgalhfnejhboaaaDoorGC1
/- The program's Normal (as it stands since 08bd5ca: by gather's Add and Change). XChNormal3 is the text for 3458f5b, 26bcfd8. -/
namespace Go.Proofs.YtgalhfnejhboaaaDoor
open Go.RowKit Ch

def NormOut (w : World) (f : Int) (ops : List OpD) (e : Ending) (w' : World) : Prop :=
  (toE f ops ≠ 0 ∧ e = .returned (.tuple #[chAgg 0 (.slice none 0 0), .int .i64 (toE f ops)]) ∧ Below w.heap.size w w') ∨
  (toE f ops = 0 ∧ ∃ v, e = .returned (.tuple #[chAgg f v, .int .i64 0]) ∧ OwnOps w' w.heap.size v (norm ops) ∧ Below w.heap.size w w')

set_option maxRecDepth 100000 in
set_option maxHeartbeats 4000000 in
theorem normal_any (f : Int) (v : Value) (ops : List OpD) (w : World) (hv : OpRow w v ops) (hz : OSized ops) :
    Calls Tryd.prog 22 #[chAgg f v] w (NormOut w f ops) := by
  by_cases he : toE f ops = 0
  · exact (normalG_ok f v ops w hv he).mono fun e w' h => .inr ⟨he, h⟩
  · have HE := Lib.hid he
    obtain ⟨W, hW⟩ : ∃ W, W = (w.alloc (.cells #[.int .i64 f, v] 25)).alloc (.cells #[.int .i64 0, .slice none 0 0] 25) := ⟨_, rfl⟩
    have BW := Lib.hid (show Below w.heap.size w W by rw [hW]; exact ((Below.refl _ _).alloc (Nat.le_refl _) _).alloc (by simp) _)
    have r0 : W.heap[w.heap.size + 1]? = some (.cells #[.int .i64 0, .slice none 0 0] 25 (0, 0)) := by
      rw [hW]
      have := heap_new (w.alloc (.cells #[.int .i64 f, v] 25)) (.cells #[.int .i64 0, .slice none 0 0] 25)
      rwa [World.size_alloc] at this
    have b0 : W.heap[w.heap.size]? = some (.cells #[.int .i64 f, v] 25 (0, 0)) := by
      rw [hW, Below.heap_alloc _ _ _ (by simp)]
      exact heap_new _ _
    have HR := Lib.hid (changeRight_any f v ops W (hv.below BW.out) hz)
    have HW := Lib.hid hW
    have HR0 := Lib.hid r0
    have c0 := (cells2 b0).1
    have c1 := (cells2 b0).2.1
    have te : (toE f ops != 0) = true := by rw [bne_iff_ne]; exact he
    obtain ⟨aa, acap, rfl⟩ := hv.shape
    have hlt := lt_of_heap b0
    clear hW r0 b0 he hv hz
    go_enter Tryd.func22, Tryd.ntmps22
    go_wp2_with fail
    rw [← HW.out]
    go_wp2_with fail
    refine HR.out.mono ?_
    rintro e w1 ⟨rfl, b⟩
    have HB := Lib.hid (BW.out.trans (b.mono BW.out.size))
    have HA1 := Lib.hid ((b.block _ (lt_of_heap HR0.out)).trans HR0.out)
    obtain ⟨p0, p1, p2, p3⟩ := cells2 HA1.out
    have hs1 := lt_of_heap HA1.out
    clear b c0 c1 HR0 HR
    go_wp2_with fail
    obtain ⟨q1, q2, q3⟩ := agg_set (.int .i64 0) (.slice none 0 0) HA1.out
    refine bodyPost_ret (results_chgN rfl rfl rfl (cells2 q1).1 (cells2 q1).2.1) rfl ?_
    exact .inl ⟨HE.out, rfl, HB.out.trans (q2.below.mono (by omega))⟩
end Go.Proofs.YtgalhfnejhboaaaDoor

/- Normal where it answers, and where it refuses. -/
namespace Go.Proofs.YtgalhfnejhboaaaDoor
open Go.RowKit Ch

def isB (f : Int) (ops : List OpD) : Bool := decide (toE f ops = 0 ∧ ops = norm ops)
theorem NormOut.row {w w' : World} {_f : Int} {ops : List OpD} {v : Value} (h : OwnOps w' w.heap.size v (norm ops)) : OpRow w' v (norm ops) := h.row
theorem normal_ok (f : Int) (v : Value) (ops : List OpD) (w : World) (hv : OpRow w v ops) (hz : OSized ops) (he : toE f ops = 0) :
    Calls Tryd.prog 22 #[chAgg f v] w fun e w' => ∃ v', e = .returned (.tuple #[chAgg f v', .int .i64 0]) ∧ OwnOps w' w.heap.size v' (norm ops) ∧ Below w.heap.size w w' :=
  (normal_any f v ops w hv hz).mono fun e w' h => by
    rcases h with ⟨h0, _⟩ | ⟨_, h⟩
    · exact absurd he h0
    · exact h
theorem normal_bad (f : Int) (v : Value) (ops : List OpD) (w : World) (hv : OpRow w v ops) (hz : OSized ops) (he : toE f ops ≠ 0) :
    Calls Tryd.prog 22 #[chAgg f v] w fun e w' => e = .returned (.tuple #[chAgg 0 (.slice none 0 0), .int .i64 (toE f ops)]) ∧ Below w.heap.size w w' :=
  (normal_any f v ops w hv hz).mono fun e w' h => by
    rcases h with ⟨_, h⟩ | ⟨h0, _⟩
    · exact h
    · exact absurd h0 he

end Go.Proofs.YtgalhfnejhboaaaDoor

/- Operations few and short enough to be copied. -/
namespace Go.Proofs.YtgalhfnejhboaaaDoor
open Go.RowKit Ch

def SmallO (ops : List OpD) : Prop := ops.length ≤ 1048576 ∧ ∀ o ∈ ops, o.text.size ≤ 1048576 ∧ SmallA o.attrs
theorem smallO_ok {f : Int} {ops : List OpD} (h : OkC f ops) : SmallO ops := ⟨by have := h.2.2.1; omega, fun o ho => by
  have hv := vop_of h ho
  have := hv.text
  exact ⟨by omega, hv.attrs⟩⟩
theorem small_sized {ops : List OpD} (h : SmallO ops) : OSized ops := fun o ho => by
  have := h.2 o ho
  exact ⟨by unfold maxLen; omega, this.2.sized⟩
end Go.Proofs.YtgalhfnejhboaaaDoor
