/- Lent, Kept, Spoil: attributes in memory of their own, whether they were kept, and their owner writes over them. -/
import Derived.Test.YtpbdbiconcmcfaaAtRefOps2
import Derived.OwnWalk
namespace Go.Proofs.Ytpbdbiconcmcfaa
open Go.RowKit At

def mark : ByteArray × ByteArray := (⟨#[109, 97, 114, 107]⟩, ⟨#[]⟩)
theorem grown_refl (w : World) (row : Option Nat) : w.grownBy w row := ⟨rfl, rfl, rfl, Nat.le_refl _, fun _ _ _ => rfl⟩
theorem grown_trans {a b c : World} {row : Option Nat} (h : a.grownBy b row) (k : b.grownBy c row) : a.grownBy c row :=
  ⟨k.os.trans h.os, k.tape.trans h.tape, k.output.trans h.output, Nat.le_trans h.size k.size, fun i hi hne => (k.block i (Nat.lt_of_lt_of_le hi h.size) hne).trans (h.block i hi hne)⟩
theorem only_drewN {a w : World} {row : Option Nat} (h : a.grownBy w row) (n : Nat) : a.grownBy (w.drewN n) row := ⟨h.os, h.tape, h.output, h.size, h.block⟩
theorem only_setCell {a w : World} {g : Nat} (h : a.grownBy w (some g)) {p : Addr} (hp : p.block = g) (u : Value) : a.grownBy (w.setCell p u) (some g) :=
  ⟨h.os, h.tape, h.output, by simpa [World.setCell] using h.size, fun i hi hne => (Below.heap_setCell w p u i (by rintro rfl; exact hne (by rw [hp]))).trans (h.block i hi hne)⟩
theorem news_any {W : World} {ao : Option Addr} {cap : Nat} {l : List (ByteArray × ByteArray)} (h : AtRow W (.slice ao l.length cap) l) : ∀ ad, ao = some ad → ∀ j u, (flat l)[j]? = some u → W.cell? (ad.add j) = some u := by
  intro ad had
  subst had
  exact flat_news h
/-- Cutting one's own row from its head. -/
theorem slice_own (g n cap k : Nat) (hk : k ≤ cap) (W : World) : (Instr.sliceAt 22 (.slice (some ⟨g, 0, none⟩) n cap) none (some (.int .i64 (k : Int))) none).run Try.prog W = .ok (.slice (some ⟨g, 0, none⟩) k cap) W := by
  rw [run_sliceAt_slice W _ _ _ _ _ undAttrs, run_slice_h W _ _ _ _ undAttrs .i64 _ (by omega) (by omega), elemAttrs, Try.sizeOf33, Int.toNat_natCast]
  have e : sliced (some ⟨g, 0, none⟩) 0 k cap 2 = .slice (some ⟨g, 0, none⟩) k cap := by
    unfold sliced
    split <;> simp [Addr.add]
  rw [← e]; rfl

def LentOut (W : World) (l : List (ByteArray × ByteArray)) (e : Ending) (w' : World) : Prop :=
  ∃ g, e = .returned (.slice (some ⟨g, 0, none⟩) l.length (l.length + 1)) ∧ w'.ownsRow W.heap.size 33 2 (.slice (some ⟨g, 0, none⟩) (l.length + 1) (l.length + 1)) (l.length + 1) (flat (l ++ [mark])) ∧ Below W.heap.size W w'

set_option maxHeartbeats 4000000 in
theorem lent_any (v : Value) (l : List (ByteArray × ByteArray)) (w : World) (hv : AtRow w v l) (hp : Proper v) (hr : l.length * 32 ≤ 140737488351232) :
    Calls Try.prog 5 #[v] w (LentOut w l) := by
  have Hv := Lib.hid hv
  have Hp := Lib.hid hp
  obtain ⟨ao, cap, rfl, _⟩ := hv
  have hnone := fun h : ao = none => by subst h; exact hp _ _ rfl
  have Hnone := Lib.hid hnone
  have Hr := Lib.hid hr
  have hn : l.length ≤ 4398046511104 := by omega
  have e0 : ([] : List Value) ++ flat l = flat l := rfl
  have e1 : 0 + l.length = l.length := Nat.zero_add _
  have E1 := Lib.hid (And.intro e0 e1)
  obtain ⟨i0, hi, hz0, hz1, hz2⟩ := info_parts infoAttr
  have Hi := Lib.hid (And.intro hi (And.intro hz0 (And.intro hz1 hz2)))
  have b1 : i0.bytes * (l.length + 1) ≤ 281474976710656 := by rw [hz2]; omega
  have b2 : l.length + 1 ≤ maxLen := by unfold maxLen; omega
  have Hb := Lib.hid (And.intro b1 b2)
  clear hp hr hnone hi hz0 hz1 hz2 b1 b2 e0 e1
  go_enter Try.func5, Try.ntmps5
  go_wp2_with (first
    | (at_make; refine wpList_make_own _ rfl _ _ 22 rfl w.heap.size 33 i0 (.agg #[.string ⟨#[]⟩, .string ⟨#[]⟩]) 2 Try.underlying22 Hi.out.1 Hi.out.2.1 Hi.out.2.2.1 .i64 .i64 _ (l.length + 1) rfl rfl rfl Hb.out.1 Hb.out.2 (Nat.le_refl _) ?_; intro w1 o1 g1; have O1 := Lib.hid o1; have B1 := Lib.hid ((Below.refl w.heap.size w).grown g1 (Nat.le_refl _) (fun k hk => by cases hk)); clear o1 g1)
    | (at_builtin; refine wpList_append_fits_any _ rfl (.tmp 7) (.tmp 8) 22 rfl w.heap.size 33 i0 2 Try.underlying22 Hi.out.1 Hi.out.2.2.1 w.heap.size 0 (l.length + 1) [] rfl O1.out ao l.length cap (flat l) rfl (flat_len l) Hnone.out (news_any (Hv.out.below B1.out)) flat_one (by omega) ?_; intro w2 o2 g2; rw [E1.out.1, E1.out.2] at o2; have O2 := Lib.hid o2; have B2 := Lib.hid (B1.out.grown g2 B1.out.size (fun k hk => by cases hk; exact Nat.le_refl _)); clear o2 g2)
    | (at_builtin; refine wpList_append_fits _ rfl (.tmp 10) (.tmp 12) 22 rfl w.heap.size 33 i0 2 Try.underlying22 Hi.out.1 Hi.out.2.2.1 w.heap.size l.length (l.length + 1) (flat l) rfl (O2.out.alloc _) ⟨w2.heap.size, 0, none⟩ 1 1 [.string mark.1, .string mark.2] rfl rfl (new_at2 _ _ _ _) (fun u hu => by simp at hu; rcases hu with rfl | rfl <;> rfl) (Nat.le_refl _) ?_; intro w3 o3 g3; rw [← flat_snoc] at o3; have O3 := Lib.hid o3; have B3 := Lib.hid ((B2.out.alloc B2.out.size _).grown g3 (Nat.le_trans B2.out.size (by simp)) (fun k hk => by cases hk; exact Nat.le_refl _)); clear o3 g3)
    | (refine wpList_sliced (.slice (some ⟨w.heap.size, 0, none⟩) (l.length + 1) (l.length + 1)) (.slice (some ⟨w.heap.size, 0, none⟩) l.length (l.length + 1)) rfl (slice_own _ _ _ _ (Nat.le_succ _) _) ?_))
  go_ret
  exact ⟨_, rfl, O3.out, B3.out⟩

/-- One cell pair written over in one's own row. -/
theorem own_stored2 {w : World} {B g n cap j : Nat} {xs : List Value} (h : w.ownsRow B 33 2 (.slice (some ⟨g, 0, none⟩) n cap) n xs) (u v : Value) :
    ∃ ys, ((w.setCell ⟨g, j * 2, none⟩ u).setCell ⟨g, j * 2 + 1, none⟩ v).ownsRow B 33 2 (.slice (some ⟨g, 0, none⟩) n cap) n ys :=
  ⟨_, ((h.stored (j * 2) u).1.stored (j * 2 + 1) v).1⟩
theorem own_cell {w : World} {B g n cap j : Nat} {xs : List Value} (h : w.ownsRow B 33 2 (.slice (some ⟨g, 0, none⟩) n cap) n xs) (hj : j < n * 2) : ∃ u, w.cell? ⟨g, j, none⟩ = some u := by
  have hl : j < xs.length := by rw [h.1]; exact hj
  exact ⟨xs[j], by rw [h.cellAt j hj]; exact List.getElem?_eq_getElem hl⟩

def SpoilOut (W : World) (v : Value) (n : Nat) (e : Ending) (w' : World) : Prop := e = .returned (.int .i64 ((n + 1 : Nat) : Int)) ∧ W.grownBy w' v.ownBlock
set_option maxHeartbeats 4000000 in
theorem spoil_any (v : Value) (B n : Nat) (xs : List Value) (w : World) (h : w.ownsRow B 33 2 v n xs) (hn : n ≤ 64) (hB : B ≤ w.heap.size) :
    Calls Try.prog 16 #[v] w (SpoilOut w v n) := by
  have H := Lib.hid h
  obtain ⟨ao, cap, rfl⟩ := own_slice h
  have hn' : n ≤ 9223372036854775807 := by omega
  have h63 : n + 1 ≤ 4096 := by omega
  have H63 := Lib.hid h63
  clear h h63
  go_enter Try.func16, Try.ntmps16
  go_wp2_with fail
  go_loopw [3] (fun i wr => ∃ (k : Nat) (ys : List Value), i = .int .i64 (k : Int) ∧ k ≤ n ∧ wr.ownsRow B 33 2 (.slice ao n cap) n ys ∧ w.grownBy wr (Value.slice ao n cap).ownBlock) (fun i _ => n - (intOf i).toNat)
  case atStart => exact ⟨0, xs, rfl, Nat.zero_le _, H.out, grown_refl _ _⟩
  case round =>
    obtain ⟨k, ys, rfl, hk, hown, hg⟩ := hrel
    by_cases hlt : k < n
    · have hlt' : (k : Int) < (n : Int) := by omega
      obtain ⟨g, cap', he⟩ := ownsRow_open hown (by omega)
      simp only [Value.slice.injEq, true_and] at he
      obtain ⟨rfl, rfl⟩ := he
      obtain ⟨u1, c1⟩ := own_cell hown (j := k * 2) (by omega)
      obtain ⟨u2, c2⟩ := own_cell hown (j := k * 2 + 1) (by omega)
      have f1 : wr.frozen? ⟨g, k * 2, none⟩ = false := hown.frozenAt _
      have f2 : wr.frozen? ⟨g, k * 2 + 1, none⟩ = false := hown.frozenAt _
      obtain ⟨zs, hz⟩ := own_stored2 (j := k) hown (.string ⟨#[115, 112, 111, 105, 108, 116]⟩) (.string ⟨#[]⟩)
      have Hz := Lib.hid hz
      have Hg := Lib.hid (only_setCell (only_setCell hg (p := ⟨g, k * 2, none⟩) rfl (.string ⟨#[115, 112, 111, 105, 108, 116]⟩)) (p := ⟨g, k * 2 + 1, none⟩) rfl (.string ⟨#[]⟩))
      clear hown hg hz
      go_wp2_with fail
      go_roundw
      case rel => exact ⟨k + 1, zs, by go_num, by omega, Hz.out, Hg.out⟩
      case measure => simp [intOf]; omega
    · have hkn : k = n := by omega
      subst hkn
      have Hown := Lib.hid hown
      have Hg := Lib.hid hg
      have hBw : B ≤ wr.heap.size := Nat.le_trans hB hg.size
      clear hown hg hk hlt
      go_wp2_with (at_builtin; refine wpList_append_one rfl (.tmp 14) (.tmp 16) rfl B (.slice ao k cap) k ys (⟨#[109, 111, 114, 101]⟩, ⟨#[]⟩) rfl rfl Hown.out (k + 1) _ rfl rfl H63.out hBw ?_; intro u2 w2 o2 g2; obtain ⟨a2, c2, rfl⟩ := own_slice o2; have G2 := Lib.hid (grown_trans (grown_trans Hg.out (World.grownBy_alloc _ _ _)) g2); clear o2 g2)
      go_ret
      exact ⟨by simp, G2.out⟩
end Go.Proofs.Ytpbdbiconcmcfaa
