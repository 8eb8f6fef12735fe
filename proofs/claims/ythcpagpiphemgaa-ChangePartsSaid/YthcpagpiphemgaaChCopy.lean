/- The program's cloneAttrs: attributes in other memory. -/
import Derived.Test.YthcpagpiphemgaaChMem
import Derived.Test.YthcpagpiphemgaaAtClone
import Derived.Deep.RegionHeld3
namespace Go.Proofs.Ythcpagpiphemgaa
open Go.RowKit Ch

/-- Attributes as they come up anywhere below: few, and short. -/
def SmallA (l : List (ByteArray × ByteArray)) : Prop := l.length ≤ 1048576 ∧ ∀ x ∈ l, x.1.size ≤ 1048576 ∧ x.2.size ≤ 1048576
theorem SmallA.sized {l : List (ByteArray × ByteArray)} (h : SmallA l) : Sized l := fun x hx => by
  have := h.2 x hx
  unfold maxLen
  omega
theorem flat_take_succ {l : List (ByteArray × ByteArray)} {k : Nat} (h : k < l.length) : flat (l.take (k + 1)) = flat (l.take k) ++ [.string l[k].1, .string l[k].2] := by
  rw [List.take_succ_eq_append_getElem h, flat_snoc]
theorem take_len {α : Type} {l : List α} {k : Nat} (h : k ≤ l.length) : (l.take k).length = k := by rw [List.length_take]; omega

set_option maxRecDepth 100000 in
set_option maxHeartbeats 4000000 in
theorem cloneAttrs_any (v : Value) (l : List (ByteArray × ByteArray)) (w : World) (hv : AtRow w v l) (hz : SmallA l) : Calls Try.prog 38 #[v] w (MergeOut w l) := by
  obtain ⟨a, cap, rfl, h1, h2, h3⟩ := hv
  have hn : l.length ≤ 9223372036854775807 := Nat.le_trans h1 h2
  have H3 := Lib.hid h3
  have Hz := Lib.hid hz
  obtain ⟨i0, hi, hz0, hz1, hz2⟩ := info_parts infoAttr
  have Hi := Lib.hid (And.intro hi (And.intro hz0 (And.intro hz1 hz2)))
  clear h1 h2 h3 hz hi hz0 hz1 hz2
  go_enter Try.func38, Try.ntmps38
  go_wp2_with fail
  go_loopw [3, 8] (fun o i wr => ∃ n : Nat, i = .int .i64 (n : Int) ∧ n ≤ l.length ∧ wr.ownsRow w.heap.size 71 2 o n (flat (l.take n)) ∧ Below w.heap.size w wr) (fun _ i _ => l.length - (intOf i).toNat)
  case atStart => exact ⟨0, rfl, Nat.zero_le _, World.ownsRow_nil _ _ _ _, Below.refl _ _⟩
  case round =>
    obtain ⟨n, rfl, hk, hown, hb⟩ := hrel
    obtain ⟨oa, oc, rfl⟩ := own_slice hown
    have HO := Lib.hid hown
    have HB := Lib.hid hb
    by_cases hlt : n < l.length
    · have hlt' : (n : Int) < (l.length : Int) := by omega
      obtain ⟨b, off, rfl, hbl, x1', z1'⟩ := H3.out n hlt
      obtain ⟨s0, s1⟩ := Hz.out.2 _ (List.getElem_mem hlt)
      have hln := Hz.out.1
      have hf := flat_take_succ hlt
      have x1 : wr.cell? ⟨b, off + n * 2, none⟩ = some (.string l[n].1) := by rw [hb.cell (by exact hbl)]; exact x1'
      have z1 : wr.cell? ⟨b, off + n * 2 + 1, none⟩ = some (.string l[n].2) := by rw [hb.cell (by exact hbl)]; exact z1'
      obtain ⟨x, hx⟩ : ∃ x, x = l[n] := ⟨_, rfl⟩
      rw [← hx] at x1 z1 hf s0 s1
      have hs0 := hb.size
      obtain ⟨W, hW⟩ : ∃ W, W = wr.alloc (.cells #[.string x.1, .string x.2] 71) := ⟨_, rfl⟩
      have BW := Lib.hid (show Below wr.heap.size wr W by rw [hW]; exact below_box _ _)
      have c0 : W.cell? ⟨wr.heap.size, 0, none⟩ = some (.string x.1) := by rw [hW]; go_simp
      have c1 : W.cell? ⟨wr.heap.size, 1, none⟩ = some (.string x.2) := by rw [hW]; go_simp
      have hlW : wr.heap.size < W.heap.size := by rw [hW]; simp
      have HW := Lib.hid hW
      have HF := Lib.hid hf
      have HN := Lib.hid (And.intro s0 (And.intro s1 hln))
      have HNE := Lib.hid (show some wr.heap.size ≠ (Value.slice oa n oc).ownBlock from fun e => by have := (hown.lt _ e.symm).2; omega)
      clear hx hown hb x1' z1' hW hf s0 s1 hln
      go_wp2_with fail
      rw [← HW.out]
      go_region_held3 (fun w' => w'.cell? ⟨wr.heap.size, 0, none⟩ = some (.string x.1) ∧ w'.cell? ⟨wr.heap.size, 1, none⟩ = some (.string x.2))
        (first
          | exact ⟨c0, c1⟩
          | exact ⟨(BA.cell (by exact hlW)).trans c0, (BA.cell (by exact hlW)).trans c1⟩
          | exact ⟨(BB.cell (by exact hlW)).trans c0, (BB.cell (by exact hlW)).trans c1⟩
          | exact ⟨((BB.alloc BB.size _).cell (by exact hlW)).trans c0, ((BB.alloc BB.size _).cell (by exact hlW)).trans c1⟩
          | exact ⟨k0, k1⟩)
        (first
          | (go_at_call_of 37 (Value.string x.1); refine (clone_any _ _ (by have := HN.out.1; omega)).mono ?_; rintro e wA ⟨rfl, hbA⟩; have BA : Below W.heap.size W wA := of_drew hbA)
          | (go_at_call_of 37 (Value.string x.2); refine (clone_any _ _ (by have := HN.out.2.1; omega)).mono ?_; rintro e wB ⟨rfl, hbB⟩; have BB : Below W.heap.size W wB := BA.trans (hbB.mono BA.size); have OB := row_below (row_below HO.out BW.out) BB)
          | (refine step_append_own rfl (.tmp 12) (.tmp 20) 38 rfl 71 i0 (.agg #[.string ⟨#[]⟩, .string ⟨#[]⟩]) 2 32 Try.underlying38 Hi.out.1 Hi.out.2.1 Hi.out.2.2.1 Hi.out.2.2.2 rfl (by decide) w.heap.size _ n (flat (l.take n)) rfl (OB.alloc _) ⟨wB.heap.size, 0, none⟩ 1 1 [.string x.1, .string x.2] rfl rfl (new_at2 _ _ _ _) (fun u hu => by simp at hu; rcases hu with rfl | rfl <;> rfl) (by unfold maxLen; have := HN.out.2.2; omega) (by have := HN.out.2.2; omega) (by have := BB.size; have := BW.out.size; simp; omega) ?_; intro v' wC oC gC; have k0 : wC.cell? ⟨wr.heap.size, 0, none⟩ = some (.string x.1) := gC.cell (((BB.alloc BB.size _).cell (by exact hlW)).trans c0) HNE.out; have k1 : wC.cell? ⟨wr.heap.size, 1, none⟩ = some (.string x.2) := gC.cell (((BB.alloc BB.size _).cell (by exact hlW)).trans c1) HNE.out))
      have hl1 : (l.take (n + 1)).length = n + 1 := take_len (by omega)
      have B1 : Below w.heap.size w wC := ((HB.out.trans (BW.out.mono hs0)).trans ((BB.alloc BB.size _).mono (Nat.le_trans hs0 BW.out.size))).grown gC (by have := BB.size; have := BW.out.size; simp; omega) (fun k hk => (HO.out.lt k hk).1)
      rw [← HF.out] at oC
      have OC := Lib.hid oC
      have HB1 := Lib.hid B1
      clear B1 BA BB OB k0 k1 oC gC hbA hbB c0 c1 hl1 x1 z1
      go_wp2_with fail
      go_roundw
      case rel => exact ⟨n + 1, by go_num, by omega, OC.out, HB1.out⟩
      case measure => simp [intOf]; omega
    · have hkn : n = l.length := by omega
      subst hkn
      rw [List.take_length] at hown
      have HO := Lib.hid hown
      clear hown hb
      go_wp2_with fail
      go_ret
      exact ⟨_, rfl, HO.out, HB.out⟩
end Go.Proofs.Ythcpagpiphemgaa
