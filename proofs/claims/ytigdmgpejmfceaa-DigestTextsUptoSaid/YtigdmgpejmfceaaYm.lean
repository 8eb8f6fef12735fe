/- The five numbers behind 64 more bytes: the program's stirred. -/
import Derived.Test.YtigdmgpejmfceaaYj
import Derived.StillTailTactics
namespace Go.Proofs.Ytigdmgpejmfceaa
open Go.RowKit Su Yh

/-- Five numbers as an array. -/
def c5 (h : H5) : Array Value := #[.int .u32 (h.a : Int), .int .u32 (h.b : Int), .int .u32 (h.c : Int), .int .u32 (h.d : Int), .int .u32 (h.e : Int)]
theorem cells5 {w : World} {g : Nat} {h : H5} (hg : w.heap[g]? = some (.cells (c5 h) 49 (0, 0))) :
    (w.cell? ⟨g, 0, none⟩ = some (.int .u32 (h.a : Int)) ∧ w.cell? ⟨g, 1, none⟩ = some (.int .u32 (h.b : Int)) ∧ w.cell? ⟨g, 2, none⟩ = some (.int .u32 (h.c : Int)) ∧ w.cell? ⟨g, 3, none⟩ = some (.int .u32 (h.d : Int)) ∧ w.cell? ⟨g, 4, none⟩ = some (.int .u32 (h.e : Int))) ∧
    w.frozen? ⟨g, 0, none⟩ = false ∧ w.frozen? ⟨g, 1, none⟩ = false ∧ w.frozen? ⟨g, 2, none⟩ = false ∧ w.frozen? ⟨g, 3, none⟩ = false ∧ w.frozen? ⟨g, 4, none⟩ = false := by
  unfold c5 at hg
  exact ⟨⟨by simp [World.cell?, hg], by simp [World.cell?, hg], by simp [World.cell?, hg], by simp [World.cell?, hg], by simp [World.cell?, hg]⟩, by simp [World.frozen?, hg], by simp [World.frozen?, hg], by simp [World.frozen?, hg], by simp [World.frozen?, hg], by simp [World.frozen?, hg]⟩
theorem set5 {w : World} {g : Nat} {z0 z1 z2 z3 z4 : Value} {T : TypeId} (h : w.heap[g]? = some (.cells #[z0, z1, z2, z3, z4] T (0, 0))) (a b c d e : Value) :
    (((((w.setCell ⟨g, 0, none⟩ a).setCell ⟨g, 1, none⟩ b).setCell ⟨g, 2, none⟩ c).setCell ⟨g, 3, none⟩ d).setCell ⟨g, 4, none⟩ e).heap[g]? = some (.cells #[a, b, c, d, e] T (0, 0)) := by
  have h1 := Lib.heap_setCell_same (i := 0) h a
  have h2 := Lib.heap_setCell_same (i := 1) h1 b
  have h3 := Lib.heap_setCell_same (i := 2) h2 c
  have h4 := Lib.heap_setCell_same (i := 3) h3 d
  exact Lib.heap_setCell_same (i := 4) h4 e
theorem set5_other {w : World} {g k : Nat} (a b c d e : Value) (hk : k ≠ g) : (((((w.setCell ⟨g, 0, none⟩ a).setCell ⟨g, 1, none⟩ b).setCell ⟨g, 2, none⟩ c).setCell ⟨g, 3, none⟩ d).setCell ⟨g, 4, none⟩ e).heap[k]? = w.heap[k]? := by
  rw [Below.heap_setCell _ _ _ _ hk, Below.heap_setCell _ _ _ _ hk, Below.heap_setCell _ _ _ _ hk, Below.heap_setCell _ _ _ _ hk, Below.heap_setCell _ _ _ _ hk]
theorem below_set5 {B g : Nat} {a0 w : World} (h : Below B a0 w) (hB : B ≤ g) (a b c d e : Value) : Below B a0 (((((w.setCell ⟨g, 0, none⟩ a).setCell ⟨g, 1, none⟩ b).setCell ⟨g, 2, none⟩ c).setCell ⟨g, 3, none⟩ d).setCell ⟨g, 4, none⟩ e) :=
  ((((h.setCell (p := ⟨g, 0, none⟩) hB a).setCell (p := ⟨g, 1, none⟩) hB b).setCell (p := ⟨g, 2, none⟩) hB c).setCell (p := ⟨g, 3, none⟩) hB d).setCell (p := ⟨g, 4, none⟩) hB e
theorem run_word (l : List Nat) (k : Nat) (hk : k < 80) (W : World) : (Instr.index 57 (.agg (arrN l 80)) (.int .i64 (k : Int))).run Try.prog W = .ok (.int .u32 ((l.getD k 0 : Nat) : Int)) W := by
  have hidx := arrN_at l 80 k hk
  have hn : (0 : Int) ≤ (k : Int) ∧ (k : Int) < 80 := by omega
  have hz : Try.prog.info? 48 = Try.prog.info? 48 := rfl
  simp [Instr.index, run_underlying Try.underlying57, asIntOf, hn, go_sem]
  rw [if_pos hk, hidx]
  simp
def l5 (h : H5) : List Nat := [h.a, h.b, h.c, h.d, h.e]
theorem c5_arr (h : H5) : c5 h = arrN (l5 h) 5 := rfl
/-- The first k are summed. -/
def mix (k : Nat) (h x : H5) : H5 := ⟨if 0 < k then (h.a + x.a) % 4294967296 else h.a, if 1 < k then (h.b + x.b) % 4294967296 else h.b, if 2 < k then (h.c + x.c) % 4294967296 else h.c, if 3 < k then (h.d + x.d) % 4294967296 else h.d, if 4 < k then (h.e + x.e) % 4294967296 else h.e⟩
theorem mix_zero (h x : H5) : mix 0 h x = h := rfl
theorem mix_five (h x : H5) : mix 5 h x = add5 h x := rfl
theorem mix_at (k : Nat) (h x : H5) (hk : k < 5) : (l5 (mix k h x)).getD k 0 = (l5 h).getD k 0 := by
  match k, hk with
  | 0, _ => rfl
  | 1, _ => rfl
  | 2, _ => rfl
  | 3, _ => rfl
  | 4, _ => rfl
theorem mix_set (k : Nat) (h x : H5) (hk : k < 5) : (arrN (l5 (mix k h x)) 5).setIfInBounds k (.int .u32 ((((l5 h).getD k 0 + (l5 x).getD k 0) % 4294967296 : Nat) : Int)) = arrN (l5 (mix (k + 1) h x)) 5 := by
  match k, hk with
  | 0, _ => rfl
  | 1, _ => rfl
  | 2, _ => rfl
  | 3, _ => rfl
  | 4, _ => rfl
theorem l5_lt (h : H5) (ho : h.Ok) (k : Nat) : (l5 h).getD k 0 < 4294967296 := by
  obtain ⟨o0, o1, o2, o3, o4⟩ := ho
  match k with
  | 0 => exact o0
  | 1 => exact o1
  | 2 => exact o2
  | 3 => exact o3
  | 4 => exact o4
  | k + 5 => simp [l5]
theorem cell5 {w : World} {g : Nat} {h : H5} (hg : w.heap[g]? = some (.cells (c5 h) 49 (0, 0))) (k : Nat) (hk : k < 5) : w.cell? ⟨g, k, none⟩ = some (.int .u32 (((l5 h).getD k 0 : Nat) : Int)) ∧ w.frozen? ⟨g, k, none⟩ = false :=
  ⟨by rw [cell_of_row _ _ _ _ _ _ hg, c5_arr, arrN_at _ _ _ hk], frozen_of_row _ _ _ _ _ hg⟩
/-- What lies in memory: the numbers, what is answered, those that go through the rounds. -/
structure StSt (w : World) (h x : H5) (W : World) : Prop where
  below : Below w.heap.size w W
  hh : W.heap[w.heap.size]? = some (.cells (c5 h) 49 (0, 0))
  res : W.heap[w.heap.size + 1]? = some (.cells #[.int .u32 0, .int .u32 0, .int .u32 0, .int .u32 0, .int .u32 0] 49 (0, 0))
  xx : W.heap[w.heap.size + 1 + 1]? = some (.cells (c5 x) 49 (0, 0))
theorem StSt.drew {w W : World} {h x : H5} (k : StSt w h x W) : StSt w h x W.drew := ⟨k.below.drew, k.hh, k.res, k.xx⟩
theorem StSt.setX {w W : World} {h x : H5} (k : StSt w h x W) (y : H5) : StSt w h y (((((W.setCell ⟨w.heap.size + 1 + 1, 0, none⟩ (.int .u32 (y.a : Int))).setCell ⟨w.heap.size + 1 + 1, 1, none⟩ (.int .u32 (y.b : Int))).setCell ⟨w.heap.size + 1 + 1, 2, none⟩ (.int .u32 (y.c : Int))).setCell ⟨w.heap.size + 1 + 1, 3, none⟩ (.int .u32 (y.d : Int))).setCell ⟨w.heap.size + 1 + 1, 4, none⟩ (.int .u32 (y.e : Int))) :=
  ⟨below_set5 k.below (by omega) _ _ _ _ _, (set5_other _ _ _ _ _ (by omega)).trans k.hh, (set5_other _ _ _ _ _ (by omega)).trans k.res, set5 k.xx _ _ _ _ _⟩

theorem StSt.setH {w W : World} {h x g : H5} {k : Nat} {v : Value} (s : StSt w h x W) (e : (arrN (l5 h) 5).setIfInBounds k v = arrN (l5 g) 5) : StSt w g x (W.setCell ⟨w.heap.size, k, none⟩ v) := by
  refine ⟨s.below.setCell (by simp) _, ?_, ?_, ?_⟩
  · rw [c5_arr, ← e, ← c5_arr]; exact Lib.heap_setCell_same (i := k) s.hh v
  · rw [Below.heap_setCell _ _ _ _ (by simp)]; exact s.res
  · rw [Below.heap_setCell _ _ _ _ (by simp; omega)]; exact s.xx

set_option maxRecDepth 100000 in
set_option maxHeartbeats 4000000 in
theorem stirred_any (v : Value) (b : List UInt8) (h : H5) (w : World) (hv : BRow w v b) (h64 : b.length = 64) (hok : h.Ok) :
    Calls Try.prog 29 #[.agg (c5 h), v] w fun e w' => e = .returned (.agg (c5 (stir h b))) ∧ Below w.heap.size w w' := by
  have HV := Lib.hid hv
  obtain ⟨a, cap, rfl, g2, g3, _⟩ := hv
  have HOK := Lib.hid hok
  have HL := Lib.hid h64
  have hzz : ∀ W, (zeroValue 49).run Try.prog W = .ok (.agg #[.int .u32 0, .int .u32 0, .int .u32 0, .int .u32 0, .int .u32 0]) W := fun W => (zero_of_info (show (Try.prog.info? 49).map (fun i => (i.zero, i.size)) = some (some (.agg #[.int .u32 0, .int .u32 0, .int .u32 0, .int .u32 0, .int .u32 0]), 5) by kernel_rfl)).1 W
  rw [h64] at g2 ⊢
  rw [show c5 h = #[.int .u32 (h.a : Int), .int .u32 (h.b : Int), .int .u32 (h.c : Int), .int .u32 (h.d : Int), .int .u32 (h.e : Int)] from rfl]
  clear hok h64
  go_enter Try.func29, Try.ntmps29
  go_wp2_with fail
  obtain ⟨Y, hY⟩ : ∃ Y, Y = (((w.alloc (.cells #[.int .u32 (h.a : Int), .int .u32 (h.b : Int), .int .u32 (h.c : Int), .int .u32 (h.d : Int), .int .u32 (h.e : Int)] 49)).alloc (.cells #[.int .u32 0, .int .u32 0, .int .u32 0, .int .u32 0, .int .u32 0] 49)).alloc (.cells #[.int .u32 (h.a : Int), .int .u32 (h.b : Int), .int .u32 (h.c : Int), .int .u32 (h.d : Int), .int .u32 (h.e : Int)] 49)) := ⟨_, rfl⟩
  rw [← hY]
  have s0 : StSt w h h Y := by
    rw [hY]
    refine ⟨(((Below.refl _ _).alloc (Nat.le_refl _) _).alloc (by simp) _).alloc (by simp; omega) _, ?_, ?_, ?_⟩
    · rw [Below.heap_alloc _ _ _ (by simp; omega), Below.heap_alloc _ _ _ (by simp)]; exact heap_alloc_last w _
    · rw [Below.heap_alloc _ _ _ (by simp)]
      have := heap_alloc_last (w.alloc (.cells #[.int .u32 (h.a : Int), .int .u32 (h.b : Int), .int .u32 (h.c : Int), .int .u32 (h.d : Int), .int .u32 (h.e : Int)] 49)) (.cells #[.int .u32 0, .int .u32 0, .int .u32 0, .int .u32 0, .int .u32 0] 49)
      rw [World.size_alloc] at this
      exact this
    · have := heap_alloc_last ((w.alloc (.cells #[.int .u32 (h.a : Int), .int .u32 (h.b : Int), .int .u32 (h.c : Int), .int .u32 (h.d : Int), .int .u32 (h.e : Int)] 49)).alloc (.cells #[.int .u32 0, .int .u32 0, .int .u32 0, .int .u32 0, .int .u32 0] 49)) (.cells #[.int .u32 (h.a : Int), .int .u32 (h.b : Int), .int .u32 (h.c : Int), .int .u32 (h.d : Int), .int .u32 (h.e : Int)] 49)
      simp only [World.size_alloc] at this
      exact this
  have HS0 := Lib.hid s0
  clear s0 hY
  refine (spread_any (.slice a 64 cap) b Y (by have := HV.out.below HS0.out.below; rwa [HL.out] at this) HL.out).mono ?_
  rintro e w1 ⟨rfl, hb1⟩
  have HS1 := Lib.hid (show StSt w h h w1 from ⟨HS0.out.below.trans (hb1.mono HS0.out.below.size), (hb1.block _ (Array.getElem?_eq_some_iff.1 HS0.out.hh).1).trans HS0.out.hh, (hb1.block _ (Array.getElem?_eq_some_iff.1 HS0.out.res).1).trans HS0.out.res, (hb1.block _ (Array.getElem?_eq_some_iff.1 HS0.out.xx).1).trans HS0.out.xx⟩)
  have HWL := Lib.hid (words_lt b)
  clear hb1 HS0
  go_wp2_with fail
  go_loopw [6, 7, 8, 9, 14] (fun _ _ _ _ i wr => ∃ k : Nat, i = .int .i64 (k : Int) ∧ k ≤ 80 ∧ StSt w h (Yh.rounds b k h) wr) (fun _ _ _ _ i _ => 80 - (intOf i).toNat)
  case atStart => exact ⟨0, rfl, by omega, HS1.out⟩
  case round =>
    obtain ⟨k, rfl, hk, hst⟩ := hrel
    by_cases hlt : k < 80
    · have hlt' : (k : Int) < 80 := by omega
      have HRD := Lib.hid (show Yh.rounds b (k + 1) h = Yh.step k ((words b).getD k 0) (Yh.rounds b k h) by rw [Yh.rounds])
      have hxo := rounds_ok b k HOK.out
      have hwk : (words b).getD k 0 < 4294967296 := by
        rw [List.getD_eq_getElem?_getD]
        cases hi : (words b)[k]? with
        | none => simp
        | some x => exact HWL.out x (List.mem_of_getElem? hi)
      have hidx := arrN_at (words b) 80 k hlt
      have hsz := arrN_size (words b) 80
      have hm2 := run_word (words b) k hlt
      generalize Yh.rounds b k h = x at *
      generalize (words b).getD k 0 = wk at *
      obtain ⟨⟨x0, x1, x2, x3, x4⟩, f0, f1, f2, f3, f4⟩ := cells5 hst.xx
      have HST := Lib.hid hst
      obtain ⟨o0, o1, o2, o3, o4⟩ := hxo
      have HRN := Lib.hid (round_any k x.b x.c x.d wr hlt o1 o2 o3)
      have hF := fOf_lt (i := k) o1 o2 o3
      have hK := kOf_lt k
      have HR5 := Lib.hid ((rot_any 5 x.a wr.drew o0 (.inr (.inl rfl))).mono (fun e w' h => show e = .returned (.int .u32 (rot 5 x.a : Int)) ∧ w' = wr.drew from ⟨h.1, h.2.symm⟩))
      have HR30 := Lib.hid ((rot_any 30 x.b wr.drew o1 (.inr (.inr rfl))).mono (fun e w' h => show e = .returned (.int .u32 (rot 30 x.b : Int)) ∧ w' = wr.drew from ⟨h.1, h.2.symm⟩))
      rw [show ((5 : Nat) : Int) = 5 from rfl] at HR5
      rw [show ((30 : Nat) : Int) = 30 from rfl] at HR30
      have hr5 := rot_lt 5 o0
      have HSX := Lib.hid (HST.out.drew.setX (Yh.step k wk x))
      unfold Yh.step at HSX
      have HSE := Lib.hid (show Yh.step k wk x = ⟨(rot 5 x.a + fOf k x.b x.c x.d + x.e + kOf k + wk) % 4294967296, x.a, rot 30 x.b, x.c, x.d⟩ from rfl)
      generalize rot 5 x.a = r5 at *
      generalize rot 30 x.b = r30 at *
      generalize fOf k x.b x.c x.d = F at *
      generalize kOf k = KK at *
      clear hst
      go_wp2_with fail
      refine HRN.out.mono ?_
      rintro e w2 ⟨rfl, rfl⟩
      go_wp2_with fail
      refine wp_region_still_tail 22 (by kernel_rfl) (by kernel_rfl) ?_
      simp only [List.take_succ_cons, List.take_zero, List.drop_succ_cons, List.drop_zero]
      still_step
      still_step
      still_call HR5.out
      repeat still_step
      still_call HR30.out
      repeat still_step
      refine wpStill_nil ?_
      change wpList _ _ _ _ _ wr.drew
      go_wp2_with fail
      refine ⟨⟨k + 1, by rw [Int.natCast_add]; rfl, by omega, ?_⟩, ?_⟩
      · have e : (((r5 + F + x.e + KK + wk) % 4294967296 : Nat) : Int) = ((r5 : Int) + F + x.e + KK + wk) % 4294967296 := by omega
        have h1 := HSX.out
        try simp only at h1
        rw [e] at h1
        rw [HRD.out, HSE.out]
        exact h1
      · simp only [intOf]
        omega
    · have hk80 : k = 80 := by omega
      subst hk80
      have hok2 := rounds_ok b 80 HOK.out
      have HE := Lib.hid (show stir h b = add5 h (Yh.rounds b 80 h) from rfl)
      generalize Yh.rounds b 80 h = x at *
      rw [show ((80 : Nat) : Int) = 80 from rfl]
      have HST := Lib.hid (show StSt w (mix 0 h x) x wr from hst)
      have HOX := Lib.hid (l5_lt x hok2)
      have HOH := Lib.hid (l5_lt h HOK.out)
      clear hst hlt hk hok2
      go_wp2_with fail
      go_loopw [10, 52] (fun _ i wr => ∃ k : Nat, i = .int .i64 (k : Int) ∧ k ≤ 5 ∧ StSt w (mix k h x) x wr) (fun _ i _ => 5 - (intOf i).toNat)
      case atStart => exact ⟨0, rfl, by omega, HST.out⟩
      case round =>
        obtain ⟨k, rfl, hk, hst⟩ := hrel
        by_cases hlt : k < 5
        · have hlt' : (k : Int) < 5 := by omega
          obtain ⟨c0, _⟩ := cell5 hst.drew.xx k hlt
          obtain ⟨c1, f1⟩ := cell5 hst.drew.hh k hlt
          rw [mix_at k h x hlt] at c1
          have g0 := HOX.out k
          have g1 := HOH.out k
          have HSS := Lib.hid (hst.drew.setH (mix_set k h x hlt))
          generalize (l5 x).getD k 0 = xk at *
          generalize (l5 h).getD k 0 = hk0 at *
          clear hst
          go_wp2_with fail
          refine wp_region_still_tail 8 (by kernel_rfl) (by kernel_rfl) ?_
          simp only [List.take_succ_cons, List.take_zero, List.drop_succ_cons, List.drop_zero]
          repeat still_step
          refine wpStill_nil ?_
          change wpList _ _ _ _ _ wr.drew
          go_wp2_with fail
          refine ⟨⟨k + 1, by rw [Int.natCast_add]; rfl, by omega, HSS.out⟩, ?_⟩
          simp only [intOf]
          omega
        · have hk5 : k = 5 := by omega
          subst hk5
          rw [show ((5 : Nat) : Int) = 5 from rfl]
          rw [mix_five, ← HE.out] at hst
          obtain ⟨⟨y0, y1, y2, y3, y4⟩, _⟩ := cells5 hst.hh
          have hres := hst.res
          have k0 : wr.cell? ⟨w.heap.size + 1, 0, none⟩ = some (.int .u32 0) := by simp [World.cell?, hres]
          have k1 : wr.cell? ⟨w.heap.size + 1, 1, none⟩ = some (.int .u32 0) := by simp [World.cell?, hres]
          have k2 : wr.cell? ⟨w.heap.size + 1, 2, none⟩ = some (.int .u32 0) := by simp [World.cell?, hres]
          have k3 : wr.cell? ⟨w.heap.size + 1, 3, none⟩ = some (.int .u32 0) := by simp [World.cell?, hres]
          have k4 : wr.cell? ⟨w.heap.size + 1, 4, none⟩ = some (.int .u32 0) := by simp [World.cell?, hres]
          have f0 : wr.frozen? ⟨w.heap.size + 1, 0, none⟩ = false := frozen_of_row _ _ _ _ _ hres
          have f1 : wr.frozen? ⟨w.heap.size + 1, 1, none⟩ = false := frozen_of_row _ _ _ _ _ hres
          have f2 : wr.frozen? ⟨w.heap.size + 1, 2, none⟩ = false := frozen_of_row _ _ _ _ _ hres
          have f3 : wr.frozen? ⟨w.heap.size + 1, 3, none⟩ = false := frozen_of_row _ _ _ _ _ hres
          have f4 : wr.frozen? ⟨w.heap.size + 1, 4, none⟩ = false := frozen_of_row _ _ _ _ _ hres
          have HRS := Lib.hid hres
          have HST2 := Lib.hid hst
          generalize hg : stir h b = g at *
          have HG := Lib.hid hg
          clear hst hres hlt hg
          go_wp2_with fail
          refine bodyPost_ret (v := .agg (c5 g)) (results_cell_row rfl _ _ (w.heap.size + 1) 49 _ (0, 0) _ rfl (set5 HRS.out _ _ _ _ _) Try.underlying49 rfl (by kernel_rfl)) rfl ⟨by rw [HG.out], below_set5 HST2.out.below (by omega) _ _ _ _ _⟩
end Go.Proofs.Ytigdmgpejmfceaa
