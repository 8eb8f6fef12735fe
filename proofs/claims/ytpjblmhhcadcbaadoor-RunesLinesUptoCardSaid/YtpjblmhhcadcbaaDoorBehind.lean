/- runes.Behind: how many runes two texts end with alike, of those behind the ones that they begin with alike. -/
import Derived.Test.YtpjblmhhcadcbaaDoorAlike
import Derived.Deep.DeepCutAuto
namespace Go.Proofs.YtpjblmhhcadcbaaDoor
open Go.RowKit Rn

set_option maxHeartbeats 400000 in
theorem Behind_no (a b : ByteArray) (w : World) (h : rd a.data.toList = none ∨ rd b.data.toList = none) (ha : a.size ≤ maxLen) (hb : b.size ≤ maxLen) :
    Calls Tryd.prog 19 #[.string a, .string b] w fun e w' => e = .returned (.tuple #[.int .i64 0, .int .i64 10]) ∧ Below w.heap.size w w' := by
  have H := Lib.hid h; clear h
  go_enter Tryd.func19, Tryd.ntmps19
  go_wp2_with fail
  refine (counts_no a b _ H.out ha hb).mono ?_
  rintro e w1 ⟨rfl, hb1⟩
  go_wp2_with fail
  go_ret2
  exact ⟨rfl, hb1⟩

/-- The comparing of two rows from their ends. -/
def sameB (cs ds : List Nat) (i : Nat) : Bool := (((cs.getD (cs.length - 1 - i) 0 : Nat) : Int) == ((ds.getD (ds.length - 1 - i) 0 : Nat) : Int))
def post (cs ds : List Nat) : Nat := lead (sameB cs ds) (min cs.length ds.length - pre cs ds)
theorem pre_le (cs ds : List Nat) : pre cs ds ≤ min cs.length ds.length := (lead_spec _ _).1

theorem holds_below {k : IntKind} {w w' : World} {v : Value} {cs : List Nat} (h : Holds k w v cs) (hb : Below w.heap.size w w') : Holds k w' v cs := by
  obtain ⟨a, c, rfl, hc, h⟩ := h
  refine ⟨a, c, rfl, hc, fun i hi => ?_⟩
  obtain ⟨b, off, rfl, hlt, hx⟩ := h i hi
  exact ⟨b, off, rfl, Nat.lt_of_lt_of_le hlt hb.size, by rw [hb.cell (by exact hlt)]; exact hx⟩

theorem keep2 {W : World} {b : Nat} {v : Value} (h : W.cell? ⟨b, 0, none⟩ = some v) (hb : b < W.heap.size) (o1 o2 : Obj) (n : Nat) : (((W.alloc o1).alloc o2).drewN n).cell? ⟨b, 0, none⟩ = some v := by
  rw [World.cell?_drewN, World.cell?_alloc_past _ _ _ (by simp; omega), World.cell?_alloc_past _ _ _ hb]; exact h

set_option maxHeartbeats 1000000 in
theorem Behind_ok (cs ds : List Nat) (w : World) (hc : allOk cs) (hd : allOk ds) (hl : cs.length ≤ 20000) (hl2 : ds.length ≤ 20000) :
    Calls Tryd.prog 19 #[.string (T cs), .string (T ds)] w fun e w' => e = .returned (.tuple #[.int .i64 (post cs ds : Nat), .int .i64 0]) ∧ Below w.heap.size w w' := by
  have hlc := (txt_len cs).2
  have hld := (txt_len ds).2
  have H1 := Lib.hid (rd_txt cs hc hl)
  have H2 := Lib.hid (rd_txt ds hd hl2)
  go_enter Tryd.func19, Tryd.ntmps19
  go_wp2_with fail
  refine (counts_ok (T cs) (T ds) cs ds _ H1.out H2.out (by rw [T_size]; unfold maxLen; omega) (by rw [T_size]; unfold maxLen; omega)).mono ?_
  rintro e w1 ⟨rfl, hb1⟩
  have hs1 := hb1.size
  obtain ⟨k1, hk1, r1⟩ := conv_run cs hc hl w1
  obtain ⟨k2, hk2, r2⟩ := conv_run ds hd hl2 ((w1.alloc (runeBlock cs k1)).drew)
  go_wp2_with fail
  obtain ⟨W, hW⟩ : ∃ W, W = ((((w1.alloc (runeBlock cs k1)).alloc (runeBlock ds k2)).alloc (Obj.cells #[Value.slice (some ⟨w1.heap.size, 0, none⟩) cs.length k1] 57)).alloc (Obj.cells #[Value.slice (some ⟨w1.heap.size + 1, 0, none⟩) ds.length k2] 57)).drew.drew := ⟨_, rfl⟩
  rw [← hW]
  have f1 : W.cell? ⟨w1.heap.size + 1 + 1, 0, none⟩ = some (.slice (some ⟨w1.heap.size, 0, none⟩) cs.length k1) := by rw [hW]; go_simp
  have f2 : W.cell? ⟨w1.heap.size + 1 + 1 + 1, 0, none⟩ = some (.slice (some ⟨w1.heap.size + 1, 0, none⟩) ds.length k2) := by rw [hW]; go_simp
  have f3 : Below w.heap.size w W := by rw [hW]; exact ((((hb1.alloc hs1 _).alloc (by simp; omega) _).alloc (by simp; omega) _).alloc (by simp; omega) _).drew.drew
  have f4 : W.heap.size = w1.heap.size + 4 := by rw [hW]; simp
  have f5 : Holds .i32 W (.slice (some ⟨w1.heap.size, 0, none⟩) cs.length k1) cs := holds_new cs k1 hk1 w1 _ _ (by omega) (fun o => by rw [hW]; simp only [World.cell?_drew]; rw [World.cell?_alloc_past _ _ _ (by simp; omega), World.cell?_alloc_past _ _ _ (by simp; omega), World.cell?_alloc_past _ _ _ (by simp)])
  have f6 : Holds .i32 W (.slice (some ⟨w1.heap.size + 1, 0, none⟩) ds.length k2) ds := holds_new ds k2 hk2 (w1.alloc (runeBlock cs k1)) _ _ (by omega) (fun o => by rw [hW]; simp only [World.cell?_drew]; rw [World.cell?_alloc_past _ _ _ (by simp), World.cell?_alloc_past _ _ _ (by simp)]; simp)
  clear hW r1 r2
  have F4 := Lib.hid f4
  have hle := pre_le cs ds
  have hlo : w1.heap.size + 1 + 1 < W.heap.size := by omega
  have hlo2 : w1.heap.size + 1 + 1 + 1 < W.heap.size := by omega
  clear f4
  have q1 : IntKind.i64.wrap (min (cs.length : Int) (ds.length : Int) - (pre cs ds : Int)) = ((min cs.length ds.length - pre cs ds : Nat) : Int) := by rw [IntWalk.i64_in _ (by omega)]; omega
  go_region_held3 (fun w' => w'.cell? ⟨w1.heap.size + 1 + 1, 0, none⟩ = some (.slice (some ⟨w1.heap.size, 0, none⟩) cs.length k1) ∧ w'.cell? ⟨w1.heap.size + 1 + 1 + 1, 0, none⟩ = some (.slice (some ⟨w1.heap.size + 1, 0, none⟩) ds.length k2) ∧ Hid (Below W.heap.size W w')) (first | exact ⟨f1, f2, (Below.refl _ _).drew⟩ | exact ⟨keep2 f1 hlo _ _ _, keep2 f2 hlo2 _ _ _, below_drewN (((Below.refl _ _).alloc (Nat.le_refl _) _).alloc (by simp) _) _⟩ | (trace_state; fail))
    (first
      | (go_at_call 32; refine (ahead_any cs ds _ _ _ (holds_below f5 (Below.refl _ _).drew) (holds_below f6 (Below.refl _ _).drew) hl hl2).mono ?_; rintro e w' ⟨rfl, m, rfl⟩))
  all_goals
    go_wp2_with fail
    refine (alike_behind (min cs.length ds.length - pre cs ds) _ _ (sameB cs ds) _ (by omega) (Lib.hid fun i hi m2 => ?_)).mono ?_
    · have g5 := holds_below f5 (below_drewN (below_drewN (((Below.refl _ W).alloc (Nat.le_refl _) (Obj.cells #[Value.slice (some ⟨w1.heap.size, 0, none⟩) cs.length k1] 57)).alloc (by simp) (Obj.cells #[Value.slice (some ⟨w1.heap.size + 1, 0, none⟩) ds.length k2] 57)) (1 + m)) m2)
      have g6 := holds_below f6 (below_drewN (below_drewN (((Below.refl _ W).alloc (Nat.le_refl _) (Obj.cells #[Value.slice (some ⟨w1.heap.size, 0, none⟩) cs.length k1] 57)).alloc (by simp) (Obj.cells #[Value.slice (some ⟨w1.heap.size + 1, 0, none⟩) ds.length k2] 57)) (1 + m)) m2)
      obtain ⟨a1, c1, e1, _, x1⟩ := g5
      obtain ⟨a2, c2, e2, _, x2⟩ := g6
      simp only [Value.slice.injEq, true_and] at e1 e2
      obtain ⟨rfl, _⟩ := e1
      obtain ⟨rfl, _⟩ := e2
      obtain ⟨b1, o1, e1, _, y1⟩ := x1 (cs.length - 1 - i) (by omega)
      obtain ⟨b2, o2, e2, _, y2⟩ := x2 (ds.length - 1 - i) (by omega)
      simp only [Option.some.injEq, Addr.mk.injEq, and_true] at e1 e2
      obtain ⟨rfl, rfl⟩ := e1
      obtain ⟨rfl, rfl⟩ := e2
      exact behind1_any _ _ cs.length k1 _ _ ds.length k2 _ _ _ _ i _ (by rw [World.cell?_drewN]; exact keep2 f1 hlo _ _ _) (by rw [World.cell?_drewN]; exact keep2 f2 hlo2 _ _ _) (by omega) (by omega) (by omega) (by omega) y1 y2
    · rintro e w' ⟨rfl, m3, rfl⟩
      go_wp2_with fail
      go_ret2
      exact ⟨rfl, below_drewN ((f3.alloc (by have := F4.out; omega) _).alloc (by have := F4.out; simp; omega) _) _⟩
end Go.Proofs.YtpjblmhhcadcbaaDoor
