/- There and back: the law's walk. -/
import Derived.Test.YtbnkpbphahjomaaDoorSa
namespace Go.Proofs.YtbnkpbphahjomaaDoor
open Go.RowKit Su

theorem part_mid (x y : UInt8) (l : List UInt8) (s : Nat) (h : l.length = s) : part ([x] ++ l ++ [y]) 1 s = l := by
  unfold part
  simp [← h]
theorem read_back {k t : Nat} (h1 : 1 ≤ t) (h8 : t ≤ 8) (hk : k < 256 ^ t) (hm : k ≤ 9223372036854775807) : readV ([7] ++ be t k ++ [9]) 1 (t : Int) = (k : Int) ∧ readE ([7] ++ be t k ++ [9]) 1 (t : Int) = 0 := by
  have hp : part ([7] ++ be t k ++ [9]) (Int.toNat 1) (Int.toNat (t : Int)) = be t k := by
    rw [Int.toNat_natCast]
    exact part_mid 7 9 (be t k) t (be_len t k)
  have hok : readOk ([7] ++ be t k ++ [9]) 1 (t : Int) := by
    refine ⟨by omega, by omega, by omega, ?_, ?_⟩
    · simp [be_len]; omega
    · rw [hp, val_be t k hk]; exact hm
  unfold readV readE
  rw [if_pos hok, if_pos hok, hp, val_be t k hk]
  exact ⟨rfl, rfl⟩
theorem OwnU.shapeN {w : World} {B : Nat} {v : Value} {l : List UInt8} (h : OwnU w B v l) : ∃ a n cap, v = .slice a n cap ∧ n = l.length := by
  obtain ⟨a, cap, e⟩ := h.shape
  exact ⟨a, _, cap, e, rfl⟩
theorem own_one (w : World) (x : UInt8) (i : Int) (h : i = (x.toNat : Int)) : OwnU (w.alloc (.cells #[.int .u8 i] 5)) w.heap.size (.slice (some ⟨w.heap.size, 0, none⟩) 1 1) [x] := by
  subst h
  exact World.ownsRow_lit w #[.int .u8 (x.toNat : Int)] 1 (Nat.le_refl _) (by unfold maxLen; omega) rfl

set_option maxRecDepth 100000 in
set_option maxHeartbeats 4000000 in
theorem back_walk (v u : Value) (l c : List UInt8) (n s : Int) (w : World) (hf : Fo w) (hv : BRow w v l) (hu : BRow w u c) (hl : l.length + 4 ≤ 140737488355328) (hc : c.length + 4 ≤ 140737488355328) (hn : -9223372036854775808 ≤ n) (hn' : n ≤ 9223372036854775807) (hs : -9223372036854775808 ≤ s) (hs' : s ≤ 9223372036854775807) :
    Calls Tryd.prog 4 #[v, u, .int .i64 n, .int .i64 s] w fun e w' => e = .returned (.bool true) ∧ Below w.heap.size w w' := by
  have HA := Lib.hid (awake_any w hf)
  have HS := Lib.hid (fun (W : World) (hb : Below w.heap.size w W) => seal_any v l W (hv.below hb) (hf.below hb) hl)
  have HO := Lib.hid (fun (W : World) (hb : Below w.heap.size w W) (x : Value) (h : BRow W x (sealed l)) => open_any x (sealed l) W h (hf.below hb) (by rw [seal_len]; exact hl))
  have HOC := Lib.hid (fun (W : World) (hb : Below w.heap.size w W) => open_any u c W (hu.below hb) (hf.below hb) (by omega))
  have HSY := Lib.hid (fun (W : World) (hb : Below w.heap.size w W) (x : Value) (m : List UInt8) (h : BRow W x m) (hm : m.length + 4 ≤ 140737488355328) => seal_any x m W h (hf.below hb) hm)
  have HN := Lib.hid (fun W : World => number_any n s W hn hn' hs hs')
  have HV := Lib.hid hv
  have HU := Lib.hid hu
  obtain ⟨va, vc, rfl⟩ : ∃ a k, v = .slice a l.length k := by obtain ⟨a, c, h, _⟩ := hv; exact ⟨a, c, h⟩
  obtain ⟨ua, uc, rfl⟩ : ∃ a k, u = .slice a c.length k := by obtain ⟨a, c, h, _⟩ := hu; exact ⟨a, c, h⟩
  clear hv hu
  go_enter Tryd.func4, Tryd.ntmps4
  go_wp2_with fail
  refine HA.out.mono ?_
  rintro e w1 ⟨rfl, hb1⟩
  have HB1 := Lib.hid hb1
  clear hb1
  go_wp2_with fail
  refine (HS.out w1 HB1.out).mono ?_
  rintro e w2 ⟨v2, rfl, ho2, hb2⟩
  have HB2 := Lib.hid (HB1.out.trans (hb2.mono HB1.out.size))
  have HR2 := Lib.hid ho2.row
  clear ho2 hb2
  go_wp2_with fail
  refine (HO.out w2 HB2.out v2 HR2.out).mono ?_
  rintro e w3 ⟨v3, h3, hb3⟩
  have HB3 := Lib.hid (HB2.out.trans (hb3.mono HB2.out.size))
  rw [open_seal] at h3
  rcases h3 with ⟨m, hm, rfl, ho3⟩ | ⟨h, _⟩
  · obtain rfl := Option.some.inj hm
    have q1 := conv_row ho3.row
    have q2 := conv_row (HV.out.below HB3.out)
    obtain ⟨a3, c3, rfl⟩ := ho3.shape
    clear ho3 hb3 hm
    obtain ⟨tl, htl⟩ : ∃ t, t = txB l := ⟨_, rfl⟩
    rw [← htl] at q1 q2
    clear htl
    go_wp2_with fail
    refine (HOC.out w3 HB3.out).mono ?_
    rintro e w4 ⟨v4, h4, hb4⟩
    have HB4 := Lib.hid (HB3.out.trans (hb4.mono HB3.out.size))
    clear hb4 q1 q2
    rcases h4 with ⟨m, hm, rfl, ho4⟩ | ⟨_, rfl, rfl⟩
    · have HE := Lib.hid (seal_open hm)
      have hml : m.length + 4 = c.length := by rw [← seal_len, HE.out]
      have HO4 := Lib.hid ho4
      obtain ⟨a4, c4, rfl⟩ := ho4.shape
      have HY := Lib.hid (HSY.out w4.drew (HB4.out.drew) _ m (ho4.row.below (Below.refl _ _).drew) (by omega))
      have hcu := conv_row (HU.out.below HB4.out.drew)
      clear ho4 hm
      go_wp2_with fail
      go_region_with (first | (go_at_call 11; refine HY.out.mono ?_; rintro e w5 ⟨v5, rfl, ho5, hb5⟩; have HB5 := Lib.hid (HB4.out.trans ((Below.refl _ _).drew.trans (hb5.mono (Nat.le_refl _)) |>.mono HB4.out.size)); have hcu5 := conv_row (HU.out.below HB5.out); rw [HE.out] at ho5; have hca5 := conv_row ho5.row; clear ho5 hb5))
      all_goals
        clear hcu hcu5 hca5
        go_wp2_with fail
        refine (HN.out w5).mono ?_
        rintro e w6 ⟨v6, h6, hb6⟩
        have HB6 := Lib.hid (HB5.out.trans (hb6.mono HB5.out.size))
        clear hb6
        rcases h6 with ⟨f6, rfl, ho6⟩ | ⟨f6, rfl, rfl⟩
        · obtain ⟨kn, t, rfl, rfl, h1, h8, hlt6⟩ := fits_in f6
          have HRB := Lib.hid (read_back h1 h8 hlt6 (by omega))
          have hx := be_len t kn
          simp only [Int.toNat_natCast] at ho6
          generalize be t kn = X at *
          have HX := Lib.hid hx
          have HO6 := Lib.hid ho6
          obtain ⟨a6, c6, rfl⟩ := ho6.shape
          have hRd := Lib.hid (fun (W : World) (x : Value) (h : BRow W x ([7] ++ X ++ [9])) => read_any x ([7] ++ X ++ [9]) 1 (t : Int) W h (by omega) (by omega) (by omega) (by omega))
          rw [HRB.out.1, HRB.out.2] at hRd
          have hq1 : (X.length : Int) = (t : Int) := by omega
          clear ho6 f6 hlt6 hx
          go_wp2_with (first
            | (refine wpList_append_bytes rfl _ _ rfl w6.heap.size (.slice u7a n7 u7c) (.slice (some ⟨w7.heap.size, 0, none⟩) 1 1) ([7] ++ X) [9] rfl rfl (OwnU.alloc HO7.out _) (own_one w7 9 9 rfl).row (by simp [HX.out]; omega) (by have := HB7.out.size; simp; omega) ?_; intro u8 w8 own8 gr8; have HR8 := Lib.hid own8.row; obtain ⟨u8a, n8, u8c, rfl, hn8⟩ := own8.shapeN; have HN8 := Lib.hid hn8; clear hn8; have HB8 := Lib.hid ((HB7.out.alloc HB7.out.size _).grown gr8 (by have := HB7.out.size; simp; omega) (fun k hk => (HO7.out.lt k hk).1)); clear own8 gr8)
            | (refine wpList_append_bytes rfl _ _ rfl w6.heap.size (.slice (some ⟨w6.heap.size, 0, none⟩) 1 1) (.slice a6 X.length c6) [7] X rfl rfl (own_one w6 7 7 rfl) (HO6.out.row.below ((Below.refl _ _).alloc (Nat.le_refl _) _)) (by simp [HX.out]; omega) (by simp) ?_; intro u7 w7 own7 gr7; obtain ⟨u7a, n7, u7c, rfl, hn7⟩ := own7.shapeN; have HN7 := Lib.hid hn7; clear hn7; have HO7 := Lib.hid own7; have HB7 := Lib.hid (((Below.refl w6.heap.size w6).alloc (Nat.le_refl _) (.cells #[.int .u8 7] 5)).grown gr7 (by simp) (fun k hk => ((own_one w6 7 7 rfl).lt k hk).1)); clear own7 gr7))
          with_reducible (refine (hRd.out w8 _ HR8.out).mono ?_)
          rintro e w9 ⟨rfl, rfl⟩
          have HB9 := Lib.hid (HB6.out.trans (HB8.out.mono HB6.out.size))
          go_wp2_with fail
          go_ret
          exact ⟨rfl, HB9.out⟩
        · clear f6
          go_wp2_with fail
          go_ret
          exact ⟨rfl, HB6.out⟩
    · go_wp2_with fail
      go_quiet (fail)
      go_wp2_with fail
      refine (HN.out _).mono ?_
      rintro e w6 ⟨v6, h6, hb6⟩
      have HB6 := Lib.hid ((below_drewN HB4.out _).trans (hb6.mono HB4.out.size))
      clear hb6
      rcases h6 with ⟨f6, rfl, ho6⟩ | ⟨f6, rfl, rfl⟩
      · obtain ⟨kn, t, rfl, rfl, h1, h8, hlt6⟩ := fits_in f6
        have HRB := Lib.hid (read_back h1 h8 hlt6 (by omega))
        have hx := be_len t kn
        simp only [Int.toNat_natCast] at ho6
        generalize be t kn = X at *
        have HX := Lib.hid hx
        have HO6 := Lib.hid ho6
        obtain ⟨a6, c6, rfl⟩ := ho6.shape
        have hRd := Lib.hid (fun (W : World) (x : Value) (h : BRow W x ([7] ++ X ++ [9])) => read_any x ([7] ++ X ++ [9]) 1 (t : Int) W h (by omega) (by omega) (by omega) (by omega))
        rw [HRB.out.1, HRB.out.2] at hRd
        have hq1 : (X.length : Int) = (t : Int) := by omega
        clear ho6 f6 hlt6 hx
        go_wp2_with (first
          | (refine wpList_append_bytes rfl _ _ rfl w6.heap.size (.slice u7a n7 u7c) (.slice (some ⟨w7.heap.size, 0, none⟩) 1 1) ([7] ++ X) [9] rfl rfl (OwnU.alloc HO7.out _) (own_one w7 9 9 rfl).row (by simp [HX.out]; omega) (by have := HB7.out.size; simp; omega) ?_; intro u8 w8 own8 gr8; have HR8 := Lib.hid own8.row; obtain ⟨u8a, n8, u8c, rfl, hn8⟩ := own8.shapeN; have HN8 := Lib.hid hn8; clear hn8; have HB8 := Lib.hid ((HB7.out.alloc HB7.out.size _).grown gr8 (by have := HB7.out.size; simp; omega) (fun k hk => (HO7.out.lt k hk).1)); clear own8 gr8)
          | (refine wpList_append_bytes rfl _ _ rfl w6.heap.size (.slice (some ⟨w6.heap.size, 0, none⟩) 1 1) (.slice a6 X.length c6) [7] X rfl rfl (own_one w6 7 7 rfl) (HO6.out.row.below ((Below.refl _ _).alloc (Nat.le_refl _) _)) (by simp [HX.out]; omega) (by simp) ?_; intro u7 w7 own7 gr7; obtain ⟨u7a, n7, u7c, rfl, hn7⟩ := own7.shapeN; have HN7 := Lib.hid hn7; clear hn7; have HO7 := Lib.hid own7; have HB7 := Lib.hid (((Below.refl w6.heap.size w6).alloc (Nat.le_refl _) (.cells #[.int .u8 7] 5)).grown gr7 (by simp) (fun k hk => ((own_one w6 7 7 rfl).lt k hk).1)); clear own7 gr7))
        with_reducible (refine (hRd.out w8 _ HR8.out).mono ?_)
        rintro e w9 ⟨rfl, rfl⟩
        have HB9 := Lib.hid (HB6.out.trans (HB8.out.mono HB6.out.size))
        go_wp2_with fail
        go_ret
        exact ⟨rfl, HB9.out⟩
      · clear f6
        go_wp2_with fail
        go_ret
        exact ⟨rfl, HB6.out⟩
  · cases h
end Go.Proofs.YtbnkpbphahjomaaDoor
