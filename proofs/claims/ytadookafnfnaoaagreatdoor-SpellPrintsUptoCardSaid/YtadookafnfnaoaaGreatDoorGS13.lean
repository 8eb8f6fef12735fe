import Derived.Test.YtadookafnfnaoaaGreatDoorGS12
/- The reader's attr: a key and its value. -/
namespace Go.Proofs.YtadookafnfnaoaaGreatDoor
open Go.RowKit Ch

namespace Sp
theorem attr_bad0 {l : List UInt8} (h : l.takeWhile kb = []) : attr l = .bad 0 := by
  unfold attr; exact bnd_bad (by unfold key; rw [if_pos h])
theorem key_ok {l : List UInt8} (h : l.takeWhile kb ≠ []) : key l = .ok (l.takeWhile kb) (l.takeWhile kb).length := by unfold key; rw [if_neg h]
theorem must_no {c : UInt8} {l : List UInt8} (h : ¬ l.head? = some c) : must c l = .bad 0 := by unfold must; rw [if_neg h]
theorem must_yes {c : UInt8} {l : List UInt8} (h : l.head? = some c) : must c l = .ok () 1 := by unfold must; rw [if_pos h]
theorem attr_bad1 {l : List UInt8} (h : l.takeWhile kb ≠ []) (h2 : ¬ (l.drop (l.takeWhile kb).length).head? = some 58) : attr l = .bad (l.takeWhile kb).length := by
  unfold attr; rw [bnd_ok (key_ok h), bnd_bad (must_no h2)]; rfl
theorem attr_bad2 {l : List UInt8} {k : Nat} (h : l.takeWhile kb ≠ []) (h2 : (l.drop (l.takeWhile kb).length).head? = some 58) (h3 : quoted (l.drop ((l.takeWhile kb).length + 1)) = .bad k) : attr l = .bad ((l.takeWhile kb).length + (1 + k)) := by
  unfold attr; rw [bnd_ok (key_ok h), bnd_ok (must_yes h2), List.drop_drop, bnd_bad h3]; rfl
theorem attr_ok {l v : List UInt8} {n : Nat} (h : l.takeWhile kb ≠ []) (h2 : (l.drop (l.takeWhile kb).length).head? = some 58) (h3 : quoted (l.drop ((l.takeWhile kb).length + 1)) = .ok v n) : attr l = .ok (ba (l.takeWhile kb), ba v) ((l.takeWhile kb).length + (1 + n)) := by
  unfold attr; rw [bnd_ok (key_ok h), bnd_ok (must_yes h2), List.drop_drop, bnd_ok h3]; rfl
end Sp

abbrev valA : Sp.A → World → Value → Prop := fun x _ u => u = .agg #[.string x.1, .string x.2]
theorem ba_empty {d : List UInt8} (h : d = []) : (Sp.ba d).toList.isEmpty = true := by subst h; rw [ByteArray.toList_eq]; rfl
theorem ba_full {d : List UInt8} (h : d ≠ []) : (Sp.ba d).toList.isEmpty = false := by
  rw [ByteArray.toList_eq]
  cases d with
  | nil => exact absurd rfl h
  | cons _ _ => rfl

set_option maxHeartbeats 2000000 in
theorem attr_any (b : Nat) (s : ByteArray) (a : Nat) (w : World) (h : RdAt w b s a) (hz : s.size ≤ 140737488355327) :
    Calls Tryz.prog 113 #[.pointer (some ⟨b, 0, none⟩)] w (RdGo b s a (Sp.attr (rst s a)) valA w) := by
  have hbl : b < w.heap.size := lt_of_heap h.1
  obtain ⟨W, hW⟩ : ∃ W, W = w.alloc (.cells #[.string ⟨#[]⟩, .string ⟨#[]⟩] 53) := ⟨_, rfl⟩
  have BW := (show Below w.heap.size w W by rw [hW]; exact below_box _ _)
  have b0 : W.heap[w.heap.size]? = some (.cells #[.string ⟨#[]⟩, .string ⟨#[]⟩] 53 (0, 0)) := by rw [hW]; exact heap_new _ _
  have hat0 : RdAt W b s a := h.later BW hbl
  have c1 := hat0.c1
  have HA := Lib.hid (all_any 129 Sp.kb enters_keyByte keyByte_any b s a W hat0)
  have KW := Lib.hid ((Keep.refl b [RT] w).later BW (Nat.le_of_lt hbl) (Nat.le_refl _))
  have HB0 := Lib.hid b0
  have HW := Lib.hid hW
  have cw := hat0.c1
  rw [hW] at cw
  have e0 := fun (h : (rst s a).takeWhile Sp.kb = []) => Sp.attr_bad0 h
  have e1 := fun (h : (rst s a).takeWhile Sp.kb ≠ []) => Sp.attr_bad1 h
  have e2 := fun k (h : (rst s a).takeWhile Sp.kb ≠ []) => Sp.attr_bad2 (k := k) h
  have e3 := fun v n (h : (rst s a).takeWhile Sp.kb ≠ []) => Sp.attr_ok (v := v) (n := n) h
  simp only [rst_drop] at e1 e2 e3
  have E0 := Lib.hid e0
  have E1 := Lib.hid e1
  have E2 := Lib.hid e2
  have E3 := Lib.hid e3
  clear h hW BW b0 hat0 e0 e1 e2 e3
  generalize Sp.attr (rst s a) = X at *
  generalize (rst s a).takeWhile Sp.kb = d at *
  go_enter Tryz.func113, Tryz.ntmps113
  go_wp2_with fail
  rw [← HW.out]
  go_wp2_with fail
  refine HA.out.mono ?_
  rintro e w1 ⟨rfl, hat1, hk1⟩
  have Hk1 := Lib.hid (KW.out.trans hk1)
  have HB1 := Lib.hid (hk1.kept _ _ _ _ HB0.out (by decide))
  by_cases hd : d = []
  · have HV := Lib.hid (E0.out hd)
    have hg := ba_empty hd
    clear hat1 hk1 hd c1
    go_wp2_with fail
    exact ⟨rfl, rdgo_bad HV.out rfl Hk1.out⟩
  have hg := ba_full hd
  by_cases h58 : (rst s (a + d.length)).head? = some 58
  · have HM := Lib.hid (must_ok b s _ 58 w1 hat1 h58)
    have F2 := Lib.hid fun k => E2.out k hd h58
    have F3 := Lib.hid fun v n => E3.out v n hd h58
    clear hat1 hk1 hd h58 c1
    go_wp2_with fail
    refine HM.out.mono ?_
    rintro e w2 ⟨rfl, hat2, hk2⟩
    have HQ := Lib.hid (quoted_any b s _ w2 hat2 hz)
    have Hk2 := Lib.hid (Hk1.out.trans hk2)
    have HB2 := Lib.hid (hk2.kept _ _ _ _ HB1.out (by decide))
    clear hat2 hk2
    go_wp2_with fail
    refine HQ.out.mono ?_
    cases hq : Sp.quoted (rst s (a + d.length + 1)) with
    | bad k =>
      have HV := Lib.hid (F2.out k (by rw [← Nat.add_assoc]; exact hq))
      rintro e w3 ⟨rfl, hk3⟩
      exact ⟨rfl, rdgo_bad HV.out (by rw [show a + (d.length + (1 + k)) = a + d.length + 1 + k by omega]) (Hk2.out.trans hk3)⟩
    | ok v n =>
      have HV := Lib.hid (F3.out v n (by rw [← Nat.add_assoc]; exact hq))
      rintro e w3 ⟨_, rfl, rfl, hat3, hk3⟩
      have Hk3 := Lib.hid (Hk2.out.trans hk3)
      have HB3 := hk3.kept _ _ _ _ HB2.out (by decide)
      have g0 := Joins.unfrozen_of_block HB3 0
      have g1 := Joins.unfrozen_of_block HB3 1
      have y0 : w3.cell? ⟨w.heap.size, 0, none⟩ = some (.string ⟨#[]⟩) := (Lib.cell_of_heap HB3 0).trans rfl
      have y1 : w3.cell? ⟨w.heap.size, 1, none⟩ = some (.string ⟨#[]⟩) := (Lib.cell_of_heap HB3 1).trans rfl
      have F0 := Joins.block_setCell (Joins.block_setCell (i := 0) HB3 (.string (Sp.ba d))) (i := 1) (.string (Sp.ba v))
      have HF := Lib.hid F0
      have BF := Lib.hid (show Below w.heap.size w3 ((w3.setCell ⟨w.heap.size, 0, none⟩ (.string (Sp.ba d))).setCell ⟨w.heap.size, 1, none⟩ (.string (Sp.ba v))) from ((Below.refl w.heap.size _).setCell (p := ⟨w.heap.size, 0, none⟩) (Nat.le_refl w.heap.size) _).setCell (p := ⟨w.heap.size, 1, none⟩) (Nat.le_refl w.heap.size) _)
      have Hat3 := Lib.hid hat3
      clear hat3 hk3 hq F0
      go_wp2_with fail
      have z0 := (Lib.cell_of_heap HF.out 0)
      have z1 := (Lib.cell_of_heap HF.out 1)
      refine bodyPost_ret (v := .agg #[.string (Sp.ba d), .string (Sp.ba v)]) (by simp [results, Tryz.results113, go_sem, z0, z1]) rfl (rdgo_ok HV.out rfl rfl ?_ (Hk3.out.later BF.out (Nat.le_of_lt hbl) (Nat.le_refl _)))
      rw [show a + (d.length + (1 + n)) = a + d.length + 1 + n by omega]
      exact Hat3.out.later BF.out hbl
  · have HM := Lib.hid (must_bad b s _ 58 w1 hat1 h58)
    have HV := Lib.hid (E1.out hd h58)
    clear hat1 hk1 hd h58 c1
    go_wp2_with fail
    refine HM.out.mono ?_
    rintro e w2 ⟨rfl, hk2⟩
    exact ⟨rfl, rdgo_bad HV.out rfl (Hk1.out.trans hk2)⟩

end Go.Proofs.YtadookafnfnaoaaGreatDoor
/- The reader's attrs: a row of attributes of its own. -/
namespace Go.Proofs.YtadookafnfnaoaaGreatDoor
open Go.RowKit Ch

namespace Sp
def prl {α : Type} (l : List α) (d : Nat) : R (List α) → R (List α)
  | .ok v n => .ok (l ++ v) (d + n)
  | .bad k => .bad (d + k)
theorem prl_bnd {α : Type} (x : α) (p : List UInt8 → R (List α)) (l : List UInt8) : bnd p (fun r => ret (x :: r)) l = prl [x] 0 (p l) := by
  cases h : p l with
  | bad k => rw [bnd_bad h]; simp [prl]
  | ok v n => rw [bnd_ok h]; simp [prl, ret, R.shift]
theorem prl_shift {α : Type} (l : List α) (d e : Nat) (x : R (List α)) : (prl l d x).shift e = prl l (e + d) x := by
  cases x <;> simp [prl, R.shift] <;> omega
theorem prl_prl {α : Type} (l m : List α) (d e : Nat) (x : R (List α)) : prl l d (prl m e x) = prl (l ++ m) (d + e) x := by
  cases x <;> simp [prl] <;> omega
theorem attrs_bad0 {l : List UInt8} (h : ¬ l.head? = some 123) : attrs l = .bad 0 := by unfold attrs; rw [bnd_bad (must_no h)]
theorem attrs_bad1 {l : List UInt8} {k : Nat} (h : l.head? = some 123) (h2 : attr (l.drop 1) = .bad k) : attrs l = .bad (1 + k) := by unfold attrs; rw [bnd_ok (must_yes h), bnd_bad h2]; rfl
theorem attrs_go {l : List UInt8} {x : A} {n : Nat} (h : l.head? = some 123) (h2 : attr (l.drop 1) = .ok x n) : attrs l = prl [x] (1 + n) (more ((l.drop (1 + n)).length + 1) (l.drop (1 + n))) := by
  unfold attrs
  rw [bnd_ok (must_yes h), bnd_ok h2, List.drop_drop, prl_bnd, prl_shift, prl_shift]
  rfl
theorem more_end (f : Nat) {l : List UInt8} (h : ¬ l.head? = some 44) (h2 : l.head? = some 125) : more (f + 1) l = .ok [] 1 := by unfold more; rw [if_neg h, bnd_ok (must_yes h2)]; rfl
theorem more_bad0 (f : Nat) {l : List UInt8} (h : ¬ l.head? = some 44) (h2 : ¬ l.head? = some 125) : more (f + 1) l = .bad 0 := by unfold more; rw [if_neg h, bnd_bad (must_no h2)]
theorem more_bad1 (f : Nat) {l : List UInt8} {k : Nat} (h : l.head? = some 44) (h2 : attr (l.drop 1) = .bad k) : more (f + 1) l = .bad (1 + k) := by unfold more; rw [if_pos h, bnd_ok (must_yes h), bnd_bad h2]; rfl
theorem more_go (f : Nat) {l : List UInt8} {x : A} {n : Nat} (h : l.head? = some 44) (h2 : attr (l.drop 1) = .ok x n) : more (f + 1) l = prl [x] (1 + n) (more f (l.drop (1 + n))) := by
  show (if l.head? = some 44 then bnd (must 44) (fun _ => bnd attr fun a => bnd (more f) fun r => ret (a :: r)) l else _) = _
  rw [if_pos h, bnd_ok (must_yes h), bnd_ok h2, List.drop_drop, prl_bnd, prl_shift, prl_shift, Nat.add_zero]
end Sp

/-- 'append(own, one)', of however long a row. -/
theorem append_attr {w : World} {ops : Array Oper} {rest : List Oper} {o : Oper} {a : Act} {Q : Exit → Act → World → Prop} (hgd : o.guard = none) (s x : Operand)
    (ho : o.op = .call { callee := .builtin .append, args := #[s, x], argTypes := #[46, 46] })
    (base : Nat) (v : Value) (n : Nat) (xs : List Value) (p : ByteArray × ByteArray) (hs : a.eval s = v) (hx : a.eval x = .slice (some ⟨w.heap.size, 0, none⟩) 1 1) (hown : w.ownsRow base 53 2 v n xs)
    (N : Nat) (ys : List Value) (hN : n + 1 = N) (hy : xs ++ [.string p.1, .string p.2] = ys) (h63 : N ≤ 1048576) (hbase : base ≤ w.heap.size)
    (h : ∀ u w', w'.ownsRow base 53 2 u N ys → (w.alloc (.cells #[.string p.1, .string p.2] 53)).grownBy w' v.ownBlock → wpList Tryz.prog ops Q rest (a.put o.dst u) w') :
    wpList Tryz.prog ops Q (o :: rest) a (w.alloc (.cells #[.string p.1, .string p.2] 53)) := by
  subst hN
  subst hy
  have h63' : n + 1 ≤ maxLen := by unfold maxLen; omega
  obtain ⟨i0, hi, hz0, hz1, hz2⟩ := info_parts infoAttr
  refine wpList_append_own _ hgd s x 46 ho base 53 i0 (.agg #[.string ⟨#[]⟩, .string ⟨#[]⟩]) 2 32 Tryz.underlying46 hi hz0 hz1 hz2 rfl (by decide) v n xs hs (hown.alloc _) ⟨w.heap.size, 0, none⟩ 1 1 [.string p.1, .string p.2] hx rfl (new_at2 _ _ _ _) (fun u hu => by simp at hu; rcases hu with rfl | rfl <;> rfl) h63' (by omega) (by simp; omega)
    fun u w' h1 h2 _ => h u w' h1 h2

abbrev valAs (C : Nat) : List Sp.A → World → Value → Prop := fun l w' u => w'.ownsRow C 53 2 u l.length (flat l)

set_option maxHeartbeats 2000000 in
theorem attrs_any (b : Nat) (s : ByteArray) (a : Nat) (w : World) (h : RdAt w b s a) (hz : s.size ≤ 262144) :
    Calls Tryz.prog 97 #[.pointer (some ⟨b, 0, none⟩)] w (RdGo b s a (Sp.attrs (rst s a)) (valAs w.heap.size) w) := by
  have hbl : b < w.heap.size := lt_of_heap h.1
  by_cases hd : (rst s a).head? = some 123
  · have HM := Lib.hid (must_ok b s a 123 w h hd)
    have e1 := fun k (h2 : Sp.attr (rst s (a + 1)) = .bad k) => Sp.attrs_bad1 (l := rst s a) hd (by rw [rst_drop]; exact h2)
    have e2 := fun x n (h2 : Sp.attr (rst s (a + 1)) = .ok x n) => Sp.attrs_go (l := rst s a) hd (by rw [rst_drop]; exact h2)
    simp only [rst_drop, rst_len] at e2
    have E1 := Lib.hid e1
    have E2 := Lib.hid e2
    have hlt := head_lt hd
    clear h hd e1 e2
    generalize Sp.attrs (rst s a) = X at *
    go_enter Tryz.func97, Tryz.ntmps97
    go_wp2_with fail
    refine HM.out.mono ?_
    rintro e w1 ⟨rfl, hat1, hk1⟩
    have HA := Lib.hid (attr_any b s _ w1 hat1 (by omega))
    have Hk1 := Lib.hid hk1
    clear hat1 hk1
    go_wp2_with fail
    refine HA.out.mono ?_
    cases hq : Sp.attr (rst s (a + 1)) with
    | bad k =>
      have HV := Lib.hid (E1.out k hq)
      rintro e w2 ⟨rfl, hk2⟩
      exact ⟨rfl, rdgo_bad HV.out (by rw [show a + (1 + k) = a + 1 + k by omega]) (Hk1.out.trans hk2)⟩
    | ok x n =>
      have HV := Lib.hid (E2.out x n hq)
      rintro e w2 ⟨_, rfl, rfl, hat2, hk2⟩
      have Hat2 := Lib.hid hat2
      have Hk2 := Lib.hid (Hk1.out.trans hk2)
      have hsz2 : w.heap.size ≤ w2.heap.size := Hk2.out.below.size
      have hks2 : a + 1 + n ≤ s.size := hat2.2.1
      clear hat2 hk2 hq
      obtain ⟨W, hW⟩ : ∃ W, W = w2.alloc (.cells #[.string x.1, .string x.2] 53) := ⟨_, rfl⟩
      have BW := Lib.hid (show Below w2.heap.size w2 W by rw [hW]; exact below_box _ _)
      have OW := Lib.hid (show W.ownsRow w.heap.size 53 2 (.slice (some ⟨w2.heap.size, 0, none⟩) 1 1) 1 (flat [x]) by rw [hW]; exact World.ownsRow_lit w2 #[.string x.1, .string x.2] 1 hsz2 (by decide) rfl)
      have HW := Lib.hid hW
      clear hW
      go_wp2_with fail
      rw [← HW.out]
      go_loopg [3] (s.size - (a + 1 + n)) (fun gk v wr => ∃ (k f : Nat) (l : List Sp.A), gk = s.size - k ∧ RdAt wr b s k ∧ a ≤ k ∧ l.length ≤ k ∧ s.size - k < f ∧ X = Sp.prl l (k - a) (Sp.more f (rst s k)) ∧ Keep b [RT] w wr ∧ wr.ownsRow w.heap.size 53 2 v l.length (flat l))
      case atStart =>
        refine ⟨a + 1 + n, s.size - (a + (1 + n)) + 1, [x], rfl, Hat2.out.later BW.out (Nat.lt_of_lt_of_le hbl hsz2), by omega, by simp; omega, by omega, ?_, Hk2.out.later BW.out (by omega) hsz2, OW.out⟩
        rw [HV.out, show a + 1 + n - a = 1 + n by omega, show a + 1 + n = a + (1 + n) by omega]
      case round =>
        obtain ⟨k, f, l, rfl, hat, hak, hll, hf, hX, hkp, hown⟩ := hrel
        cases f with
        | zero => omega
        | succ f =>
        have hks : k ≤ s.size := hat.2.1
        have HS := Lib.hid (sees_any b s k 44 wr hat)
        have Hat := Lib.hid hat
        have Hkp := Lib.hid hkp
        have HX := Lib.hid hX
        have Hown := Lib.hid hown
        obtain ⟨va, vc, rfl⟩ := own_slice hown
        clear hat hkp hX hown
        by_cases h44 : (rst s k).head? = some 44
        · have hd' : decide ((rst s k).head? = some 44) = true := decide_eq_true h44
          have HM2 := Lib.hid fun n => must_ok b s k 44 (wr.drewN n) (Hat.out.drewN n) h44
          go_wp2_with fail
          refine HS.out.mono ?_
          rintro e w3 ⟨rfl, m, rfl⟩
          rw [hd']
          go_wp2_with fail
          refine (HM2.out m).mono ?_
          rintro e w4 ⟨rfl, hat4, hk4⟩
          have HA4 := Lib.hid (attr_any b s _ w4 hat4 (by omega))
          have Hk4 := Lib.hid ((keep_drewN Hkp.out m).trans hk4)
          have Hown4 := Lib.hid (hk4.own ((keep_drewN (Keep.refl b [RT] wr) m).own Hown.out (by decide)) (by decide))
          clear hat4 hk4
          go_wp2_with fail
          refine HA4.out.mono ?_
          cases hq : Sp.attr (rst s (k + 1)) with
          | bad j =>
            have HE := Lib.hid (HX.out.trans (by rw [Sp.more_bad1 f h44 (by rw [rst_drop]; exact hq)]))
            rintro e w5 ⟨rfl, hk5⟩
            exact ⟨rfl, rdgo_bad HE.out (by rw [show a + (k - a + (1 + j)) = k + 1 + j by omega]) (Hk4.out.trans hk5)⟩
          | ok y j =>
            have HE := Lib.hid (HX.out.trans (by rw [Sp.more_go f h44 (by rw [rst_drop]; exact hq), Sp.prl_prl, rst_drop]))
            rintro e w5 ⟨_, rfl, rfl, hat5, hk5⟩
            have Hat5 := Lib.hid hat5
            have Hk5 := Lib.hid (Hk4.out.trans hk5)
            have Hown5 := Lib.hid (hk5.own Hown4.out (by decide))
            have hks5 : k + 1 + j ≤ s.size := hat5.2.1
            have hsz5 : w.heap.size ≤ w5.heap.size := Hk5.out.below.size
            clear hat5 hk5 hq h44
            go_wp2_with (at_builtin; refine append_attr rfl (.tmp 13) (.tmp 16) rfl w.heap.size (.slice va l.length vc) l.length (flat l) y rfl rfl Hown5.out (l.length + 1) (flat (l ++ [y])) rfl (flat_snoc l y).symm (by omega) hsz5 ?_; intro u6 w6 o6 g6; have B6 := Lib.hid (((below_box w5 _).mono hsz5).trans ((Below.refl w.heap.size _).grown g6 (by simp; omega) (fun j hj => own_ge Hown5.out j hj))); have Hown6 := Lib.hid o6; clear o6 g6)
            go_roundg (s.size - (k + 1 + j))
            case measure => omega
            case rel =>
              refine ⟨k + 1 + j, f, l ++ [y], rfl, Hat5.out.later B6.out (by omega), by omega, by simp; omega, by omega, ?_, Hk5.out.later B6.out (by omega) (Nat.le_refl _), ?_⟩
              · rw [HE.out, show k + (1 + j) = k + 1 + j by omega, show k - a + (1 + j) = k + 1 + j - a by omega]
              · have : (l ++ [y]).length = l.length + 1 := by simp
                rw [this]; exact Hown6.out
        · have hd' : decide ((rst s k).head? = some 44) = false := decide_eq_false h44
          by_cases h125 : (rst s k).head? = some 125
          · have HM2 := Lib.hid fun n => must_ok b s k 125 (wr.drewN n) (Hat.out.drewN n) h125
            have HE := Lib.hid (HX.out.trans (by rw [Sp.more_end f h44 h125]))
            go_wp2_with fail
            refine HS.out.mono ?_
            rintro e w3 ⟨rfl, m, rfl⟩
            rw [hd']
            go_wp2_with fail
            refine (HM2.out m).mono ?_
            rintro e w4 ⟨rfl, hat4, hk4⟩
            have Hat4 := Lib.hid hat4
            have Hk4 := Lib.hid ((keep_drewN Hkp.out m).trans hk4)
            have Hown4 := Lib.hid (hk4.own ((keep_drewN (Keep.refl b [RT] wr) m).own Hown.out (by decide)) (by decide))
            clear hat4 hk4
            go_wp2_with fail
            go_ret
            refine rdgo_ok HE.out rfl ?_ ?_ Hk4.out
            · show World.ownsRow _ _ _ _ _ _ _
              rw [List.append_nil]; exact Hown4.out
            · rw [show a + (k - a + 1) = k + 1 by omega]; exact Hat4.out
          · have HM2 := Lib.hid fun n => must_bad b s k 125 (wr.drewN n) (Hat.out.drewN n) h125
            have HE := Lib.hid (HX.out.trans (by rw [Sp.more_bad0 f h44 h125]))
            go_wp2_with fail
            refine HS.out.mono ?_
            rintro e w3 ⟨rfl, m, rfl⟩
            rw [hd']
            go_wp2_with fail
            refine (HM2.out m).mono ?_
            rintro e w4 ⟨rfl, hk4⟩
            exact ⟨rfl, rdgo_bad HE.out (by rw [show a + (k - a + 0) = k by omega]) ((keep_drewN Hkp.out m).trans hk4)⟩
  · have HM := Lib.hid (must_bad b s a 123 w h hd)
    have HX := Lib.hid (Sp.attrs_bad0 hd)
    clear h hd
    go_enter Tryz.func97, Tryz.ntmps97
    go_wp2_with fail
    refine HM.out.mono ?_
    rintro e w1 ⟨rfl, hk1⟩
    exact ⟨rfl, rdgo_bad HX.out rfl hk1⟩

end Go.Proofs.YtadookafnfnaoaaGreatDoor
/- The reader's op. -/
namespace Go.Proofs.YtadookafnfnaoaaGreatDoor
open Go.RowKit Ch

namespace Sp
theorem op_else {x : UInt8} {t : List UInt8} (h1 : x ≠ 45) (h2 : x ≠ 61) (h3 : x ≠ 43) : op (x :: t) = .bad 0 := by
  show (if x = 45 ∨ x = 61 ∨ x = 43 then (kind x t).shift 1 else .bad 0) = _
  rw [if_neg (fun h => h.elim h1 fun h => h.elim h2 h3)]
theorem op_cut (t : List UInt8) : op (45 :: t) = (bnd number (fun n => ret ⟨3, n, none0, []⟩) t).shift 1 := by
  have e : op (45 :: t) = (kind 45 t).shift 1 := by unfold op; simp
  rw [e]; unfold kind; rw [if_pos rfl]
theorem op_keep (t : List UInt8) : op (61 :: t) = (bnd number (fun n => bnd opt fun a => ret ⟨1, n, none0, a⟩) t).shift 1 := by
  have e : op (61 :: t) = (kind 61 t).shift 1 := by unfold op; simp
  rw [e]; unfold kind; rw [if_neg (by decide), if_pos rfl]
theorem op_put (t : List UInt8) : op (43 :: t) = (bnd quoted (fun v => bnd opt fun a => ret ⟨2, 0, ba v, a⟩) t).shift 1 := by
  have e : op (43 :: t) = (kind 43 t).shift 1 := by unfold op; simp
  rw [e]; unfold kind; rw [if_neg (by decide), if_neg (by decide)]
theorem bad1 {α β : Type} {p : List UInt8 → R α} {q : α → List UInt8 → R β} {l : List UInt8} {k : Nat} (h : p l = .bad k) : (bnd p q l).shift 1 = .bad (1 + k) := by rw [bnd_bad h]; rfl
theorem ok1 {α β : Type} {p : List UInt8 → R α} {f : α → β} {l : List UInt8} {v : α} {n : Nat} (h : p l = .ok v n) : (bnd p (fun x => ret (f x)) l).shift 1 = .ok (f v) (1 + n) := by rw [bnd_ok h]; rfl
theorem opt_no {α : Type} {p : List UInt8 → R α} {f : α → List A → OpD} {l : List UInt8} {v : α} {n : Nat} (h : p l = .ok v n) (h2 : ¬ (l.drop n).head? = some 123) : (bnd p (fun x => bnd opt fun a => ret (f x a)) l).shift 1 = .ok (f v []) (1 + n) := by
  rw [bnd_ok h, bnd_ok (v := []) (n := 0) (by unfold opt; rw [if_neg h2])]; rfl
theorem opt_bad {α : Type} {p : List UInt8 → R α} {f : α → List A → OpD} {l : List UInt8} {v : α} {n k : Nat} (h : p l = .ok v n) (h2 : (l.drop n).head? = some 123) (h3 : attrs (l.drop n) = .bad k) : (bnd p (fun x => bnd opt fun a => ret (f x a)) l).shift 1 = .bad (1 + (n + k)) := by
  rw [bnd_ok h, bnd_bad (k := k) (by unfold opt; rw [if_pos h2]; exact h3)]; rfl
theorem opt_ok {α : Type} {p : List UInt8 → R α} {f : α → List A → OpD} {l : List UInt8} {v : α} {m : List A} {n j : Nat} (h : p l = .ok v n) (h2 : (l.drop n).head? = some 123) (h3 : attrs (l.drop n) = .ok m j) : (bnd p (fun x => bnd opt fun a => ret (f x a)) l).shift 1 = .ok (f v m) (1 + (n + j)) := by
  rw [bnd_ok h, bnd_ok (v := m) (n := j) (by unfold opt; rw [if_pos h2]; exact h3)]; rfl
end Sp

abbrev zeroO : Obj := .cells #[.int .i64 0, .int .i64 0, .string ⟨#[]⟩, .slice none 0 0] 48
abbrev put4 (w : World) (g : Nat) (x0 x1 x2 x3 : Value) : World := (((w.setCell ⟨g, 0, none⟩ x0).setCell ⟨g, 1, none⟩ x1).setCell ⟨g, 2, none⟩ x2).setCell ⟨g, 3, none⟩ x3
theorem put4_heap {w : World} {g : Nat} {a0 a1 a2 a3 : Value} {T : TypeId} (h : w.heap[g]? = some (.cells #[a0, a1, a2, a3] T (0, 0))) (x0 x1 x2 x3 : Value) : (put4 w g x0 x1 x2 x3).heap[g]? = some (.cells #[x0, x1, x2, x3] T (0, 0)) := by
  have h0 := Joins.block_setCell (i := 0) h x0
  have h1 := Joins.block_setCell (i := 1) h0 x1
  have h2 := Joins.block_setCell (i := 2) h1 x2
  exact Joins.block_setCell (i := 3) h2 x3
theorem set_keep {w : World} {b g i : Nat} {cs : Array Value} {T : TypeId} {fr : Nat × Nat} (h : w.heap[g]? = some (.cells cs T fr)) (hb : b ≤ g) (v : Value) : Keep b [T] w (w.setCell ⟨g, i, none⟩ v) := keep_set h (List.mem_singleton.2 rfl) hb _ rfl v
theorem put4_keep {w : World} {b g : Nat} {a0 a1 a2 a3 : Value} {T : TypeId} (h : w.heap[g]? = some (.cells #[a0, a1, a2, a3] T (0, 0))) (hb : b ≤ g) (x0 x1 x2 x3 : Value) : Keep b [T] w (put4 w g x0 x1 x2 x3) := by
  have h0 := Joins.block_setCell (i := 0) h x0
  have h1 := Joins.block_setCell (i := 1) h0 x1
  have h2 := Joins.block_setCell (i := 2) h1 x2
  exact (((set_keep h hb x0).trans (set_keep h0 hb x1)).trans (set_keep h1 hb x2)).trans (set_keep h2 hb x3)
abbrev valO (C : Nat) : OpD → World → Value → Prop := fun o w' u => ∃ v, u = opAgg o v ∧ w'.ownsRow C 53 2 v o.attrs.length (flat o.attrs)
theorem own_nil (w : World) (C : Nat) : w.ownsRow C 53 2 (.slice none 0 0) 0 (flat []) := ⟨rfl, .inl ⟨rfl, rfl⟩⟩

theorem Syn.keep {B : Nat} {ts : List TypeId} {w w' : World} (h : Syn w) (hk : Keep B ts w w') (hB : 3 < B) : Syn w' := by
  obtain ⟨ev, h1, h2⟩ := h
  exact ⟨ev, (hk.below.cell (p := ⟨3, 0, none⟩) (by exact hB)).trans h1, h2⟩

set_option maxHeartbeats 4000000 in
theorem op_any (b : Nat) (s : ByteArray) (a : Nat) (w : World) (h : RdAt w b s a) (hz : s.size ≤ 262144) (hy : Syn w) (hyb : 3 < b) :
    Calls Tryz.prog 75 #[.pointer (some ⟨b, 0, none⟩)] w (RdGo b s a (Sp.op (rst s a)) (valO w.heap.size) w) := by
  have hbl : b < w.heap.size := lt_of_heap h.1
  obtain ⟨W, hW⟩ : ∃ W, W = (w.alloc zeroO).alloc zeroO := ⟨_, rfl⟩
  have BW := (show Below w.heap.size w W by rw [hW]; exact ((Below.refl _ _).alloc (Nat.le_refl _) _).alloc (by simp) _)
  have r0 : W.heap[w.heap.size]? = some zeroO := by
    rw [hW, Below.heap_alloc _ _ _ (by simp)]; exact heap_new _ _
  have o0 : W.heap[w.heap.size + 1]? = some zeroO := by
    rw [hW]
    have := heap_new (w.alloc zeroO) zeroO
    simpa using this
  have hat0 : RdAt W b s a := h.later BW hbl
  have c1 := hat0.c1
  have cw : (w.alloc zeroO).cell? ⟨b, 1, none⟩ = some (.int .i64 a) := (h.later (below_box w _) hbl).c1
  have KW := Lib.hid ((Keep.refl b [RT] w).later BW (Nat.le_of_lt hbl) (Nat.le_refl _))
  have HR0 := Lib.hid r0
  have HO0 := Lib.hid o0
  have HW := Lib.hid hW
  have hyW : Syn W := by
    obtain ⟨ev, h1, h2⟩ := hy
    exact ⟨ev, (BW.cell (p := ⟨3, 0, none⟩) (by exact Nat.lt_trans hyb hbl)).trans h1, h2⟩
  have HY := Lib.hid hyW
  have hsW : w.heap.size + 2 ≤ W.heap.size := by rw [hW]; simp
  cases hd : rst s a with
  | nil =>
    have HT := Lib.hid (take_bad b s a W hat0 hd)
    clear h hd hW BW r0 o0 hat0 hy hyW
    go_enter Tryz.func75, Tryz.ntmps75
    go_wp2_with fail
    rw [← HW.out]
    go_wp2_with fail
    refine HT.out.mono ?_
    rintro e w1 ⟨rfl, hk⟩
    exact ⟨rfl, rdgo_bad (k := 0) rfl rfl (KW.out.trans hk)⟩
  | cons x t =>
    obtain ⟨hlt, _, ht⟩ := rst_head hd
    have HT := Lib.hid (take_ok b s a x t W hat0 hd)
    clear h hd hW BW r0 o0 hat0 hy hyW
    obtain ⟨X, hX⟩ : ∃ X, X = Sp.op (x :: t) := ⟨_, rfl⟩
    rw [← hX]
    have HX := Lib.hid hX
    clear hX
    go_enter Tryz.func75, Tryz.ntmps75
    go_wp2_with fail
    rw [← HW.out]
    go_wp2_with fail
    refine HT.out.mono ?_
    rintro e w1 ⟨rfl, hat1, hk1⟩
    have Hat1 := Lib.hid hat1
    have Hk1 := Lib.hid (KW.out.trans hk1)
    have HR1 := Lib.hid (hk1.kept _ _ _ _ HR0.out (by decide))
    have HO1 := Lib.hid (hk1.kept _ _ _ _ HO0.out (by decide))
    have HY1 := Lib.hid (HY.out.keep hk1 hyb)
    clear hat1 hk1
    by_cases h45 : x = 45
    · have k1 := b_is (n := 45) rfl h45
      subst h45
      have HN := Lib.hid (number_any b s _ w1 Hat1.out (by omega) HY1.out hyb)
      have HX2 := Lib.hid (HX.out.trans (Sp.op_cut t))
      rw [ht] at HX2
      clear k1
      have k1 : (((45 : UInt8).toNat : Int) == 45) = true := rfl
      go_wp2_with fail
      refine HN.out.mono ?_
      cases hq : Sp.number (rst s (a + 1)) with
      | bad k =>
        have HV := Lib.hid (HX2.out.trans (Sp.bad1 hq))
        rintro e w2 ⟨rfl, hk2⟩
        exact ⟨rfl, rdgo_bad HV.out (by rw [show a + (1 + k) = a + 1 + k by omega]) (Hk1.out.trans hk2)⟩
      | ok n i =>
        have HV := Lib.hid (HX2.out.trans (Sp.ok1 (f := fun n : Nat => (⟨3, n, Sp.none0, []⟩ : OpD)) hq))
        rintro e w2 ⟨_, rfl, rfl, hat2, hk2⟩
        have HR2 := hk2.kept _ _ _ _ HR1.out (by decide)
        have Hat2 := Lib.hid hat2
        have Hk2 := Lib.hid (Hk1.out.trans hk2)
        have g0 := Joins.unfrozen_of_block HR2 0
        have g1 := Joins.unfrozen_of_block HR2 1
        have g2 := Joins.unfrozen_of_block HR2 2
        have g3 := Joins.unfrozen_of_block HR2 3
        have y0 := (Lib.cell_of_heap HR2 0).trans (show _ = some _ from rfl)
        have y1 := (Lib.cell_of_heap HR2 1).trans (show _ = some _ from rfl)
        have y2 := (Lib.cell_of_heap HR2 2).trans (show _ = some _ from rfl)
        have y3 := (Lib.cell_of_heap HR2 3).trans (show _ = some _ from rfl)
        have HF := Lib.hid (put4_heap HR2 (.int .i64 3) (.int .i64 n) (.string ⟨#[]⟩) (.slice none 0 0))
        have HFk := Lib.hid (put4_keep (b := w.heap.size) HR2 (Nat.le_refl _) (.int .i64 3) (.int .i64 n) (.string ⟨#[]⟩) (.slice none 0 0))
        clear hat2 hk2 HR2
        go_wp2_with fail
        have z0 := (Lib.cell_of_heap HF.out 0)
        have z1 := (Lib.cell_of_heap HF.out 1)
        have z2 := (Lib.cell_of_heap HF.out 2)
        have z3 := (Lib.cell_of_heap HF.out 3)
        refine bodyPost_ret (v := opAgg ⟨3, n, Sp.none0, []⟩ (.slice none 0 0)) (by simp [results, Tryz.results75, go_sem, z0, z1, z2, z3, Sp.none0]) rfl (rdgo_ok HV.out rfl ⟨_, rfl, own_nil _ _⟩ ?_ (Hk2.out.later HFk.out.below (Nat.le_of_lt hbl) (Nat.le_refl _)))
        rw [show a + (1 + i) = a + 1 + i by omega]
        exact Hat2.out.later HFk.out.below hbl
    have k45 := b_not (n := 45) rfl h45
    by_cases h61 : x = 61
    · subst h61
      have HN := Lib.hid (number_any b s _ w1 Hat1.out (by omega) HY1.out hyb)
      have HX2 := Lib.hid (HX.out.trans (Sp.op_keep t))
      rw [ht] at HX2
      have k61 : (((61 : UInt8).toNat : Int) == 61) = true := rfl
      have k45 : (((61 : UInt8).toNat : Int) == 45) = false := rfl
      go_wp2_with fail
      refine HN.out.mono ?_
      cases hq : Sp.number (rst s (a + 1)) with
      | bad k =>
        have HV := Lib.hid (HX2.out.trans (Sp.bad1 hq))
        rintro e w2 ⟨rfl, hk2⟩
        exact ⟨rfl, rdgo_bad HV.out (by rw [show a + (1 + k) = a + 1 + k by omega]) (Hk1.out.trans hk2)⟩
      | ok n i =>
        rintro e w2 ⟨_, rfl, rfl, hat2, hk2⟩
        have F1 := Lib.hid fun h => HX2.out.trans (Sp.opt_no (f := fun (n : Nat) a => (⟨1, n, Sp.none0, a⟩ : OpD)) hq h)
        have F2 := Lib.hid fun k h h2 => HX2.out.trans (Sp.opt_bad (k := k) (f := fun (n : Nat) a => (⟨1, n, Sp.none0, a⟩ : OpD)) hq h h2)
        have F3 := Lib.hid fun m j h h2 => HX2.out.trans (Sp.opt_ok (m := m) (j := j) (f := fun (n : Nat) a => (⟨1, n, Sp.none0, a⟩ : OpD)) hq h h2)
        rw [rst_drop] at F1 F2 F3
        have HR2 := Lib.hid (hk2.kept _ _ _ _ HR1.out (by decide))
        have HO2 := hk2.kept _ _ _ _ HO1.out (by decide)
        have Hk2 := Lib.hid (Hk1.out.trans hk2)
        obtain ⟨V, hV⟩ : ∃ V, V = ((w2.setCell ⟨w.heap.size + 1, 0, none⟩ (.int .i64 1)).setCell ⟨w.heap.size + 1, 1, none⟩ (.int .i64 n)) := ⟨_, rfl⟩
        have HVo := Lib.hid (show V.heap[w.heap.size + 1]? = some (.cells #[.int .i64 1, .int .i64 n, .string ⟨#[]⟩, .slice none 0 0] 48 (0, 0)) by rw [hV]; exact (Joins.block_setCell (i := 1) (Joins.block_setCell (i := 0) HO2 (.int .i64 1)) (.int .i64 n)))
        have HVk := Lib.hid (show Keep w.heap.size [48] w2 V by rw [hV]; exact ((set_keep (b := w.heap.size) HO2 (Nat.le_succ _) (.int .i64 1)).trans (set_keep (b := w.heap.size) (Joins.block_setCell (i := 0) HO2 (.int .i64 1)) (Nat.le_succ _) (.int .i64 n))))
        have HVr := Lib.hid (show V.heap[w.heap.size]? = some zeroO by rw [hV, Below.heap_setCell _ _ _ _ (by simp), Below.heap_setCell _ _ _ _ (by simp)]; exact HR2.out)
        have hatV : RdAt V b s (a + 1 + i) := hat2.later HVk.out.below hbl
        have HatV := Lib.hid hatV
        have HkV := Lib.hid (Hk2.out.later HVk.out.below (Nat.le_of_lt hbl) (Nat.le_refl _))
        have hsV : w.heap.size ≤ V.heap.size := HkV.out.below.size
        have HS := Lib.hid (sees_any b s (a + 1 + i) 123 V hatV)
        have HVV := Lib.hid hV
        have g0 := Joins.unfrozen_of_block HO2 0
        have y0 := (Lib.cell_of_heap HO2 0).trans (show _ = some _ from rfl)
        have g1 := Joins.unfrozen_of_block HO2 1
        have y1 := (Lib.cell_of_heap HO2 1).trans (show _ = some _ from rfl)
        have g2 := Joins.unfrozen_of_block HO2 2
        have y2 := (Lib.cell_of_heap HO2 2).trans (show _ = some _ from rfl)
        have g3 := Joins.unfrozen_of_block HO2 3
        have y3 := (Lib.cell_of_heap HO2 3).trans (show _ = some _ from rfl)
        clear hat2 hk2 HO2 hatV hV
        go_wp2_with fail
        rw [← HVV.out]
        refine HS.out.mono ?_
        rintro e w3 ⟨rfl, m, rfl⟩
        by_cases h123 : (rst s (a + 1 + i)).head? = some 123
        · have hd' : decide ((rst s (a + 1 + i)).head? = some 123) = true := decide_eq_true h123
          rw [hd']
          have HA := Lib.hid (attrs_any b s (a + 1 + i) (V.drewN m) (HatV.out.drewN m) hz)
          go_wp2_with fail
          refine HA.out.mono ?_
          cases hq2 : Sp.attrs (rst s (a + 1 + i)) with
          | bad k =>
            have HV := Lib.hid (F2.out k h123 hq2)
            rintro e w4 ⟨rfl, hk4⟩
            exact ⟨rfl, rdgo_bad HV.out (by rw [show a + (1 + (i + k)) = a + 1 + i + k by omega]) ((keep_drewN HkV.out m).trans hk4)⟩
          | ok l j =>
            have HV := Lib.hid (F3.out l j h123 hq2)
            rintro e w4 ⟨u, rfl, hu, hat4, hk4⟩
            have HR4 := hk4.kept _ _ _ _ (show (V.drewN m).heap[w.heap.size]? = _ from HVr.out) (by decide)
            have HO4 := hk4.kept _ _ _ _ (show (V.drewN m).heap[w.heap.size + 1]? = _ from HVo.out) (by decide)
            have Hu := Lib.hid hu
            obtain ⟨ua, uc, rfl⟩ := own_slice hu
            have Hat4 := Lib.hid hat4
            have Hk4 := Lib.hid ((keep_drewN HkV.out m).trans hk4)
            have oy0 := (Lib.cell_of_heap HO4 0).trans (show _ = some _ from rfl)
            have og0 := Joins.unfrozen_of_block HO4 0
            have oy1 := (Lib.cell_of_heap HO4 1).trans (show _ = some _ from rfl)
            have og1 := Joins.unfrozen_of_block HO4 1
            have oy2 := (Lib.cell_of_heap HO4 2).trans (show _ = some _ from rfl)
            have og2 := Joins.unfrozen_of_block HO4 2
            have oy3 := (Lib.cell_of_heap HO4 3).trans (show _ = some _ from rfl)
            have og3 := Joins.unfrozen_of_block HO4 3
            have ry0 := (Lib.cell_of_heap HR4 0).trans (show _ = some _ from rfl)
            have rg0 := Joins.unfrozen_of_block HR4 0
            have ry1 := (Lib.cell_of_heap HR4 1).trans (show _ = some _ from rfl)
            have rg1 := Joins.unfrozen_of_block HR4 1
            have ry2 := (Lib.cell_of_heap HR4 2).trans (show _ = some _ from rfl)
            have rg2 := Joins.unfrozen_of_block HR4 2
            have ry3 := (Lib.cell_of_heap HR4 3).trans (show _ = some _ from rfl)
            have rg3 := Joins.unfrozen_of_block HR4 3
            obtain ⟨Z, hZ⟩ : ∃ Z, Z = w4.setCell ⟨w.heap.size + 1, 3, none⟩ (.slice ua l.length uc) := ⟨_, rfl⟩
            have HZk := Lib.hid (show Keep w.heap.size [48] w4 Z by rw [hZ]; exact set_keep HO4 (Nat.le_succ _) _)
            have hRZ : Z.heap[w.heap.size]? = some zeroO := by rw [hZ, Below.heap_setCell _ _ _ _ (by simp)]; exact HR4
            have HF := Lib.hid (put4_heap hRZ (.int .i64 1) (.int .i64 n) (.string ⟨#[]⟩) (.slice ua l.length uc))
            have HFk := Lib.hid (put4_keep (b := w.heap.size) hRZ (Nat.le_refl _) (.int .i64 1) (.int .i64 n) (.string ⟨#[]⟩) (.slice ua l.length uc))
            have HZZ := Lib.hid hZ
            clear hu hat4 hk4 HO4 HR4 hRZ hZ
            go_wp2_with fail
            have z0 := (Lib.cell_of_heap HF.out 0)
            have z1 := (Lib.cell_of_heap HF.out 1)
            have z2 := (Lib.cell_of_heap HF.out 2)
            have z3 := (Lib.cell_of_heap HF.out 3)
            rw [HZZ.out] at HF HFk HZk z0 z1 z2 z3
            refine bodyPost_ret (v := opAgg ⟨1, n, Sp.none0, l⟩ (.slice ua l.length uc)) (by simp [results, Tryz.results75, go_sem, z0, z1, z2, z3, Sp.none0]) rfl (rdgo_ok HV.out rfl ⟨_, rfl, ?_⟩ ?_ ((Hk4.out.later HZk.out.below (Nat.le_of_lt hbl) (Nat.le_refl _)).later HFk.out.below (Nat.le_of_lt hbl) (Nat.le_refl _)))
            · exact own_base (HFk.out.own (HZk.out.own Hu.out (by decide)) (by decide)) hsV
            · rw [show a + (1 + (i + j)) = a + 1 + i + j by omega]
              exact (Hat4.out.later HZk.out.below hbl).later HFk.out.below hbl
        · have hd' : decide ((rst s (a + 1 + i)).head? = some 123) = false := decide_eq_false h123
          rw [hd']
          have HV := Lib.hid (F1.out h123)
          have oy0 := (Lib.cell_of_heap HVo.out 0).trans (show _ = some _ from rfl)
          have og0 := Joins.unfrozen_of_block HVo.out 0
          have oy1 := (Lib.cell_of_heap HVo.out 1).trans (show _ = some _ from rfl)
          have og1 := Joins.unfrozen_of_block HVo.out 1
          have oy2 := (Lib.cell_of_heap HVo.out 2).trans (show _ = some _ from rfl)
          have og2 := Joins.unfrozen_of_block HVo.out 2
          have oy3 := (Lib.cell_of_heap HVo.out 3).trans (show _ = some _ from rfl)
          have og3 := Joins.unfrozen_of_block HVo.out 3
          have ry0 := (Lib.cell_of_heap HVr.out 0).trans (show _ = some _ from rfl)
          have rg0 := Joins.unfrozen_of_block HVr.out 0
          have ry1 := (Lib.cell_of_heap HVr.out 1).trans (show _ = some _ from rfl)
          have rg1 := Joins.unfrozen_of_block HVr.out 1
          have ry2 := (Lib.cell_of_heap HVr.out 2).trans (show _ = some _ from rfl)
          have rg2 := Joins.unfrozen_of_block HVr.out 2
          have ry3 := (Lib.cell_of_heap HVr.out 3).trans (show _ = some _ from rfl)
          have rg3 := Joins.unfrozen_of_block HVr.out 3
          have HF := Lib.hid (put4_heap (w := V.drewN m) HVr.out (.int .i64 1) (.int .i64 n) (.string ⟨#[]⟩) (.slice none 0 0))
          have HFk := Lib.hid (put4_keep (b := w.heap.size) (w := V.drewN m) HVr.out (Nat.le_refl _) (.int .i64 1) (.int .i64 n) (.string ⟨#[]⟩) (.slice none 0 0))
          go_wp2_with fail
          have z0 := (Lib.cell_of_heap HF.out 0)
          have z1 := (Lib.cell_of_heap HF.out 1)
          have z2 := (Lib.cell_of_heap HF.out 2)
          have z3 := (Lib.cell_of_heap HF.out 3)
          refine bodyPost_ret (v := opAgg ⟨1, n, Sp.none0, []⟩ (.slice none 0 0)) (by simp [results, Tryz.results75, go_sem, z0, z1, z2, z3, Sp.none0]) rfl (rdgo_ok HV.out rfl ⟨_, rfl, own_nil _ _⟩ ?_ ((keep_drewN HkV.out m).later HFk.out.below (Nat.le_of_lt hbl) (Nat.le_refl _)))
          rw [show a + (1 + i) = a + 1 + i by omega]
          exact (HatV.out.drewN m).later HFk.out.below hbl
    have k61 := b_not (n := 61) rfl h61
    by_cases h43 : x = 43
    · subst h43
      have HN := Lib.hid (quoted_any b s _ w1 Hat1.out (by omega))
      have HX2 := Lib.hid (HX.out.trans (Sp.op_put t))
      rw [ht] at HX2
      have k43 : (((43 : UInt8).toNat : Int) == 43) = true := rfl
      have k45 : (((43 : UInt8).toNat : Int) == 45) = false := rfl
      have k61 : (((43 : UInt8).toNat : Int) == 61) = false := rfl
      go_wp2_with fail
      refine HN.out.mono ?_
      cases hq : Sp.quoted (rst s (a + 1)) with
      | bad k =>
        have HV := Lib.hid (HX2.out.trans (Sp.bad1 hq))
        rintro e w2 ⟨rfl, hk2⟩
        exact ⟨rfl, rdgo_bad HV.out (by rw [show a + (1 + k) = a + 1 + k by omega]) (Hk1.out.trans hk2)⟩
      | ok n i =>
        rintro e w2 ⟨_, rfl, rfl, hat2, hk2⟩
        have F1 := Lib.hid fun h => HX2.out.trans (Sp.opt_no (f := fun (n : List UInt8) a => (⟨2, 0, Sp.ba n, a⟩ : OpD)) hq h)
        have F2 := Lib.hid fun k h h2 => HX2.out.trans (Sp.opt_bad (k := k) (f := fun (n : List UInt8) a => (⟨2, 0, Sp.ba n, a⟩ : OpD)) hq h h2)
        have F3 := Lib.hid fun m j h h2 => HX2.out.trans (Sp.opt_ok (m := m) (j := j) (f := fun (n : List UInt8) a => (⟨2, 0, Sp.ba n, a⟩ : OpD)) hq h h2)
        rw [rst_drop] at F1 F2 F3
        have HR2 := Lib.hid (hk2.kept _ _ _ _ HR1.out (by decide))
        have HO2 := hk2.kept _ _ _ _ HO1.out (by decide)
        have Hk2 := Lib.hid (Hk1.out.trans hk2)
        obtain ⟨V, hV⟩ : ∃ V, V = ((w2.setCell ⟨w.heap.size + 1, 0, none⟩ (.int .i64 2)).setCell ⟨w.heap.size + 1, 2, none⟩ (.string (Sp.ba n))) := ⟨_, rfl⟩
        have HVo := Lib.hid (show V.heap[w.heap.size + 1]? = some (.cells #[.int .i64 2, .int .i64 0, .string (Sp.ba n), .slice none 0 0] 48 (0, 0)) by rw [hV]; exact (Joins.block_setCell (i := 2) (Joins.block_setCell (i := 0) HO2 (.int .i64 2)) (.string (Sp.ba n))))
        have HVk := Lib.hid (show Keep w.heap.size [48] w2 V by rw [hV]; exact ((set_keep (b := w.heap.size) HO2 (Nat.le_succ _) (.int .i64 2)).trans (set_keep (b := w.heap.size) (Joins.block_setCell (i := 0) HO2 (.int .i64 2)) (Nat.le_succ _) (.string (Sp.ba n)))))
        have HVr := Lib.hid (show V.heap[w.heap.size]? = some zeroO by rw [hV, Below.heap_setCell _ _ _ _ (by simp), Below.heap_setCell _ _ _ _ (by simp)]; exact HR2.out)
        have hatV : RdAt V b s (a + 1 + i) := hat2.later HVk.out.below hbl
        have HatV := Lib.hid hatV
        have HkV := Lib.hid (Hk2.out.later HVk.out.below (Nat.le_of_lt hbl) (Nat.le_refl _))
        have hsV : w.heap.size ≤ V.heap.size := HkV.out.below.size
        have HS := Lib.hid (sees_any b s (a + 1 + i) 123 V hatV)
        have HVV := Lib.hid hV
        have g0 := Joins.unfrozen_of_block HO2 0
        have y0 := (Lib.cell_of_heap HO2 0).trans (show _ = some _ from rfl)
        have g1 := Joins.unfrozen_of_block HO2 1
        have y1 := (Lib.cell_of_heap HO2 1).trans (show _ = some _ from rfl)
        have g2 := Joins.unfrozen_of_block HO2 2
        have y2 := (Lib.cell_of_heap HO2 2).trans (show _ = some _ from rfl)
        have g3 := Joins.unfrozen_of_block HO2 3
        have y3 := (Lib.cell_of_heap HO2 3).trans (show _ = some _ from rfl)
        clear hat2 hk2 HO2 hatV hV
        go_wp2_with fail
        rw [← HVV.out]
        refine HS.out.mono ?_
        rintro e w3 ⟨rfl, m, rfl⟩
        by_cases h123 : (rst s (a + 1 + i)).head? = some 123
        · have hd' : decide ((rst s (a + 1 + i)).head? = some 123) = true := decide_eq_true h123
          rw [hd']
          have HA := Lib.hid (attrs_any b s (a + 1 + i) (V.drewN m) (HatV.out.drewN m) hz)
          go_wp2_with fail
          refine HA.out.mono ?_
          cases hq2 : Sp.attrs (rst s (a + 1 + i)) with
          | bad k =>
            have HV := Lib.hid (F2.out k h123 hq2)
            rintro e w4 ⟨rfl, hk4⟩
            exact ⟨rfl, rdgo_bad HV.out (by rw [show a + (1 + (i + k)) = a + 1 + i + k by omega]) ((keep_drewN HkV.out m).trans hk4)⟩
          | ok l j =>
            have HV := Lib.hid (F3.out l j h123 hq2)
            rintro e w4 ⟨u, rfl, hu, hat4, hk4⟩
            have HR4 := hk4.kept _ _ _ _ (show (V.drewN m).heap[w.heap.size]? = _ from HVr.out) (by decide)
            have HO4 := hk4.kept _ _ _ _ (show (V.drewN m).heap[w.heap.size + 1]? = _ from HVo.out) (by decide)
            have Hu := Lib.hid hu
            obtain ⟨ua, uc, rfl⟩ := own_slice hu
            have Hat4 := Lib.hid hat4
            have Hk4 := Lib.hid ((keep_drewN HkV.out m).trans hk4)
            have oy0 := (Lib.cell_of_heap HO4 0).trans (show _ = some _ from rfl)
            have og0 := Joins.unfrozen_of_block HO4 0
            have oy1 := (Lib.cell_of_heap HO4 1).trans (show _ = some _ from rfl)
            have og1 := Joins.unfrozen_of_block HO4 1
            have oy2 := (Lib.cell_of_heap HO4 2).trans (show _ = some _ from rfl)
            have og2 := Joins.unfrozen_of_block HO4 2
            have oy3 := (Lib.cell_of_heap HO4 3).trans (show _ = some _ from rfl)
            have og3 := Joins.unfrozen_of_block HO4 3
            have ry0 := (Lib.cell_of_heap HR4 0).trans (show _ = some _ from rfl)
            have rg0 := Joins.unfrozen_of_block HR4 0
            have ry1 := (Lib.cell_of_heap HR4 1).trans (show _ = some _ from rfl)
            have rg1 := Joins.unfrozen_of_block HR4 1
            have ry2 := (Lib.cell_of_heap HR4 2).trans (show _ = some _ from rfl)
            have rg2 := Joins.unfrozen_of_block HR4 2
            have ry3 := (Lib.cell_of_heap HR4 3).trans (show _ = some _ from rfl)
            have rg3 := Joins.unfrozen_of_block HR4 3
            obtain ⟨Z, hZ⟩ : ∃ Z, Z = w4.setCell ⟨w.heap.size + 1, 3, none⟩ (.slice ua l.length uc) := ⟨_, rfl⟩
            have HZk := Lib.hid (show Keep w.heap.size [48] w4 Z by rw [hZ]; exact set_keep HO4 (Nat.le_succ _) _)
            have hRZ : Z.heap[w.heap.size]? = some zeroO := by rw [hZ, Below.heap_setCell _ _ _ _ (by simp)]; exact HR4
            have HF := Lib.hid (put4_heap hRZ (.int .i64 2) (.int .i64 0) (.string (Sp.ba n)) (.slice ua l.length uc))
            have HFk := Lib.hid (put4_keep (b := w.heap.size) hRZ (Nat.le_refl _) (.int .i64 2) (.int .i64 0) (.string (Sp.ba n)) (.slice ua l.length uc))
            have HZZ := Lib.hid hZ
            clear hu hat4 hk4 HO4 HR4 hRZ hZ
            go_wp2_with fail
            have z0 := (Lib.cell_of_heap HF.out 0)
            have z1 := (Lib.cell_of_heap HF.out 1)
            have z2 := (Lib.cell_of_heap HF.out 2)
            have z3 := (Lib.cell_of_heap HF.out 3)
            rw [HZZ.out] at HF HFk HZk z0 z1 z2 z3
            refine bodyPost_ret (v := opAgg ⟨2, 0, Sp.ba n, l⟩ (.slice ua l.length uc)) (by simp [results, Tryz.results75, go_sem, z0, z1, z2, z3]) rfl (rdgo_ok HV.out rfl ⟨_, rfl, ?_⟩ ?_ ((Hk4.out.later HZk.out.below (Nat.le_of_lt hbl) (Nat.le_refl _)).later HFk.out.below (Nat.le_of_lt hbl) (Nat.le_refl _)))
            · exact own_base (HFk.out.own (HZk.out.own Hu.out (by decide)) (by decide)) hsV
            · rw [show a + (1 + (i + j)) = a + 1 + i + j by omega]
              exact (Hat4.out.later HZk.out.below hbl).later HFk.out.below hbl
        · have hd' : decide ((rst s (a + 1 + i)).head? = some 123) = false := decide_eq_false h123
          rw [hd']
          have HV := Lib.hid (F1.out h123)
          have oy0 := (Lib.cell_of_heap HVo.out 0).trans (show _ = some _ from rfl)
          have og0 := Joins.unfrozen_of_block HVo.out 0
          have oy1 := (Lib.cell_of_heap HVo.out 1).trans (show _ = some _ from rfl)
          have og1 := Joins.unfrozen_of_block HVo.out 1
          have oy2 := (Lib.cell_of_heap HVo.out 2).trans (show _ = some _ from rfl)
          have og2 := Joins.unfrozen_of_block HVo.out 2
          have oy3 := (Lib.cell_of_heap HVo.out 3).trans (show _ = some _ from rfl)
          have og3 := Joins.unfrozen_of_block HVo.out 3
          have ry0 := (Lib.cell_of_heap HVr.out 0).trans (show _ = some _ from rfl)
          have rg0 := Joins.unfrozen_of_block HVr.out 0
          have ry1 := (Lib.cell_of_heap HVr.out 1).trans (show _ = some _ from rfl)
          have rg1 := Joins.unfrozen_of_block HVr.out 1
          have ry2 := (Lib.cell_of_heap HVr.out 2).trans (show _ = some _ from rfl)
          have rg2 := Joins.unfrozen_of_block HVr.out 2
          have ry3 := (Lib.cell_of_heap HVr.out 3).trans (show _ = some _ from rfl)
          have rg3 := Joins.unfrozen_of_block HVr.out 3
          have HF := Lib.hid (put4_heap (w := V.drewN m) HVr.out (.int .i64 2) (.int .i64 0) (.string (Sp.ba n)) (.slice none 0 0))
          have HFk := Lib.hid (put4_keep (b := w.heap.size) (w := V.drewN m) HVr.out (Nat.le_refl _) (.int .i64 2) (.int .i64 0) (.string (Sp.ba n)) (.slice none 0 0))
          go_wp2_with fail
          have z0 := (Lib.cell_of_heap HF.out 0)
          have z1 := (Lib.cell_of_heap HF.out 1)
          have z2 := (Lib.cell_of_heap HF.out 2)
          have z3 := (Lib.cell_of_heap HF.out 3)
          refine bodyPost_ret (v := opAgg ⟨2, 0, Sp.ba n, []⟩ (.slice none 0 0)) (by simp [results, Tryz.results75, go_sem, z0, z1, z2, z3]) rfl (rdgo_ok HV.out rfl ⟨_, rfl, own_nil _ _⟩ ?_ ((keep_drewN HkV.out m).later HFk.out.below (Nat.le_of_lt hbl) (Nat.le_refl _)))
          rw [show a + (1 + i) = a + 1 + i by omega]
          exact (HatV.out.drewN m).later HFk.out.below hbl
    have k43 := b_not (n := 43) rfl h43
    have HV := Lib.hid (HX.out.trans (Sp.op_else h45 h61 h43))
    clear h45 h61 h43
    go_wp2_with fail
    exact ⟨rfl, rdgo_bad HV.out rfl Hk1.out⟩

end Go.Proofs.YtadookafnfnaoaaGreatDoor
