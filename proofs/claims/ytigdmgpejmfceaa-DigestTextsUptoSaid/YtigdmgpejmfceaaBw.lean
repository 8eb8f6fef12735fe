/- The law's own: are rows of bytes each their own? -/
import Derived.Test.YtigdmgpejmfceaaBb
namespace Go.Proofs.Ytigdmgpejmfceaa
open Go.RowKit Su

theorem infoStr : (Try.prog.info? 9).map (fun i => (i.zero, i.size, i.bytes)) = some (some (.string ⟨#[]⟩), 1, 16) := by kernel_rfl
abbrev VB := Value × List UInt8
def txs (rs : List VB) : List Value := rs.map fun r => .string (txB r.2)
theorem txs_len (rs : List VB) : (txs rs).length = rs.length := by simp [txs]
/-- From the i-th on each row is its bytes, in memory of its own. -/
def RowsU (w : World) (B : Nat) (rs : List VB) (i : Nat) : Prop := ∀ j (h : j < rs.length), i ≤ j → OwnU w B rs[j].1 rs[j].2
/-- No two rows share a block. -/
def ApartU (rs : List VB) : Prop := ∀ i j (hi : i < rs.length) (hj : j < rs.length), i ≠ j → ∀ g, rs[i].1.ownBlock = some g → rs[j].1.ownBlock ≠ some g
def rowArr (rs : List VB) : Array Value := (rs.map (·.1)).toArray
theorem rowArr_at {rs : List VB} {w : World} {lb : Nat} (h : w.heap[lb]? = some (.cells (rowArr rs) 22 (0, 0))) (k : Nat) (hk : k < rs.length) : w.cell? ⟨lb, k, none⟩ = some rs[k].1 := by
  rw [cell_of_row w lb k _ _ _ h]
  simp [rowArr, hk]
theorem RowsU.below {w w' : World} {B : Nat} {rs : List VB} {i : Nat} (h : RowsU w B rs i) (hb : Below w.heap.size w w') : RowsU w' B rs i := fun j hj hi => (h j hj hi).below hb
theorem block_typ {w : World} {i j : Nat} {cs cs' : Array Value} {e e' : TypeId} {fr fr' : Nat × Nat} (h : w.heap[i]? = some (.cells cs e fr)) (h' : w.heap[j]? = some (.cells cs' e' fr')) (hne : e ≠ e') : i ≠ j := by
  rintro rfl
  rw [h] at h'
  simp only [Option.some.injEq, Obj.cells.injEq] at h'
  exact hne h'.2.1
theorem OwnU.blk {w : World} {B : Nat} {v : Value} {l : List UInt8} (h : OwnU w B v l) {g : Nat} (hg : v.ownBlock = some g) : ∃ cs, w.heap[g]? = some (.cells cs 5 (0, 0)) := by
  rcases h.2 with ⟨rfl, _⟩ | ⟨g', cap, cur, rfl, _, hc, _⟩
  · simp [Value.ownBlock] at hg
  · simp only [Value.ownBlock, Option.some.injEq] at hg
    subst hg
    exact ⟨cur, hc⟩
/-- What stands between two rounds. -/
structure OwnSt (w wr : World) (lb B : Nat) (wv : Value) (rs : List VB) (i : Nat) : Prop where
  row : wr.heap[lb]? = some (.cells (rowArr rs) 22 (0, 0))
  was : wr.ownsRow B 9 1 wv rs.length (txs rs)
  rows : RowsU wr B rs i
  base : B ≤ wr.heap.size
  all : Below B w wr
/-- A change of the i-th row's block alone. -/
theorem OwnSt.step {w wr w' : World} {lb B : Nat} {wv : Value} {rs : List VB} {i : Nat} (h : OwnSt w wr lb B wv rs i) (ha : ApartU rs) (hi : i < rs.length) {u : Value} {m : List UInt8} (hu : OwnU wr B u m) (hb : u.ownBlock = rs[i].1.ownBlock) (hg : wr.grownBy w' u.ownBlock) : OwnSt w w' lb B wv rs (i + 1) := by
  have hne : ∀ {k : Nat} {cs : Array Value} {e : TypeId} {fr : Nat × Nat}, wr.heap[k]? = some (Obj.cells cs e fr) → e ≠ 5 → w'.heap[k]? = some (Obj.cells cs e fr) := fun hk he => by
    rw [hg.block _ (Array.getElem?_eq_some_iff.1 hk).1 (fun e' => by
      obtain ⟨cs', hc⟩ := hu.blk e'.symm
      exact block_typ hk hc he rfl)]
    exact hk
  refine ⟨hne h.row (by decide), ⟨h.was.1, h.was.2.imp id fun ⟨g, cap, cur, e, hB, hh, r⟩ => ⟨g, cap, cur, e, hB, hne hh (by decide), r⟩⟩, fun j hj hij => ?_, Nat.le_trans h.base hg.size, h.all.grown hg h.base (fun k hk => (hu.lt k hk).1)⟩
  refine (h.rows j hj (by omega)).grown hg (fun g hg1 hg2 => ?_)
  rw [hb] at hg2
  exact ha i j hi hj (by omega) g hg2 hg1
theorem OwnSt.belowS {w wr w' : World} {lb B : Nat} {wv : Value} {rs : List VB} {i : Nat} (h : OwnSt w wr lb B wv rs i) (hb : Below wr.heap.size wr w') : OwnSt w w' lb B wv rs i := by
  have hne : ∀ {k : Nat} {o : Obj}, wr.heap[k]? = some o → w'.heap[k]? = some o := fun hk => by
    rw [hb.block _ (Array.getElem?_eq_some_iff.1 hk).1]; exact hk
  exact ⟨hne h.row, ⟨h.was.1, h.was.2.imp id fun ⟨g, cap, cur, e, hB, hh, r⟩ => ⟨g, cap, cur, e, hB, hne hh, r⟩⟩, h.rows.below hb, Nat.le_trans h.base hb.size, h.all.trans (hb.mono h.base)⟩

theorem only_drew {a w : World} {row : Option Nat} (h : a.grownBy w row) : a.grownBy w.drew row := ⟨h.os, h.tape, h.output, h.size, h.block⟩
/-- A change of one block, new memory, and a change of that block. -/
theorem grown_alloc {a w w' : World} {row : Option Nat} (h : a.grownBy w row) (o : Obj) (h' : (w.alloc o).grownBy w' row) : a.grownBy w' row :=
  ⟨h'.os.trans h.os, h'.tape.trans h.tape, h'.output.trans h.output, Nat.le_trans h.size (Nat.le_trans (by simp) h'.size), fun k hk hne => by
    rw [h'.block k (by have := h.size; simp; omega) hne, ← h.block k hk hne]
    show (w.heap.push o)[k]? = _
    rw [Array.getElem?_push, if_neg (by have := h.size; omega)]⟩
theorem was_at {w : World} {B k c n : Nat} {a : Option Addr} {rs : List VB} (h : w.ownsRow B 9 1 (.slice a k c) n (txs rs)) {q : Nat} (hq : q < rs.length) : ∃ g, a = some ⟨g, 0, none⟩ ∧ w.cell? ⟨g, q, none⟩ = some (.string (txB rs[q].2)) := by
  have hl := h.1
  rw [txs_len, Nat.mul_one] at hl
  rcases h.2 with ⟨_, h0⟩ | ⟨g, cap, cur, e, _⟩
  · omega
  · simp only [Value.slice.injEq] at e
    obtain ⟨rfl, rfl, rfl⟩ := e
    refine ⟨g, rfl, ?_⟩
    rw [World.ownsRow.cellAt h q (by omega)]
    simp [txs, hq]
theorem new_str (w : World) (t : ByteArray) : (w.alloc (.cells #[.string t] 9)).cell? ⟨w.heap.size, 0, none⟩ = some (.string t) := by
  rw [cell_of_row _ w.heap.size 0 _ _ _ (heap_alloc_last w _)]; rfl
theorem str_low {w : World} {B k : Nat} {v : Value} {xs : List Value} (h : w.ownsRow B 9 1 v k xs) (j : Nat) (hj : v.ownBlock = some j) : B ≤ j := by
  rcases h.2 with ⟨rfl, _⟩ | ⟨g, cap, cur, rfl, hg, _⟩
  · simp [Value.ownBlock] at hj
  · simp only [Value.ownBlock, Option.some.injEq] at hj
    omega
theorem wpList_append_str {w : World} {ops : Array Oper} {rest : List Oper} {o : Oper} {a : Act} {Q : Exit → Act → World → Prop} (hgd : o.guard = none) (s x : Operand)
    (ho : o.op = .call { callee := .builtin .append, args := #[s, x], argTypes := #[42, 42] })
    (base : Nat) (v : Value) (n : Nat) (xs : List Value) (g : Nat) (t : ByteArray) (hs : a.eval s = v) (hx : a.eval x = .slice (some ⟨g, 0, none⟩) 1 1) (hown : w.ownsRow base 9 1 v n xs) (hc : w.cell? ⟨g, 0, none⟩ = some (.string t))
    (hn : n ≤ 100000) (hbase : base ≤ w.heap.size)
    (h : ∀ u w', w'.ownsRow base 9 1 u (n + 1) (xs ++ [.string t]) → w.grownBy w' v.ownBlock → wpList Try.prog ops Q rest (a.put o.dst u) w') : wpList Try.prog ops Q (o :: rest) a w := by
  obtain ⟨i0, hi, hz0, hz1, hz2⟩ := info_parts infoStr
  refine wpList_append_own w hgd s x 42 ho base 9 i0 (.string ⟨#[]⟩) 1 16 Try.underlying42 hi hz0 hz1 hz2 rfl (by decide) v n xs hs hown ⟨g, 0, none⟩ 1 1 [.string t] hx rfl (fun j u hj => ?_) (by intro u hu; rw [List.mem_singleton.1 hu]; rfl) (by unfold maxLen; omega) (by omega) hbase
    fun u w' h1 h2 _ => h u w' h1 h2
  match j, hj with
  | 0, hj => simp at hj; subst hj; simpa [Addr.add] using hc
  | j + 1, hj => simp at hj

set_option maxRecDepth 100000 in
set_option maxHeartbeats 4000000 in
theorem owned_any (lb B : Nat) (rs : List VB) (w : World) (hl : w.heap[lb]? = some (.cells (rowArr rs) 22 (0, 0))) (hr : RowsU w B rs 0) (ha : ApartU rs) (hB : B ≤ w.heap.size) (hn : rs.length ≤ 1000) (hlen : ∀ j (h : j < rs.length), rs[j].2.length + 2 ≤ 140737488355328) :
    Calls Try.prog 16 #[.slice (some ⟨lb, 0, none⟩) rs.length rs.length] w fun e w' => e = .returned (.bool true) ∧ Below B w w' := by
  have HL := Lib.hid hl
  have HR := Lib.hid hr
  have HA := Lib.hid ha
  have HN := Lib.hid hlen
  have hlb := (Array.getElem?_eq_some_iff.1 hl).1
  have hE : w.ownsRow w.heap.size 9 1 (.slice none 0 0) 0 [] := ⟨rfl, .inl ⟨rfl, rfl⟩⟩
  have HE := Lib.hid hE
  clear hl hr ha hlen hE
  go_enter Try.func16, Try.ntmps16
  go_wp2_with fail
  go_loopw [3, 4] (fun v i wr => ∃ k : Nat, i = .int .i64 (k : Int) ∧ k ≤ rs.length ∧ wr.ownsRow w.heap.size 9 1 v k (txs (rs.take k)) ∧ Below w.heap.size w wr) (fun _ i _ => rs.length - (intOf i).toNat)
  case atStart => exact ⟨0, rfl, Nat.zero_le _, HE.out, Below.refl _ _⟩
  case round =>
    obtain ⟨k, rfl, hk, hown, hb⟩ := hrel
    have HO := Lib.hid hown
    have HB := Lib.hid hb
    have hs := hb.size
    obtain ⟨wa, wc, rfl⟩ : ∃ a c, u3 = .slice a k c := by
      rcases hown.2 with ⟨h, h0⟩ | ⟨g, cap, cur, h, _⟩
      · exact ⟨none, 0, by rw [h, h0]⟩
      · exact ⟨_, _, h⟩
    clear hown hb
    by_cases hlt : k < rs.length
    · have hlt' : (k : Int) < (rs.length : Int) := by omega
      have hc := (HB.out.cell (p := ⟨lb, k, none⟩) (by exact hlb)).trans (rowArr_at HL.out k hlt)
      have hcv := conv_row ((HR.out k hlt (Nat.zero_le _)).row.below HB.out)
      have HT := Lib.hid (show txs (rs.take (k + 1)) = txs (rs.take k) ++ [.string (txB rs[k].2)] by rw [List.take_succ_eq_append_getElem hlt]; unfold txs; rw [List.map_append]; rfl)
      generalize rs[k].1 = vk at hc hcv
      generalize txB rs[k].2 = tk at hcv HT
      go_wp2_with (refine wpList_append_str rfl _ _ rfl w.heap.size (.slice wa k wc) k (txs (rs.take k)) wr.heap.size tk rfl rfl (World.ownsRow.alloc HO.out _) (new_str wr tk) (by omega) (by simp; omega) ?_; intro u2 w2 own2 gr2; rw [← HT.out] at own2; have HO2 := Lib.hid own2; have HB2 := Lib.hid ((HB.out.alloc hs _).grown gr2 (by simp; omega) (fun j hj => str_low HO.out j hj)); clear own2 gr2)
      refine ⟨⟨k + 1, by rw [Int.natCast_add]; rfl, by omega, HO2.out, HB2.out⟩, ?_⟩
      simp only [intOf]
      omega
    · have HK := Lib.hid (show k = rs.length by omega)
      have hge : ¬ (k : Int) < (rs.length : Int) := by omega
      have HW := Lib.hid (show OwnSt w wr lb B (.slice wa k wc) rs 0 from
        ⟨(HB.out.block _ hlb).trans HL.out, by
          have h := HO.out
          rw [HK.out, List.take_length] at h
          rw [HK.out]
          exact ⟨h.1, h.2.imp id fun ⟨g, cap, cur, e, hg, r⟩ => ⟨g, cap, cur, e, Nat.le_trans hB hg, r⟩⟩, HR.out.below HB.out, Nat.le_trans hB hs, HB.out.mono hB⟩)
      clear HO
      go_wp2_with fail
      go_loopw [5, 6, 7, 8] (fun i _ _ _ wq => ∃ j : Nat, i = .int .i64 (j : Int) ∧ j ≤ rs.length ∧ OwnSt w wq lb B (.slice wa k wc) rs j) (fun i _ _ _ _ => rs.length - (intOf i).toNat)
      case atStart => exact ⟨0, rfl, Nat.zero_le _, HW.out⟩
      case round =>
        obtain ⟨j, rfl, hj, hst⟩ := hrel
        have HST := Lib.hid hst
        clear hst
        by_cases hjn : j < rs.length
        · have hjn' : (j : Int) < (rs.length : Int) := by omega
          have HOJ := Lib.hid (HST.out.rows j hjn (Nat.le_refl _))
          have HNJ := Lib.hid (HN.out j hjn)
          obtain ⟨vj, hvj⟩ : ∃ v, v = rs[j].1 := ⟨_, rfl⟩
          obtain ⟨mj, hmj⟩ : ∃ m, m = rs[j].2 := ⟨_, rfl⟩
          rw [← hvj, ← hmj] at HOJ
          rw [← hmj] at HNJ
          have HCJ := Lib.hid (show ∀ W : World, W.heap[lb]? = some (.cells (rowArr rs) 22 (0, 0)) → W.cell? ⟨lb, j, none⟩ = some vj from fun W h => by rw [hvj]; exact rowArr_at h j hjn)
          have HVJ := Lib.hid hvj
          obtain ⟨ja, jc, rfl⟩ := HOJ.out.shape
          have hmm : mj.length ≤ 140737488355328 := by have := HNJ.out; omega
          clear hvj hmj
          generalize wr = wq at *
          go_wp2_with fail
          go_loopw [6] (fun i wz => ∃ (p : Nat) (ys : List UInt8), i = .int .i64 (p : Int) ∧ p ≤ mj.length ∧ ys.length = mj.length ∧ OwnU wz B (.slice ja mj.length jc) ys ∧ wq.grownBy wz (Value.slice ja mj.length jc).ownBlock) (fun i _ => mj.length - (intOf i).toNat)
          case atStart => exact ⟨0, _, rfl, Nat.zero_le _, rfl, HOJ.out, grown_refl _ _⟩
          case round =>
            obtain ⟨p, ys, rfl, hp, hy, hown, hg⟩ := hrel
            have HOW := Lib.hid hown
            have HG := Lib.hid hg
            have HY := Lib.hid hy
            have hlc := HCJ.out wr (by
              rw [hg.block _ (Array.getElem?_eq_some_iff.1 HST.out.row).1 (fun e' => by
                obtain ⟨cs', hc⟩ := HOJ.out.blk e'.symm
                exact block_typ HST.out.row hc (by decide) rfl)]
              exact HST.out.row)
            clear hown hg
            by_cases hpl : p < mj.length
            · have hpl' : (p : Int) < (mj.length : Int) := by omega
              obtain ⟨g, gc, he⟩ := own_open HOW.out (by rintro rfl; simp at hy; omega)
              simp only [Value.slice.injEq] at he
              obtain ⟨rfl, _, rfl⟩ := he
              obtain ⟨c1, f1⟩ := own_at HOW.out hy p (by omega)
              have q1 := flip_eq (ys[p]'(by omega))
              have HZ := Lib.hid (own_put HOW.out hy p (UInt8.ofNat ((ys[p]'(by omega)).toNat ^^^ 255)))
              have HYY := Lib.hid (show (ys.set p (UInt8.ofNat ((ys[p]'(by omega)).toNat ^^^ 255))).length = mj.length by rw [List.length_set]; exact hy)
              generalize UInt8.ofNat ((ys[p]'(by omega)).toNat ^^^ 255) = z at *
              generalize (ys[p]'(by omega)) = x at *
              clear hy
              go_wp2_with fail
              go_region
              all_goals go_wp2_with fail
              refine ⟨⟨p + 1, _, by rw [Int.natCast_add]; rfl, by omega, HYY.out, HZ.out.below ((Below.refl _ _).drew), only_drew (only_setCell HG.out (p := ⟨g, p, none⟩) rfl _)⟩, ?_⟩
              simp only [intOf]
              omega
            · have hge : ¬ (p : Int) < (mj.length : Int) := by omega
              have hbs : B ≤ wr.heap.size := Nat.le_trans HST.out.base HG.out.size
              have HL2 := Lib.hid hbs
              have hl12 : BRow (wr.alloc (.cells #[.int .u8 1, .int .u8 2] 5)) (.slice (some ⟨wr.heap.size, 0, none⟩) 2 2) [1, 2] := brow_lit (l := [1, 2]) (heap_alloc_last wr _) rfl (by simp [maxLen]) rfl
              have HL12 := Lib.hid hl12
              have HNJ2 := HNJ.out
              have HY2 := Lib.hid (show mj.length = ys.length by omega)
              clear hl12
              go_wp2_with (refine wpList_append_bytes rfl _ _ rfl B (.slice ja mj.length jc) (.slice (some ⟨wr.heap.size, 0, none⟩) 2 2) ys [1, 2] rfl rfl (OwnU.alloc HOW.out _) HL12.out (by rw [← HY2.out]; exact HNJ2) (by simp; omega) ?_; intro u2 w2 own2 gr2; obtain ⟨ua, uc, rfl⟩ := own2.shape; rw [List.length_append, ← HY2.out, show [(1 : UInt8), 2].length = 2 from rfl]; have HGR := Lib.hid (HST.out.step HA.out hjn HOJ.out (by rw [← HVJ.out]) (grown_alloc HG.out _ gr2)); clear own2 gr2)
              go_loopw [8] (fun i wz => ∃ q nd : Nat, i = .int .i64 (q : Int) ∧ j + 1 ≤ q ∧ q ≤ rs.length ∧ wz = w2.drewN nd) (fun i _ => rs.length - (intOf i).toNat)
              case atStart => exact ⟨j + 1, 0, by rw [Int.natCast_add]; rfl, Nat.le_refl _, hjn, rfl⟩
              case round =>
                obtain ⟨q, nd, rfl, hq1, hq2, hwz⟩ := hrel
                have HD := Lib.hid (OwnSt.belowS HGR.out (below_drewN (Below.refl _ _) nd))
                generalize wr = wy at *
                subst hwz
                by_cases hqn : q < rs.length
                · have hqn' : (q : Int) < (rs.length : Int) := by omega
                  have hkq : (q : Int) < (k : Int) := by have := HK.out; omega
                  have hkq2 : q < k := by have := HK.out; omega
                  have c1 := rowArr_at HGR.out.row q hqn
                  have c2 := fun n : Nat => conv_row ((HGR.out.belowS (below_drewN (Below.refl _ _) n)).rows q hqn hq1).row
                  obtain ⟨gw, rfl, c3⟩ := was_at HGR.out.was hqn
                  generalize rs[q].1 = vq at c1 c2
                  generalize txB rs[q].2 = tq at c2 c3
                  go_wp2_with fail
                  have c4 := c2 (nd + 1)
                  have c5 : (convert 22 9 vq).run Try.prog (w2.drewN nd).drew = .ok (.string tq) (w2.drewN nd).drew := c4
                  go_region
                  go_wp2_with fail
                  refine ⟨⟨q + 1, nd + 1, by rw [Int.natCast_add]; rfl, by omega, by omega, rfl⟩, ?_⟩
                  simp only [intOf]
                  omega
                · have hge : ¬ (q : Int) < (rs.length : Int) := by omega
                  go_wp2_with fail
                  refine ⟨⟨j + 1, by rw [Int.natCast_add]; rfl, hjn, HD.out⟩, ?_⟩
                  simp only [intOf]
                  omega
        · have HALL := Lib.hid HST.out.all
          have hge : ¬ (j : Int) < (rs.length : Int) := by omega
          go_wp2_with fail
          go_ret
          exact ⟨rfl, HALL.out⟩
theorem apart4 {r0 r1 r2 r3 : VB} {a0 b0 a1 b1 a2 b2 a3 b3 : Nat} (h0 : InU r0.1 a0 b0) (h1 : InU r1.1 a1 b1) (h2 : InU r2.1 a2 b2) (h3 : InU r3.1 a3 b3) (q0 : b0 ≤ a1) (q1 : b1 ≤ a2) (q2 : b2 ≤ a3) (p1 : a1 ≤ b1) (p2 : a2 ≤ b2) : ApartU [r0, r1, r2, r3] := by
  intro i j hi hj hne g hg hg2
  have key : ∀ k (hk : k < [r0, r1, r2, r3].length), [r0, r1, r2, r3][k].1.ownBlock = some g → (k = 0 ∧ a0 ≤ g ∧ g < b0) ∨ (k = 1 ∧ a1 ≤ g ∧ g < b1) ∨ (k = 2 ∧ a2 ≤ g ∧ g < b2) ∨ (k = 3 ∧ a3 ≤ g ∧ g < b3) := by
    intro k hk h
    match k, hk, h with
    | 0, _, h => exact .inl ⟨rfl, h0 g h⟩
    | 1, _, h => exact .inr (.inl ⟨rfl, h1 g h⟩)
    | 2, _, h => exact .inr (.inr (.inl ⟨rfl, h2 g h⟩))
    | 3, _, h => exact .inr (.inr (.inr ⟨rfl, h3 g h⟩))
  have k1 := key i hi hg
  have k2 := key j hj hg2
  omega
theorem rows4 {w : World} {B : Nat} {r0 r1 r2 r3 : VB} (h0 : OwnU w B r0.1 r0.2) (h1 : OwnU w B r1.1 r1.2) (h2 : OwnU w B r2.1 r2.2) (h3 : OwnU w B r3.1 r3.2) : RowsU w B [r0, r1, r2, r3] 0 := by
  intro j hj _
  match j, hj with
  | 0, _ => exact h0
  | 1, _ => exact h1
  | 2, _ => exact h2
  | 3, _ => exact h3
end Go.Proofs.Ytigdmgpejmfceaa
