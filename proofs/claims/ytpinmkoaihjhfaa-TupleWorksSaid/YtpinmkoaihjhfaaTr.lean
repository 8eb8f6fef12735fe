/- A text read: the program's readText. -/
import Derived.Test.YtpinmkoaihjhfaaTj
import Derived.Test.YtpinmkoaihjhfaaTk
namespace Go.Proofs.Ytpinmkoaihjhfaa
open Go.RowKit Su Tp

/-- The text that bytes begin with, and how many of them it takes. -/
def rdT : List UInt8 → Option (List UInt8 × Nat)
  | [] => none
  | [_] => none
  | c :: d :: s => if c = 0 then (if d = 255 then (rdT s).map fun x => (0 :: x.1, x.2 + 2) else if d = 0 then some ([], 2) else none) else (rdT (d :: s)).map fun x => (c :: x.1, x.2 + 1)
theorem rdT_nz {c : UInt8} (h : c ≠ 0) (s : List UInt8) : rdT (c :: s) = (rdT s).map fun x => (c :: x.1, x.2 + 1) := by
  cases s with
  | nil => rfl
  | cons d s => rw [rdT, if_neg h]
theorem rdT_one (c : UInt8) : rdT [c] = none := rfl
theorem rdT_top (s : List UInt8) : rdT (0 :: 255 :: s) = (rdT s).map fun x => (0 :: x.1, x.2 + 2) := by rw [rdT, if_pos rfl, if_pos rfl]
theorem rdT_end (s : List UInt8) : rdT (0 :: 0 :: s) = some ([], 2) := by rw [rdT, if_pos rfl, if_neg (by decide), if_pos rfl]
theorem rdT_bad {d : UInt8} (h : d ≠ 255) (h' : d ≠ 0) (s : List UInt8) : rdT (0 :: d :: s) = none := by rw [rdT, if_pos rfl, if_neg h, if_neg h']
/-- The text read on, behind what has been read. -/
def upT (t : List UInt8) (i : Nat) (o : Option (List UInt8 × Nat)) : Option (List UInt8 × Nat) := o.map fun x => (t ++ x.1, x.2 + i)
theorem upT_up (t m : List UInt8) (i n : Nat) (o : Option (List UInt8 × Nat)) : upT t i (o.map fun x => (m ++ x.1, x.2 + n)) = upT (t ++ m) (i + n) o := by
  cases o with
  | none => rfl
  | some x => simp [upT]; omega
theorem rdT_step1 {s t : List UInt8} {i : Nat} (hi : i < s.length) (h : rdT s = upT t i (rdT (s.drop i))) (hc : s[i] ≠ 0) : rdT s = upT (t ++ [s[i]]) (i + 1) (rdT (s.drop (i + 1))) := by
  rw [h, List.drop_eq_getElem_cons hi, rdT_nz hc]
  exact upT_up t [s[i]] i 1 _
theorem rdT_step2 {s t : List UInt8} {i : Nat} (hi : i + 1 < s.length) (h : rdT s = upT t i (rdT (s.drop i))) (hc : s[i] = 0) (hd : s[i + 1] = 255) : rdT s = upT (t ++ [0]) (i + 2) (rdT (s.drop (i + 2))) := by
  rw [h, List.drop_eq_getElem_cons (show i < s.length by omega), List.drop_eq_getElem_cons hi, hc, hd, rdT_top]
  exact upT_up t [0] i 2 _
theorem rdT_step3 {s t : List UInt8} {i : Nat} (hi : i + 1 < s.length) (h : rdT s = upT t i (rdT (s.drop i))) (hc : s[i] = 0) (hd : s[i + 1] = 0) : rdT s = some (t, i + 2) := by
  rw [h, List.drop_eq_getElem_cons (show i < s.length by omega), List.drop_eq_getElem_cons hi, hc, hd, rdT_end]
  simp [upT]; omega
theorem rdT_step4 {s t : List UInt8} {i : Nat} (hi : i + 1 < s.length) (h : rdT s = upT t i (rdT (s.drop i))) (hc : s[i] = 0) (hd : s[i + 1] ≠ 255) (hd' : s[i + 1] ≠ 0) : rdT s = none := by
  rw [h, List.drop_eq_getElem_cons (show i < s.length by omega), List.drop_eq_getElem_cons hi, hc, rdT_bad hd hd']; rfl
theorem rdT_step5 {s t : List UInt8} {i : Nat} (hi : i + 1 = s.length) (h : rdT s = upT t i (rdT (s.drop i))) : rdT s = none := by
  rw [h, List.drop_eq_getElem_cons (show i < s.length by omega), hi, List.drop_length, rdT_one]; rfl
theorem rdT_step6 {s t : List UInt8} {i : Nat} (hi : s.length ≤ i) (h : rdT s = upT t i (rdT (s.drop i))) : rdT s = none := by
  rw [h, List.drop_eq_nil_of_le hi]; rfl
def TextOut (s : List UInt8) (w : World) (e : Ending) (w' : World) : Prop :=
  e = .returned (match rdT s with | some (t, n) => .tuple #[.string (txB t), .int .i64 (n : Int)] | none => .tuple #[.string (txB []), .int .i64 0]) ∧ Below w.heap.size w w'
theorem textOut_some {s t : List UInt8} {n : Nat} {w w' : World} (h : rdT s = some (t, n)) (hb : Below w.heap.size w w') : TextOut s w (.returned (.tuple #[.string (txB t), .int .i64 (n : Int)])) w' := ⟨by rw [h], hb⟩
theorem textOut_none {s : List UInt8} {w w' : World} (h : rdT s = none) (hb : Below w.heap.size w w') : TextOut s w (.returned (.tuple #[.string (txB []), .int .i64 0])) w' := ⟨by rw [h], hb⟩
theorem u8_ne {x y : UInt8} (h : x ≠ y) : ((x.toNat : Int) == (y.toNat : Int)) = false := by
  rw [beq_eq_false_iff_ne]
  intro e
  exact h (UInt8.toNat_inj.1 (by omega))
theorem alloc_sizeR (W : World) (o : Obj) : (W.alloc o).heap.size = W.heap.size + 1 := Array.size_push _
theorem OwnU.shapeQ {w : World} {B : Nat} {v : Value} {l : List UInt8} (h : OwnU w B v l) : ∃ a n cap, v = .slice a n cap ∧ n = l.length := by
  obtain ⟨a, cap, e⟩ := h.shape
  exact ⟨a, _, cap, e, rfl⟩
set_option maxRecDepth 100000 in
set_option maxHeartbeats 8000000 in
theorem readText_any (s : List UInt8) (w : World) (hs : s.length ≤ 1000) :
    Calls Try.prog 36 #[.string (txB s)] w (TextOut s w) := by
  have hz := tx_size s
  go_enter Try.func36, Try.ntmps36
  go_wp2_with fail
  go_loopw [4, 5] (fun v i wr => ∃ (k : Nat) (t : List UInt8), i = .int .i64 (k : Int) ∧ k ≤ s.length + 1 ∧ OwnU wr w.heap.size v t ∧ Below w.heap.size w wr ∧ rdT s = upT t k (rdT (s.drop k)) ∧ t.length ≤ k) (fun _ i _ => s.length + 1 - (intOf i).toNat)
  case atStart => exact ⟨0, [], rfl, by omega, ⟨rfl, .inl ⟨rfl, rfl⟩⟩, Below.refl _ _, by simp [upT], by simp⟩
  case round =>
    obtain ⟨k, t, rfl, hk, ho, hb, hrd, htk⟩ := hrel
    obtain ⟨a, n, c, rfl, hn⟩ := ho.shapeQ
    have hs1 := hb.size
    have HO := Lib.hid ho
    have HB := Lib.hid hb
    have HN := Lib.hid hn
    clear ho hb hn
    by_cases hlt : k < s.length
    · have tl : decide ((k : Int) < (s.length : Int)) = true := decide_eq_true (by omega)
      have hml : (k : Int) < (s.length : Int) := by omega
      have hg := tx_get s k hlt (by rw [hz]; exact hlt)
      by_cases hc : s[k] = 0
      · have t0 : ((s[k].toNat : Int) != 0) = false := by rw [hc]; rfl
        by_cases hlt2 : k + 1 < s.length
        · have tl2 : decide ((k : Int) + 1 < (s.length : Int)) = true := decide_eq_true (by omega)
          have hml2 : (k : Int) + 1 < (s.length : Int) := by omega
          have hg2 := tx_get s (k + 1) hlt2 (by rw [hz]; exact hlt2)
          by_cases h255 : s[k + 1] = 255
          · have HR := Lib.hid (rdT_step2 hlt2 hrd hc h255)
            have t1 : ((s[k + 1].toNat : Int) == 255) = true := by rw [h255]; rfl
            clear hrd hc h255
            generalize s[k] = x at *
            generalize s[k + 1] = y at *
            obtain ⟨u, W', hr, ho2, hgr⟩ := run_append_bytes (w := wr.alloc (.cells #[.int .u8 0] 5)) 39 w.heap.size (.slice a n c) (.slice (some ⟨wr.heap.size, 0, none⟩) 1 1) t [0] (OwnU.alloc HO.out _) (own_one wr 0 0 rfl).row (by simp; omega) (by rw [alloc_sizeR]; omega)
            have HO2 := Lib.hid ho2
            have HB2 := Lib.hid ((HB.out.alloc hs1 _).grown hgr (by rw [alloc_sizeR]; omega) fun g hg => (HO.out.lt g hg).1)
            clear ho2 hgr
            go_wp2_with (refine wpList_appended rfl _ _ 39 39 rfl (.slice a n c) (.slice (some ⟨wr.heap.size, 0, none⟩) 1 1) u rfl rfl hr ?_; clear hr)
            refine ⟨⟨k + 2, t ++ [0], by rw [Int.natCast_add]; simp; omega, by omega, HO2.out, HB2.out, HR.out, by simp; omega⟩, ?_⟩
            simp only [intOf]; omega
          · have t1 : ((s[k + 1].toNat : Int) == 255) = false := u8_ne (y := 255) h255
            by_cases h0 : s[k + 1] = 0
            · have HR := Lib.hid (rdT_step3 hlt2 hrd hc h0)
              have t2 : ((s[k + 1].toNat : Int) == 0) = true := by rw [h0]; rfl
              have hcv := conv_row HO.out.row
              clear hrd hc h255 h0
              generalize s[k] = x at *
              generalize s[k + 1] = y at *
              go_wp2_with fail
              go_ret2
              have q := textOut_some HR.out HB.out
              first
                | (rw [show ((k + 2 : Nat) : Int) = (k : Int) + 1 + 1 by omega] at q; exact q)
                | (rw [show ((k + 2 : Nat) : Int) = (k : Int) + 2 by omega] at q; exact q)
            · have HR := Lib.hid (rdT_step4 hlt2 hrd hc h255 h0)
              have t2 : ((s[k + 1].toNat : Int) == 0) = false := u8_ne (y := 0) h0
              clear hrd hc h255 h0
              generalize s[k] = x at *
              generalize s[k + 1] = y at *
              go_wp2_with fail
              go_ret2
              exact textOut_none HR.out HB.out
        · have HR := Lib.hid (rdT_step5 (show k + 1 = s.length by omega) hrd)
          have tl2 : decide ((k : Int) + 1 < (s.length : Int)) = false := decide_eq_false (by omega)
          clear hrd hc
          generalize s[k] = x at *
          go_wp2_with fail
          go_ret2
          exact textOut_none HR.out HB.out
      · have HR := Lib.hid (rdT_step1 hlt hrd hc)
        have hx0 : s[k].toNat ≠ 0 := fun e => hc (UInt8.toNat_inj.1 e)
        have t0 : ((s[k].toNat : Int) != 0) = true := by rw [bne_iff_ne]; omega
        clear hrd hc hx0
        generalize s[k] = x at *
        obtain ⟨u, W', hr, ho2, hgr⟩ := run_append_bytes (w := wr.alloc (.cells #[.int .u8 (x.toNat : Int)] 5)) 39 w.heap.size (.slice a n c) (.slice (some ⟨wr.heap.size, 0, none⟩) 1 1) t [x] (OwnU.alloc HO.out _) (own_one wr x _ rfl).row (by simp; omega) (by rw [alloc_sizeR]; omega)
        have HO2 := Lib.hid ho2
        have HB2 := Lib.hid ((HB.out.alloc hs1 _).grown hgr (by rw [alloc_sizeR]; omega) fun g hg => (HO.out.lt g hg).1)
        clear ho2 hgr
        go_wp2_with (refine wpList_appended rfl _ _ 39 39 rfl (.slice a n c) (.slice (some ⟨wr.heap.size, 0, none⟩) 1 1) u rfl rfl hr ?_; clear hr)
        refine ⟨⟨k + 1, t ++ [x], by rw [Int.natCast_add]; rfl, by omega, HO2.out, HB2.out, HR.out, by simp; omega⟩, ?_⟩
        simp only [intOf]; omega
    · have HR := Lib.hid (rdT_step6 (show s.length ≤ k by omega) hrd)
      have tl : decide ((k : Int) < (s.length : Int)) = false := decide_eq_false (by omega)
      clear hrd
      go_wp2_with fail
      go_ret2
      exact textOut_none HR.out HB.out
end Go.Proofs.Ytpinmkoaihjhfaa
