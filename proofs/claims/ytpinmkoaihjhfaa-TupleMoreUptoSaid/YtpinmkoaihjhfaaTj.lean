/- What is behind a beginning: the program's and the document's After. -/
import Derived.Test.YtpinmkoaihjhfaaTi
import Derived.StillTailTactics
namespace Go.Proofs.Ytpinmkoaihjhfaa
open Go.RowKit Su Tp
attribute [local go_sem] Oper.semAt_some

theorem conv_str (w : World) (c : List UInt8) (hc : c.length ≤ 140737488355328) : ∃ cap W', (convert 9 39 (.string (txB c))).run Try.prog w = .ok (.slice (some ⟨w.heap.size, 0, none⟩) c.length cap) W' ∧ BRow W' (.slice (some ⟨w.heap.size, 0, none⟩) c.length cap) c ∧ Below w.heap.size w W' ∧ (∀ i, i < c.length → W'.frozen? ⟨w.heap.size, i, none⟩ = false) ∧ c.length ≤ cap := by
  have h := run_bytes_of_string (P := Try.prog) w 9 39 5 (txB c) Try.underlying9 Try.underlying39 Try.underlying5
  have hs : (txB c).size = c.length := by show c.toArray.size = _; simp
  rw [hs] at h
  refine ⟨_, _, h, ?_, ((Below.refl _ _).drew).alloc (Nat.le_refl _) _, fun i hi => ?_, grownCap_ge _ _ _ _⟩
  · refine ⟨_, _, rfl, grownCap_ge _ _ _ _, grownCap_le_maxLen _ _ _ _ (by unfold maxLen; omega), (fun e => by cases e), fun i hi => ⟨w.heap.size, 0, rfl, by simp, ?_⟩⟩
    rw [cell_of_row _ w.heap.size (0 + i) _ _ _ (heap_alloc_last w.drew _), Nat.zero_add]
    have hi' : i < (txB c).size := by rw [hs]; exact hi
    rw [bytesRow, Array.getElem?_append_left (by simpa [txB] using hi)]
    simp [txB, hi]
  · have hh := heap_alloc_last w.drew (.cells (bytesRow (txB c) (grownCap w c.length 0 5)) 5 ((bytesRow (txB c) (grownCap w c.length 0 5)).size, (bytesRow (txB c) (grownCap w c.length 0 5)).size + 1))
    have hsz : c.length ≤ (bytesRow (txB c) (grownCap w c.length 0 5)).size := by
      unfold bytesRow
      rw [Array.size_append]
      simp [txB]
    unfold World.frozen?
    rw [show w.heap.size = w.drew.heap.size from rfl, hh]
    simp
    omega
theorem tx_extract (l : List UInt8) (m : Nat) : (txB l).extract 0 m = txB (l.take m) := by
  apply ByteArray.ext
  rw [ByteArray.data_extract]
  unfold txB
  apply Array.ext'
  simp
theorem tx_append (l m : List UInt8) : txB l ++ txB m = txB (l ++ m) := by
  apply ByteArray.ext
  rw [ByteArray.data_append]
  unfold txB
  simp
theorem own_one (w : World) (x : UInt8) (i : Int) (h : i = (x.toNat : Int)) : OwnU (w.alloc (.cells #[.int .u8 i] 5)) w.heap.size (.slice (some ⟨w.heap.size, 0, none⟩) 1 1) [x] := by
  subst h
  exact World.ownsRow_lit w #[.int .u8 (x.toNat : Int)] 1 (Nat.le_refl _) (by unfold maxLen; omega) rfl
theorem tx_get (l : List UInt8) (m : Nat) (h : m < l.length) (hm : m < (txB l).size) : (txB l)[m]'hm = l[m] := by
  show (l.toArray)[m]'(by simpa using h) = _
  exact List.getElem_toArray _
set_option maxRecDepth 100000 in
set_option maxHeartbeats 8000000 in
theorem refAfter_any (l : List UInt8) (w : World) (hl : l.length ≤ 140737488355328) :
    Calls Try.prog 16 #[.string (txB l)] w fun e w' => e = .returned (.string (txB (aft l))) ∧ Below w.heap.size w w' := by
  have hz := tx_size l
  go_enter Try.func16, Try.ntmps16
  go_wp2_with fail
  go_loopw [3] (fun i wr => ∃ n : Nat, i = .int .i64 ((n : Int) - 1) ∧ n ≤ l.length ∧ (∀ x ∈ l.drop n, x = 255) ∧ Below w.heap.size w wr) (fun i _ => (intOf i + 1).toNat)
  case atStart => exact ⟨l.length, rfl, Nat.le_refl _, by simp, Below.refl _ _⟩
  case round =>
    obtain ⟨n, rfl, hk, hall, hb⟩ := hrel
    have hs := hb.size
    cases n with
    | zero =>
      have t0 : decide (1 ≤ ((0 : Nat) : Int)) = false := rfl
      have hR := Lib.hid (show aft l = [] from (aft_nil_iff l).2 (by simpa using hall))
      clear hall
      go_wp2_with fail
      go_ret
      exact ⟨by rw [hR.out]; rfl, hb⟩
    | succ m =>
      rw [show ((m + 1 : Nat) : Int) - 1 = (m : Int) by omega]
      have hm : m < l.length := by omega
      have hml : (m : Int) < ((txB l).size : Int) := by rw [hz]; omega
      have hg := tx_get l m hm (by rw [hz]; exact hm)
      have hbyte := u8_lt l[m]
      by_cases h : l[m] = 255
      · have hst := Lib.hid (show ∀ x ∈ l.drop m, x = 255 from fun x hx => by
          rw [List.drop_eq_getElem_cons hm] at hx
          rcases List.mem_cons.1 hx with rfl | hx
          · exact h
          · exact hall x hx)
        have t1 : decide (((l[m].toNat : Nat) : Int) < 255) = false := by rw [h]; rfl
        have t2 : ¬ (((l[m].toNat : Nat) : Int) < 255) := by rw [h]; decide
        clear hall h
        generalize l[m] = x at *
        go_wp2_with fail
        refine ⟨⟨m, rfl, by omega, hst.out, hb⟩, ?_⟩
        simp only [intOf]; omega
      · have hR := Lib.hid (aft_at hm hall h)
        have hne : l[m].toNat ≠ 255 := fun e => h (UInt8.toNat_inj.1 e)
        have t1 : decide (((l[m].toNat : Nat) : Int) < 255) = true := decide_eq_true (by omega)
        have ho := Lib.hid (add_one h)
        have hx := Lib.hid (tx_extract l m)
        have hb2 := Lib.hid (fun o => (hb.alloc hs o).drew)
        clear hall h hb
        generalize l[m] = x at *
        have hw : IntKind.u8.wrap ((x.toNat : Int) + 1) = ((x + 1).toNat : Int) := by rw [ho.out]; simp [IntKind.wrap, IntKind.signed, IntKind.bits]; omega
        have h1 := conv_row ((own_one wr (x + 1) (IntKind.u8.wrap ((x.toNat : Int) + 1)) hw).row.below (Below.refl _ _).drew)
        have hy := Lib.hid hw
        have q1 : ((txB l).extract 0 m).size = m := by rw [tx_extract, tx_size, List.length_take]; omega
        have q2 : (txB [x + 1]).size = 1 := rfl
        clear hw
        go_wp2_with fail
        have hle : m ≤ l.length := by omega
        refine wp_region_noPanic ?_
        go_region_with fail
        all_goals
          refine NoPanic.normal ?_
          go_wp2_with fail
          go_ret
          exact ⟨by rw [hR.out, ← tx_append, ← hx.out]; rfl, hb2.out _⟩
/-- One cell of a row of bytes turned. -/
theorem brow_set {w : World} {g n cap m c2 : Nat} {l : List UInt8} (h : BRow w (.slice (some ⟨g, 0, none⟩) n cap) l) (hm : m < l.length) (x : UInt8) (hc : m + 1 ≤ c2) (hc2 : c2 ≤ maxLen) : BRow (w.setCell ⟨g, m, none⟩ (.int .u8 (x.toNat : Int))) (.slice (some ⟨g, 0, none⟩) (m + 1) c2) (l.take m ++ [x]) := by
  obtain ⟨a', cap', e, h1, h2, h3, h4⟩ := h
  simp only [Value.slice.injEq] at e
  obtain ⟨rfl, rfl, rfl⟩ := e
  have hlen : (l.take m ++ [x]).length = m + 1 := by rw [List.length_append, List.length_take]; simp; omega
  refine ⟨_, c2, by rw [hlen], by rw [hlen]; exact hc, hc2, (fun e => by cases e), fun i hi => ?_⟩
  rw [hlen] at hi
  obtain ⟨b, off, e, hlt, hc⟩ := h4 i (by omega)
  simp only [Option.some.injEq, Addr.mk.injEq, and_true] at e
  obtain ⟨rfl, rfl⟩ := e
  refine ⟨g, 0, rfl, by simpa [World.setCell] using hlt, ?_⟩
  rw [Nat.zero_add] at hc ⊢
  by_cases hi2 : i = m
  · subst hi2
    rw [World.cell?_setCell_same (h := hc)]
    simp [List.length_take, Nat.min_eq_left (Nat.le_of_lt hm)]
  · rw [World.cell?_setCell_other (h := fun e => hi2 (congrArg Addr.off e).symm), hc, List.getElem_append_left (by rw [List.length_take]; omega), List.getElem_take]
set_option maxRecDepth 100000 in
set_option maxHeartbeats 8000000 in
theorem after_any (l : List UInt8) (w : World) (hl : l.length ≤ 140737488355328) :
    Calls Try.prog 12 #[.string (txB l)] w fun e w' => e = .returned (.string (txB (aft l))) ∧ Below w.heap.size w w' := by
  obtain ⟨cap, W1, hconv, hrow, hb, hfz, hcap⟩ := conv_str w l hl
  have hcm : cap ≤ maxLen := by
    obtain ⟨a', c', e, _, h, _⟩ := hrow
    simp only [Value.slice.injEq] at e
    omega
  have hcm2 : cap ≤ 9223372036854775807 := by simpa [maxLen] using hcm
  have HR := Lib.hid hrow
  have HB := Lib.hid hb
  have HF := Lib.hid hfz
  clear hrow hb hfz hcm
  go_enter Try.func12, Try.ntmps12
  go_wp2_with fail
  go_loopw [3] (fun v wr => ∃ n : Nat, v = .slice (some ⟨w.heap.size, 0, none⟩) n cap ∧ n ≤ l.length ∧ (∀ x ∈ l.drop n, x = 255) ∧ wr = W1) (fun v _ => match v with | .slice _ n _ => n | _ => 0)
  case atStart => exact ⟨l.length, rfl, Nat.le_refl _, by simp, rfl⟩
  case round =>
    obtain ⟨n, rfl, hk, hall, rfl⟩ := hrel
    cases n with
    | zero =>
      have hR := Lib.hid (show aft l = [] from (aft_nil_iff l).2 (by simpa using hall))
      clear hall
      go_wp2_with fail
      go_ret
      exact ⟨by rw [hR.out]; rfl, HB.out⟩
    | succ m =>
      have hm : m < l.length := by omega
      obtain ⟨_, _, e, _, _, _, h5⟩ := HR.out
      obtain ⟨b, off, e1, hlt, hc⟩ := h5 m hm
      simp only [Value.slice.injEq] at e
      obtain ⟨rfl, _, rfl⟩ := e
      simp only [Option.some.injEq, Addr.mk.injEq, and_true] at e1
      obtain ⟨rfl, rfl⟩ := e1
      rw [Nat.zero_add] at hc
      have hfz := HF.out m hm
      have hmi : ((m + 1 : Nat) : Int) - 1 = (m : Int) := by omega
      have hbyte := u8_lt l[m]
      by_cases h : l[m] = 255
      · have hst := Lib.hid (show ∀ x ∈ l.drop m, x = 255 from fun x hx => by
          rw [List.drop_eq_getElem_cons hm] at hx
          rcases List.mem_cons.1 hx with rfl | hx
          · exact h
          · exact hall x hx)
        have t1 : (((l[m].toNat : Nat) : Int) == 255) = true := by rw [h]; rfl
        clear hall h h5
        generalize l[m] = x at *
        go_wp2_with fail
        exact ⟨⟨m, rfl, by omega, hst.out, trivial⟩, Nat.lt_succ_self _⟩
      · have hR := Lib.hid (aft_at hm hall h)
        have hne : l[m].toNat ≠ 255 := fun e => h (UInt8.toNat_inj.1 e)
        have t1 : (((l[m].toNat : Nat) : Int) == 255) = false := by rw [beq_eq_false_iff_ne]; omega
        have ho := Lib.hid (add_one h)
        have HS := Lib.hid (fun x => brow_set HR.out hm x (c2 := cap) (by omega) (by simpa [maxLen] using hcm2))
        clear hall h h5
        generalize l[m] = x at *
        have hw : ((x + 1).toNat : Int) = (x.toNat : Int) + 1 := by rw [ho.out]; simp
        have h1 := conv_row (HS.out (x + 1))
        rw [hw] at h1
        have HB1 := Lib.hid (HB.out.setCell (p := ⟨w.heap.size, m, none⟩) (Nat.le_refl _) (.int .u8 ((x.toNat : Int) + 1)))
        clear hw
        have e0 : (((m + 1 : Nat) : Int) == 0) = false := by rw [beq_eq_false_iff_ne]; omega
        go_wp2_with fail
        go_ret
        exact ⟨by rw [hR.out]; rfl, HB1.out⟩
end Go.Proofs.Ytpinmkoaihjhfaa
