/- runes.offset: how many bytes the first runes of a text have; runes.counts, Cut, Place: at every text (and where there is none: the error). -/
import Derived.Test.YtpjblmhhcadcbaaDoorCount
namespace Go.Proofs.YtpjblmhhcadcbaaDoor
open Go.RowKit Rn

theorem T_dec (cs : List Nat) (h : allOk cs) (k : Nat) (hk : k < cs.length) : dec ((T cs).data.toList.drop (txt (cs.take k)).length) = (cs.getD k 0, (enc (cs.getD k 0)).length) := by
  have e : txt cs = txt (cs.take k) ++ txt (cs.drop k) := by rw [← txt_append, List.take_append_drop]
  rw [T_data, e, List.drop_left, List.drop_eq_getElem_cons hk, txt_cons, List.getD_eq_getElem?_getD, List.getElem?_eq_getElem hk]
  exact dec_enc _ (h _ (List.getElem_mem hk)) _
theorem len_succ (cs : List Nat) (k : Nat) (hk : k < cs.length) : (txt (cs.take (k + 1))).length = (txt (cs.take k)).length + (enc (cs.getD k 0)).length := by
  rw [List.take_succ_eq_append_getElem hk, txt_append, List.length_append, List.getD_eq_getElem?_getD, List.getElem?_eq_getElem hk]
  simp [txt]

set_option maxHeartbeats 400000 in
theorem offset_any (cs : List Nat) (m : Nat) (w : World) (hok : allOk cs) (hm : m ≤ cs.length) (hs : (T cs).size ≤ 9223372036854775807) :
    Calls Tryd.prog 25 #[.string (T cs), .int .i64 (m : Int)] w fun e w' => e = .returned (.int .i64 ((txt (cs.take m)).length : Int)) ∧ Below w.heap.size w w' := by
  have hlen := (txt_len cs).1
  have hsz := T_size cs
  have Hz : Hid ((T cs).size = (txt cs).length) := hsz
  rw [hsz] at hs
  clear hsz
  go_enter Tryd.func25, Tryd.ntmps25
  go_wp2
  go_loopw [1] (fun n wr => ∃ (k : Nat), n = .int .i64 ((m : Int) - k) ∧ k ≤ m ∧ wr.heap[w.heap.size]? = some (.stringIter (T cs) (txt (cs.take k)).length) ∧ Below w.heap.size w wr) (fun _ wr => (T cs).size - wr.iterPos w.heap.size)
  case atStart =>
    refine ⟨0, by simp, by omega, World.iter_heap w _ 0, (Below.refl _ w).alloc (Nat.le_refl _) _⟩
  case round =>
    obtain ⟨k, rfl, hk, hit, hbw⟩ := hrel
    have hle := len_take_le cs k
    by_cases hlt : k < cs.length
    · have hd := T_dec cs hok k hlt
      rw [← decode_eq] at hd
      have hls := len_succ cs k hlt
      have hle2 := len_take_le cs (k + 1)
      have hp1 := enc_pos (cs.getD k 0)
      have hpl : (txt (cs.take k)).length < (T cs).size := by rw [Hz.out]; omega
      have hnx : ∀ ty, (Instr.next (.pointer (some ⟨w.heap.size, 0, none⟩)) true ty).run Tryd.prog wr = _ := fun ty => Lib.run_next_any_at wr w.heap.size (T cs) (txt (cs.take k)).length ty hit hpl
      have hit2 := Lib.iterAt_heap wr w.heap.size (T cs) (txt (cs.take k)).length (txt (cs.take (k + 1))).length hit
      have hbw2 := Lib.below_iterAt hbw (Nat.le_refl _) (T cs) (txt (cs.take (k + 1))).length
      rw [hd] at hnx
      simp only at hnx
      rw [← hls] at hnx
      have Hls : Hid ((txt (cs.take (k + 1))).length = (txt (cs.take k)).length + (enc (cs.getD k 0)).length) := hls
      have Hhit : Hid _ := Lib.hid hit
      clear hls hd hit
      by_cases hmk : m = k
      · subst hmk
        go_wp2_with fail
        go_ret
        exact ⟨rfl, hbw2⟩
      · have b : (((m : Int) - k) == 0) = false := by simp; omega
        go_wp2_with fail
        go_roundw
        case rel => exact ⟨k + 1, by go_num, by omega, hit2, hbw2⟩
        case measure =>
          simp only [World.iterPos, hit2, Hhit.out]
          have := Hls.out
          omega
    · have hmk : m = cs.length := by omega
      have hkk : k = cs.length := by omega
      subst hkk
      have hnx : ∀ ty, (Instr.next (.pointer (some ⟨w.heap.size, 0, none⟩)) true ty).run Tryd.prog wr = _ := fun ty => Lib.run_next_end_at wr w.heap.size (T cs) (txt (cs.take cs.length)).length ty hit (by rw [Hz.out, List.take_length]; omega)
      go_wp2_with fail
      go_ret
      exact ⟨by rw [hmk, List.take_length, Hz.out]; rfl, hbw⟩

set_option maxHeartbeats 400000 in
theorem counts_ok (a b : ByteArray) (cs ds : List Nat) (w : World) (h1 : rd a.data.toList = some cs) (h2 : rd b.data.toList = some ds) (ha : a.size ≤ maxLen) (hb : b.size ≤ maxLen) :
    Calls Tryd.prog 29 #[.string a, .string b] w fun e w' => e = .returned (.tuple #[.int .i64 (cs.length : Int), .int .i64 (ds.length : Int), .int .i64 0]) ∧ Below w.heap.size w w' := by
  have H1 := Lib.hid h1; have H2 := Lib.hid h2; clear h1 h2
  go_enter Tryd.func29, Tryd.ntmps29
  go_wp2_with fail
  refine (count_any a _ ha).mono ?_
  rintro e w1 ⟨rfl, hb1⟩
  have hs1 := hb1.size
  rw [cnt_some H1.out, er_some H1.out]
  go_wp2_with fail
  refine (count_any b _ hb).mono ?_
  rintro e w2 ⟨rfl, hb2⟩
  rw [cnt_some H2.out, er_some H2.out]
  go_wp2_with fail
  go_ret3
  exact ⟨rfl, hb1.trans (hb2.mono hs1)⟩
set_option maxHeartbeats 400000 in
theorem counts_no (a b : ByteArray) (w : World) (h : rd a.data.toList = none ∨ rd b.data.toList = none) (ha : a.size ≤ maxLen) (hb : b.size ≤ maxLen) :
    Calls Tryd.prog 29 #[.string a, .string b] w fun e w' => e = .returned (.tuple #[.int .i64 0, .int .i64 0, .int .i64 10]) ∧ Below w.heap.size w w' := by
  have H := Lib.hid h; clear h
  cases h1 : rd a.data.toList with
  | none =>
    have H1 := Lib.hid h1; clear h1
    go_enter Tryd.func29, Tryd.ntmps29
    go_wp2_with fail
    refine (count_any a _ ha).mono ?_
    rintro e w1 ⟨rfl, hb1⟩
    rw [cnt_none H1.out, er_none H1.out]
    go_wp2_with fail
    go_ret3
    exact ⟨rfl, hb1⟩
  | some cs =>
    have H1 := Lib.hid h1
    have H2 := Lib.hid (H.out.resolve_left (by rw [h1]; exact fun e => by cases e))
    clear h1 H
    go_enter Tryd.func29, Tryd.ntmps29
    go_wp2_with fail
    refine (count_any a _ ha).mono ?_
    rintro e w1 ⟨rfl, hb1⟩
    have hs1 := hb1.size
    rw [cnt_some H1.out, er_some H1.out]
    go_wp2_with fail
    refine (count_any b _ hb).mono ?_
    rintro e w2 ⟨rfl, hb2⟩
    rw [cnt_none H2.out, er_none H2.out]
    go_wp2_with fail
    go_ret3
    exact ⟨rfl, hb1.trans (hb2.mono hs1)⟩
end Go.Proofs.YtpjblmhhcadcbaaDoor
