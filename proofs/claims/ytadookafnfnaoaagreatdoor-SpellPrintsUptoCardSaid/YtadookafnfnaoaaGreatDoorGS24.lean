import Derived.Test.YtadookafnfnaoaaGreatDoorGS23
import Derived.Test.YtadookafnfnaoaaGreatDoorGS15
import Derived.Lib.ValidLaws
/- The document's Utf8, number, Quote. -/
namespace Go.Proofs.YtadookafnfnaoaaGreatDoor
open Go.RowKit Ch Rn

theorem decodeL_dec (l : List UInt8) : Lib.decodeL l = dec l := by
  unfold Lib.decodeL
  rw [decode_eq]
  simp
theorem valid_runes (n : Nat) : ∀ l : List UInt8, l.length = n → Lib.validD l = (runes l).isSome := by
  induction n using Nat.strongRecOn with
  | ind n ih =>
    intro l hl
    by_cases hne : l = []
    · subst hne; rfl
    · rw [Lib.validD_step l hne, decodeL_dec]
      rcases dec_cases l hne with h | ⟨h1, h2, h3⟩
      · rw [h, if_pos ⟨rfl, rfl⟩, runes_bad l hne h]; rfl
      · have hn : ¬ ((dec l).1 = 65533 ∧ (dec l).2 = 1) := by
          rintro ⟨a, b⟩
          rw [a] at h2
          rw [h2] at b
          exact absurd b (by decide)
        rw [if_neg hn]
        have hp := enc_pos (dec l).1
        have hlen : (l.drop (dec l).2).length < n := by
          rw [List.length_drop, ← hl]
          have : 1 ≤ l.length := by cases l with
            | nil => exact absurd rfl hne
            | cons _ _ => simp
          omega
        rw [ih _ hlen _ rfl]
        have e : l = txt [(dec l).1] ++ l.drop (dec l).2 := by
          rw [txt_cons, txt_nil, List.append_nil]; exact h3
        have e2 := runes_append [(dec l).1] (fun c hc => by rw [List.mem_singleton.1 hc]; exact h1) (l.drop (dec l).2)
        rw [← e] at e2
        rw [e2]
        cases runes (l.drop (dec l).2) <;> rfl

set_option maxRecDepth 100000 in
set_option maxHeartbeats 2000000 in
theorem refUtf8_any (s : ByteArray) (w : World) (hs : s.size ≤ 1048576) :
    Calls Tryz.prog 41 #[.string s] w fun e w' => e = .returned (.bool (Lib.validD s.data.toList)) ∧ Below w.heap.size w w' := by
  have HR := Lib.hid (read_any s w hs)
  rw [valid_runes _ _ rfl]
  go_enter Tryz.func41, Tryz.ntmps41
  go_wp2_with fail
  refine HR.out.mono ?_
  unfold ReadPost
  rintro e w1 ⟨b, ⟨h1, rfl⟩ | ⟨cs, v, h1, rfl, ho⟩⟩
  · have H1 := Lib.hid h1
    clear h1
    go_wp2_with fail
    go_ret
    exact ⟨by rw [H1.out]; rfl, b⟩
  · have H1 := Lib.hid h1
    clear h1
    obtain ⟨a, cap, rfl⟩ := owns_shape ho
    have B1 := Lib.hid b
    by_cases hl : (cs.length : Int) ≤ 20000
    · have hd : decide ((cs.length : Int) ≤ 20000) = true := decide_eq_true hl
      have hl2 : cs.length ≤ 20000 := by omega
      rw [hd]
      clear ho b
      go_wp2_with fail
      go_ret
      exact ⟨by rw [H1.out]; rfl, B1.out⟩
    · have hd : decide ((cs.length : Int) ≤ 20000) = false := decide_eq_false hl
      have hl2 : (20000 : Int) < (cs.length : Int) := by omega
      have hl3 : 20000 < cs.length := by omega
      rw [hd]
      clear ho b
      go_wp2_with fail
      go_ret
      exact ⟨by rw [H1.out]; rfl, B1.out⟩

set_option maxRecDepth 100000 in
set_option maxHeartbeats 2000000 in
theorem refQuoteT_any (s : ByteArray) (w : World) (hs : s.size ≤ 1048576) :
    Calls Tryz.prog 16 #[.string s] w fun e w' => e = .returned (.tuple #[.string (Sp.ba (quoteF s).1), .int .i64 (quoteF s).2]) ∧ Below w.heap.size w w' := by
  have HU := Lib.hid (refUtf8_any s w hs)
  cases hv : Lib.validD s.data.toList with
  | false =>
    have HE := Lib.hid (show quoteF s = ([], 10) by unfold quoteF; rw [if_neg (by rw [hv]; decide)])
    rw [hv] at HU
    go_enter Tryz.func16, Tryz.ntmps16
    go_wp2_with fail
    refine HU.out.mono ?_
    rintro e w1 ⟨rfl, b1⟩
    go_wp2_with fail
    refine bodyPost_ret (v := .tuple #[.string ⟨#[]⟩, .int .i64 10]) (by simp [results, Tryz.results16, go_sem]) rfl ?_
    rw [HE.out]
    exact ⟨rfl, b1⟩
  | true =>
    have HE := Lib.hid (show quoteF s = (Sp.qt s.data.toList, 0) by unfold quoteF; rw [if_pos hv])
    rw [hv] at HU
    go_enter Tryz.func16, Tryz.ntmps16
    go_wp2_with fail
    refine HU.out.mono ?_
    rintro e w1 ⟨rfl, b1⟩
    have B1 := Lib.hid b1
    have HQ := Lib.hid (refQuote_any s w1 hs)
    clear b1
    go_wp2_with fail
    refine HQ.out.mono ?_
    rintro e w2 ⟨rfl, b2⟩
    have B2 := Lib.hid (B1.out.trans (b2.mono B1.out.size))
    clear b2
    go_wp2_with fail
    refine bodyPost_ret (v := .tuple #[.string (Sp.ba (Sp.qt s.data.toList)), .int .i64 0]) (by simp [results, Tryz.results16, go_sem]) rfl ?_
    rw [HE.out]
    exact ⟨rfl, B2.out⟩

theorem conv1 (w : World) (b : UInt8) (x : Int) (hx : (b.toNat : Int) = x) : (convert 57 9 (.slice (some ⟨w.heap.size, 0, none⟩) 1 1)).run Tryz.prog (w.alloc (.cells #[.int .u8 x] 5)) = .ok (.string (Sp.ba [b])) (w.alloc (.cells #[.int .u8 x] 5)) := by
  subst hx
  have := run_convert_bytes_back (P := Tryz.prog) (w.alloc (.cells #[.int .u8 (b.toNat : Int)] 5)) 57 9 5 ⟨w.heap.size, 0, none⟩ 1 [b] Tryz.underlying57 Tryz.underlying5 Tryz.underlying9
  exact this (fun j hj => by
    obtain rfl : j = 0 := by simpa using hj
    exact newU8 w [.int .u8 (b.toNat : Int)] 5 0 _ rfl)
theorem conv2 (W : World) (g : Nat) (b : UInt8) (x : Int) (hx : (b.toNat : Int) = x) (hc : W.cell? ⟨g, 0, none⟩ = some (.int .u8 x)) : (convert 57 9 (.slice (some ⟨g, 0, none⟩) 1 1)).run Tryz.prog W = .ok (.string (Sp.ba [b])) W := by
  subst hx
  have := run_convert_bytes_back (P := Tryz.prog) W 57 9 5 ⟨g, 0, none⟩ 1 [b] Tryz.underlying57 Tryz.underlying5 Tryz.underlying9
  exact this (fun j hj => by
    obtain rfl : j = 0 := by simpa using hj
    exact hc)
theorem wrap_i {x : Int} (h0 : 0 ≤ x) (h1 : x < 65536) : IntKind.i64.wrap x = x := by
  simp [IntKind.wrap, IntKind.bits, IntKind.signed]; omega
set_option maxRecDepth 100000 in
set_option maxHeartbeats 2000000 in
theorem refNumber_any (n : Nat) : ∀ (w : World), (n : Int) ≤ 20000 →
    Calls Tryz.prog 39 #[.int .i64 (n : Int)] w fun e w' => e = .returned (.string (Sp.ba (Lib.decDigits n))) ∧ Below w.heap.size w w' := by
  induction n using Nat.strongRecOn with
  | ind n ih =>
    intro w hn
    by_cases h10 : (n : Int) < 10
    · have Hd := Lib.hid (show Lib.decDigits n = [UInt8.ofNat (48 + n)] by rw [Lib.decDigits, dif_pos (by omega)])
      have wr1 := wrap_u8 (x := 48 + (n : Int)) (by omega) (by omega)
      have hc := conv1 w (UInt8.ofNat (48 + n)) (48 + (n : Int)) (by rw [Sp.of_nat (by omega)]; omega)
      clear ih hn
      go_enter Tryz.func39, Tryz.ntmps39
      go_wp2_with fail
      go_ret
      exact ⟨by rw [Hd.out]; simp, below_box _ _⟩
    · have Hd := Lib.hid (show Lib.decDigits n = Lib.decDigits (n / 10) ++ [UInt8.ofNat (48 + n % 10)] by rw [Lib.decDigits, dif_neg (by omega)])
      have HI := Lib.hid fun w => ih (n / 10) (by omega) w (by omega)
      have HT := Lib.hid (show ∀ w, Calls Tryz.prog 39 #[.int .i64 ((n : Int).tdiv 10)] w fun e w' => e = .returned (.string (Sp.ba (Lib.decDigits (n / 10)))) ∧ Below w.heap.size w w' from HI.out)
      have hc := fun w => conv1 w (UInt8.ofNat (48 + n % 10)) (48 + (n : Int) % 10) (by rw [Sp.of_nat (by omega)]; omega)
      have wr1 := wrap_u8 (x := 48 + (n : Int) % 10) (by omega) (by omega)
      have wr2 := wrap_i (x := 48 + (n : Int) % 10) (by omega) (by omega)
      have wr3 := wrap_i (x := (n : Int) % 10) (by omega) (by omega)
      have wr4 := wrap_i (x := (n : Int) / 10) (by omega) (by omega)
      have hlen : (Lib.decDigits (n / 10)).length ≤ 5 := Sp.dec_len 4 (n / 10) (by omega)
      have hs1 : (9223372036854775807 < (Sp.ba (Lib.decDigits (n / 10))).size + (Sp.ba [UInt8.ofNat (48 + n % 10)]).size) = False := by rw [size_data, size_data, Sp.data_ba, Sp.data_ba]; simp; omega
      have hx2 : ((UInt8.ofNat (48 + n % 10)).toNat : Int) = IntKind.u8.wrap (IntKind.i64.wrap (48 + (n : Int).tmod 10)) := by rw [Int.tmod_eq_emod_of_nonneg (by omega), wr2, wr1, Sp.of_nat (by omega)]; omega
      have hc2 := fun w => conv1 w (UInt8.ofNat (48 + n % 10)) (IntKind.u8.wrap (IntKind.i64.wrap (48 + (n : Int).tmod 10))) hx2
      have hc4 := fun (w : World) => conv2 (w.alloc (.cells #[.int .u8 (IntKind.u8.wrap (IntKind.i64.wrap (48 + (n : Int).tmod 10)))] 5)).drew w.heap.size (UInt8.ofNat (48 + n % 10)) _ hx2 (newU8 w [.int .u8 (IntKind.u8.wrap (IntKind.i64.wrap (48 + (n : Int).tmod 10)))] 5 0 _ rfl)
      generalize UInt8.ofNat (48 + n % 10) = bb at *
      have Hx := Lib.hid hx2
      clear hx2
      generalize Lib.decDigits (n / 10) = D at *
      clear ih hn
      go_enter Tryz.func39, Tryz.ntmps39
      go_wp2_with fail
      go_region_with
        (first
          | (go_at_call 39; refine (HT.out _).mono ?_; rintro e w1 ⟨rfl, b1⟩; (try have hc3 := conv2 w1 w.heap.size bb _ Hx.out ((b1.cell (p := ⟨w.heap.size, 0, none⟩) (by simp)).trans (newU8 w.drew [.int .u8 (IntKind.u8.wrap (IntKind.i64.wrap (48 + (n : Int).tmod 10)))] 5 0 _ rfl)))))
      all_goals
        go_wp2_with fail
        go_ret
        refine ⟨congrArg (fun t => Ending.returned (Value.string t)) ?_, ?_⟩
        · rw [Hd.out]; exact ba_eq (by rw [cat_eq, cat_data]; rfl)
        · first
            | exact below_alloc (B := w.heap.size) (w := w) (of_drew b1) (Nat.le_refl _) _
            | exact Below.trans (Below.drew (below_box w _)) (b1.mono (by simp))
            | exact Below.trans (below_box w _) (b1.mono (by simp))
            | exact Below.trans (Below.alloc (Below.drew (Below.refl w.heap.size w)) (Nat.le_refl _) _) (b1.mono (by simp))
end Go.Proofs.YtadookafnfnaoaaGreatDoor
