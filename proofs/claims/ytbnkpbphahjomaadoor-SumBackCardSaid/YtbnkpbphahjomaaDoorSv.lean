/- Numbers read: where none can be, and the document's own. -/
import Derived.Test.YtbnkpbphahjomaaDoorSt
namespace Go.Proofs.YtbnkpbphahjomaaDoor
open Go.RowKit Su

/-- Has a row so many bytes from there on? -/
def roomOk (l : List UInt8) (a s : Int) : Prop := 1 ≤ s ∧ s ≤ 8 ∧ 0 ≤ a ∧ a + s ≤ l.length
set_option maxRecDepth 100000 in
set_option maxHeartbeats 2000000 in
theorem read_out (v : Value) (l : List UInt8) (a s : Int) (w : World) (h : BRow w v l) (ha : -9223372036854775808 ≤ a) (ha' : a ≤ 9223372036854775807) (hs : -9223372036854775808 ≤ s) (hs' : s ≤ 9223372036854775807) (hf : ¬ roomOk l a s) :
    Calls Tryd.prog 10 #[v, .int .i64 a, .int .i64 s] w fun e w' => e = .returned (.tuple #[.int .i64 0, .int .i64 1]) ∧ w = w' := by
  have hlen := h.len
  obtain ⟨ad, cap, rfl, h2, h3, _⟩ := id h
  unfold maxLen at hlen h3
  unfold roomOk at hf
  clear h
  by_cases h1 : s < 1
  · have d1 : decide (s < 1) = true := decide_eq_true h1
    clear hf
    go_enter Tryd.func10, Tryd.ntmps10
    go_wp2_with fail
    go_ret2
    exact ⟨rfl, by trivial⟩
  · have d1 : decide (s < 1) = false := decide_eq_false h1
    by_cases h2 : 8 < s
    · have d2 : decide (8 < s) = true := decide_eq_true h2
      clear hf
      go_enter Tryd.func10, Tryd.ntmps10
      go_wp2_with fail
      go_ret2
      exact ⟨rfl, by trivial⟩
    · have d2 : decide (8 < s) = false := decide_eq_false h2
      by_cases h3 : a < 0
      · have d3 : decide (a < 0) = true := decide_eq_true h3
        clear hf
        go_enter Tryd.func10, Tryd.ntmps10
        go_wp2_with fail
        go_ret2
        exact ⟨rfl, by trivial⟩
      · have d3 : decide (a < 0) = false := decide_eq_false h3
        have d4 : decide ((l.length : Int) - s < a) = true := decide_eq_true (by omega)
        clear hf
        go_enter Tryd.func10, Tryd.ntmps10
        go_wp2_with fail
        go_ret2
        exact ⟨rfl, by trivial⟩
set_option maxRecDepth 100000 in
set_option maxHeartbeats 2000000 in
theorem refRead_out (v : Value) (l : List UInt8) (a s : Int) (w : World) (h : BRow w v l) (ha : -9223372036854775808 ≤ a) (ha' : a ≤ 9223372036854775807) (hs : -9223372036854775808 ≤ s) (hs' : s ≤ 9223372036854775807) (hf : ¬ roomOk l a s) :
    Calls Tryd.prog 15 #[v, .int .i64 a, .int .i64 s] w fun e w' => e = .returned (.tuple #[.int .i64 0, .int .i64 1]) ∧ w = w' := by
  have hlen := h.len
  obtain ⟨ad, cap, rfl, h2, h3, _⟩ := id h
  unfold maxLen at hlen h3
  unfold roomOk at hf
  clear h
  by_cases h1 : s < 1
  · have d1 : decide (s < 1) = true := decide_eq_true h1
    clear hf
    go_enter Tryd.func15, Tryd.ntmps15
    go_wp2_with fail
    go_ret2
    exact ⟨rfl, by trivial⟩
  · have d1 : decide (s < 1) = false := decide_eq_false h1
    by_cases h2 : 8 < s
    · have d2 : decide (8 < s) = true := decide_eq_true h2
      clear hf
      go_enter Tryd.func15, Tryd.ntmps15
      go_wp2_with fail
      go_ret2
      exact ⟨rfl, by trivial⟩
    · have d2 : decide (8 < s) = false := decide_eq_false h2
      by_cases h3 : a < 0
      · have d3 : decide (a < 0) = true := decide_eq_true h3
        clear hf
        go_enter Tryd.func15, Tryd.ntmps15
        go_wp2_with fail
        go_ret2
        exact ⟨rfl, by trivial⟩
      · have d3 : decide (a < 0) = false := decide_eq_false h3
        by_cases h4 : (l.length : Int) < a
        · have d4 : decide ((l.length : Int) < a) = true := decide_eq_true h4
          clear hf
          go_enter Tryd.func15, Tryd.ntmps15
          go_wp2_with fail
          go_ret2
          exact ⟨rfl, by trivial⟩
        · have d4 : decide ((l.length : Int) < a) = false := decide_eq_false h4
          have d5 : decide ((l.length : Int) - a < s) = true := decide_eq_true (by omega)
          clear hf
          go_enter Tryd.func15, Tryd.ntmps15
          go_wp2_with fail
          go_ret2
          exact ⟨rfl, by trivial⟩
theorem part_at (l : List UInt8) (a s i : Nat) (h1 : i < (part l a s).length) (h2 : a + i < l.length) : (part l a s)[i] = l[a + i] := by
  simp only [part, List.getElem_take, List.getElem_drop]
/-- The highest of eight bytes says whether the number is too great. -/
theorem val_head (x : UInt8) (l : List UInt8) : val (x :: l) = x.toNat * 256 ^ l.length + val l := by
  have H : ∀ n (l : List UInt8), l.length = n → ∀ v, l.foldl (fun v x => v * 256 + x.toNat) v = v * 256 ^ n + val l := by
    intro n
    induction n with
    | zero => intro l hl v; rw [List.length_eq_zero_iff.1 hl]; simp [val]
    | succ n ih =>
      intro l hl v
      cases l with
      | nil => simp at hl
      | cons y r =>
        have hr : r.length = n := by simpa using hl
        have e1 := ih r hr (v * 256 + y.toNat)
        have e2 := ih r hr (0 * 256 + y.toNat)
        simp only [val, List.foldl_cons] at e1 e2 ⊢
        rw [e1, e2, Nat.pow_succ]
        have e3 : (v * 256 + y.toNat) * 256 ^ n = v * (256 ^ n * 256) + y.toNat * 256 ^ n := by
          rw [Nat.add_mul, Nat.mul_assoc, Nat.mul_comm 256]
        have e4 : (0 * 256 + y.toNat) * 256 ^ n = y.toNat * 256 ^ n := by rw [Nat.zero_mul, Nat.zero_add]
        omega
  have h := H l.length l rfl (0 * 256 + x.toNat)
  rw [Nat.zero_mul, Nat.zero_add] at h
  rw [← h]
  simp [val]
theorem val_small {p : List UInt8} {s : Nat} (hp : p.length = s) (h8 : s ≤ 8) (h1 : 1 ≤ s) : val p ≤ 9223372036854775807 ↔ ¬ (s = 8 ∧ 127 < (p[0]'(by omega)).toNat) := by
  cases p with
  | nil => simp at hp; omega
  | cons x r =>
    have hv := val_head x r
    have hr := val_lt r
    have hx := u8_lt x
    simp only [List.length_cons] at hp
    rw [hv, List.getElem_cons_zero]
    by_cases h : s = 8
    · have e : r.length = 7 := by omega
      rw [e] at hr ⊢
      have e2 : (256 : Nat) ^ 7 = 72057594037927936 := by decide
      rw [e2] at hr ⊢
      omega
    · have hle : 256 ^ r.length ≤ 256 ^ 6 := Nat.pow_le_pow_right (by decide) (by omega)
      have e2 : (256 : Nat) ^ 6 = 281474976710656 := by decide
      rw [e2] at hle
      have h2 : x.toNat * 256 ^ r.length ≤ 255 * 281474976710656 := Nat.mul_le_mul (by omega) hle
      omega
theorem val_take_le (l : List UInt8) (k : Nat) : val (l.take k) ≤ val l := by
  have H : ∀ (l : List UInt8) (v : Nat), v ≤ l.foldl (fun v x => v * 256 + x.toNat) v := by
    intro l
    induction l with
    | nil => intro v; exact Nat.le_refl _
    | cons x r ih => intro v; exact Nat.le_trans (show v ≤ v * 256 + x.toNat by omega) (ih _)
  have h := H (l.drop k) (val (l.take k))
  have e : val l = (l.drop k).foldl (fun v x => v * 256 + x.toNat) (val (l.take k)) := by
    unfold val
    rw [← List.foldl_append, List.take_append_drop]
  rw [e]
  exact h
set_option maxRecDepth 100000 in
set_option maxHeartbeats 2000000 in
theorem refRead_in (v : Value) (l : List UInt8) (a s : Nat) (w : World) (h : BRow w v l) (h1 : 1 ≤ s) (h8 : s ≤ 8) (hl : a + s ≤ l.length) :
    Calls Tryd.prog 15 #[v, .int .i64 (a : Int), .int .i64 (s : Int)] w fun e w' => (val (part l a s) ≤ 9223372036854775807 → e = .returned (.tuple #[.int .i64 (val (part l a s) : Int), .int .i64 0])) ∧ (¬ val (part l a s) ≤ 9223372036854775807 → e = .returned (.tuple #[.int .i64 0, .int .i64 1])) ∧ w = w' := by
  have hlen := h.len
  obtain ⟨ad, cap, rfl, h2, h3, _, h5⟩ := id h
  have H5 := Lib.hid h5
  unfold maxLen at hlen h3
  obtain ⟨p, hpp, hpl, hat⟩ : ∃ p, part l a s = p ∧ p.length = s ∧ ∀ (i : Nat) (h1 : i < p.length) (h2 : a + i < l.length), p[i].toNat = l[a + i].toNat := by
    refine ⟨part l a s, rfl, by simp [part]; omega, fun i h1 h2 => by rw [part_at l a s i h1 h2]⟩
  rw [hpp]
  have HAT := Lib.hid hat
  have HPL := Lib.hid hpl
  have HV := Lib.hid (val_small hpl h8 h1)
  have HLT := Lib.hid (val_lt p)
  have d1 : decide ((s : Int) < 1) = false := decide_eq_false (by omega)
  have d2 : decide (8 < (s : Int)) = false := decide_eq_false (by omega)
  have d3 : decide ((a : Int) < 0) = false := decide_eq_false (by omega)
  have d4 : decide (l.length < a) = false := decide_eq_false (by omega)
  have d5 : decide ((l.length : Int) - (a : Int) < (s : Int)) = false := decide_eq_false (by omega)
  obtain ⟨b, off, e, hbl, hc⟩ := h5 a (by omega)
  subst e
  have hal : a < l.length := by omega
  have hal' : (a : Int) < (l.length : Int) := by omega
  have hx0 : (p[0]'(by omega)).toNat = (l[a]'hal).toNat := hat 0 (by omega) hal
  obtain ⟨x, hx⟩ : ∃ x, x = (l[a]'hal).toNat := ⟨_, rfl⟩
  rw [← hx] at hc
  rw [hx0, ← hx] at HV
  have hx2 : x < 256 := by rw [hx]; exact u8_lt _
  clear hx hx0 hat hpl hpp h5 h
  by_cases h88 : s = 8 ∧ 127 < x
  · have d6 : ((s : Int) == 8) = true := by simp; omega
    have d7 : decide (127 < (x : Int)) = true := decide_eq_true (by omega)
    have HN := Lib.hid (show ¬ val p ≤ 9223372036854775807 from fun h => (HV.out.1 h) h88)
    clear h88
    go_enter Tryd.func15, Tryd.ntmps15
    go_wp2_with fail
    go_ret2
    exact ⟨fun h => absurd h HN.out, fun _ => rfl, by trivial⟩
  · have HN := Lib.hid (show val p ≤ 9223372036854775807 from HV.out.2 h88)
    have hgo : ((s : Int) == 8) = false ∨ (((s : Int) == 8) = true ∧ decide (127 < (x : Int)) = false) := by
      by_cases e : s = 8
      · right; exact ⟨by simp; omega, decide_eq_false (by omega)⟩
      · left; simp; omega
    have HMON := Lib.hid (fun k => val_take_le p k)
    clear h88
    rcases hgo with d6 | ⟨d6, d7⟩
    all_goals
      go_enter Tryd.func15, Tryd.ntmps15
      go_wp2_with fail
      go_loop [8, 9] (fun n i => ∃ k : Nat, n = .int .i64 ((val (p.take k) : Nat) : Int) ∧ i = .int .i64 (k : Int) ∧ k ≤ s) (fun _ i => s - (intOf i).toNat)
      case atStart => exact ⟨0, rfl, rfl, by omega⟩
      case round =>
        obtain ⟨k, rfl, rfl, hk⟩ := hrel
        by_cases hlt : k < s
        · have hlt' : (k : Int) < (s : Int) := by omega
          obtain ⟨b', off', e, hbl', hc'⟩ := H5.out (a + k) (by omega)
          simp only [Option.some.injEq, Addr.mk.injEq, and_true] at e
          obtain ⟨rfl, rfl⟩ := e
          have hin : (a : Int) + (k : Int) < (l.length : Int) := by omega
          have hin2 : a + k < l.length := by omega
          rw [← HAT.out k (by rw [HPL.out]; exact hlt) hin2] at hc'
          have HT := Lib.hid (val_take p k (by rw [HPL.out]; exact hlt))
          have hmon := HMON.out (k + 1)
          have hsm := HN.out
          obtain ⟨y, hy⟩ : ∃ y, y = (p[k]'(by rw [HPL.out]; exact hlt)).toNat := ⟨_, rfl⟩
          have hy2 : y < 256 := by rw [hy]; exact u8_lt _
          rw [← hy] at HT hc'
          obtain ⟨n, hn⟩ : ∃ n, n = val (p.take k) := ⟨_, rfl⟩
          rw [HT.out] at hmon
          rw [← hn] at HT hmon ⊢
          have hb : n * 256 + y ≤ 9223372036854775807 := by omega
          clear hn hy hmon hsm
          go_wp2_with fail
          refine ⟨⟨k + 1, by rw [HT.out]; rfl, by rw [Int.natCast_add]; rfl, by omega⟩, ?_⟩
          simp only [intOf]
          omega
        · have HK := Lib.hid (show k = s by omega)
          have hge : ¬ (k : Int) < (s : Int) := by omega
          have HE := Lib.hid (show val p = val (p.take k) by rw [HK.out, ← HPL.out, List.take_length])
          have hsm := HN.out
          rw [HE.out] at hsm
          obtain ⟨n, hn⟩ : ∃ n, n = val (p.take k) := ⟨_, rfl⟩
          rw [← hn] at HE hsm ⊢
          clear hn
          go_wp2_with fail
          go_ret2
          rw [HE.out]
          exact ⟨fun _ => rfl, fun h => absurd hsm (by omega), by trivial⟩
/-- What reading a number answers. -/
theorem readOk_room {l : List UInt8} {a s : Int} (h : roomOk l a s) : readOk l a s ↔ val (part l a.toNat s.toNat) ≤ 9223372036854775807 := by
  obtain ⟨h1, h2, h3, h4⟩ := h
  exact ⟨fun h => h.2.2.2.2, fun h => ⟨h1, h2, h3, h4, h⟩⟩
theorem read_answers {l : List UInt8} {a s : Int} (e : Ending) (h : roomOk l a s) (h1 : val (part l a.toNat s.toNat) ≤ 9223372036854775807 → e = .returned (.tuple #[.int .i64 (val (part l a.toNat s.toNat) : Int), .int .i64 0])) (h2 : ¬ val (part l a.toNat s.toNat) ≤ 9223372036854775807 → e = .returned (.tuple #[.int .i64 0, .int .i64 1])) :
    e = .returned (.tuple #[.int .i64 (readV l a s), .int .i64 (readE l a s)]) := by
  unfold readV readE
  by_cases hv : val (part l a.toNat s.toNat) ≤ 9223372036854775807
  · rw [if_pos ((readOk_room h).2 hv), if_pos ((readOk_room h).2 hv)]; exact h1 hv
  · rw [if_neg (fun h' => hv ((readOk_room h).1 h')), if_neg (fun h' => hv ((readOk_room h).1 h'))]; exact h2 hv
theorem read_none {l : List UInt8} {a s : Int} (h : ¬ roomOk l a s) : readV l a s = 0 ∧ readE l a s = 1 := by
  have : ¬ readOk l a s := fun h' => h ⟨h'.1, h'.2.1, h'.2.2.1, h'.2.2.2.1⟩
  exact ⟨if_neg this, if_neg this⟩
theorem read_any (v : Value) (l : List UInt8) (a s : Int) (w : World) (h : BRow w v l) (ha : -9223372036854775808 ≤ a) (ha' : a ≤ 9223372036854775807) (hs : -9223372036854775808 ≤ s) (hs' : s ≤ 9223372036854775807) :
    Calls Tryd.prog 10 #[v, .int .i64 a, .int .i64 s] w fun e w' => e = .returned (.tuple #[.int .i64 (readV l a s), .int .i64 (readE l a s)]) ∧ w = w' := by
  by_cases hr : roomOk l a s
  · obtain ⟨x, rfl⟩ := Int.eq_ofNat_of_zero_le hr.2.2.1
    obtain ⟨y, rfl⟩ := Int.eq_ofNat_of_zero_le (show 0 ≤ s by have := hr.1; omega)
    obtain ⟨h1, h2, h3, h4⟩ := id hr
    refine (read_in v l x y w h (by omega) (by omega) (by omega)).mono ?_
    rintro e w' ⟨r1, r2, r3⟩
    exact ⟨read_answers e hr r1 r2, r3⟩
  · refine (read_out v l a s w h ha ha' hs hs' hr).mono ?_
    rintro e w' ⟨rfl, r3⟩
    rw [(read_none hr).1, (read_none hr).2]
    exact ⟨rfl, r3⟩
theorem refRead_any (v : Value) (l : List UInt8) (a s : Int) (w : World) (h : BRow w v l) (ha : -9223372036854775808 ≤ a) (ha' : a ≤ 9223372036854775807) (hs : -9223372036854775808 ≤ s) (hs' : s ≤ 9223372036854775807) :
    Calls Tryd.prog 15 #[v, .int .i64 a, .int .i64 s] w fun e w' => e = .returned (.tuple #[.int .i64 (readV l a s), .int .i64 (readE l a s)]) ∧ w = w' := by
  by_cases hr : roomOk l a s
  · obtain ⟨x, rfl⟩ := Int.eq_ofNat_of_zero_le hr.2.2.1
    obtain ⟨y, rfl⟩ := Int.eq_ofNat_of_zero_le (show 0 ≤ s by have := hr.1; omega)
    obtain ⟨h1, h2, h3, h4⟩ := id hr
    refine (refRead_in v l x y w h (by omega) (by omega) (by omega)).mono ?_
    rintro e w' ⟨r1, r2, r3⟩
    exact ⟨read_answers e hr r1 r2, r3⟩
  · refine (refRead_out v l a s w h ha ha' hs hs' hr).mono ?_
    rintro e w' ⟨rfl, r3⟩
    rw [(read_none hr).1, (read_none hr).2]
    exact ⟨rfl, r3⟩
end Go.Proofs.YtbnkpbphahjomaaDoor
