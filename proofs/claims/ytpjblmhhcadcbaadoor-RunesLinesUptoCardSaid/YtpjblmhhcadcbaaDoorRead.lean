/- The document's own reading of a text: at every string of at most 2^20 bytes. -/
import Derived.Test.YtpjblmhhcadcbaaDoorShelfW
import Derived.Test.YtpjblmhhcadcbaaDoorRf
import Derived.WalkKit
import Derived.WalkSpells
import Derived.WalkLawsBesides
import Derived.Deep.DeepCutAuto
import Derived.Deep.LoopGhost
import Derived.Deep.CutBlock
namespace Go.Proofs.YtpjblmhhcadcbaaDoor
open Go.RowKit Rn

def intVals (cs : List Nat) : List Value := cs.map fun (c : Nat) => Value.int .i64 (c : Int)
/-- The way out: the runes in a row of the call's own, or none. -/
def ReadPost (w : World) (l : List UInt8) (e : Ending) (w' : World) : Prop := Below w.heap.size w w' ∧
  ((runes l = none ∧ e = .returned (.tuple #[.slice none 0 0, .bool false])) ∨
    ∃ cs v, runes l = some cs ∧ e = .returned (.tuple #[v, .bool (decide ((cs.length : Int) ≤ 20000))]) ∧ w'.ownsRow w.heap.size 3 1 v cs.length (intVals cs))

theorem int_eq {k : IntKind} {a b : Int} (h : a = b) : Value.int k a = Value.int k b := by rw [h]
theorem read_stop {l r : List UInt8} {done : List Nat} (hok : allOk done) (hl : l = txt done ++ r) (hr : r ≠ []) (hb : dec r = (65533, 1)) : runes l = none := by
  rw [hl, runes_append done hok, runes_bad r hr hb]; rfl
theorem good_step {l rest : List UInt8} {done : List Nat} {z n : Nat} (hok : allOk done) (hl : l = txt done ++ rest) (hd : dec rest = (z, n + 1)) (hz : ok z) (hne : rest ≠ []) (hnb : n = 0 → z < 128) :
    (txt (done ++ [z])).length = (txt done).length + n + 1 ∧ l = txt (done ++ [z]) ++ l.drop (txt (done ++ [z])).length ∧ allOk (done ++ [z]) := by
  rcases dec_cases rest hne with hb | ⟨_, h2, h3⟩
  · rw [hd] at hb
    simp only [Prod.mk.injEq] at hb
    have := hnb (by omega)
    omega
  · rw [hd] at h2 h3
    simp only at h2 h3
    have e1 : txt [z] = enc z := by simp [txt]
    have e2 : (txt (done ++ [z])).length = (txt done).length + n + 1 := by rw [txt_append, e1, List.length_append]; omega
    refine ⟨e2, ?_, fun c hc => ?_⟩
    · have e3 : l.drop (txt (done ++ [z])).length = rest.drop (n + 1) := by
        rw [e2, hl, Nat.add_assoc, ← List.drop_drop, List.drop_left]
      rw [e3, txt_append, e1, List.append_assoc, ← h3]
      exact hl
    · rcases List.mem_append.1 hc with hc | hc
      · exact hok c hc
      · rw [List.mem_singleton] at hc; subst hc; exact hz
theorem owns_shape {w : World} {B : Nat} {e : TypeId} {v : Value} {n : Nat} {xs : List Value} (h : w.ownsRow B e 1 v n xs) : ∃ a cap, v = .slice a n cap := by
  obtain ⟨_, h2⟩ := h
  rcases h2 with ⟨hv, h2⟩ | ⟨g, cap, cur, hv, _⟩
  · subst h2; exact ⟨_, _, hv⟩
  · exact ⟨_, _, hv⟩
theorem drop_ne' {s : ByteArray} {pos : Nat} (h : pos < s.size) : s.data.toList.drop pos ≠ [] := by
  intro e
  have := congrArg List.length e
  simp at this
  have h2 : s.data.size = s.size := rfl
  omega
theorem byte_at (s : ByteArray) (pos k : Nat) (h : pos + k < s.size) : (s[pos + k]'h).toNat = ((s.data.toList.drop pos).getD k 0).toNat := by
  rw [List.getD_eq_getElem?_getD, List.getElem?_drop, List.getElem?_eq_getElem (by simpa using h)]
  rfl
theorem byte_zero (s : ByteArray) (pos : Nat) (h : pos < s.size) : (s[pos]'h).toNat = ((s.data.toList.drop pos).getD 0 0).toNat := byte_at s pos 0 h
theorem drop_len (s : ByteArray) (pos : Nat) : (s.data.toList.drop pos).length = s.size - pos := by simp

theorem infoInt : (Tryd.prog.info? 3).map (fun i => (i.zero, i.size, i.bytes)) = some (some (.int .i64 0), 1, 8) := by kernel_rfl

set_option maxRecDepth 100000 in
set_option maxHeartbeats 2000000 in
theorem read_any (s : ByteArray) (w : World) (hs : s.size ≤ 1048576) :
    Calls Tryd.prog 27 #[.string s] w (ReadPost w s.data.toList) := by
  go_enter Tryd.func27, Tryd.ntmps27
  go_wp2_with fail
  go_loopg [4, 5] s.size (fun gk v i wr => ∃ (done : List Nat), s.size ≤ gk + (txt done).length ∧ i = .int .i64 ((txt done).length : Int) ∧ allOk done ∧ s.data.toList = txt done ++ s.data.toList.drop (txt done).length ∧ (txt done).length ≤ s.size ∧ wr.ownsRow w.heap.size 3 1 v done.length (intVals done) ∧ Below w.heap.size w wr)
  case atStart => exact ⟨[], by simp, rfl, fun c h => (by cases h), by simp [txt_nil], by simp [txt_nil], World.ownsRow_nil _ _ _ _, Below.refl _ _⟩
  case round =>
    obtain ⟨done, hgk, rfl, hok, hl, hp, hown, hbw⟩ := hrel
    obtain ⟨pos, hpos⟩ : ∃ pos, pos = (txt done).length := ⟨_, rfl⟩
    rw [← hpos] at hl hp hgk ⊢
    have Hl := Lib.hid hl
    have Hpos := Lib.hid hpos
    clear hl hpos
    have Hown := Lib.hid hown
    clear hown
    by_cases hlt : pos < s.size
    · have hlt' : (pos : Int) < (s.size : Int) := by omega
      have hb : s[pos].toNat < 256 := UInt8.toNat_lt _
      have Hb := Lib.hid (byte_zero s pos hlt)
      have hne := drop_ne' hlt
      have hlen := drop_len s pos
      obtain ⟨rest, hrest⟩ : ∃ rest, rest = s.data.toList.drop pos := ⟨_, rfl⟩
      rw [← hrest] at Hb Hl hne hlen
      have Hrest := Lib.hid hrest
      clear hrest
      have Hlen := Lib.hid hlen
      clear hlen
      go_upto_block 2 with fail
      go_cut [6, 7, 8] (fun s6 s7 s8 wx => ∃ n least c : Nat, cls s[pos].toNat = some (n, least, c) ∧ s6 = .int .i64 (c : Int) ∧ s7 = .int .i64 (n : Int) ∧ s8 = .int .i64 (least : Int) ∧ wx = wr)
      case first =>
        go_wp2_with fail
        · have h1 : (s[pos].toNat : Int) < 128 := by assumption
          go_meet
          exact ⟨0, 0, s[pos].toNat, by unfold cls; rw [if_pos (by omega)], rfl, rfl, rfl, rfl⟩
        · have h1 : (192 : Int) ≤ s[pos].toNat := by assumption
          have h2 : (s[pos].toNat : Int) < 224 := by assumption
          go_meet
          exact ⟨1, 128, s[pos].toNat - 192, by unfold cls; rw [if_neg (by omega), if_neg (by omega), if_pos (by omega)], int_eq (by omega), rfl, rfl, rfl⟩
        · have h1 : (224 : Int) ≤ s[pos].toNat := by assumption
          have h2 : (s[pos].toNat : Int) < 240 := by assumption
          go_meet
          exact ⟨2, 2048, s[pos].toNat - 224, by unfold cls; rw [if_neg (by omega), if_neg (by omega), if_neg (by omega), if_pos (by omega)], int_eq (by omega), rfl, rfl, rfl⟩
        · have h1 : (240 : Int) ≤ s[pos].toNat := by assumption
          have h2 : (s[pos].toNat : Int) < 248 := by assumption
          go_meet
          exact ⟨3, 65536, s[pos].toNat - 240, by unfold cls; rw [if_neg (by omega), if_neg (by omega), if_neg (by omega), if_neg (by omega), if_pos (by omega)], int_eq (by omega), rfl, rfl, rfl⟩
        · have h1 : (248 : Int) ≤ s[pos].toNat := by assumption
          go_ret2
          refine ⟨hbw, Or.inl ⟨read_stop hok Hl.out hne (dec_none rest ?_), rfl⟩⟩
          rw [← Hb.out]; unfold cls; rw [if_neg (by omega), if_neg (by omega), if_neg (by omega), if_neg (by omega), if_neg (by omega)]
        · have h1 : (128 : Int) ≤ s[pos].toNat := by assumption
          have h2 : (s[pos].toNat : Int) < 192 := by assumption
          go_ret2
          refine ⟨hbw, Or.inl ⟨read_stop hok Hl.out hne (dec_none rest ?_), rfl⟩⟩
          rw [← Hb.out]; unfold cls; rw [if_neg (by omega), if_pos (by omega)]
      case rest =>
        obtain ⟨n, least, c, hcls, rfl, rfl, rfl, rfl⟩ := hcut
        have Hcls := Lib.hid hcls
        clear hcls
        have hn3 : n ≤ 3 := by rcases cls_some Hcls.out with h | h | h | h <;> omega
        by_cases hn : pos + n < s.size
        · have hn' : (pos : Int) + n < s.size := by omega
          go_wp2_with fail
          go_loopg [6, 9] n (fun gi v6 v9 wx => ∃ k : Nat, n ≤ gi + k ∧ v9 = .int .i64 ((k : Int) + 1) ∧ k ≤ n ∧ v6 = .int .i64 (acc c rest k : Nat) ∧ Hid (∀ j, 1 ≤ j → j ≤ k → isCont (rest.getD j 0).toNat) ∧ wx = wc)
          case atStart => exact ⟨0, by omega, rfl, Nat.zero_le _, rfl, fun j h1 h2 => by omega, rfl⟩
          case round =>
            obtain ⟨k, hgi, rfl, hk, rfl, hcont, rfl⟩ := hrel
            have hb0 := acc_le (by rw [← Hb.out]; exact Hcls.out) k hk hcont.out
            by_cases hkn : k < n
            · have hkn' : (k : Int) + 1 ≤ (n : Int) := by omega
              have hpk : pos + (k + 1) < s.size := by omega
              have hpk' : (pos : Int) + ((k : Int) + 1) < (s.size : Int) := by omega
              have hb1 : ((acc c rest k : Nat) : Int) ≤ 32767 := by have := hb0.2 hkn; omega
              have hb2 : s[pos + (k + 1)].toNat < 256 := UInt8.toNat_lt _
              have Hb1 : Hid (s[pos + (k + 1)].toNat = (rest.getD (k + 1) 0).toNat) := by
                show _ = _
                rw [Hrest.out]; exact byte_at s pos (k + 1) hpk
              clear hb0
              by_cases hc1 : 128 ≤ s[pos + (k + 1)].toNat
              · by_cases hc2 : s[pos + (k + 1)].toNat ≤ 191
                · go_wp2_with fail
                  go_roundg (gk - 1)
                  case measure => omega
                  case rel =>
                    refine ⟨k + 1, by omega, int_eq (by omega), by omega, int_eq ?_, fun j h1 h2 => ?_, rfl⟩
                    · rw [acc_succ, ← Hb1.out]; omega
                    · rcases Nat.lt_or_eq_of_le h2 with h3 | h3
                      · exact hcont.out j h1 (by omega)
                      · rw [h3, ← Hb1.out]; exact ⟨hc1, hc2⟩
                · go_wp2_with fail
                  go_ret2
                  refine ⟨hbw, Or.inl ⟨read_stop hok Hl.out hne (dec_bad rest hne n least c (by rw [← Hb.out]; exact Hcls.out) fun hg => ?_), rfl⟩⟩
                  have := hg.2.1 (k + 1) (by omega) (by omega)
                  rw [← Hb1.out] at this
                  exact hc2 this.2
              · go_wp2_with fail
                go_ret2
                refine ⟨hbw, Or.inl ⟨read_stop hok Hl.out hne (dec_bad rest hne n least c (by rw [← Hb.out]; exact Hcls.out) fun hg => ?_), rfl⟩⟩
                have := hg.2.1 (k + 1) (by omega) (by omega)
                rw [← Hb1.out] at this
                exact hc1 this.1
            · have hkn2 : n = k := by omega
              subst hkn2
              obtain ⟨z, hz⟩ : ∃ z, z = acc c rest n := ⟨_, rfl⟩
              rw [← hz] at hb0 ⊢
              have Hz := Lib.hid hz
              clear hz
              have hz1 : z ≤ 2097151 := hb0.1
              clear hb0
              have Hbad : Hid (¬ (least ≤ z ∧ ok z) → runes s.data.toList = none) := fun hx => read_stop hok Hl.out hne (dec_bad rest hne n least c (by rw [← Hb.out]; exact Hcls.out) fun hg => hx (by have := hg.2.2; rw [← Hz.out] at this; exact this))
              by_cases g1 : z < least
              · have g1' : (z : Int) < least := by omega
                go_wp2_with fail
                go_ret2
                exact ⟨hbw, Or.inl ⟨Hbad.out (by omega), rfl⟩⟩
              · by_cases g2 : 55296 ≤ z ∧ z ≤ 57343
                · obtain ⟨g2, g3⟩ := g2
                  go_wp2_with fail
                  go_ret2
                  exact ⟨hbw, Or.inl ⟨Hbad.out (fun hx => by have := hx.2; unfold ok at this; omega), rfl⟩⟩
                · by_cases g4 : 1114111 < z
                  · by_cases g5 : 55296 ≤ z
                    · have g6 : 57343 < z := by omega
                      clear g2
                      go_wp2_with fail
                      go_ret2
                      exact ⟨hbw, Or.inl ⟨Hbad.out (fun hx => by have := hx.2; unfold ok at this; omega), rfl⟩⟩
                    · omega
                  · have Hgood : Hid (dec rest = (z, n + 1) ∧ ok z) := by
                      have e := dec_good rest n least c (by rw [← Hb.out]; exact Hcls.out) ⟨by have := Hlen.out; omega, hcont.out, by rw [← Hz.out]; omega, by rw [← Hz.out]; unfold ok; omega⟩
                      rw [← Hz.out] at e
                      exact ⟨e, by unfold ok; omega⟩
                    clear Hbad
                    have g5 : z < 55296 ∨ 57343 < z := by omega
                    clear g2
                    obtain ⟨i0, hi, hz0, hz1, hz2⟩ := info_parts infoInt
                    have hown := Hown.out
                    have hdl : done.length ≤ 1048576 := by have := (txt_len done).1; have := Hpos.out; omega
                    rcases g5 with g5 | g5
                    all_goals
                      go_wp2_with (first | (at_builtin; refine wpList_append_own _ rfl _ _ 41 rfl w.heap.size 3 i0 (.int .i64 0) 1 8 Tryd.underlying41 hi hz0 hz1 hz2 rfl (by decide) _ _ _ rfl (hown.alloc _) ⟨wr.heap.size, 0, none⟩ 1 1 [.int .i64 (z : Int)] rfl rfl ?_ ?_ ?_ ?_ ?_ ?_))
                    all_goals
                      first
                        | rfl
                        | (intro u hu; simp at hu; subst hu; rfl)
                        | (unfold maxLen; omega)
                        | omega
                        | (have := hbw.size; simp; omega)
                        | (intro j u hj
                           match j, hj with
                           | 0, hj => simp at hj; subst hj; simp [Addr.add])
                        | (intro v' w1 hown' hgrow _
                           clear hown hi hz0 hz1 hz2
                           have Hown' := Lib.hid hown'
                           clear hown'
                           go_wp2_with fail
                           have hst := good_step hok Hl.out Hgood.out.1 Hgood.out.2 hne (by
                             intro e
                             have hc0 := cls_some Hcls.out
                             have hz0 := Hz.out
                             subst e
                             rw [acc_zero] at hz0
                             rcases hc0 with h | h | h | h <;> omega)
                           rw [← Hpos.out] at hst
                           go_roundg (s.size - (pos + n + 1))
                           case measure => omega
                           case rel =>
                             refine ⟨done ++ [z], by rw [hst.1]; omega, int_eq (by rw [hst.1]; omega), hst.2.2, hst.2.1, by rw [hst.1]; omega, ?_, (hbw.alloc hbw.size _).grown hgrow (by have := hbw.size; simp; omega) (fun k hk => (Hown.out.lt k hk).1)⟩
                             have e : intVals (done ++ [z]) = intVals done ++ [.int .i64 (z : Int)] := by simp [intVals]
                             rw [e, List.length_append]
                             exact Hown'.out)
        · have hn' : ¬ (pos : Int) + n < s.size := by omega
          go_wp2_with fail
          go_ret2
          refine ⟨hbw, Or.inl ⟨read_stop hok Hl.out hne (dec_bad rest hne n least c (by rw [← Hb.out]; exact Hcls.out) fun hg => ?_), rfl⟩⟩
          have := hg.1
          have := Hlen.out
          omega
    · have hps : pos = s.size := by omega
      have hdone : s.data.toList = txt done := by
        have := Hl.out
        rw [List.drop_eq_nil_of_le (by simp; have : s.data.size = s.size := rfl; omega), List.append_nil] at this
        exact this
      have hr : runes s.data.toList = some done := by rw [hdone]; exact runes_txt done hok
      have Hr := Lib.hid hr
      clear hr hdone hps
      have hown := Hown.out
      obtain ⟨a, cap, rfl⟩ := owns_shape hown
      have Hown2 := Lib.hid hown
      clear hown Hown
      go_wp2_with fail
      go_ret2
      exact ⟨hbw, Or.inr ⟨done, _, Hr.out, rfl, Hown2.out⟩⟩
end Go.Proofs.YtpjblmhhcadcbaaDoor
