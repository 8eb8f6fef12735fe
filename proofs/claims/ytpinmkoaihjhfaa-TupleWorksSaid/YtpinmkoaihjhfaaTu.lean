/- The tuple of a key: the program's Read. -/
import Derived.Test.YtpinmkoaihjhfaaTh
import Derived.Test.YtpinmkoaihjhfaaTt
namespace Go.Proofs.Ytpinmkoaihjhfaa
open Go.RowKit Su Tp

def ReadOut (s : List UInt8) (w : World) (e : Ending) (w' : World) : Prop :=
  Below w.heap.size w w' ∧
    ((100 < s.length ∧ e = .returned (.tuple #[.slice none 0 0, .int .i64 2])) ∨
     (s.length ≤ 100 ∧ ∃ l v, right l ∧ allP l ∧ keyB l = s ∧ e = .returned (.tuple #[v, .int .i64 0]) ∧ OwnT w' w.heap.size v l) ∨
     (s.length ≤ 100 ∧ (∀ l, allP l → right l → keyB l ≠ s) ∧ e = .returned (.tuple #[.slice none 0 0, .int .i64 110])))
theorem key_len (l : List Pt) : l.length ≤ (keyB l).length := by
  induction l with
  | nil => simp
  | cons p l ih =>
    rw [keyB_cons, List.length_append, List.length_cons]
    have := partK_ne p
    have : 0 < (partK p).length := List.length_pos_iff.2 this
    omega
theorem no_key {l : List Pt} {c : UInt8} {r : List UInt8} (hl : allP l) (hf : fst (c :: r) = none) : ∀ m, allP m → right m → keyB m ≠ keyB l ++ c :: r := by
  intro m hm _ he
  obtain ⟨d, rfl, hd⟩ := key_cut l m _ hl hm he
  cases d with
  | nil => cases hd
  | cons p d =>
    rw [keyB_cons] at hd
    have := fst_part (hm p (by simp)) (keyB d)
    rw [hd, hf] at this
    cases this
theorem allP_snoc {l : List Pt} {p : Pt} (h : allP l) (hp : okP p ∧ InP p) : allP (l ++ [p]) := by
  intro q hq
  rcases List.mem_append.1 hq with h1 | h1
  · exact h q h1
  · rw [List.mem_singleton] at h1; rw [h1]; exact hp
theorem OwnT.shapeQ {w : World} {B : Nat} {v : Value} {l : List Pt} (h : OwnT w B v l) : ∃ a n cap, v = .slice a n cap ∧ n = l.length := by
  obtain ⟨a, cap, e, _⟩ := h.shape
  exact ⟨a, _, cap, e, rfl⟩
set_option maxRecDepth 100000 in
set_option maxHeartbeats 8000000 in
theorem read_any (s : List UInt8) (w : World) (hs : s.length ≤ 140737488355328) :
    Calls Try.prog 11 #[.string (txB s)] w (ReadOut s w) := by
  have hz := tx_size s
  by_cases h100 : 100 < s.length
  · have t0 : decide (100 < (s.length : Int)) = true := decide_eq_true (by omega)
    have H100 := Lib.hid h100
    go_enter Try.func11, Try.ntmps11
    go_wp2_with fail
    go_ret2
    exact ⟨Below.refl _ _, .inl ⟨H100.out, rfl⟩⟩
  · have t0 : decide (100 < (s.length : Int)) = false := decide_eq_false (by omega)
    have hs1 : s.length ≤ 100 := by omega
    have HS1 := Lib.hid hs1
    go_enter Try.func11, Try.ntmps11
    go_wp2_with fail
    clear hz t0 h100
    go_loopw [0, 4] (fun kv v wr => ∃ (l : List Pt) (rest : List UInt8), kv = .string (txB rest) ∧ OwnT wr w.heap.size v l ∧ Below w.heap.size w wr ∧ allP l ∧ s = keyB l ++ rest) (fun kv _ _ => match kv with | .string t => t.size | _ => 0)
    case atStart => exact ⟨[], s, rfl, nilT _ _, Below.refl _ _, by intro p hp; simp at hp, rfl⟩
    case round =>
      obtain ⟨l, rest, rfl, ho, hb, hall, hse⟩ := hrel
      obtain ⟨a, n, cp, rfl, hn⟩ := ho.shapeQ
      have hbs := hb.size
      have HO := Lib.hid ho
      have HB := Lib.hid hb
      have HA := Lib.hid hall
      have HN := Lib.hid hn
      have hll : l.length ≤ 100 := by
        have := key_len l
        have e := congrArg List.length hse
        rw [List.length_append] at e
        omega
      cases rest with
      | nil =>
        rw [List.append_nil] at hse
        have e1 : (txB []).toList = [] := tx_list _
        have e2 : (txB []).toList.isEmpty = true := by rw [e1]; rfl
        have HR := Lib.hid (right_any _ l wr ho.row)
        have HSE := Lib.hid hse
        clear ho hb hall hn hse
        by_cases hr : right l
        · rw [decide_eq_true hr] at HR
          have HRR := Lib.hid hr
          clear hr
          go_wp2_with fail
          refine HR.out.mono ?_
          rintro e w2 ⟨rfl, hb2⟩
          have HB2 := Lib.hid (below_trans HB.out hb2)
          have HO2 := Lib.hid (HO.out.below hb2)
          clear hb2
          go_wp2_with fail
          go_ret2
          exact ⟨HB2.out, .inr (.inl ⟨HS1.out, l, _, HRR.out, HA.out, HSE.out.symm, rfl, HO2.out⟩)⟩
        · rw [decide_eq_false hr] at HR
          have HRR := Lib.hid hr
          clear hr
          go_wp2_with fail
          refine HR.out.mono ?_
          rintro e w2 ⟨rfl, hb2⟩
          have HB2 := Lib.hid (below_trans HB.out hb2)
          clear hb2
          go_wp2_with fail
          go_ret2
          exact ⟨HB2.out, .inr (.inr ⟨HS1.out, fun m hm hrm e => HRR.out (by rw [← key_inj hm HA.out (e.trans HSE.out)]; exact hrm), rfl⟩)⟩
      | cons c r =>
        have e1 : ¬ (txB (c :: r)).toList = [] := by rw [tx_list]; simp
        have e2 : (txB (c :: r)).toList.isEmpty = false := by rw [tx_list]; rfl
        have hrl : r.length ≤ 900 := by
          have e := congrArg List.length hse
          rw [List.length_append, List.length_cons] at e
          omega
        have HC := Lib.hid (first_any c r wr hrl)
        have HZ := Lib.hid (tx_size (c :: r))
        cases hf : fst (c :: r) with
        | none =>
          have HNK := Lib.hid (show ∀ m, allP m → right m → keyB m ≠ s by rw [hse]; exact no_key hall hf)
          have HF := Lib.hid hf
          clear ho hb hall hn hse hf
          go_wp2_with fail
          refine HC.out.mono ?_
          rintro e w2 ⟨rfl, hb2⟩
          rw [HF.out]
          have HB2 := Lib.hid (below_trans HB.out hb2)
          clear hb2
          unfold valP
          go_wp2_with fail
          go_ret2
          exact ⟨HB2.out.alloc HB2.out.size _, .inr (.inr ⟨HS1.out, HNK.out, rfl⟩)⟩
        | some y =>
          obtain ⟨⟨p0, p1, ps⟩, m⟩ := y
          obtain ⟨hok, hm, x, hx⟩ := fst_inv hf
          have hm0 : ((m : Int) == 0) = false := by
            have := List.length_pos_iff.2 (partK_ne (p0, p1, ps))
            rw [beq_eq_false_iff_ne]; omega
          have hle : m ≤ r.length + 1 := by
            have e := congrArg List.length hx
            rw [List.length_append, List.length_cons] at e
            omega
          have hd : (c :: r).drop m = x := by rw [hx, hm, List.drop_left]
          have hzx : (txB (c :: r)).size = r.length + 1 := tx_size _
          have hdr : (txB (c :: r)).extract m (r.length + 1) = txB x := (tx_drop (c :: r) m (r.length + 1) rfl).trans (by rw [hd])
          have HXL := Lib.hid (show x.length < r.length + 1 by
            have e := congrArg List.length hx
            have := List.length_pos_iff.2 (partK_ne (p0, p1, ps))
            rw [List.length_append, List.length_cons] at e
            omega)
          have HSE := Lib.hid (show s = keyB (l ++ [(p0, p1, ps)]) ++ x by rw [keyB_snoc, List.append_assoc, ← hx]; exact hse)
          have HALL := Lib.hid (allP_snoc hall hok)
          have HOK := Lib.hid hok
          have HF := Lib.hid hf
          clear ho hb hall hn hse hf hx hd hm hok
          go_wp2_with fail
          refine HC.out.mono ?_
          rintro e w2 ⟨rfl, hb2⟩
          rw [HF.out]
          have HB2 := Lib.hid (below_trans HB.out hb2)
          have HO2 := Lib.hid (HO.out.below hb2)
          have hbs2 := HB2.out.size
          unfold valP
          simp only
          generalize hPS : txB ps = PS
          have hT := heap_alloc_last (w2.alloc (.cells #[.int .i64 p0, .int .i64 p1, .string PS] 25)) (.cells #[.int .i64 p0, .int .i64 p1, .string PS] 25)
          rw [alloc_sizeR] at hT
          obtain ⟨u, W', hr, ho3, hgr⟩ := run_append_parts (w := (w2.alloc (.cells #[.int .i64 p0, .int .i64 p1, .string PS] 25)).alloc (.cells #[.int .i64 p0, .int .i64 p1, .string PS] 25)) 22 w.heap.size (.slice a n cp) (.slice (some ⟨w2.heap.size + 1, 0, none⟩) 1 1) l [(p0, p1, ps)] ((HO2.out.alloc _).alloc _) (prow_lit hT rfl (by unfold maxLen; simp) (by rw [← hPS]; rfl) (by intro q hq; rw [List.mem_singleton] at hq; rw [hq]; exact HOK.out.2)) (by simp; omega) (by rw [alloc_sizeR, alloc_sizeR]; omega)
          have HO3 := Lib.hid ho3
          have HB3 := Lib.hid ((((HB2.out.alloc hbs2 _).alloc (by rw [alloc_sizeR]; omega) _).grown hgr (by rw [alloc_sizeR, alloc_sizeR]; omega) fun g hg => (HO2.out.lt g hg).1))
          clear ho3 hgr hb2 hT hPS
          go_wp2_with (refine wpList_appended rfl _ _ 22 22 rfl (.slice a n cp) (.slice (some ⟨w2.heap.size + 1, 0, none⟩) 1 1) u rfl rfl hr ?_; clear hr)
          refine ⟨⟨_, x, rfl, HO3.out, HB3.out, HALL.out, HSE.out⟩, ?_⟩
          show (txB x).size < (txB (c :: r)).size
          rw [hzx, tx_size]
          exact HXL.out
end Go.Proofs.Ytpinmkoaihjhfaa
