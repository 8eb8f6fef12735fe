import Derived.Test.YtchceolbbkhnnaaGM2
import Derived.Test.YtchceolbbkhnnaaGM3
import Derived.Test.YtchceolbbkhnnaaGP2
import Derived.Test.YtchceolbbkhnnaaGD1
import Derived.Test.YtchceolbbkhnnaaGA1
import Derived.Sort.LoopGhostIn
import Derived.Shelf.RegionOpen
import Derived.TacticsIn
import Derived.TacticsInMore
namespace Go.Proofs.Ytchceolbbkhnnaa
section
open Go.RowKit Rn Ch At
open Lib (hid)
theorem take5_any (B rb : Nat) (gA gB : Option Nat) (A C : List QV5) (ab : Nat) (al : OpD → OpD → Int) (w : World) (h : Rows5 w B rb gA gB A C (aloneV ab))
 (hal : ∀ W, Rest5 rb gA gB w W → ∀ x y : QV5, Calls Try.prog 48 #[op5 x, op5 y, .pointer (some ⟨ab, 0, none⟩)] W fun e w' => e = .returned (.int .i64 (al x.1 y.1)) ∧ Below W.heap.size W w') :
 Calls Try.prog 72 #[.pointer (some ⟨rb, 0, none⟩)] w fun e w' =>
  e = .returned (.tuple #[op5 (stepM al A C).1.1, op5 (stepM al A C).1.2]) ∧ Rows5 w' B rb gA gB (stepM al A C).2.1 (stepM al A C).2.2 (aloneV ab) ∧ Rest5 rb gA gB w w' ∧ Below B w w' := by
 by_cases c1 : al (nxt5 A).1 (nxt5 C).1 = 1
 ·exact take5_first B rb gA gB A C ab al w h hal c1
 ·by_cases c2 : al (nxt5 A).1 (nxt5 C).1 = 2
  ·exact take5_second B rb gA gB A C ab al w h hal c2
  ·exact take5_both B rb gA gB A C ab al w h hal c1 c2
abbrev WT5 : List TypeId := [86, 92]
def ownL (rb : Nat) (gA gB : Option Nat) : List Nat := rb :: (gA.toList ++ gB.toList)
theorem Row5.ty {w : World} {g : Option Nat} {v : Value} {l : List QV5} (h : Row5 w g v l) {b : Nat} (hb : g = some b) : ∃ cs, w.heap[b]? = some (.cells cs 86 (0, 0)) := by
 obtain ⟨_, _, _, _, _, h⟩ := h; rcases h with ⟨_, h⟩ | ⟨b', _, cs, h1, _, h2, _⟩
 ·rw [hb] at h; cases h
 ·rw [hb] at h1; cases h1; exact ⟨cs, h2⟩
theorem Rows5.free {w : World} {B rb i : Nat} {gA gB : Option Nat} {A C : List QV5} {al : Value} (_h : Rows5 w B rb gA gB A C al) (hi : i ∉ ownL rb gA gB) : i ≠ rb ∧ gA ≠ some i ∧ gB ≠ some i := by
 unfold ownL at hi; refine ⟨fun e => hi (by rw [e]; exact List.mem_cons_self ..), fun e => hi ?_, fun e => hi ?_⟩
 ·rw [e]; simp
 ·rw [e]; simp
theorem Rows5.free_ty {w : World} {B rb i : Nat} {gA gB : Option Nat} {A C : List QV5} {al : Value} {o : Obj} (h : Rows5 w B rb gA gB A C al) (hi : w.heap[i]? = some o) (ho : ∀ cs fr, o ≠ .cells cs 86 fr ∧ o ≠ .cells cs 92 fr) : i ≠ rb ∧ gA ≠ some i ∧ gB ≠ some i := by
 obtain ⟨⟨rc, vA, vC, hrb, hvA, hvC, hva, hA, hC⟩, _⟩ := h; refine ⟨fun e => ?_, fun e => ?_, fun e => ?_⟩
 ·subst e
  exact (ho rc (0, 0)).2 (by have := hi.symm.trans hrb; exact Option.some.inj this)
 ·obtain ⟨cs, hb⟩ := hA.ty e
  exact (ho cs (0, 0)).1 (by have := hi.symm.trans hb; exact Option.some.inj this)
 ·obtain ⟨cs, hb⟩ := hC.ty e
  exact (ho cs (0, 0)).1 (by have := hi.symm.trans hb; exact Option.some.inj this)
theorem step5 {w w' : World} {B N rb : Nat} {gA gB : Option Nat} {A C : List QV5} {al : Value} (h : Rows5 w B rb gA gB A C al) (hr : Rest5 rb gA gB w w') (hb : Below B w w') : Step B N WT5 (ownL rb gA gB) w w' where
 below := hb
 cells := by
  intro i cs e fr hi he; have hf : i ≠ rb ∧ gA ≠ some i ∧ gB ≠ some i := by
   rcases he with he | ⟨_, he⟩
   ·refine h.free_ty hi fun cs' fr' => ⟨fun e' => ?_, fun e' => ?_⟩
    ·cases e'; exact he (List.mem_cons_self ..)
    ·cases e'; exact he (List.mem_cons_of_mem _ (List.mem_cons_self ..))
   ·exact h.free he
  rw [hr.2 i (lt_of_heap hi) hf.1 hf.2.1 hf.2.2]; exact hi
 other := by
  intro i o _ hi ho; have hf := h.free_ty hi fun cs' fr' => ⟨fun e' => (by rw [e'] at ho; cases ho), fun e' => (by rw [e'] at ho; cases ho)⟩; rw [hr.2 i (lt_of_heap hi) hf.1 hf.2.1 hf.2.2]; exact hi
theorem Rows5.rnd {w w' : World} {B B' N rb : Nat} {gA gB : Option Nat} {A C : List QV5} {al : Value} {tB : List TypeId} (h : Rows5 w B rb gA gB A C al) (hr : Rnd B' N tB w w') (h1 : 86 ∉ tB) (h2 : 92 ∉ tB) : Rows5 w' B rb gA gB A C al := by
 have h' := h; obtain ⟨⟨rc, vA, vC, hrb, hvA, hvC, hva, hA, hC⟩, hra, hrc, hsep, ⟨hB, hBA, hBC⟩, hoA, hoC⟩ := h; refine fin5 h' hrb (hr.cells _ _ _ _ hrb h2) hvA hvC (fun _ _ _ => rfl) (hA.keep fun b e o ho => ?_) (hC.keep fun b e o ho => ?_) hr.below.size hoA hoC
 ·obtain ⟨cs, hb⟩ := hA.ty e
  obtain rfl : o = .cells cs 86 (0, 0) := Option.some.inj (ho.symm.trans hb); exact hr.cells _ _ _ _ ho h1
 ·obtain ⟨cs, hb⟩ := hC.ty e
  obtain rfl : o = .cells cs 86 (0, 0) := Option.some.inj (ho.symm.trans hb); exact hr.cells _ _ _ _ ho h1
theorem met_nil {al : OpD → OpD → Int} {ps : List (QV5 × QV5)} (h : Met al [] [] ps) : ps = [] := by
 cases h with
 | done => rfl
 | step h _ => rcases h with h | h <;> exact absurd rfl h
theorem met_step {al : OpD → OpD → Int} {A C : List QV5} {ps : List (QV5 × QV5)} (h : Met al A C ps) (hn : ¬ (A = [] ∧ C = [])) : ∃ r, ps = (stepM al A C).1 :: r ∧ Met al (stepM al A C).2.1 (stepM al A C).2.2 r := by
 cases h with
 | done => exact absurd ⟨rfl, rfl⟩ hn
 | step _ r => exact ⟨_, rfl, r⟩
set_option maxRecDepth 100000 in
set_option maxHeartbeats 4000000 in
theorem met5_iter (B pb rb ab : Nat) (gA gB : Option Nat) (A C : List QV5) (ps : List (QV5 × QV5)) (al : OpD → OpD → Int) (av : Value) (tB : List TypeId) (Kp : World → World → Prop) (Fr : World → Nat → Prop) (hM : Met al A C ps)
 (ht : 86 ∉ tB) (htr : 92 ∉ tB) (htp : 112 ∉ tB) (hta : 48 ∉ tB)
 (Pr : World → Prop) (hPF : ∀ W, (∀ i, W.heap.size ≤ i → Fr W i) → Pr W) (hPk : ∀ A A' : World, Pr A → (∀ (i : Nat) (cs : Array Value) (e : TypeId) (fr : Nat × Nat), A.heap[i]? = some (.cells cs e fr) → e ≠ 86 → e ≠ 92 → A'.heap[i]? = some (.cells cs e fr)) → Pr A')
 (hal : ∀ W, Boxed W ab 48 av → Pr W → ∀ x y : QV5, Calls Try.prog 48 #[op5 x, op5 y, .pointer (some ⟨ab, 0, none⟩)] W fun e w' => e = .returned (.int .i64 (al x.1 y.1)) ∧ Below W.heap.size W w') :
 Iter Try.prog 71 #[.pointer (some ⟨pb, 0, none⟩)] (fun p : QV5 × QV5 => #[op5 p.1, op5 p.2]) ps B WT5 (ownL rb gA gB) tB Kp Fr
  (fun W => Boxed W pb 112 (.pointer (some ⟨rb, 0, none⟩)) ∧ Boxed W ab 48 av ∧ Rows5 W B rb gA gB A C (aloneV ab)) (fun _ => True) := by
 intro l J Jx W hBW ⟨hp, ha, hR⟩ hJ hJx hF hY h0; have HAL := hid hal; have HPF := hid (fun k A (h : J k A) => hPF A (fun i hi => hF k A i h hi)); have HPK := hid hPk; clear hF hPF hPk; have HM := hid hM; clear hal hM; refine callsIn_of_wp Try.func71 rfl trivial ?_ rfl; simp only [Try.ntmps71, List.size_toArray, List.length_cons, List.length_nil, Nat.reduceAdd, Nat.reduceSub, Array.replicate_succ, Array.replicate_zero, List.push_toArray, List.append_toArray, List.nil_append, List.cons_append]
 gi_wp2
 gi_loopg [] ps.length (fun gk wr => ∃ (k : Nat) (A' C' : List QV5), k + gk = ps.length ∧ Met al A' C' (ps.drop k) ∧ Rows5 wr B rb gA gB A' C' (aloneV ab) ∧ J k wr ∧ Boxed wr pb 112 (.pointer (some ⟨rb, 0, none⟩)) ∧ Boxed wr ab 48 av)
 case atStart => exact ⟨0, A, C, by omega, by rw [List.drop_zero]; exact HM.out, hR, h0, hp, ha⟩
 case round =>
  obtain ⟨k, A', C', hk, hM', hR', hJ', hp', ha'⟩ := hrel; have w0 := hp'.cell; obtain ⟨rc, vA, vC, hrb, hvA, hvC, hva, ⟨aa, ac, rfl, hac, _⟩, ⟨ca, cc, rfl, hcc, _⟩⟩ := hR'.blk; have e0 : wr.cell? ⟨rb, 0, none⟩ = some (.slice aa A'.length ac) := by simp [World.cell?, hrb, hvA]
  have e6 : wr.cell? ⟨rb, 6, none⟩ = some (.slice ca C'.length cc) := by simp [World.cell?, hrb, hvC]
  by_cases hn : A' = [] ∧ C' = []
  ·obtain ⟨rfl, rfl⟩ := hn
   have hd := met_nil hM'; have hkl : k = ps.length := by
    have := congrArg List.length hd; rw [List.length_drop, List.length_nil] at this; omega
   have H1 := hid (And.intro hkl hJ'); have c1 : ¬ (0 : Int) < (([] : List QV5).length : Int) := by simp
   clear hd hkl hJ' hM' hR' hk hR h0 hp ha hY hJ hJx hrb hvA hvC hva hac hcc
   gi_wp2
   go_end0
   refine ⟨⟨_, rfl⟩, .inl ?_⟩; rw [← H1.out.1]; exact H1.out.2
  ·obtain ⟨r, hr1, hr2⟩ := met_step hM' hn
   have hkl : k < ps.length := by
    have := congrArg List.length hr1; rw [List.length_drop, List.length_cons] at this; omega
   have hpk : ps[k] = (stepM al A' C').1 := by
    have h2 := congrArg (fun l => l[0]?) hr1; simp only [List.getElem?_drop, Nat.add_zero, List.getElem?_cons_zero] at h2; exact (List.getElem?_eq_some_iff.1 h2).2
   have hr3 : ps.drop (k + 1) = r := by
    have := congrArg (List.drop 1) hr1; rw [List.drop_drop, List.drop_succ_cons, List.drop_zero] at this; exact this
   have HT := hid (take5_any B rb gA gB A' C' ab al wr hR' (fun X hX x y => HAL.out X (by
    have hf := hR'.free_ty ha' fun cs' fr' => ⟨fun e' => (by cases e'), fun e' => (by cases e')⟩; show X.heap[ab]? = _
    rw [hX.2 ab (lt_of_heap ha') hf.1 hf.2.1 hf.2.2]; exact ha') (HPK.out wr X (HPF.out k wr hJ') (fun i cs e fr hi n1 n2 => by
    have hf := hR'.free_ty hi fun cs' fr' => ⟨fun e' => n1 (by injection e'), fun e' => n2 (by injection e')⟩; rw [hX.2 i (lt_of_heap hi) hf.1 hf.2.1 hf.2.2]; exact hi)) x y))
   have HY := hid (hY k hkl); rw [hpk] at HY; have HJ := hid (fun w2 (h : Rest5 rb gA gB wr w2) (hb : Below B wr w2) => And.intro (hJ k wr w2 hJ' (step5 hR' h hb)) (And.intro (show Boxed w2 pb _ _ by
    have hf := hR'.free_ty hp' fun cs' fr' => ⟨fun e' => (by cases e'), fun e' => (by cases e')⟩; show w2.heap[pb]? = _
    rw [h.2 pb (lt_of_heap hp') hf.1 hf.2.1 hf.2.2]; exact hp') (show Boxed w2 ab _ _ by
    have hf := hR'.free_ty ha' fun cs' fr' => ⟨fun e' => (by cases e'), fun e' => (by cases e')⟩; show w2.heap[ab]? = _
    rw [h.2 ab (lt_of_heap ha') hf.1 hf.2.1 hf.2.2]; exact ha')))
   have HK := hid (And.intro hk (And.intro hkl (And.intro hr2 hr3))); generalize stepM al A' C' = st at HT HY HK; obtain ⟨⟨x, y⟩, A2, C2⟩ := st; simp only at HT HY HK; have hlen : ¬ (A'.length = 0 ∧ C'.length = 0) := fun h => hn ⟨List.length_eq_zero_iff.1 h.1, List.length_eq_zero_iff.1 h.2⟩; generalize A'.length = nA at e0 hlen hac; generalize C'.length = nC at e6 hlen hcc; clear hM' hR' hJ' hrb hvA hvC hva hac hcc hn hr1 hr2 hr3 hpk hkl hk hR h0 hp ha hY hJ hJx hp' ha'
   by_cases hA0 : nA = 0
   ·have c1 : ¬ (0 : Int) < (nA : Int) := by omega
    have c2 : (0 : Int) < (nC : Int) := by omega
    clear hA0 hlen
    gi_wp2
    refine ⟨trivial, rfl, (callsIn_wide.2 HT.out).mono ?_⟩; rintro e w2 ⟨rfl, hR2, hr2, hb2⟩; obtain ⟨hj2, hp2, ha2⟩ := HJ.out w2 hr2 hb2; obtain ⟨fn, tmps, assign, body, hy, hRd⟩ := HY.out w2 hj2; have HRd := hid hRd; have HR2 := hid hR2; have HP2 := hid (And.intro hp2 ha2); clear hRd hR2 hr2 hb2 hj2 hp2 ha2
    gi_wp2
    refine ⟨rfl, HRd.out.mono ?_⟩; rintro e W3 (⟨rfl, hJ3, hr3, hk3⟩ | ⟨rfl, hJx3, _⟩)
    ·have FIN := hid (And.intro hJ3 (And.intro (HR2.out.rnd hr3 ht htr) (And.intro (show Boxed W3 pb _ _ from hr3.cells _ _ _ _ HP2.out.1 htp) (show Boxed W3 ab _ _ from hr3.cells _ _ _ _ HP2.out.2 hta))))
     clear hJ3 hr3 hk3
     gi_wp2
     gi_roundg (gk - 1)
     case rel => exact ⟨k + 1, A2, C2, by have := HK.out.1; have := HK.out.2.1; omega, by rw [HK.out.2.2.2]; exact HK.out.2.2.1, FIN.out.2.1, FIN.out.1, FIN.out.2.2⟩
     case measure => have := HK.out.1; have := HK.out.2.1; omega
    ·have HX3 := hid hJx3
     clear hJx3
     gi_wp2
     refine bodyPost_ret (results_none rfl _ _ _) rfl ?_; exact ⟨⟨_, rfl⟩, .inr ⟨k, HK.out.2.1, HX3.out⟩⟩
   ·have c1 : (0 : Int) < (nA : Int) := by omega
    clear hA0 hlen
    gi_wp2
    refine ⟨trivial, rfl, (callsIn_wide.2 HT.out).mono ?_⟩; rintro e w2 ⟨rfl, hR2, hr2, hb2⟩; obtain ⟨hj2, hp2, ha2⟩ := HJ.out w2 hr2 hb2; obtain ⟨fn, tmps, assign, body, hy, hRd⟩ := HY.out w2 hj2; have HRd := hid hRd; have HR2 := hid hR2; have HP2 := hid (And.intro hp2 ha2); clear hRd hR2 hr2 hb2 hj2 hp2 ha2
    gi_wp2
    refine ⟨rfl, HRd.out.mono ?_⟩; rintro e W3 (⟨rfl, hJ3, hr3, hk3⟩ | ⟨rfl, hJx3, _⟩)
    ·have FIN := hid (And.intro hJ3 (And.intro (HR2.out.rnd hr3 ht htr) (And.intro (show Boxed W3 pb _ _ from hr3.cells _ _ _ _ HP2.out.1 htp) (show Boxed W3 ab _ _ from hr3.cells _ _ _ _ HP2.out.2 hta))))
     clear hJ3 hr3 hk3
     gi_wp2
     gi_roundg (gk - 1)
     case rel => exact ⟨k + 1, A2, C2, by have := HK.out.1; have := HK.out.2.1; omega, by rw [HK.out.2.2.2]; exact HK.out.2.2.1, FIN.out.2.1, FIN.out.1, FIN.out.2.2⟩
     case measure => have := HK.out.1; have := HK.out.2.1; omega
    ·have HX3 := hid hJx3
     clear hJx3
     gi_wp2
     refine bodyPost_ret (results_none rfl _ _ _) rfl ?_; exact ⟨⟨_, rfl⟩, .inr ⟨k, HK.out.2.1, HX3.out⟩⟩
end
section
open Go.RowKit Rn Ch
open At hiding put
open Cp (Piece)
open Lib (hid)
theorem runeFrom_T (cs : List Nat) (h : allOk cs) : ∀ (fuel k : Nat), k ≤ cs.length → (T cs).size ≤ fuel + (txt (cs.take k)).length → Lib.runeCountFrom (T cs) fuel (txt (cs.take k)).length = cs.length - k := by
 intro fuel; induction fuel with
 | zero =>
   intro k hk hf; have hle := len_take_le cs k; have hsz := T_size cs; have : k = cs.length := by
    apply Classical.byContradiction; intro hne; have h1 := len5_succ cs k (by omega); have h2 := len_take_le cs (k + 1); have h3 := enc_pos (cs.getD k 0); omega
   rw [this, Nat.sub_self]; rfl
 | succ fuel ih =>
   intro k hk hf; have hle := len_take_le cs k; have hsz := T_size cs
   by_cases hlt : k < cs.length
   ·have h1 := len5_succ cs k hlt
    have h2 := len_take_le cs (k + 1); have h3 := enc_pos (cs.getD k 0); unfold Lib.runeCountFrom; rw [if_pos (by omega), decode_eq, t5_dec cs h k hlt, ← h1, ih (k + 1) (by omega) (by omega)]; omega
   ·have : k = cs.length := by omega
    have h4 : ¬ (txt (cs.take k)).length < (T cs).size := by rw [this, List.take_length]; omega
    rw [Lib.runeCountFrom_end _ _ _ h4]; omega
theorem runeCount_T {cs : List Nat} (h : allOk cs) : Lib.runeCount (T cs) = cs.length := by
 have := runeFrom_T cs h (T cs).size 0 (Nat.zero_le _) (by omega)
 simpa [Lib.runeCount, txt] using this
theorem piece_text {o : OpD} (h : Piece o) : o.text = T (Cp.rns1 o.text) ∧ allOk (Cp.rns1 o.text) ∧ (Cp.rns1 o.text).length ≤ 20000 := by
 rcases Cp.opE_shape h.1 with ⟨k, a, b, c⟩ | ⟨k, a, b, c, d, e, f, g⟩ | ⟨k, a, b, c⟩
 ·rw [b, rns1_nil]; exact ⟨rfl, fun c hc => (by cases hc), Nat.zero_le _⟩
 ·exact ⟨c, d, e⟩
 ·rw [b, rns1_nil]; exact ⟨rfl, fun c hc => (by cases hc), Nat.zero_le _⟩
theorem piece_count {o : OpD} (h : Piece o) : (Lib.runeCount o.text : Int) = szO o - o.n ∧ o.text.size ≤ 80000 ∧ Lib.runeCount o.text ≤ 20000 := by
 obtain ⟨h1, h2, h3⟩ := piece_text h; have e : Lib.runeCount o.text = (Cp.rns1 o.text).length := by
  conv => lhs; rw [h1]
  exact runeCount_T h2
 refine ⟨by rw [e]; unfold szO; omega, ?_, by rw [e]; exact h3⟩; rw [h1]; exact Cp.T_small h3
def RowQ (w : World) (v : Value) (qs : List QV5) : Prop :=
 ∃ a c, v = .slice a qs.length c ∧ qs.length ≤ c ∧ c ≤ maxLen ∧ ∀ i (h : i < qs.length), ∃ b off, a = some ⟨b, off, none⟩ ∧ b < w.heap.size ∧ w.cell? ⟨b, off + i * 4, none⟩ = some (.int .i64 qs[i].1.kind) ∧ w.cell? ⟨b, off + i * 4 + 1, none⟩ = some (.int .i64 qs[i].1.n) ∧ w.cell? ⟨b, off + i * 4 + 2, none⟩ = some (.string qs[i].1.text) ∧ w.cell? ⟨b, off + i * 4 + 3, none⟩ = some (qv qs[i])
def flat5 (qs : List QV5) : List Value := qs.flatMap fun q => (cell5 q).toList
theorem flat5_snoc (qs : List QV5) (q : QV5) : flat5 (qs ++ [q]) = flat5 qs ++ (cell5 q).toList := by simp [flat5]
theorem flat5_at (qs : List QV5) (i : Nat) (h : i < qs.length) (j : Nat) (hj : j < 5) : (flat5 qs)[i * 5 + j]? = (cell5 qs[i])[j]? := by
 induction qs generalizing i with
 | nil => exact absurd h (Nat.not_lt_zero _)
 | cons x r ih =>
   have e : flat5 (x :: r) = (cell5 x).toList ++ flat5 r := rfl; have hx : (cell5 x).toList.length = 5 := rfl; rw [e]; cases i with
   | zero => rw [List.getElem?_append_left (by omega)]; simp
   | succ i =>
     rw [List.getElem?_append_right (by omega), hx]; have e2 : (i + 1) * 5 + j - 5 = i * 5 + j := by omega
     rw [e2, ih i (by simpa using h)]; rfl
theorem infoOp5 : (Try.prog.info? 86).map (fun i => (i.zero, i.size, i.bytes)) = some (some (.agg #[.int .i64 0, .int .i64 0, .string ⟨#[]⟩, .slice none 0 0, .int .i64 0]), 5, 64) := by kernel_rfl
theorem new_at5 (w : World) (u0 u1 u2 u3 u4 : Value) (e : TypeId) : ∀ j x, [u0, u1, u2, u3, u4][j]? = some x → (w.alloc (.cells #[u0, u1, u2, u3, u4] e)).cell? ((⟨w.heap.size, 0, none⟩ : Addr).add j) = some x := by
 intro j x hj
 match j, hj with
 | 0, hj => simp at hj; subst hj; go_simp
 | 1, hj => simp at hj; subst hj; go_simp
 | 2, hj => simp at hj; subst hj; go_simp
 | 3, hj => simp at hj; subst hj; go_simp
 | 4, hj => simp at hj; subst hj; go_simp
 | j + 5, hj => simp at hj
set_option maxRecDepth 100000 in
set_option maxHeartbeats 4000000 in
theorem ops5_any (f : Int) (v : Value) (qs : List QV5) (w : World) (hv : RowQ w v qs) (hq : VQ qs) (hn : qs.length ≤ 2000) :
 Calls Try.prog 46 #[chAgg f v] w fun e w' => ∃ u, e = .returned u ∧ w'.ownsRow w.heap.size 86 5 u qs.length (flat5 qs) ∧ Below w.heap.size w w' := by
 have bx := below_box w (.cells #[.int .i64 f, v] 24); obtain ⟨va, vc, rfl, h1, h2, h3⟩ := hv; have H3 := hid h3; have HQ := hid hq; have hsz := World.size_alloc w (.cells #[.int .i64 f, .slice va qs.length vc] 24); have HBX := hid bx; have HX := hid (show (w.alloc (.cells #[.int .i64 f, .slice va qs.length vc] 24)).heap[w.heap.size]? = some (.cells #[.int .i64 f, .slice va qs.length vc] 24 (0, 0)) from heap_new _ _); obtain ⟨N, hN⟩ : ∃ N, N = qs.length := ⟨_, rfl⟩; have HNL := hid hN; clear h3 hq bx; go_enter Try.func46, Try.ntmps46
 go_wp2_with fail
 go_loopw [3, 9] (fun lv i wr => ∃ k : Nat, i = .int .i64 (k : Int) ∧ k ≤ qs.length ∧ wr.ownsRow w.heap.size 86 5 lv k (flat5 (qs.take k)) ∧ Below w.heap.size w wr) (fun _ i _ => qs.length - (intOf i).toNat)
 case atStart => exact ⟨0, rfl, Nat.zero_le _, World.ownsRow_nil _ _ _ _, HBX.out⟩
 case round =>
  obtain ⟨k, rfl, hk, hO, hb⟩ := hrel; have HO := hid hO; have HB := hid hb; obtain ⟨la, lc, rfl⟩ := own_slice hO
  by_cases hlt : k < qs.length
  ·have hlt' : (k : Int) < (qs.length : Int) := by omega
   obtain ⟨b, off, rfl, hbl, x0', x1', x2', x3'⟩ := H3.out k hlt; obtain ⟨q, hqq⟩ : ∃ q, q = qs[k] := ⟨_, rfl⟩; have HQK := hid hqq; have hpc := piece_count (HQ.out qs[k] (List.getElem_mem hlt)); have hpn := (HQ.out qs[k] (List.getElem_mem hlt)).2; have hps := (piece_sz (HQ.out qs[k] (List.getElem_mem hlt))); have hp0 : 0 ≤ qs[k].1.n := by
    rcases Cp.opE_shape (HQ.out qs[k] (List.getElem_mem hlt)).1 with ⟨_, a, _⟩ | ⟨_, a, _⟩ | ⟨_, a, _⟩ <;> omega
   rw [← hqq] at x0' x1' x2' x3' hpc hpn hps hp0; have hs0 := hb.size; have x0 : wr.cell? ⟨b, off + k * 4, none⟩ = some (.int .i64 q.1.kind) := (hb.cell (by exact hbl)).trans x0'; have x1 : wr.cell? ⟨b, off + k * 4 + 1, none⟩ = some (.int .i64 q.1.n) := (hb.cell (by exact hbl)).trans x1'; have x2 : wr.cell? ⟨b, off + k * 4 + 2, none⟩ = some (.string q.1.text) := (hb.cell (by exact hbl)).trans x2'; have x3 : wr.cell? ⟨b, off + k * 4 + 3, none⟩ = some (qv q) := (hb.cell (by exact hbl)).trans x3'; have hbr : b < wr.heap.size := Nat.lt_of_lt_of_le hbl hs0; have HRC := hid (fun W => Try.utf8_RuneCountInString q.1.text W (by omega)); obtain ⟨rcn, hrcn⟩ : ∃ rcn, rcn = Lib.runeCount q.1.text := ⟨_, rfl⟩; have hsum : q.1.n + (rcn : Int) = szO q.1 := by rw [hrcn]; omega
   have hrb : rcn ≤ 20000 := by rw [hrcn]; exact hpc.2.2
   rw [← hrcn] at HRC; have HSUM := hid hsum; have hwr : IntKind.i64.wrap (q.1.n + (rcn : Int)) = q.1.n + (rcn : Int) := IntWalk.i64_in _ (by omega); have hwr2 := IntWalk.wrap64_in (q.1.n + (rcn : Int)) (by omega); clear hO hb x0' x1' x2' x3' hqq hpc hps hrcn hsum; obtain ⟨W, hW⟩ : ∃ W, W = wr.alloc (.cells #[.int .i64 q.1.kind, .int .i64 q.1.n, .string q.1.text, qv q] 40) := ⟨_, rfl⟩; have BW := hid (show Below wr.heap.size wr W by rw [hW]; exact below_box _ _); have hWs : W.heap.size = wr.heap.size + 1 := by rw [hW]; simp
   have hWh : W.heap[wr.heap.size]? = some (.cells #[.int .i64 q.1.kind, .int .i64 q.1.n, .string q.1.text, qv q] 40 (0, 0)) := by rw [hW]; exact heap_new _ _
   have c0 : W.cell? ⟨wr.heap.size, 0, none⟩ = some (.int .i64 q.1.kind) := by simp [World.cell?, hWh]
   have c1 : W.cell? ⟨wr.heap.size, 1, none⟩ = some (.int .i64 q.1.n) := by simp [World.cell?, hWh]
   have c2 : W.cell? ⟨wr.heap.size, 2, none⟩ = some (.string q.1.text) := by simp [World.cell?, hWh]
   have c3 : W.cell? ⟨wr.heap.size, 3, none⟩ = some (.slice q.2.1 q.1.attrs.length q.2.2) := by simp [World.cell?, hWh]
   have hlW : wr.heap.size < W.heap.size := by omega
   have HW := hid hW; obtain ⟨i0, hi, hz0, hz1, hz2⟩ := info_parts infoOp5; have Hi := hid (And.intro hi (And.intro hz0 (And.intro hz1 hz2))); have HNE := hid (show some wr.heap.size ≠ (Value.slice la k lc).ownBlock from fun e => by have := (HO.out.lt _ e.symm).2; omega); clear hW hWh hi hz0 hz1 hz2 hWs; go_wp2_with fail
   rw [← HW.out]
   go_region_held3 (fun w' => w'.cell? ⟨wr.heap.size, 0, none⟩ = some (.int .i64 q.1.kind) ∧ w'.cell? ⟨wr.heap.size, 1, none⟩ = some (.int .i64 q.1.n) ∧ w'.cell? ⟨wr.heap.size, 2, none⟩ = some (.string q.1.text) ∧ w'.cell? ⟨wr.heap.size, 3, none⟩ = some (.slice q.2.1 q.1.attrs.length q.2.2))
    (first
     | exact ⟨c0, c1, c2, c3⟩
     | exact ⟨(BA.cell (by exact hlW)).trans c0, (BA.cell (by exact hlW)).trans c1, (BA.cell (by exact hlW)).trans c2, (BA.cell (by exact hlW)).trans c3⟩
     | exact ⟨((BA.alloc BA.size _).cell (by exact hlW)).trans c0, ((BA.alloc BA.size _).cell (by exact hlW)).trans c1, ((BA.alloc BA.size _).cell (by exact hlW)).trans c2, ((BA.alloc BA.size _).cell (by exact hlW)).trans c3⟩
     | exact ⟨k0, k1, k2, k3⟩)
    (first
     | (go_at_call 70; refine (HRC.out _).mono ?_; rintro e wA ⟨rfl, pos, hwA⟩; have BA : Below W.heap.size W wA := (by rw [hwA]; exact (Below.refl W.heap.size W).drew.alloc (Nat.le_refl _) _); have OA := row_below (row_below HO.out BW.out) BA; clear hwA)
     | (refine step_append_own rfl (.tmp 13) (.tmp 22) 83 rfl 86 i0 (.agg #[.int .i64 0, .int .i64 0, .string ⟨#[]⟩, .slice none 0 0, .int .i64 0]) 5 64 Try.underlying83 Hi.out.1 Hi.out.2.1 Hi.out.2.2.1 Hi.out.2.2.2 rfl (by decide) w.heap.size _ k (flat5 (qs.take k)) rfl (OA.alloc _) ⟨wA.heap.size, 0, none⟩ 1 1 [.int .i64 q.1.kind, .int .i64 q.1.n, .string q.1.text, .slice q.2.1 q.1.attrs.length q.2.2, .int .i64 (q.1.n + (rcn : Int))] rfl rfl (new_at5 _ _ _ _ _ _ _) (fun u hu => by simp at hu; rcases hu with rfl | rfl | rfl | rfl | rfl <;> rfl) (by unfold maxLen; omega) (by omega) (by have := BA.size; have := BW.out.size; have := HB.out.size; simp; omega) ?_; intro v' wC oC gC; have k0 : wC.cell? ⟨wr.heap.size, 0, none⟩ = some (.int .i64 q.1.kind) := gC.cell (((BA.alloc BA.size _).cell (by exact hlW)).trans c0) HNE.out; have k1 : wC.cell? ⟨wr.heap.size, 1, none⟩ = some (.int .i64 q.1.n) := gC.cell (((BA.alloc BA.size _).cell (by exact hlW)).trans c1) HNE.out; have k2 : wC.cell? ⟨wr.heap.size, 2, none⟩ = some (.string q.1.text) := gC.cell (((BA.alloc BA.size _).cell (by exact hlW)).trans c2) HNE.out; have k3 : wC.cell? ⟨wr.heap.size, 3, none⟩ = some (.slice q.2.1 q.1.attrs.length q.2.2) := gC.cell (((BA.alloc BA.size _).cell (by exact hlW)).trans c3) HNE.out))
   have B1 : Below w.heap.size w wC := ((HB.out.trans (BW.out.mono hs0)).trans ((BA.alloc BA.size _).mono (Nat.le_trans hs0 BW.out.size))).grown gC (by have := BA.size; have := BW.out.size; simp; omega) (fun k hk => (HO.out.lt k hk).1); have hO2 := oC; rw [HSUM.out] at hO2; have e5 : flat5 (qs.take k) ++ [.int .i64 q.1.kind, .int .i64 q.1.n, .string q.1.text, .slice q.2.1 q.1.attrs.length q.2.2, .int .i64 (szO q.1)] = flat5 (qs.take (k + 1)) := by
    rw [List.take_succ_eq_append_getElem hlt, flat5_snoc, ← HQK.out]; rfl
   rw [e5] at hO2; have OC := hid hO2; have HB1 := hid B1; clear B1 BA OA k0 k1 k2 k3 oC gC c0 c1 c2 c3 hO2 e5; go_wp2_with fail
   go_roundw
   case rel => exact ⟨k + 1, by go_num, by omega, OC.out, HB1.out⟩
   case measure => simp [intOf]; omega
  ·have hkn : k = qs.length := by omega
   have hlt' : ¬ (k : Int) < (qs.length : Int) := by omega
   have HK := hid hkn; clear hO hb hkn; go_wp2_with fail
   have hO := HO.out; rw [HK.out, List.take_length] at hO; go_ret
   exact ⟨_, rfl, by rw [HK.out]; exact hO, HB.out⟩
end
section
open Go.RowKit Go.Shelf Rn Ch
open At hiding put
open Cp (Piece)
attribute [local go_sem] Oper.semAt_some
structure KpOk5 (Kp : World → World → Prop) : Prop where
 trans : ∀ {x y z}, Kp x y → Kp y z → Kp x z
 below : ∀ {x y}, Below x.heap.size x y → Kp x y
 put : ∀ (W : World) (l : Nat) (o o' : Obj), W.heap[l]? = some o → o.isCells = false → Kp W (W.putObj l o')
set_option maxRecDepth 100000 in
theorem rest5_any (w : World) : Calls Try.prog 47 #[] w fun e w' => e = .returned (op5 restQ5) ∧ Below w.heap.size w w' := by
 have e5 : op5 restQ5 = .agg #[.int .i64 1, .int .i64 9223372036854775807, .string ⟨#[]⟩, .slice none 0 0, .int .i64 9223372036854775807] := by
  show Value.agg #[_, _, _, _, .int .i64 (szO restQ5.1)] = _
  rw [szO_rest]; rfl
 rw [e5]; go_enter Try.func47, Try.ntmps47
 go_wp2_with fail
 refine bodyPost_ret (results_op1 rfl rfl (heap_new _ _)) rfl ?_; exact ⟨rfl, below_box w _⟩
theorem rest5L_any (w : World) : Calls Try.prog 47 #[] w fun e w' => e = .returned (.agg #[.int .i64 1, .int .i64 9223372036854775807, .string ⟨#[]⟩, .slice none 0 0, .int .i64 9223372036854775807]) ∧ Below w.heap.size w w' := by
 have e5 : op5 restQ5 = .agg #[.int .i64 1, .int .i64 9223372036854775807, .string ⟨#[]⟩, .slice none 0 0, .int .i64 9223372036854775807] := by
  show Value.agg #[_, _, _, _, .int .i64 (szO restQ5.1)] = _
  rw [szO_rest]; rfl
 rw [← e5]; exact rest5_any w
set_option maxRecDepth 100000 in
theorem met5_any (rb : Nat) (w : World) :
 Calls Try.prog 49 #[.pointer (some ⟨rb, 0, none⟩)] w fun e w' =>
  e = .returned (.func (.func 71) #[] #[.pointer (some ⟨w.heap.size, 0, none⟩)]) ∧ w' = w.alloc (.cells #[.pointer (some ⟨rb, 0, none⟩)] 112) := by
 go_enter Try.func49, Try.ntmps49
 go_wp2_with fail
 go_ret
 exact ⟨rfl, rfl⟩
abbrev opA4 (q : QV5) : Value := opAgg q.1 (qv q)
end
end Go.Proofs.Ytchceolbbkhnnaa
