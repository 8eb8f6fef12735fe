import Derived.Test.YtchceolbbkhnnaaGP1
import Derived.Test.YtchceolbbkhnnaaGC1
import Derived.Test.YtchceolbbkhnnaaGD1
import Derived.StillTailTactics
import Derived.Deep.QuietTactic
import Derived.Deep.AppendLies
namespace Go.Proofs.Ytchceolbbkhnnaa
section
namespace An
open Rn Ch
open At hiding put
open Cp (Atm atm atms rns1 kA dA iA OkX)
def nA (l : List Atm) : Int := (kA l : Int) - dA l + iA l
def fullA (f : Int) (ops : List OpD) : List Atm := atms ops ++ List.replicate (f - kd ops).toNat (.keep [])
theorem full_sums {f : Int} {ops : List OpD} (h : OkC f ops) : (kA (fullA f ops) : Int) = f ∧ nA (fullA f ops) = f - dl ops + ins ops := by
 obtain ⟨k1, k2, k3⟩ := Cp.sums_atms h.2.2.2.1; have hk := h.2.2.2.2.1; obtain ⟨s1, s2, s3⟩ := Cp.sums_append (atms ops) (List.replicate (f - kd ops).toNat (.keep [])); obtain ⟨t1, t2, t3⟩ := Cp.sums_keep [] (f - kd ops).toNat; unfold nA fullA; omega
end An
end
section
open Go.RowKit Rn Ch
structure RunD where
 text : ByteArray
 attrs : List (ByteArray × ByteArray)
def E (c : Nat) : ByteArray := ⟨(enc c).toArray⟩
end
section
open Go.RowKit Rn Ch
open Lib (hid)
def contB (b : UInt8) : Bool := decide (128 ≤ b.toNat ∧ b.toNat < 192)
def chS (l : List ByteArray) (b : UInt8) : List ByteArray := if contB b then l.dropLast ++ [l.getLastD ⟨#[]⟩ ++ ⟨#[b]⟩] else l ++ [⟨#[b]⟩]
def chF (l : List UInt8) : List ByteArray := l.foldl chS []
theorem chF_snoc (l : List UInt8) (b : UInt8) : chF (l ++ [b]) = chS (chF l) b := by simp [chF]
theorem chS_ne (l : List ByteArray) (b : UInt8) : chS l b ≠ [] := by unfold chS; split <;> simp
theorem chS_len (l : List ByteArray) (b : UInt8) : (chS l b).length ≤ l.length + 1 := by
 unfold chS; split <;> simp
theorem chF_from_len (l : List UInt8) (a : List ByteArray) : (l.foldl chS a).length ≤ a.length + l.length := by
 induction l generalizing a with
 | nil => exact Nat.le_refl _
 | cons b r ih => rw [List.foldl_cons]; have h1 := ih (chS a b); have h2 := chS_len a b; simp only [List.length_cons]; omega
theorem chF_len (l : List UInt8) : (chF l).length ≤ l.length := by have := chF_from_len l []; simpa [chF] using this
theorem chF_take {l : List UInt8} {n : Nat} (h : n < l.length) : chF (l.take (n + 1)) = chS (chF (l.take n)) l[n] := by rw [List.take_succ_eq_append_getElem h, chF_snoc]
theorem chF_ne {l : List UInt8} {n : Nat} (h : n < l.length) (h0 : 0 < n) : chF (l.take n) ≠ [] := by
 obtain ⟨m, rfl⟩ : ∃ m, n = m + 1 := ⟨n - 1, by omega⟩; rw [chF_take (by omega)]; exact chS_ne _ _
theorem chS_size {l : List ByteArray} {b : UInt8} {N : Nat} (h : ∀ x ∈ l, x.size ≤ N) : ∀ x ∈ chS l b, x.size ≤ N + 1 := by
 intro x hx; unfold chS at hx; split at hx
 ·rcases List.mem_append.1 hx with h1 | h1
  ·exact Nat.le_succ_of_le (h x (List.dropLast_subset l h1))
  ·rw [List.mem_singleton] at h1
   subst h1; rw [ByteArray.size_append]; have : (l.getLastD ⟨#[]⟩).size ≤ N := by
    cases hl : l.getLast? with
    | none => rw [List.getLastD_eq_getLast?, hl]; exact Nat.zero_le _
    | some y => rw [List.getLastD_eq_getLast?, hl]; exact h y (List.mem_of_getLast? hl)
   have e : (⟨#[b]⟩ : ByteArray).size = 1 := rfl; omega
 ·rcases List.mem_append.1 hx with h1 | h1
  ·exact Nat.le_succ_of_le (h x h1)
  ·rw [List.mem_singleton] at h1
   subst h1; have e : (⟨#[b]⟩ : ByteArray).size = 1 := rfl; omega
theorem chF_from_size (l : List UInt8) (a : List ByteArray) (N : Nat) (h : ∀ x ∈ a, x.size ≤ N) : ∀ x ∈ l.foldl chS a, x.size ≤ N + l.length := by
 induction l generalizing a N with
 | nil => exact h
 | cons b r ih => rw [List.foldl_cons]; intro x hx; have := ih (chS a b) (N + 1) (chS_size h) x hx; simp only [List.length_cons]; omega
theorem chF_size (l : List UInt8) : ∀ x ∈ chF l, x.size ≤ l.length := fun x hx => by have := chF_from_size l [] 0 (fun y hy => by cases hy) x hx; omega
theorem one_byte (s : ByteArray) (n : Nat) (h : n < s.size) : s.extract n (n + 1) = ⟨#[s[n]]⟩ := by
 apply ba_inj; have e : s.data.toList.length = s.size := rfl; simp [ByteArray.data_extract, Array.toList_extract, List.extract_eq_take_drop]; rw [List.drop_eq_getElem_cons (by rw [e]; exact h)]; simp; rfl
def strV (l : List ByteArray) : List Value := l.map .string
theorem infoStr : (Try.prog.info? 9).map (fun i => (i.zero, i.size, i.bytes)) = some (some (.string ⟨#[]⟩), 1, 16) := by kernel_rfl
set_option maxRecDepth 100000 in
set_option maxHeartbeats 2000000 in
theorem chars_any (s : ByteArray) (w : World) (hs : s.size ≤ 1048576) (h0 : ∀ h : 0 < s.size, contB s[0] = false) :
 Calls Try.prog 56 #[.string s] w fun e w' => ∃ v, e = .returned v ∧ w'.ownsRow w.heap.size 9 1 v (chF s.data.toList).length (strV (chF s.data.toList)) ∧ Below w.heap.size w w' := by
 go_enter Try.func56, Try.ntmps56
 go_wp2_with fail
 go_loopw [3, 4] (fun v i wr => ∃ n : Nat, i = .int .i64 (n : Int) ∧ n ≤ s.size ∧ wr.ownsRow w.heap.size 9 1 v (chF (s.data.toList.take n)).length (strV (chF (s.data.toList.take n))) ∧ Below w.heap.size w wr) (fun _ i _ => s.size - (intOf i).toNat)
 case atStart => exact ⟨0, rfl, Nat.zero_le _, World.ownsRow_nil _ _ _ _, Below.refl _ _⟩
 case round =>
  obtain ⟨n, rfl, hn, hown, hb⟩ := hrel; have hsl : s.data.toList.length = s.size := rfl; have Hown := hid hown; clear hown
  by_cases hlt : n < s.size
  ·have hlt' : (n : Int) < (s.size : Int) := by omega
   have hbb : s[n].toNat < 256 := UInt8.toNat_lt _; have HT := hid (chF_take (l := s.data.toList) (n := n) (by rw [hsl]; exact hlt)); have HL := hid (chF_len (s.data.toList.take n)); have HLT := hid (List.length_take_le n s.data.toList)
   by_cases hc1 : 128 ≤ s[n].toNat
   ·by_cases hc2 : s[n].toNat < 192
    ·have hc1' : (128 : Int) ≤ (s[n].toNat : Int) := by omega
     have hc2' : (s[n].toNat : Int) < 192 := by omega
     have hcb : contB s.data.toList[n] = true := decide_eq_true (by have e : s.data.toList[n] = s[n] := rfl; rw [e]; exact ⟨hc1, hc2⟩); have hn0 : 0 < n := by
      rcases Nat.eq_zero_or_pos n with e | e
      ·subst e
       have := h0 hlt; rw [contB, decide_eq_false_iff_not] at this; exact absurd ⟨hc1, hc2⟩ this
      ·exact e
     have hne := chF_ne (l := s.data.toList) (n := n) (by rw [hsl]; exact hlt) hn0; have hown := Hown.out; have hll := HL.out; have hl2 := HLT.out; have hst := HT.out; have hsz := chF_size (s.data.toList.take n); obtain ⟨l, hl⟩ : ∃ l, l = chF (s.data.toList.take n) := ⟨_, rfl⟩; rw [← hl] at hown hll hne hst hsz; obtain ⟨d, x, hdx⟩ : ∃ d x, l = d ++ [x] := ⟨_, _, (List.dropLast_concat_getLast hne).symm⟩; subst hdx; have HSZ := hid hsz; clear hsz; have hst' : chF (s.data.toList.take (n + 1)) = d ++ [x ++ s.extract n (n + 1)] := by rw [hst, chS, hcb, one_byte s n hlt]; simp; rfl
     have Hst := hid hst'; rw [List.length_append, List.length_singleton] at hown hll; obtain ⟨g, cap, rfl⟩ := ownsRow_succ hown; have e0 : wr.cell? ⟨g, d.length, none⟩ = some (.string x) := by rw [hown.cellAt _ (by omega)]; simp [strV]
     have f0 := hown.frozenAt d.length; have hwr : IntKind.i64.wrap (d.length : Int) = (d.length : Int) := IntWalk.i64_in _ (by omega); have hdn : (0 : Int) ≤ (d.length : Int) := by omega
     have hdl : (d.length : Int) < (d.length : Int) + 1 := by omega
     have hnr : IntKind.i64.wrap ((n : Int) + 1) = (n : Int) + 1 := IntWalk.i64_in _ (by omega); have hn1 : (0 : Int) ≤ (n : Int) + 1 := by omega
     have hn2 : ((n : Int) + 1).toNat = n + 1 := by omega
     obtain ⟨t, ht⟩ : ∃ t, t = s.extract n (n + 1) := ⟨_, rfl⟩; have S2 : ∀ W, (Instr.sliceAt 9 (.string s) (some (.int .i64 (n : Nat))) (some (.int .i64 ((n : Nat) + 1))) none).run Try.prog W = .ok (.string t) W := fun W => by
      rw [run_sliceAt_string W _ _ _ _ _ Try.underlying9, run_slice_string W _ _ .i64 .i64 _ _ Try.underlying9 (by omega) (by omega) (by omega), Int.toNat_natCast, hn2, ht]
     have htz : t.size = 1 := by rw [ht, one_byte s n hlt]; rfl
     have HT2 := hid ht; clear ht; have hxs : x.size ≤ 1048576 := by have := HSZ.out x (by simp); omega
     have hbg : (9223372036854775807 < x.size + t.size) = False := eq_false (by omega); have hbg2 : (9223372036854775807 < x.size + 1) = False := eq_false (by omega); have Hown2 := hid hown; clear hl hne hcb HT Hown HL HLT hst hst' hown hn0; go_wp2_with fail
     go_still_tail 16, (by kernel_rfl)
     change wpList _ _ _ _ _ wr.drew; go_wp2_with fail
     obtain ⟨h1, h2⟩ := Hown2.out.stored d.length (.string (x ++ t)); refine ⟨⟨n + 1, by go_num, by omega, ?_, (hb.grown h2 (by have := hb.size; omega) (fun j hj => (Hown2.out.lt j hj).1)).drew⟩, by simp [intOf]; omega⟩; rw [Hst.out, ← HT2.out]; have e : (strV (d ++ [x])).set d.length (.string (x ++ t)) = strV (d ++ [x ++ t]) := by simp [strV]
     rw [e] at h1; rw [List.length_append, List.length_singleton]; exact h1.drew
    ·have hc1' : (128 : Int) ≤ (s[n].toNat : Int) := by omega
     have hc2' : ¬ (s[n].toNat : Int) < 192 := by omega
     have hcb : contB s.data.toList[n] = false := decide_eq_false (fun h => by have e : s.data.toList[n] = s[n] := rfl; rw [e] at h; omega); have hne : chF (s.data.toList.take (n + 1)) = chF (s.data.toList.take n) ++ [s.extract n (n + 1)] := by rw [HT.out, chS, hcb, one_byte s n hlt]; rfl
     have Hne := hid hne; obtain ⟨i0, hi, hz0, hz1, hz2⟩ := info_parts infoStr; have hown := Hown.out; have hll := HL.out; have hl2 := HLT.out; obtain ⟨l, hl⟩ : ∃ l, l = chF (s.data.toList.take n) := ⟨_, rfl⟩; rw [← hl] at hown hll Hne; clear hl hne hcb HT Hown HL HLT; go_wp2_with (first | (at_builtin; refine wpList_append_own _ rfl _ _ 99 rfl w.heap.size 9 i0 (.string ⟨#[]⟩) 1 16 Try.underlying99 hi hz0 hz1 hz2 rfl (by decide) _ _ _ rfl (hown.alloc _) ⟨wr.heap.size, 0, none⟩ 1 1 [.string (s.extract n (n + 1))] rfl rfl ?_ ?_ ?_ ?_ ?_ ?_))
     all_goals
      first
       | rfl
       | (intro u hu; simp at hu; subst hu; rfl)
       | (unfold maxLen; omega)
       | omega
       | (have := hb.size; simp; omega)
       | (intro j u hj
          match j, hj with
          | 0, hj => simp at hj; subst hj; simp [Addr.add])
       | skip
     intro v' w1 hown' hgrow _; have B1 := (hb.alloc hb.size _).grown hgrow (by have := hb.size; simp; omega) (fun j hj => (hown.lt j hj).1); have HB1 := hid B1; have Hown' := hid hown'; clear hown hown' hgrow hi hz0 hz1 hz2 B1; go_wp2_with fail
     go_roundw
     case rel =>
      refine ⟨n + 1, by go_num, by omega, ?_, HB1.out⟩; rw [Hne.out]; have e : strV (l ++ [s.extract n (n + 1)]) = strV l ++ [.string (s.extract n (n + 1))] := by simp [strV]
      rw [e, List.length_append]; exact Hown'.out
     case measure => simp [intOf]; omega
   ·have hc1' : ¬ (128 : Int) ≤ (s[n].toNat : Int) := by omega
    have hcb : contB s.data.toList[n] = false := decide_eq_false (fun h => by have e : s.data.toList[n] = s[n] := rfl; rw [e] at h; omega); have hne : chF (s.data.toList.take (n + 1)) = chF (s.data.toList.take n) ++ [s.extract n (n + 1)] := by rw [HT.out, chS, hcb, one_byte s n hlt]; rfl
    have Hne := hid hne; obtain ⟨i0, hi, hz0, hz1, hz2⟩ := info_parts infoStr; have hown := Hown.out; have hll := HL.out; have hl2 := HLT.out; obtain ⟨l, hl⟩ : ∃ l, l = chF (s.data.toList.take n) := ⟨_, rfl⟩; rw [← hl] at hown hll Hne; clear hl hne hcb HT Hown HL HLT; go_wp2_with (first | (at_builtin; refine wpList_append_own _ rfl _ _ 99 rfl w.heap.size 9 i0 (.string ⟨#[]⟩) 1 16 Try.underlying99 hi hz0 hz1 hz2 rfl (by decide) _ _ _ rfl (hown.alloc _) ⟨wr.heap.size, 0, none⟩ 1 1 [.string (s.extract n (n + 1))] rfl rfl ?_ ?_ ?_ ?_ ?_ ?_))
    all_goals
     first
      | rfl
      | (intro u hu; simp at hu; subst hu; rfl)
      | (unfold maxLen; omega)
      | omega
      | (have := hb.size; simp; omega)
      | (intro j u hj
         match j, hj with
         | 0, hj => simp at hj; subst hj; simp [Addr.add])
      | skip
    intro v' w1 hown' hgrow _; have B1 := (hb.alloc hb.size _).grown hgrow (by have := hb.size; simp; omega) (fun j hj => (hown.lt j hj).1); have HB1 := hid B1; have Hown' := hid hown'; clear hown hown' hgrow hi hz0 hz1 hz2 B1; go_wp2_with fail
    go_roundw
    case rel =>
     refine ⟨n + 1, by go_num, by omega, ?_, HB1.out⟩; rw [Hne.out]; have e : strV (l ++ [s.extract n (n + 1)]) = strV l ++ [.string (s.extract n (n + 1))] := by simp [strV]
     rw [e, List.length_append]; exact Hown'.out
    case measure => simp [intOf]; omega
  ·have hkn : n = s.size := by omega
   have ht : s.data.toList.take n = s.data.toList := List.take_of_length_le (by omega); rw [ht] at Hown; subst hkn; go_wp2_with fail
   go_ret
   exact ⟨_, rfl, Hown.out, hb⟩
end
section
open Go.RowKit Rn Ch
theorem contB_ofNat {k : Nat} (h : k < 256) : contB (UInt8.ofNat k) = decide (128 ≤ k ∧ k < 192) := by
 unfold contB; rw [UInt8.toNat_ofNat', Nat.mod_eq_of_lt (by simpa using h)]
theorem chS_cont {l : List ByteArray} {x : ByteArray} {b : UInt8} (h : contB b = true) : chS (l ++ [x]) b = l ++ [x ++ ⟨#[b]⟩] := by
 unfold chS; rw [h]; simp
theorem chS_first {l : List ByteArray} {b : UInt8} (h : contB b = false) : chS l b = l ++ [⟨#[b]⟩] := by
 unfold chS; rw [h]; simp
theorem enc_head {c : Nat} (hc : ok c) : ∃ b t, enc c = b :: t ∧ contB b = false ∧ ∀ x ∈ t, contB x = true := by
 unfold ok at hc; unfold enc; split
 ·exact ⟨_, _, rfl, by rw [contB_ofNat (by omega)]; exact decide_eq_false (by omega), fun x hx => by cases hx⟩
 ·split
  ·refine ⟨_, _, rfl, by rw [contB_ofNat (by omega)]; exact decide_eq_false (by omega), fun x hx => ?_⟩
   simp only [List.mem_singleton] at hx; subst hx; rw [contB_ofNat (by omega)]; exact decide_eq_true (by omega)
  ·split
   ·refine ⟨_, _, rfl, by rw [contB_ofNat (by omega)]; exact decide_eq_false (by omega), fun x hx => ?_⟩
    simp only [List.mem_cons, List.not_mem_nil, or_false] at hx; rcases hx with rfl | rfl
    all_goals rw [contB_ofNat (by omega)]; exact decide_eq_true (by omega)
   ·refine ⟨_, _, rfl, by rw [contB_ofNat (by omega)]; exact decide_eq_false (by omega), fun x hx => ?_⟩
    simp only [List.mem_cons, List.not_mem_nil, or_false] at hx; rcases hx with rfl | rfl | rfl
    all_goals rw [contB_ofNat (by omega)]; exact decide_eq_true (by omega)
theorem fold_cont {t : List UInt8} (h : ∀ x ∈ t, contB x = true) (l : List ByteArray) (x : ByteArray) : t.foldl chS (l ++ [x]) = l ++ [⟨(x.data.toList ++ t).toArray⟩] := by
 induction t generalizing x with
 | nil =>
   rw [List.foldl_nil]
   congr 2
   apply ba_inj; simp
 | cons b r ih =>
   rw [List.foldl_cons, chS_cont (h b (List.mem_cons_self ..)), ih (fun y hy => h y (List.mem_cons_of_mem _ hy))]
   congr 2
   apply ba_inj; simp [ByteArray.data_append]
theorem fold_enc {c : Nat} (hc : ok c) (l : List ByteArray) : (enc c).foldl chS l = l ++ [E c] := by
 obtain ⟨b, t, he, h1, h2⟩ := enc_head hc; unfold E; rw [he, List.foldl_cons, chS_first h1, fold_cont h2]; rfl
theorem fold_txt {cs : List Nat} (h : allOk cs) (l : List ByteArray) : (txt cs).foldl chS l = l ++ cs.map E := by
 induction cs generalizing l with
 | nil => simp [txt]
 | cons c r ih =>
   rw [txt_cons, List.foldl_append, fold_enc (h c (List.mem_cons_self ..)), ih (fun x hx => h x (List.mem_cons_of_mem _ hx))]; simp
theorem chF_txt {cs : List Nat} (h : allOk cs) : chF (txt cs) = cs.map E := by
 unfold chF; rw [fold_txt h]; rfl
theorem first_txt {cs : List Nat} (h : allOk cs) (h0 : 0 < (T cs).size) : contB (T cs)[0] = false := by
 cases cs with
 | nil => rw [T_size, txt_nil] at h0; cases h0
 | cons c r =>
   obtain ⟨b, t, he, h1, _⟩ := enc_head (h c (List.mem_cons_self ..)); have e : (T (c :: r)).data.toList = b :: (t ++ txt r) := by rw [T_data, txt_cons, he]; rfl
   have e2 : (T (c :: r))[0] = (T (c :: r)).data.toList[0]'(by rw [e]; simp) := rfl; rw [e2]; simp only [e, List.getElem_cons_zero]; exact h1
theorem charsT_any (s : ByteArray) (cs : List Nat) (w : World) (hs : s.size ≤ 1048576) (h : rd s.data.toList = some cs) :
 Calls Try.prog 56 #[.string s] w fun e w' => ∃ v, e = .returned v ∧ w'.ownsRow w.heap.size 9 1 v cs.length (strV (cs.map E)) ∧ Below w.heap.size w w' := by
 have hT := rd_T h; have hok := (rd_some h).1; have hf : chF s.data.toList = cs.map E := by rw [(rd_some h).2.1]; exact chF_txt hok
 have hc := chars_any s w hs (fun h0 => by subst hT; exact first_txt hok h0); rw [hf, List.length_map] at hc; exact hc
end
end Go.Proofs.Ytchceolbbkhnnaa
