import Derived.Test.YtadookafnfnaoaaGreatDoorProg
import Derived.Lib.Hide
import Derived.Below
import Derived.WalkKit
import Derived.WalkLawsBesides
import Derived.WalkSpells
import Derived.Deep.CutBlock
import Derived.Deep.DeepCutAuto
import Derived.Deep.LoopGhost
import Derived.Lib.OthersKept
import Derived.Deep.QuietTactic
import Derived.BigQuiet
import Derived.Laws.StructEq
/- Plain rising rows of keys and values: what a key has, putting one in, and the four works on them. -/
namespace Go.Proofs.YtadookafnfnaoaaGreatDoor
namespace At
abbrev K := ByteArray
abbrev V := ByteArray

/-- An order without equals, of any two one way. -/
structure Strict (lt : K → K → Bool) : Prop where
  irr : ∀ a, lt a a = false
  tr : ∀ a b c, lt a b = true → lt b c = true → lt a c = true
  tot : ∀ a b, a ≠ b → lt a b = true ∨ lt b a = true
def look : List (K × V) → K → Option V
  | [], _ => none
  | x :: r, k => if x.1 = k then some x.2 else look r k
def Rises (lt : K → K → Bool) (l : List (K × V)) : Prop := l.Pairwise fun x y => lt x.1 y.1 = true
def put (lt : K → K → Bool) : List (K × V) → K × V → List (K × V)
  | [], p => [p]
  | q :: r, p => if lt q.1 p.1 = true then q :: put lt r p else p :: q :: r

variable {lt : K → K → Bool}
theorem Strict.ne (h : Strict lt) {a b : K} (hl : lt a b = true) : a ≠ b := fun e => by
  subst e
  rw [h.irr] at hl
  cases hl
theorem look_none {l : List (K × V)} {k : K} (h : ∀ x ∈ l, x.1 ≠ k) : look l k = none := by
  induction l with
  | nil => rfl
  | cons x r ih => rw [look, if_neg (h x (List.mem_cons_self ..)), ih fun y hy => h y (List.mem_cons_of_mem _ hy)]
theorem Rises.tail {x : K × V} {r : List (K × V)} (h : Rises lt (x :: r)) : Rises lt r := (List.pairwise_cons.1 h).2
theorem Rises.head (hs : Strict lt) {x : K × V} {r : List (K × V)} (h : Rises lt (x :: r)) : look r x.1 = none :=
  look_none fun y hy e => hs.ne ((List.pairwise_cons.1 h).1 y hy) e.symm
theorem Rises.before (hs : Strict lt) {x : K × V} {r : List (K × V)} (h : Rises lt (x :: r)) {k : K} (hk : lt k x.1 = true) : look (x :: r) k = none :=
  look_none fun y hy e => by
    rcases List.mem_cons.1 hy with rfl | hy
    · exact hs.ne hk e.symm
    · exact hs.ne (hs.tr _ _ _ hk ((List.pairwise_cons.1 h).1 y hy)) e.symm
/-- Two rising rows that answer alike are one. -/
theorem ext (hs : Strict lt) {l m : List (K × V)} (hl : Rises lt l) (hm : Rises lt m) (h : ∀ k, look l k = look m k) : l = m := by
  induction l generalizing m with
  | nil =>
    cases m with
    | nil => rfl
    | cons y s => have := h y.1; rw [look, look, if_pos rfl] at this; cases this
  | cons x r ih =>
    cases m with
    | nil => have := h x.1; rw [look, look, if_pos rfl] at this; cases this
    | cons y s =>
      have e1 : x.1 = y.1 := Decidable.byContradiction fun hne => by
        rcases hs.tot _ _ hne with hlt | hlt
        · have := h x.1
          rw [hm.before hs hlt, look, if_pos rfl] at this
          cases this
        · have := h y.1
          rw [hl.before hs hlt, look, if_pos rfl] at this
          cases this
      have e2 : x.2 = y.2 := by
        have := h x.1
        rw [look, if_pos rfl, look, if_pos e1.symm] at this
        exact Option.some.inj this
      have e3 : x = y := Prod.ext e1 e2
      subst e3
      rw [ih hl.tail hm.tail fun k => ?_]
      by_cases hk : x.1 = k
      · subst hk
        rw [hl.head hs, hm.head hs]
      · have := h k
        rwa [look, if_neg hk, look, if_neg hk] at this

end At
end Go.Proofs.YtadookafnfnaoaaGreatDoor
/- What a key is, what a value is: the document's own answers. -/
namespace Go.Proofs.YtadookafnfnaoaaGreatDoor
open Go.RowKit At

def okc (n : Nat) : Bool := decide (65 ≤ n ∧ n ≤ 90 ∨ 97 ≤ n ∧ n ≤ 122 ∨ 48 ≤ n ∧ n ≤ 57 ∨ n = 45 ∨ n = 95)
def okv (n : Nat) : Bool := decide (32 ≤ n ∧ n ≤ 126)
def allC (q : Nat → Bool) (s : ByteArray) : Prop := ∀ k (h : k < s.size), q (s[k].toNat) = true
instance (q : Nat → Bool) (s : ByteArray) : Decidable (allC q s) := inferInstanceAs (Decidable (∀ k (_h : k < s.size), _))
def keyB (s : ByteArray) : Bool := decide (allC okc s ∧ 1 ≤ s.size ∧ s.size ≤ 32)
def valB (s : ByteArray) : Bool := decide (allC okv s ∧ s.size ≤ 64)

theorem keyB_bad {s : ByteArray} {k : Nat} (hk : k < s.size) (h : okc (s[k].toNat) = false) : keyB s = false :=
  decide_eq_false fun hh => by
    have := hh.1 k hk
    rw [h] at this
    cases this
theorem valB_bad {s : ByteArray} {k : Nat} (hk : k < s.size) (h : okv (s[k].toNat) = false) : valB s = false :=
  decide_eq_false fun hh => by
    have := hh.1 k hk
    rw [h] at this
    cases this

set_option maxHeartbeats 4000000 in
theorem key_any (s : ByteArray) (w : World) (hs : s.size ≤ maxLen) : Calls Tryz.prog 100 #[.string s] w fun e w' => e = .returned (.bool (keyB s)) ∧ w' = w := by
  have hs' : s.size ≤ 9223372036854775807 := hs
  go_enter Tryz.func100, Tryz.ntmps100
  go_wp2_with fail
  go_loopw [3, 4] (fun i _ wr => ∃ k : Nat, i = .int .i64 (k : Int) ∧ k ≤ s.size ∧ (∀ j (h : j < s.size), j < k → okc (s[j].toNat) = true) ∧ wr = w) (fun i _ _ => s.size - (intOf i).toNat)
  case atStart => exact ⟨0, rfl, by omega, fun j _ h => by omega, rfl⟩
  case round =>
    obtain ⟨k, rfl, hk, hall, rfl⟩ := hrel
    have Hall := Lib.hid hall
    clear hall
    by_cases hlt : k < s.size
    · have hlt' : (k : Int) < (s.size : Int) := by omega
      have step : okc (s[k].toNat) = true → ∀ j (h : j < s.size), j < k + 1 → okc (s[j].toNat) = true := fun h0 j hj hjk => by
        by_cases e : j = k
        · subst e; exact h0
        · exact Hall.out j hj (by omega)
      have Step := Lib.hid step
      have Bad := Lib.hid (fun h => keyB_bad (s := s) hlt h)
      clear step
      go_wp2_with fail
      all_goals
        first
          | (refine ⟨⟨k + 1, by go_num, by omega, Step.out ?_, by trivial⟩, by simp [intOf]; omega⟩
             clear Hall Step Bad
             unfold okc
             rw [decide_eq_true_iff]
             generalize s[k].toNat = c at *
             simp at *
             omega)
          | (go_ret
             refine ⟨(congrArg (fun b => Ending.returned (Value.bool b)) (Bad.out ?_).symm : Ending.returned (.bool false) = _), by trivial⟩
             clear Hall Step Bad
             unfold okc
             rw [decide_eq_false_iff_not]
             generalize s[k].toNat = c at *
             simp at *
             omega)
          | skip
    · have hkn : k = s.size := by omega
      subst hkn
      have hd : keyB s = decide (1 ≤ s.size ∧ s.size ≤ 32) := by
        unfold keyB
        congr 1
        exact propext ⟨fun h => h.2, fun h => ⟨fun j hj => Hall.out j hj hj, h⟩⟩
      have Hd := Lib.hid hd
      clear hd
      by_cases h1 : 1 ≤ s.size
      · have h1' : (1 : Int) ≤ (s.size : Int) := by omega
        have hd2 : (decide ((s.size : Int) ≤ 32)) = keyB s := by
          rw [Hd.out]
          by_cases h2 : s.size ≤ 32
          · rw [decide_eq_true (show (s.size : Int) ≤ 32 by omega), decide_eq_true ⟨h1, h2⟩]
          · rw [decide_eq_false (show ¬ (s.size : Int) ≤ 32 by omega), decide_eq_false fun h => h2 h.2]
        have Hd2 := Lib.hid hd2
        clear hd2
        go_wp2_with fail
        go_ret
        exact ⟨congrArg (fun b => Ending.returned (Value.bool b)) Hd2.out, rfl⟩
      · have hz : s.size = 0 := by omega
        have hd2 : false = keyB s := by
          rw [Hd.out, decide_eq_false fun h => h1 h.1]
        have Hd2 := Lib.hid hd2
        clear hd2
        have h1' : decide ((1 : Int) ≤ (s.size : Int)) = false := by rw [hz]; rfl
        clear hz
        go_wp2_with fail
        go_ret
        exact ⟨congrArg (fun b => Ending.returned (Value.bool b)) Hd2.out, rfl⟩

set_option maxHeartbeats 4000000 in
theorem value_any (s : ByteArray) (w : World) (hs : s.size ≤ maxLen) : Calls Tryz.prog 101 #[.string s] w fun e w' => e = .returned (.bool (valB s)) ∧ w' = w := by
  have hs' : s.size ≤ 9223372036854775807 := hs
  go_enter Tryz.func101, Tryz.ntmps101
  go_wp2_with fail
  go_loopw [3] (fun i wr => ∃ k : Nat, i = .int .i64 (k : Int) ∧ k ≤ s.size ∧ (∀ j (h : j < s.size), j < k → okv (s[j].toNat) = true) ∧ wr = w) (fun i _ => s.size - (intOf i).toNat)
  case atStart => exact ⟨0, rfl, by omega, fun j _ h => by omega, rfl⟩
  case round =>
    obtain ⟨k, rfl, hk, hall, rfl⟩ := hrel
    have Hall := Lib.hid hall
    clear hall
    by_cases hlt : k < s.size
    · have hlt' : (k : Int) < (s.size : Int) := by omega
      have step : okv (s[k].toNat) = true → ∀ j (h : j < s.size), j < k + 1 → okv (s[j].toNat) = true := fun h0 j hj hjk => by
        by_cases e : j = k
        · subst e; exact h0
        · exact Hall.out j hj (by omega)
      have Step := Lib.hid step
      have Bad := Lib.hid (fun h => valB_bad (s := s) hlt h)
      clear step
      go_wp2_with fail
      all_goals
        first
          | (refine ⟨⟨k + 1, by go_num, by omega, Step.out ?_, by trivial⟩, by simp [intOf]; omega⟩
             clear Hall Step Bad
             unfold okv
             rw [decide_eq_true_iff]
             generalize s[k].toNat = c at *
             simp at *
             omega)
          | (go_ret
             refine ⟨(congrArg (fun b => Ending.returned (Value.bool b)) (Bad.out ?_).symm : Ending.returned (.bool false) = _), by trivial⟩
             clear Hall Step Bad
             unfold okv
             rw [decide_eq_false_iff_not]
             generalize s[k].toNat = c at *
             simp at *
             omega)
          | skip
    · have hkn : k = s.size := by omega
      subst hkn
      have hd : decide ((s.size : Int) ≤ 64) = valB s := by
        unfold valB
        by_cases h2 : s.size ≤ 64
        · rw [decide_eq_true (show (s.size : Int) ≤ 64 by omega), decide_eq_true ⟨fun j hj => Hall.out j hj hj, h2⟩]
        · rw [decide_eq_false (show ¬ (s.size : Int) ≤ 64 by omega), decide_eq_false fun h => h2 h.2]
      have Hd := Lib.hid hd
      clear hd
      go_wp2_with fail
      go_ret
      exact ⟨congrArg (fun b => Ending.returned (Value.bool b)) Hd.out, rfl⟩
end Go.Proofs.YtadookafnfnaoaaGreatDoor
/- Rows of attributes in memory; their order. -/
namespace Go.Proofs.YtadookafnfnaoaaGreatDoor
open Go.RowKit

/-- A row of attributes, nil or not: each element is two cells, a key's and a value's. -/
def AtRow (w : World) (v : Value) (l : List (ByteArray × ByteArray)) : Prop :=
  ∃ a cap, v = .slice a l.length cap ∧ l.length ≤ cap ∧ cap ≤ maxLen ∧ ∀ i (h : i < l.length), ∃ b off, a = some ⟨b, off, none⟩ ∧ b < w.heap.size ∧ w.cell? ⟨b, off + i * 2, none⟩ = some (.string l[i].1) ∧ w.cell? ⟨b, off + i * 2 + 1, none⟩ = some (.string l[i].2)
theorem AtRow.below {w w' : World} {v : Value} {l : List (ByteArray × ByteArray)} (h : AtRow w v l) (hb : Below w.heap.size w w') : AtRow w' v l := by
  obtain ⟨a, cap, rfl, h1, h2, h3⟩ := h
  refine ⟨a, cap, rfl, h1, h2, fun i hi => ?_⟩
  obtain ⟨b, off, rfl, hlt, hc, hd⟩ := h3 i hi
  exact ⟨b, off, rfl, Nat.lt_of_lt_of_le hlt hb.size, by rw [hb.cell (by exact hlt)]; exact hc, by rw [hb.cell (by exact hlt)]; exact hd⟩

theorem toList_ba {a b : ByteArray} (h : a.toList = b.toList) : a = b := by
  rw [ByteArray.toList_eq, ByteArray.toList_eq] at h
  cases a; cases b; simp_all

/-- Are the first n a change's, and the rest? -/
def chgOne (l : List (ByteArray × ByteArray)) (i : Nat) (h : i < l.length) : Bool := keyB l[i].1 && valB l[i].2 && (if h0 : 0 < i then Op.bytesLess (l[i - 1]'(by omega)).1.toList l[i].1.toList else true)
def chgB (l : List (ByteArray × ByteArray)) : Bool := decide (l.length ≤ 8 ∧ ∀ i (h : i < l.length), chgOne l i h = true)
def chgE (l : List (ByteArray × ByteArray)) : Int := if chgB l = true then 0 else 20
theorem chgE_bad {l : List (ByteArray × ByteArray)} {i : Nat} (h : i < l.length) (hb : chgOne l i h = false) : chgE l = 20 := by
  have : chgB l = false := decide_eq_false fun hh => by
    have := hh.2 i h
    rw [hb] at this
    cases this
  unfold chgE
  rw [this]; rfl
theorem chgE_long {l : List (ByteArray × ByteArray)} (h : 8 < l.length) : chgE l = 20 := by
  have : chgB l = false := decide_eq_false fun hh => by have := hh.1; omega
  unfold chgE
  rw [this]; rfl
theorem chgE_ok {l : List (ByteArray × ByteArray)} (h : l.length ≤ 8) (hh : ∀ i (h : i < l.length), chgOne l i h = true) : chgE l = 0 := by
  have : chgB l = true := decide_eq_true ⟨h, hh⟩
  unfold chgE
  rw [this]; rfl
theorem less_not : ∀ x y : List UInt8, (Op.bytesLess x y || x == y) = !(Op.bytesLess y x)
  | [], [] => rfl
  | [], _ :: _ => rfl
  | _ :: _, [] => rfl
  | a :: x, b :: y => by
    have ih := less_not x y
    rw [Op.bytesLess, Op.bytesLess]
    by_cases hab : a = b
    · subst hab
      simp only [UInt8.lt_irrefl, decide_false, Bool.false_or, beq_self_eq_true, Bool.true_and]
      rw [← ih]
      simp
    · have hba : ¬ b = a := fun e => hab e.symm
      have h1 : ((a :: x) == (b :: y)) = false := by simp [hab]
      have h2 : (a == b) = false := by simp [hab]
      have h3 : (b == a) = false := by simp [hba]
      rw [h1, h2, h3]
      simp only [Bool.false_and, Bool.or_false]
      rcases Nat.lt_trichotomy a.toNat b.toNat with h | h | h
      · rw [decide_eq_true (show a < b from h), decide_eq_false (show ¬ b < a from fun h' => absurd (show b.toNat < a.toNat from h') (by omega))]; rfl
      · exact absurd (UInt8.toNat_inj.1 h) hab
      · rw [decide_eq_false (show ¬ a < b from fun h' => absurd (show a.toNat < b.toNat from h') (by omega)), decide_eq_true (show b < a from h)]; rfl
theorem leq_not (a b : ByteArray) : (Op.bytesLess a.toList b.toList || a.toList == b.toList) = !(Op.bytesLess b.toList a.toList) := less_not _ _

end Go.Proofs.YtadookafnfnaoaaGreatDoor
/- Are two rows of attributes the same: the document's. -/
namespace Go.Proofs.YtadookafnfnaoaaGreatDoor
open Go.RowKit

theorem ext_le {l m : List (ByteArray × ByteArray)} (hl : l.length = m.length) (h : ∀ j (h1 : j < l.length) (h2 : j < m.length), l[j] = m[j]) : l = m :=
  List.ext_getElem hl h

def sameB (l m : List (ByteArray × ByteArray)) : Bool := decide (l = m)
theorem sameB_len {l m : List (ByteArray × ByteArray)} (h : l.length ≠ m.length) : sameB l m = false := decide_eq_false fun e => h (by rw [e])
theorem sameB_at {l m : List (ByteArray × ByteArray)} {n : Nat} (h1 : n < l.length) (h2 : n < m.length) (h : l[n] ≠ m[n]) : sameB l m = false := decide_eq_false fun e => by
  subst e; exact h rfl
theorem sameB_all {l m : List (ByteArray × ByteArray)} (hl : l.length = m.length) (h : ∀ j (h1 : j < l.length) (h2 : j < m.length), l[j] = m[j]) : sameB l m = true := decide_eq_true (ext_le hl h)

set_option maxHeartbeats 2000000 in
theorem refSame_any (v u : Value) (l m : List (ByteArray × ByteArray)) (w : World) (hv : AtRow w v l) (hu : AtRow w u m) :
    Calls Tryz.prog 51 #[v, u] w fun e w' => e = .returned (.bool (sameB l m)) ∧ ∃ k, w' = w.drewN k := by
  obtain ⟨a, cap, rfl, h1, h2, h3⟩ := hv
  obtain ⟨a', cap', rfl, h1', h2', h3'⟩ := hu
  have hn : l.length ≤ 9223372036854775807 := Nat.le_trans h1 h2
  have hn' : m.length ≤ 9223372036854775807 := Nat.le_trans h1' h2'
  have H3 := Lib.hid h3
  have H3' := Lib.hid h3'
  clear h3 h3'
  by_cases hlen : l.length = m.length
  · have Hlen := Lib.hid hlen
    have hle2 : ((l.length : Int) == (m.length : Int)) = true := by rw [hlen]; simp
    have hle3 : ((l.length : Int) != (m.length : Int)) = false := by rw [hlen]; simp
    clear hlen
    go_enter Tryz.func51, Tryz.ntmps51
    go_wp2_with fail
    go_loopw [5] (fun i wr => ∃ n k : Nat, i = .int .i64 (n : Int) ∧ n ≤ l.length ∧ (∀ j (h1 : j < l.length) (h2 : j < m.length), j < n → l[j] = m[j]) ∧ wr = w.drewN k) (fun i _ => l.length - (intOf i).toNat)
    case atStart => exact ⟨0, 0, rfl, by omega, fun j _ _ h => by omega, rfl⟩
    case round =>
      obtain ⟨n, k, rfl, hk, hall, rfl⟩ := hrel
      have Hall := Lib.hid hall
      clear hall
      by_cases hlt : n < l.length
      · have hlt2 : n < m.length := by have := Hlen.out; omega
        have hlt' : (n : Int) < (l.length : Int) := by omega
        have hlt2' : (n : Int) < (m.length : Int) := by omega
        obtain ⟨b, off, rfl, _, x1, z1⟩ := H3.out n hlt
        obtain ⟨b', off', rfl, _, x2, z2⟩ := H3'.out n hlt2
        by_cases hk1 : l[n].1 = m[n].1
        · by_cases hk2 : l[n].2 = m[n].2
          · have step : ∀ j (h1 : j < l.length) (h2 : j < m.length), j < n + 1 → l[j] = m[j] := fun j hj1 hj2 hjk => by
              by_cases e : j = n
              · subst e; exact Prod.ext hk1 hk2
              · exact Hall.out j hj1 hj2 (by omega)
            have Step := Lib.hid step
            have t1 : (l[n].1.toList == m[n].1.toList) = true := by rw [hk1]; simp
            have t2 : (l[n].2.toList == m[n].2.toList) = true := by rw [hk2]; simp
            clear step Hall hk1 hk2
            go_wp2_with fail
            go_quiet (fail)
            go_wp2_with fail
            go_roundw
            case rel => exact ⟨n + 1, _, by go_num, by omega, Step.out, rfl⟩
            case measure => simp [intOf]; omega
          · have hs := Lib.hid (sameB_at hlt hlt2 fun e => hk2 (congrArg Prod.snd e))
            have t1 : (l[n].1.toList == m[n].1.toList) = true := by rw [hk1]; simp
            have t2 : (l[n].2.toList == m[n].2.toList) = false := by rw [beq_eq_false_iff_ne]; exact fun e => hk2 (toList_ba e)
            clear Hall hk1 hk2
            go_wp2_with fail
            go_quiet (fail)
            go_wp2_with fail
            go_ret
            rw [hs.out]
            exact ⟨rfl, k + nq, by rw [World.drewN_drewN]⟩
        · have hs := Lib.hid (sameB_at hlt hlt2 fun e => hk1 (congrArg Prod.fst e))
          have t1 : (l[n].1.toList == m[n].1.toList) = false := by rw [beq_eq_false_iff_ne]; exact fun e => hk1 (toList_ba e)
          clear Hall hk1
          go_wp2_with fail
          go_quiet (fail)
          go_wp2_with fail
          go_ret
          rw [hs.out]
          exact ⟨rfl, k + nq, by rw [World.drewN_drewN]⟩
      · have hkn : n = l.length := by omega
        have hs := Lib.hid (sameB_all Hlen.out fun j h1 h2 => Hall.out j h1 h2 (by omega))
        subst hkn
        clear Hall
        go_wp2_with fail
        go_ret
        rw [hs.out]
        exact ⟨rfl, k, rfl⟩
  · have hs := Lib.hid (sameB_len hlen)
    have hle2 : ((l.length : Int) == (m.length : Int)) = false := by rw [beq_eq_false_iff_ne]; omega
    have hle3 : ((l.length : Int) != (m.length : Int)) = true := by rw [bne_iff_ne]; omega
    clear hlen
    go_enter Tryz.func51, Tryz.ntmps51
    go_wp2_with fail
    go_ret
    rw [hs.out]
    exact ⟨rfl, 0, rfl⟩

end Go.Proofs.YtadookafnfnaoaaGreatDoor
/- The program's key, plain, and their closures: which bytes, all of them, how many. -/
namespace Go.Proofs.YtadookafnfnaoaaGreatDoor
open Go.RowKit

set_option maxHeartbeats 1000000 in
theorem plain1_any (c : Nat) (w : World) : Calls Tryz.prog 140 #[.int .u8 (c : Int)] w fun e w' => e = .returned (.bool (okv c)) ∧ w' = w := by
  go_enter Tryz.func140, Tryz.ntmps140
  go_wp2_with fail
  all_goals
    go_ret
    refine ⟨congrArg (fun b => Ending.returned (Value.bool b)) ?_, rfl⟩
    unfold okv
    rw [Bool.eq_iff_iff]
    simp
    omega

set_option maxHeartbeats 1000000 in
theorem key1_any (c : Nat) (w : World) : Calls Tryz.prog 143 #[.int .u8 (c : Int)] w fun e w' => e = .returned (.bool (okc c)) ∧ w' = w := by
  go_enter Tryz.func143, Tryz.ntmps143
  go_wp2_with fail
  all_goals
    go_ret
    refine ⟨congrArg (fun b => Ending.returned (Value.bool b)) ?_, rfl⟩
    unfold okc
    rw [Bool.eq_iff_iff]
    simp
    omega

def allB (q : Nat → Bool) (s : ByteArray) : Bool := decide (allC q s)
theorem allB_bad {q : Nat → Bool} {s : ByteArray} {k : Nat} (hk : k < s.size) (h : q (s[k].toNat) = false) : allB q s = false :=
  decide_eq_false fun hh => by
    have := hh k hk
    rw [h] at this
    cases this
theorem allB_all {q : Nat → Bool} {s : ByteArray} (h : ∀ k (h : k < s.size), q (s[k].toNat) = true) : allB q s = true := decide_eq_true h

set_option maxHeartbeats 1000000 in
theorem allPlain_any (s : ByteArray) (w : World) (hs : s.size ≤ maxLen) : Calls Tryz.prog 139 #[.string s, .func (.func 140) #[] #[]] w fun e w' => e = .returned (.bool (allB okv s)) ∧ w' = w := by
  have hs' : s.size ≤ 9223372036854775807 := hs
  go_enter Tryz.func139, Tryz.ntmps139
  go_wp2_with fail
  go_loopw [8] (fun i wr => ∃ k : Nat, i = .int .i64 (k : Int) ∧ k ≤ s.size ∧ (∀ j (h : j < s.size), j < k → okv (s[j].toNat) = true) ∧ wr = w) (fun i _ => s.size - (intOf i).toNat)
  case atStart => exact ⟨0, rfl, by omega, fun j _ h => by omega, rfl⟩
  case round =>
    obtain ⟨k, rfl, hk, hall, rfl⟩ := hrel
    have Hall := Lib.hid hall
    clear hall
    by_cases hlt : k < s.size
    · have hlt' : (k : Int) < (s.size : Int) := by omega
      go_wp2_with fail
      refine (plain1_any _ _).mono ?_
      rintro e w1 ⟨rfl, rfl⟩
      cases hq : okv (s[k].toNat) with
      | true =>
        have step : ∀ j (h : j < s.size), j < k + 1 → okv (s[j].toNat) = true := fun j hj hjk => by
          by_cases e : j = k
          · subst e; exact hq
          · exact Hall.out j hj (by omega)
        have Step := Lib.hid step
        clear step Hall
        go_wp2_with fail
        go_roundw
        case rel => exact ⟨k + 1, by go_num, by omega, Step.out, by trivial⟩
        case measure => simp [intOf]; omega
      | false =>
        have hb := Lib.hid (allB_bad hlt hq)
        clear Hall
        go_wp2_with fail
        go_ret
        rw [hb.out]
        exact ⟨rfl, rfl⟩
    · have hkn : k = s.size := by omega
      subst hkn
      have hb := Lib.hid (allB_all fun j h => Hall.out j h h)
      clear Hall
      go_wp2_with fail
      go_ret
      rw [hb.out]
      exact ⟨rfl, rfl⟩
set_option maxHeartbeats 1000000 in
theorem allKey_any (s : ByteArray) (w : World) (hs : s.size ≤ maxLen) : Calls Tryz.prog 139 #[.string s, .func (.func 143) #[] #[]] w fun e w' => e = .returned (.bool (allB okc s)) ∧ w' = w := by
  have hs' : s.size ≤ 9223372036854775807 := hs
  go_enter Tryz.func139, Tryz.ntmps139
  go_wp2_with fail
  go_loopw [8] (fun i wr => ∃ k : Nat, i = .int .i64 (k : Int) ∧ k ≤ s.size ∧ (∀ j (h : j < s.size), j < k → okc (s[j].toNat) = true) ∧ wr = w) (fun i _ => s.size - (intOf i).toNat)
  case atStart => exact ⟨0, rfl, by omega, fun j _ h => by omega, rfl⟩
  case round =>
    obtain ⟨k, rfl, hk, hall, rfl⟩ := hrel
    have Hall := Lib.hid hall
    clear hall
    by_cases hlt : k < s.size
    · have hlt' : (k : Int) < (s.size : Int) := by omega
      go_wp2_with fail
      refine (key1_any _ _).mono ?_
      rintro e w1 ⟨rfl, rfl⟩
      cases hq : okc (s[k].toNat) with
      | true =>
        have step : ∀ j (h : j < s.size), j < k + 1 → okc (s[j].toNat) = true := fun j hj hjk => by
          by_cases e : j = k
          · subst e; exact hq
          · exact Hall.out j hj (by omega)
        have Step := Lib.hid step
        clear step Hall
        go_wp2_with fail
        go_roundw
        case rel => exact ⟨k + 1, by go_num, by omega, Step.out, by trivial⟩
        case measure => simp [intOf]; omega
      | false =>
        have hb := Lib.hid (allB_bad hlt hq)
        clear Hall
        go_wp2_with fail
        go_ret
        rw [hb.out]
        exact ⟨rfl, rfl⟩
    · have hkn : k = s.size := by omega
      subst hkn
      have hb := Lib.hid (allB_all fun j h => Hall.out j h h)
      clear Hall
      go_wp2_with fail
      go_ret
      rw [hb.out]
      exact ⟨rfl, rfl⟩

def NE (s : ByteArray) : Bool := !(s.toList == [])
theorem valB_eq (s : ByteArray) : valB s = (decide (s.size ≤ 64) && allB okv s) := by
  unfold valB allB
  rw [Bool.eq_iff_iff]
  simp
  exact And.comm
theorem keyB_eq (s : ByteArray) : keyB s = (decide (1 ≤ s.size) && (decide (s.size ≤ 32) && allB okc s)) := by
  unfold keyB allB
  rw [Bool.eq_iff_iff]
  simp
  constructor
  · exact fun ⟨h1, h2, h3⟩ => ⟨h2, h3, h1⟩
  · exact fun ⟨h2, h3, h1⟩ => ⟨h1, h2, h3⟩
theorem size_nil {s : ByteArray} : s.toList = [] ↔ s.size = 0 := by
  rw [ByteArray.toList_eq]
  constructor
  · intro h
    have := congrArg List.length h
    simpa using this
  · intro h
    exact List.eq_nil_of_length_eq_zero (by simpa using h)

set_option maxHeartbeats 1000000 in
theorem plain_any (s : ByteArray) (w : World) (hs : s.size ≤ maxLen) : Calls Tryz.prog 131 #[.string s] w fun e w' => e = .returned (.bool (valB s)) ∧ w' = w := by
  have hs' : s.size ≤ 9223372036854775807 := hs
  have hv := valB_eq s
  by_cases h64 : s.size ≤ 64
  · have h64' : (s.size : Int) ≤ 64 := by omega
    have hv2 : valB s = allB okv s := by rw [hv, decide_eq_true h64]; rfl
    have Hv := Lib.hid hv2
    clear hv hv2
    go_enter Tryz.func131, Tryz.ntmps131
    go_wp2_with fail
    refine (allPlain_any _ _ hs).mono ?_
    rintro e w1 ⟨rfl, rfl⟩
    go_wp2_with fail
    go_ret
    rw [Hv.out]
    exact ⟨rfl, rfl⟩
  · have h64' : decide ((s.size : Int) ≤ 64) = false := by rw [decide_eq_false_iff_not]; omega
    have hv2 : valB s = false := by rw [hv, decide_eq_false h64]; rfl
    have Hv := Lib.hid hv2
    clear hv hv2 h64
    go_enter Tryz.func131, Tryz.ntmps131
    go_wp2_with fail
    go_ret
    rw [Hv.out]
    exact ⟨rfl, rfl⟩

/-- A value that is not empty. -/
def valNE (s : ByteArray) : Bool := decide (1 ≤ s.size) && valB s
set_option maxHeartbeats 1000000 in
theorem right1_any (s : ByteArray) (w : World) (hs : s.size ≤ maxLen) : Calls Tryz.prog 132 #[.string s] w fun e w' => e = .returned (.bool (valNE s)) ∧ w' = w := by
  by_cases h0 : 1 ≤ s.size
  · have hv2 : valNE s = valB s := by unfold valNE; rw [decide_eq_true h0]; rfl
    have Hv := Lib.hid hv2
    have t1 : (s.toList == []) = false := by rw [beq_eq_false_iff_ne]; exact fun e => by have := size_nil.1 e; omega
    have t2 : (s.toList != []) = true := by rw [bne, t1]; rfl
    have t3 : s.toList.isEmpty = false := by cases h : s.toList with | nil => rw [h] at t1; cases t1 | cons _ _ => rfl
    clear hv2
    go_enter Tryz.func132, Tryz.ntmps132
    go_wp2_with fail
    refine (plain_any _ _ hs).mono ?_
    rintro e w1 ⟨rfl, rfl⟩
    go_wp2_with fail
    go_ret
    rw [Hv.out]
    exact ⟨rfl, rfl⟩
  · have hv2 : valNE s = false := by unfold valNE; rw [decide_eq_false h0]; rfl
    have Hv := Lib.hid hv2
    have t0 : s.toList = [] := size_nil.2 (by omega)
    have t3 : s.toList.isEmpty = true := by rw [t0]; rfl
    clear hv2 h0
    go_enter Tryz.func132, Tryz.ntmps132
    go_wp2_with fail
    go_ret
    rw [Hv.out]
    exact ⟨rfl, rfl⟩

set_option maxHeartbeats 1000000 in
theorem keyD_any (s : ByteArray) (w : World) (hs : s.size ≤ maxLen) : Calls Tryz.prog 138 #[.string s] w fun e w' => e = .returned (.bool (keyB s)) ∧ w' = w := by
  have hs' : s.size ≤ 9223372036854775807 := hs
  have hv := keyB_eq s
  by_cases h0 : 1 ≤ s.size
  · have t1 : (s.toList == []) = false := by rw [beq_eq_false_iff_ne]; exact fun e => by have := size_nil.1 e; omega
    have t3 : s.toList.isEmpty = false := by cases h : s.toList with | nil => rw [h] at t1; cases t1 | cons _ _ => rfl
    by_cases h32 : s.size ≤ 32
    · have h32' : (s.size : Int) ≤ 32 := by omega
      have hv2 : keyB s = allB okc s := by rw [hv, decide_eq_true h0, decide_eq_true h32]; rfl
      have Hv := Lib.hid hv2
      clear hv hv2
      go_enter Tryz.func138, Tryz.ntmps138
      go_wp2_with fail
      refine (allKey_any _ _ hs).mono ?_
      rintro e w1 ⟨rfl, rfl⟩
      go_wp2_with fail
      go_ret
      rw [Hv.out]
      exact ⟨rfl, rfl⟩
    · have h32' : decide ((s.size : Int) ≤ 32) = false := by rw [decide_eq_false_iff_not]; omega
      have hv2 : keyB s = false := by rw [hv, decide_eq_true h0, decide_eq_false h32]; rfl
      have Hv := Lib.hid hv2
      clear hv hv2 h32
      go_enter Tryz.func138, Tryz.ntmps138
      go_wp2_with fail
      go_ret
      rw [Hv.out]
      exact ⟨rfl, rfl⟩
  · have hv2 : keyB s = false := by rw [hv, decide_eq_false h0]; rfl
    have Hv := Lib.hid hv2
    have t0 : s.toList = [] := size_nil.2 (by omega)
    have t3 : s.toList.isEmpty = true := by rw [t0]; rfl
    clear hv hv2 h0
    go_enter Tryz.func138, Tryz.ntmps138
    go_wp2_with fail
    go_ret
    rw [Hv.out]
    exact ⟨rfl, rfl⟩
end Go.Proofs.YtadookafnfnaoaaGreatDoor
/- The document's own Change. -/
namespace Go.Proofs.YtadookafnfnaoaaGreatDoor
open Go.RowKit

set_option maxHeartbeats 2000000 in
theorem change_any (v : Value) (l : List (ByteArray × ByteArray)) (w : World) (h : AtRow w v l) (hsz : ∀ x ∈ l, x.1.size ≤ maxLen ∧ x.2.size ≤ maxLen) :
    Calls Tryz.prog 83 #[v] w fun e w' => e = .returned (.int .i64 (chgE l)) ∧ ∃ m, w' = w.drewN m := by
  obtain ⟨a, cap, rfl, h1, h2, h3⟩ := h
  have hn : l.length ≤ 9223372036854775807 := Nat.le_trans h1 h2
  have H3 := Lib.hid h3
  have Hsz := Lib.hid hsz
  clear h3 hsz
  go_enter Tryz.func83, Tryz.ntmps83
  by_cases h8 : 8 < l.length
  · have h8' : (8 : Int) < (l.length : Int) := by omega
    have HE := Lib.hid (chgE_long h8)
    go_wp2_with fail
    go_ret
    rw [HE.out]
    exact ⟨rfl, 0, rfl⟩
  · have h8' : decide ((8 : Int) < (l.length : Int)) = false := by simp; omega
    have h8'' : decide (8 < l.length) = false := by simp; omega
    go_wp2_with fail
    go_loopw [3, 4, 5] (fun i _ _ wr => ∃ n m : Nat, i = .int .i64 (n : Int) ∧ n ≤ l.length ∧ (∀ j (h : j < l.length), j < n → chgOne l j h = true) ∧ wr = w.drewN m) (fun i _ _ _ => l.length - (intOf i).toNat)
    case atStart => exact ⟨0, 0, rfl, by omega, fun j _ h => by omega, rfl⟩
    case round =>
      obtain ⟨n, m, rfl, hk, hall, rfl⟩ := hrel
      have Hall := Lib.hid hall
      clear hall
      by_cases hlt : n < l.length
      · have hlt' : (n : Int) < (l.length : Int) := by omega
        obtain ⟨b, off, rfl, _, x1, z1⟩ := H3.out n hlt
        obtain ⟨y1, y2⟩ := Hsz.out _ (List.getElem_mem hlt)
        have step : chgOne l n hlt = true → ∀ j (h : j < l.length), j < n + 1 → chgOne l j h = true := fun h0 j hj hjk => by
          by_cases e : j = n
          · subst e; exact h0
          · exact Hall.out j hj (by omega)
        have Step := Lib.hid step
        have Bad := Lib.hid (fun h => chgE_bad hlt h)
        clear step Hall
        go_wp2_with (go_at_call 100; refine (key_any _ _ y1).mono ?_)
        rintro e w1 ⟨rfl, rfl⟩
        go_wp2_with (go_at_call 101; refine (value_any _ _ y2).mono ?_)
        rintro e w1 ⟨rfl, rfl⟩
        cases hkb : keyB l[n].1 with
        | false =>
          have hb := Lib.hid (Bad.out (by unfold chgOne; rw [hkb]; rfl))
          clear Step Bad
          go_wp2_with fail
          go_quiet (fail)
          go_wp2_with fail
          go_ret
          rw [hb.out]
          exact ⟨rfl, m + nq, by rw [World.drewN_drewN]⟩
        | true =>
          cases hvb : valB l[n].2 with
          | false =>
            have hb := Lib.hid (Bad.out (by unfold chgOne; rw [hkb, hvb]; rfl))
            clear Step Bad
            go_wp2_with fail
            go_quiet (fail)
            go_wp2_with fail
            go_ret
            rw [hb.out]
            exact ⟨rfl, m + nq, by rw [World.drewN_drewN]⟩
          | true =>
            by_cases h0 : 0 < n
            · have h0' : (0 : Int) < (n : Int) := by omega
              have hn1 : 0 ≤ (n : Int) - 1 := by omega
              have hn2 : (n : Int) - 1 < (l.length : Int) := by omega
              obtain ⟨b', off', hbo, _, x2, _⟩ := H3.out (n - 1) (by omega)
              simp only [Option.some.injEq, Addr.mk.injEq, and_true] at hbo
              obtain ⟨rfl, rfl⟩ := hbo
              cases ht : Op.bytesLess (l[n - 1]'(by omega)).1.toList l[n].1.toList with
              | true =>
                have hs := Lib.hid (Step.out (by unfold chgOne; rw [hkb, hvb, dif_pos h0, ht]; rfl))
                have hle : (Op.bytesLess l[n].1.toList (l[n - 1]'(by omega)).1.toList || l[n].1.toList == (l[n - 1]'(by omega)).1.toList) = false := by rw [leq_not, ht]; rfl
                clear Step Bad
                go_wp2_with fail
                go_quiet (fail)
                go_wp2_with fail
                go_roundw
                case rel => exact ⟨n + 1, _, by go_num, by omega, hs.out, rfl⟩
                case measure => simp [intOf]; omega
              | false =>
                have hb := Lib.hid (Bad.out (by unfold chgOne; rw [hkb, hvb, dif_pos h0, ht]; rfl))
                have hle : (Op.bytesLess l[n].1.toList (l[n - 1]'(by omega)).1.toList || l[n].1.toList == (l[n - 1]'(by omega)).1.toList) = true := by rw [leq_not, ht]; rfl
                clear Step Bad
                go_wp2_with fail
                go_quiet (fail)
                go_wp2_with fail
                go_ret
                rw [hb.out]
                exact ⟨rfl, m + nq, by rw [World.drewN_drewN]⟩
            · have h0' : decide ((0 : Int) < (n : Int)) = false := by simp; omega
              have h0'' : decide (0 < n) = false := by simp; omega
              have hs := Lib.hid (Step.out (by unfold chgOne; rw [hkb, hvb, dif_neg h0]; rfl))
              clear Step Bad
              go_wp2_with fail
              go_quiet (fail)
              go_wp2_with fail
              go_roundw
              case rel => exact ⟨n + 1, _, by go_num, by omega, hs.out, rfl⟩
              case measure => simp [intOf]; omega
      · have hkn : n = l.length := by omega
        subst hkn
        have HE := Lib.hid (chgE_ok (by omega) fun j hj => Hall.out j hj hj)
        clear Hall
        go_wp2_with fail
        go_ret
        rw [HE.out]
        exact ⟨rfl, _, rfl⟩
end Go.Proofs.YtadookafnfnaoaaGreatDoor
