/- Texts of this seat, put together: Dl. -/
import Derived.Test.YtlfodemmdfaeeaaGreatDoorGD1
import Derived.Test.YtlfodemmdfaeeaaGreatDoorGB3
import Derived.Test.YtlfodemmdfaeeaaGreatDoorGD0
import Derived.BigQuiet
import Derived.StillTailTactics
import Derived.Deep.RegionHeld3
/- The program's Length: how many runes a document has, or that it is none. -/
namespace Go.Proofs.YtlfodemmdfaeeaaGreatDoor
open Go.RowKit Rn Ch

abbrev AtL := List (ByteArray × ByteArray)
def badR (p : Option AtL) (n : Int) (r : RunD) : Prop := er r.text.data.toList ≠ 0 ∨ cnt r.text.data.toList = 0 ∨ 20000 < n + cnt r.text.data.toList ∨ rgtE r.attrs ≠ 0 ∨ p = some r.attrs
instance (p : Option AtL) (n : Int) (r : RunD) : Decidable (badR p n r) := by unfold badR; infer_instance
def lenF : Option AtL → Int → List RunD → Option Int
 | _, n, [] => some n
 | p, n, r :: rs => if badR p n r then none else lenF (some r.attrs) (n + cnt r.text.data.toList) rs
/-- A document's runes, if it is one. -/
def lenD (l : List RunD) : Option Int := if l.length ≤ 2000 then lenF none 0 l else none
def lenN (l : List RunD) : Int := (lenD l).getD 0
def lenE (l : List RunD) : Int := if (lenD l).isSome then 0 else 50
def prevA (l : List RunD) (i : Nat) : Option AtL := if h : 0 < i ∧ i - 1 < l.length then some (l[i - 1]'h.2).attrs else none
theorem lenF_at {l : List RunD} {i : Nat} (h : i < l.length) (p : Option AtL) (n : Int) : lenF p n (l.drop i) = if badR p n l[i] then none else lenF (some l[i].attrs) (n + cnt l[i].text.data.toList) (l.drop (i + 1)) := by
 rw [List.drop_eq_getElem_cons h, lenF]
def RSized (l : List RunD) : Prop := ∀ r ∈ l, r.text.size ≤ maxLen ∧ Sized r.attrs
def LenOut (w : World) (l : List RunD) (e : Ending) (w' : World) : Prop := e = .returned (.tuple #[.int .i64 (lenN l), .int .i64 (lenE l)]) ∧ Below w.heap.size w w'
theorem lenOut_bad {w w' : World} {l : List RunD} (h : lenD l = none) (hb : Below w.heap.size w w') : LenOut w l (.returned (.tuple #[.int .i64 0, .int .i64 50])) w' := by
 unfold LenOut lenN lenE
 rw [h]
 exact ⟨rfl, hb⟩
theorem lenOut_ok {w w' : World} {l : List RunD} {n : Int} (h : lenD l = some n) (hb : Below w.heap.size w w') : LenOut w l (.returned (.tuple #[.int .i64 n, .int .i64 0])) w' := by
 unfold LenOut lenN lenE
 rw [h]
 exact ⟨rfl, hb⟩
theorem lenD_long {l : List RunD} (h : ¬ l.length ≤ 2000) : lenD l = none := by unfold lenD; rw [if_neg h]
theorem lenD_short {l : List RunD} (h : l.length ≤ 2000) : lenD l = lenF none 0 l := by unfold lenD; rw [if_pos h]

set_option maxRecDepth 100000 in
set_option maxHeartbeats 8000000 in
theorem length_any (v : Value) (ps : List RP) (w : World) (hv : RunRow w v ps) (hz : RSized (ps.map (·.1))) :
 Calls Tryz.prog 29 #[v] w (LenOut w (ps.map (·.1))) := by
 obtain ⟨⟨a, cap, rfl, h1, h2, h3⟩, hat⟩ := hv
 have hn : ps.length ≤ 9223372036854775807 := Nat.le_trans h1 h2
 have H3 := Lib.hid h3
 have HAT := Lib.hid hat
 have HZ := Lib.hid hz
 clear h1 h2 h3 hat hz
 by_cases hl : ps.length ≤ 2000
 ·have hl' : ¬ ((2000 : Int) < (ps.length : Int)) := by omega
  have hl2 : decide ((2000 : Int) < (ps.length : Int)) = false := decide_eq_false (by omega)
  have HL := Lib.hid (lenD_short (l := ps.map (·.1)) (by rw [List.length_map]; exact hl))
  go_enter Tryz.func29, Tryz.ntmps29
  go_wp2_with fail
  go_loopw [4, 14] (fun c i wr => ∃ (k : Nat) (m : Int), i = .int .i64 (k : Int) ∧ c = .int .i64 m ∧ k ≤ ps.length ∧ 0 ≤ m ∧ m ≤ 20000 ∧ lenF (prevA (ps.map (·.1)) k) m ((ps.map (·.1)).drop k) = lenF none 0 (ps.map (·.1)) ∧ Below w.heap.size w wr) (fun _ i _ => ps.length - (intOf i).toNat)
  case atStart => exact ⟨0, 0, rfl, rfl, Nat.zero_le _, by omega, by omega, by simp [prevA], Below.refl _ _⟩
  case round =>
   obtain ⟨k, m, rfl, rfl, hk, hm0, hm1, hF, hb⟩ := hrel
   have HF := Lib.hid hF
   have HB := Lib.hid hb
   by_cases hlt : k < ps.length
   ·have hlt' : (k : Int) < (ps.length : Int) := by omega
    obtain ⟨b, off, rfl, hbl, x0', x1'⟩ := H3.out k hlt
    have hra := HAT.out ps[k] (List.getElem_mem hlt)
    have hkm : k < (ps.map (·.1)).length := by rw [List.length_map]; exact hlt
    have hzk := HZ.out ps[k].1 (List.mem_map.2 ⟨_, List.getElem_mem hlt, rfl⟩)
    have hstep := lenF_at hkm (prevA (ps.map (·.1)) k) m
    rw [hF] at hstep
    have hek : (ps.map (·.1))[k] = ps[k].1 := List.getElem_map _
    rw [hek] at hstep
    have hpn : prevA (ps.map (·.1)) (k + 1) = some ps[k].1.attrs := by
     unfold prevA
     rw [dif_pos ⟨Nat.succ_pos _, by simpa using hlt⟩]
     simp
    obtain ⟨q, hq⟩ : ∃ q, q = ps[k] := ⟨_, rfl⟩
    rw [← hq] at x0' x1' hra hzk hstep hpn
    obtain ⟨r, rv⟩ := q
    obtain ⟨ra, rc, hrv⟩ := hra.shape
    simp only at hrv x0' x1' hzk hstep hpn
    subst hrv
    have hs0 := hb.size
    have x0 : wr.cell? ⟨b, off + k * 2, none⟩ = some (.string r.text) := (hb.cell (by exact hbl)).trans x0'
    have x1 : wr.cell? ⟨b, off + k * 2 + 1, none⟩ = some (.slice ra r.attrs.length rc) := (hb.cell (by exact hbl)).trans x1'
    have hbr : b < wr.heap.size := Nat.lt_of_lt_of_le hbl hs0
    obtain ⟨X, hX⟩ : ∃ X, X = wr.alloc (.cells #[.string r.text, .slice ra r.attrs.length rc] 77) := ⟨_, rfl⟩
    have BX : Below wr.heap.size wr X := by rw [hX]; exact below_box _ _
    have c0 : X.cell? ⟨wr.heap.size, 0, none⟩ = some (.string r.text) := by rw [hX]; go_simp
    have c1 : X.cell? ⟨wr.heap.size, 1, none⟩ = some (.slice ra r.attrs.length rc) := by rw [hX]; go_simp
    have hsX : wr.heap.size < X.heap.size := by rw [hX]; simp
    have hbX : b < X.heap.size := Nat.lt_of_lt_of_le hbr BX.size
    have HX := Lib.hid hX
    have HBX := Lib.hid (hb.trans (BX.mono hs0))
    have HC := Lib.hid (count_any r.text X hzk.1)
    have hc0 := cnt_nonneg r.text.data.toList
    have HRA := Lib.hid (fun W (h : Below w.heap.size w W) => (show AtRow w (.slice ra r.attrs.length rc) r.attrs from hra).below h)
    have HST := Lib.hid hstep
    have HPN := Lib.hid hpn
    have HZK := Lib.hid hzk
    have HQ := Lib.hid hq
    clear hF hb hX x0' x1' hra hstep hpn hzk hq hek BX
    generalize hcnt : cnt r.text.data.toList = cn at HC hc0
    generalize her : er r.text.data.toList = en at HC
    have hwr : wrap64 (m + cn) = m + cn := IntWalk.wrap64_in _ (by omega)
    go_wp2_with fail
    rw [← HX.out]
    go_wp2_with fail
    refine HC.out.mono ?_
    rintro e w1 ⟨rfl, hb1⟩
    have HB1 := Lib.hid (HBX.out.trans (hb1.mono HBX.out.size))
    have y1 : w1.cell? ⟨wr.heap.size, 1, none⟩ = some (.slice ra r.attrs.length rc) := (hb1.cell (by exact hsX)).trans c1
    have hs1 : wr.heap.size < w1.heap.size := Nat.lt_of_lt_of_le hsX hb1.size
    have HBB := Lib.hid hb1
    clear hb1 c0 c1 x0 x1
    by_cases he : en = 0
    ·have t1 : (en != 0) = false := by rw [he]; rfl
     by_cases hc : cn = 0
     ·have t2 : (cn == 0) = true := by rw [hc]; rfl
      have HBAD := Lib.hid (HL.out.trans (HST.out.trans (if_pos (.inr (.inl (hcnt.trans hc))))))
      go_wp2_with fail
      go_quiet (fail)
      go_wp2_with fail
      go_ret2
      exact lenOut_bad HBAD.out (below_drewN HB1.out _)
     ·have t2 : (cn == 0) = false := by rw [beq_eq_false_iff_ne]; exact hc
      by_cases hb : 20000 < m + cn
      ·have t3 : decide (20000 < m + cn) = true := decide_eq_true hb
       have HBAD := Lib.hid (HL.out.trans (HST.out.trans (if_pos (.inr (.inr (.inl (by rw [hcnt]; exact hb)))))))
       go_wp2_with fail
       go_quiet (fail)
       go_wp2_with fail
       go_ret2
       exact lenOut_bad HBAD.out (below_drewN HB1.out _)
      ·have t3 : decide (20000 < m + cn) = false := decide_eq_false hb
       have HR1 := Lib.hid (rightD_any (.slice ra r.attrs.length rc) r.attrs w1.drew (HRA.out _ (by exact HB1.out.drew)) HZK.out.2)
       by_cases hg : rgtE r.attrs = 0
       ·have t4 : (rgtE r.attrs != 0) = false := by rw [hg]; rfl
        by_cases h0 : k = 0
        ·have t5 : decide ((0 : Int) < (k : Int)) = false := decide_eq_false (by omega)
         have t6 : decide (0 < k) = false := decide_eq_false (by omega)
         have HNB := Lib.hid (show ¬ badR (prevA (ps.map (·.1)) k) m r from fun h => by
          rcases h with h | h | h | h | h
          ·exact h (her.trans he)
          ·exact hc (hcnt.symm.trans h)
          ·rw [hcnt] at h; exact hb h
          ·exact h hg
          ·unfold prevA at h; rw [dif_neg (by omega)] at h; cases h)
         have HK0 := Lib.hid h0
         clear h0
         go_wp2_with fail
         refine wp_region_B (fun w' => w'.cell? ⟨wr.heap.size, 1, none⟩ = some (.slice ra r.attrs.length rc)) [] (by kernel_rfl) (?_ : wpAnyB _ _ _ _ _ _ 31 (Array.replicate 31 false) _ _)
         refine wpAnyB_free (fuel := 30) (i := 0) (v := ?_) rfl (by kernel_rfl) (by kernel_rfl) (by kernel_rfl) (by kernel_rfl) (fun _ _ _ h => h) (.inr (show w1.drew.cell? ⟨wr.heap.size, 1, none⟩ = some (.slice ra r.attrs.length rc) from y1)) ?_ (by rfl) ?_
         rotate_left
         ·intro w'; go_simp; (try with_reducible rfl)
         simp only [Act.put, List.getElem_toArray, List.getElem_cons_zero, List.setIfInBounds_toArray, List.set_cons_zero, List.set_cons_succ]
         refine wpAnyB_free (fuel := 29) (i := 1) (v := ?_) rfl (by kernel_rfl) (by kernel_rfl) (by kernel_rfl) (by kernel_rfl) (fun _ _ _ h => h) (.inr (show w1.drew.cell? ⟨wr.heap.size, 1, none⟩ = some (.slice ra r.attrs.length rc) from y1)) ?_ (by rfl) ?_
         rotate_left
         ·intro w'; go_simp; (try with_reducible rfl)
         simp only [Act.put, List.getElem_toArray, List.getElem_cons_zero, List.getElem_cons_succ, List.setIfInBounds_toArray, List.set_cons_zero, List.set_cons_succ]
         refine wpAnyB_free (fuel := 28) (i := 2) (v := ?_) rfl (by kernel_rfl) (by kernel_rfl) (by kernel_rfl) (by kernel_rfl) (fun _ _ _ h => h) (.inr (show w1.drew.cell? ⟨wr.heap.size, 1, none⟩ = some (.slice ra r.attrs.length rc) from y1)) ?_ (by rfl) ?_
         rotate_left
         ·intro w'; go_simp; (try with_reducible rfl)
         simp only [Act.put, List.getElem_toArray, List.getElem_cons_zero, List.getElem_cons_succ, List.setIfInBounds_toArray, List.set_cons_zero, List.set_cons_succ]
         refine wpAnyB_free (fuel := 27) (i := 3) (v := ?_) rfl (by kernel_rfl) (by kernel_rfl) (by kernel_rfl) (by kernel_rfl) (fun _ _ _ h => h) (.inr (show w1.drew.cell? ⟨wr.heap.size, 1, none⟩ = some (.slice ra r.attrs.length rc) from y1)) ?_ (by rfl) ?_
         rotate_left
         ·intro w'; go_simp; (try with_reducible rfl)
         simp only [Act.put, List.getElem_toArray, List.getElem_cons_zero, List.getElem_cons_succ, List.setIfInBounds_toArray, List.set_cons_zero, List.set_cons_succ]
         refine wpAnyB_free (fuel := 26) (i := 4) (v := ?_) rfl (by kernel_rfl) (by kernel_rfl) (by kernel_rfl) (by kernel_rfl) (fun _ _ _ h => h) (.inr (show w1.drew.cell? ⟨wr.heap.size, 1, none⟩ = some (.slice ra r.attrs.length rc) from y1)) ?_ (by rfl) ?_
         rotate_left
         ·intro w'; go_simp; (try with_reducible rfl)
         simp only [Act.put, List.getElem_toArray, List.getElem_cons_zero, List.getElem_cons_succ, List.setIfInBounds_toArray, List.set_cons_zero, List.set_cons_succ]
         refine wpAnyB_free (fuel := 25) (i := 5) (v := ?_) rfl (by kernel_rfl) (by kernel_rfl) (by kernel_rfl) (by kernel_rfl) (fun _ _ _ h => h) (.inr (show w1.drew.cell? ⟨wr.heap.size, 1, none⟩ = some (.slice ra r.attrs.length rc) from y1)) ?_ (by rfl) ?_
         rotate_left
         ·intro w'; go_simp; (try with_reducible rfl)
         simp only [Act.put, List.getElem_toArray, List.getElem_cons_zero, List.getElem_cons_succ, List.setIfInBounds_toArray, List.set_cons_zero, List.set_cons_succ]
         refine wpAnyB_free (fuel := 24) (i := 6) (v := ?_) rfl (by kernel_rfl) (by kernel_rfl) (by kernel_rfl) (by kernel_rfl) (fun _ _ _ h => h) (.inr (show w1.drew.cell? ⟨wr.heap.size, 1, none⟩ = some (.slice ra r.attrs.length rc) from y1)) ?_ (by rfl) ?_
         rotate_left
         ·intro w'; go_simp; (try with_reducible rfl)
         simp only [Act.put, List.getElem_toArray, List.getElem_cons_zero, List.getElem_cons_succ, List.setIfInBounds_toArray, List.set_cons_zero, List.set_cons_succ]
         refine wpAnyB_free (fuel := 23) (i := 7) (v := ?_) rfl (by kernel_rfl) (by kernel_rfl) (by kernel_rfl) (by kernel_rfl) (fun _ _ _ h => h) (.inr (show w1.drew.cell? ⟨wr.heap.size, 1, none⟩ = some (.slice ra r.attrs.length rc) from y1)) ?_ (by rfl) ?_
         rotate_left
         ·intro w'; go_simp; (try with_reducible rfl)
         simp only [Act.put, List.getElem_toArray, List.getElem_cons_zero, List.getElem_cons_succ, List.setIfInBounds_toArray, List.set_cons_zero, List.set_cons_succ]
         refine wpAnyB_free (fuel := 22) (i := 8) (v := ?_) rfl (by kernel_rfl) (by kernel_rfl) (by kernel_rfl) (by kernel_rfl) (fun _ _ _ h => h) (.inr (show w1.drew.cell? ⟨wr.heap.size, 1, none⟩ = some (.slice ra r.attrs.length rc) from y1)) ?_ (by rfl) ?_
         rotate_left
         ·intro w'; go_simp; (try with_reducible rfl)
         simp only [Act.put, List.getElem_toArray, List.getElem_cons_zero, List.getElem_cons_succ, List.setIfInBounds_toArray, List.set_cons_zero, List.set_cons_succ]
         refine wpAnyB_free (fuel := 21) (i := 9) (v := ?_) rfl (by kernel_rfl) (by kernel_rfl) (by kernel_rfl) (by kernel_rfl) (fun _ _ _ h => h) (.inr (show w1.drew.cell? ⟨wr.heap.size, 1, none⟩ = some (.slice ra r.attrs.length rc) from y1)) ?_ (by rfl) ?_
         rotate_left
         ·intro w'; go_simp; (try with_reducible rfl)
         simp only [Act.put, List.getElem_toArray, List.getElem_cons_zero, List.getElem_cons_succ, List.setIfInBounds_toArray, List.set_cons_zero, List.set_cons_succ]
         refine wpAnyB_free (fuel := 20) (i := 10) (v := ?_) rfl (by kernel_rfl) (by kernel_rfl) (by kernel_rfl) (by kernel_rfl) (fun _ _ _ h => h) (.inr (show w1.drew.cell? ⟨wr.heap.size, 1, none⟩ = some (.slice ra r.attrs.length rc) from y1)) ?_ (by rfl) ?_
         rotate_left
         ·intro w'; go_simp; (try with_reducible rfl)
         simp only [Act.put, List.getElem_toArray, List.getElem_cons_zero, List.getElem_cons_succ, List.setIfInBounds_toArray, List.set_cons_zero, List.set_cons_succ]
         refine wpAnyB_free (fuel := 19) (i := 11) (v := ?_) rfl (by kernel_rfl) (by kernel_rfl) (by kernel_rfl) (by kernel_rfl) (fun _ _ _ h => h) (.inr (show w1.drew.cell? ⟨wr.heap.size, 1, none⟩ = some (.slice ra r.attrs.length rc) from y1)) ?_ (by rfl) ?_
         rotate_left
         ·intro w'; go_simp; (try with_reducible rfl)
         simp only [Act.put, List.getElem_toArray, List.getElem_cons_zero, List.getElem_cons_succ, List.setIfInBounds_toArray, List.set_cons_zero, List.set_cons_succ]
         refine wpAnyB_load [] (fuel := 18) (i := 12) (v := ?_) rfl (by kernel_rfl) (by kernel_rfl) (by kernel_rfl) (by kernel_rfl) (by kernel_rfl) (fun _ _ _ h => h) (.inr (show w1.drew.cell? ⟨wr.heap.size, 1, none⟩ = some (.slice ra r.attrs.length rc) from y1)) ?_ (by rfl) ?_
         rotate_left
         ·intro w' hw'; obtain hw1 := hw'; go_simp; (try with_reducible rfl)
         simp only [Act.put, List.getElem_toArray, List.getElem_cons_zero, List.getElem_cons_succ, List.setIfInBounds_toArray, List.set_cons_zero, List.set_cons_succ]
         refine wpAnyB_one (fuel := 17) (i := 13) rfl (by kernel_rfl) ?_
         intro KB hKB
         go_simp
         refine HR1.out.mono ?_
         rintro e wA ⟨rfl, hbA⟩
         have BA : Below w1.heap.size w1 wA := of_drew hbA
         have yA : wA.cell? ⟨wr.heap.size, 1, none⟩ = some (.slice ra r.attrs.length rc) := (BA.cell (by exact hs1)).trans y1
         have HBA := Lib.hid (HB1.out.trans (BA.mono HB1.out.size))
         have HYA := Lib.hid yA
         clear hbA BA
         refine hKB _ _ (.inr HYA.out) ?_
         (try simp only [Act.put, List.getElem_toArray, List.getElem_cons_zero, List.getElem_cons_succ, List.setIfInBounds_toArray, List.set_cons_zero, List.set_cons_succ])
         refine wpAnyB_free (fuel := 16) (i := 14) (v := ?_) rfl (by kernel_rfl) (by kernel_rfl) (by kernel_rfl) (by kernel_rfl) (fun _ _ _ h => h) (.inr HYA.out) ?_ (by rfl) ?_
         rotate_left
         ·intro w'; go_simp; (try with_reducible rfl)
         simp only [Act.put, List.getElem_toArray, List.getElem_cons_zero, List.getElem_cons_succ, List.setIfInBounds_toArray, List.set_cons_zero, List.set_cons_succ]
         refine wpAnyB_free (fuel := 15) (i := 15) (v := ?_) rfl (by kernel_rfl) (by kernel_rfl) (by kernel_rfl) (by kernel_rfl) (fun _ _ _ h => h) (.inr HYA.out) ?_ (by rfl) ?_
         rotate_left
         ·intro w'; go_simp; (try with_reducible rfl)
         simp only [Act.put, List.getElem_toArray, List.getElem_cons_zero, List.getElem_cons_succ, List.setIfInBounds_toArray, List.set_cons_zero, List.set_cons_succ]
         refine wpAnyB_free (fuel := 14) (i := 16) (v := ?_) rfl (by kernel_rfl) (by kernel_rfl) (by kernel_rfl) (by kernel_rfl) (fun _ _ _ h => h) (.inr HYA.out) ?_ (by rfl) ?_
         rotate_left
         ·intro w'; go_simp; (try with_reducible rfl)
         simp only [Act.put, List.getElem_toArray, List.getElem_cons_zero, List.getElem_cons_succ, List.setIfInBounds_toArray, List.set_cons_zero, List.set_cons_succ]
         refine wpAnyB_free (fuel := 13) (i := 17) (v := ?_) rfl (by kernel_rfl) (by kernel_rfl) (by kernel_rfl) (by kernel_rfl) (fun _ _ _ h => h) (.inr HYA.out) ?_ (by rfl) ?_
         rotate_left
         ·intro w'; go_simp; (try with_reducible rfl)
         simp only [Act.put, List.getElem_toArray, List.getElem_cons_zero, List.getElem_cons_succ, List.setIfInBounds_toArray, List.set_cons_zero, List.set_cons_succ]
         refine wpAnyB_free (fuel := 12) (i := 18) (v := ?_) rfl (by kernel_rfl) (by kernel_rfl) (by kernel_rfl) (by kernel_rfl) (fun _ _ _ h => h) (.inr HYA.out) ?_ (by rfl) ?_
         rotate_left
         ·intro w'; go_simp; (try with_reducible rfl)
         simp only [Act.put, List.getElem_toArray, List.getElem_cons_zero, List.getElem_cons_succ, List.setIfInBounds_toArray, List.set_cons_zero, List.set_cons_succ]
         refine wpAnyB_free (fuel := 11) (i := 19) (v := ?_) rfl (by kernel_rfl) (by kernel_rfl) (by kernel_rfl) (by kernel_rfl) (fun _ _ _ h => h) (.inr HYA.out) ?_ (by rfl) ?_
         rotate_left
         ·intro w'; go_simp; (try with_reducible rfl)
         simp only [Act.put, List.getElem_toArray, List.getElem_cons_zero, List.getElem_cons_succ, List.setIfInBounds_toArray, List.set_cons_zero, List.set_cons_succ]
         refine wpAnyB_skip (fuel := 10) (i := 20) rfl (by kernel_rfl) (by kernel_rfl) (by kernel_rfl) (by kernel_rfl) (fun _ _ _ h => h) (.inr HYA.out) (by rfl) ?_
         simp only [Act.put, List.getElem_toArray, List.getElem_cons_zero, List.getElem_cons_succ, List.setIfInBounds_toArray, List.set_cons_zero, List.set_cons_succ]
         refine wpAnyB_skip (fuel := 9) (i := 21) rfl (by kernel_rfl) (by kernel_rfl) (by kernel_rfl) (by kernel_rfl) (fun _ _ _ h => h) (.inr HYA.out) (by rfl) ?_
         simp only [Act.put, List.getElem_toArray, List.getElem_cons_zero, List.getElem_cons_succ, List.setIfInBounds_toArray, List.set_cons_zero, List.set_cons_succ]
         refine wpAnyB_skip (fuel := 8) (i := 22) rfl (by kernel_rfl) (by kernel_rfl) (by kernel_rfl) (by kernel_rfl) (fun _ _ _ h => h) (.inr HYA.out) (by rfl) ?_
         simp only [Act.put, List.getElem_toArray, List.getElem_cons_zero, List.getElem_cons_succ, List.setIfInBounds_toArray, List.set_cons_zero, List.set_cons_succ]
         refine wpAnyB_skip (fuel := 7) (i := 23) rfl (by kernel_rfl) (by kernel_rfl) (by kernel_rfl) (by kernel_rfl) (fun _ _ _ h => h) (.inr HYA.out) (by rfl) ?_
         simp only [Act.put, List.getElem_toArray, List.getElem_cons_zero, List.getElem_cons_succ, List.setIfInBounds_toArray, List.set_cons_zero, List.set_cons_succ]
         refine wpAnyB_skip (fuel := 6) (i := 24) rfl (by kernel_rfl) (by kernel_rfl) (by kernel_rfl) (by kernel_rfl) (fun _ _ _ h => h) (.inr HYA.out) (by rfl) ?_
         simp only [Act.put, List.getElem_toArray, List.getElem_cons_zero, List.getElem_cons_succ, List.setIfInBounds_toArray, List.set_cons_zero, List.set_cons_succ]
         refine wpAnyB_skip (fuel := 5) (i := 25) rfl (by kernel_rfl) (by kernel_rfl) (by kernel_rfl) (by kernel_rfl) (fun _ _ _ h => h) (.inr HYA.out) (by rfl) ?_
         simp only [Act.put, List.getElem_toArray, List.getElem_cons_zero, List.getElem_cons_succ, List.setIfInBounds_toArray, List.set_cons_zero, List.set_cons_succ]
         refine wpAnyB_skip (fuel := 4) (i := 26) rfl (by kernel_rfl) (by kernel_rfl) (by kernel_rfl) (by kernel_rfl) (fun _ _ _ h => h) (.inr HYA.out) (by rfl) ?_
         simp only [Act.put, List.getElem_toArray, List.getElem_cons_zero, List.getElem_cons_succ, List.setIfInBounds_toArray, List.set_cons_zero, List.set_cons_succ]
         refine wpAnyB_skip (fuel := 3) (i := 27) rfl (by kernel_rfl) (by kernel_rfl) (by kernel_rfl) (by kernel_rfl) (fun _ _ _ h => h) (.inr HYA.out) (by rfl) ?_
         simp only [Act.put, List.getElem_toArray, List.getElem_cons_zero, List.getElem_cons_succ, List.setIfInBounds_toArray, List.set_cons_zero, List.set_cons_succ]
         refine wpAnyB_skip (fuel := 2) (i := 28) rfl (by kernel_rfl) (by kernel_rfl) (by kernel_rfl) (by kernel_rfl) (fun _ _ _ h => h) (.inr HYA.out) (by rfl) ?_
         simp only [Act.put, List.getElem_toArray, List.getElem_cons_zero, List.getElem_cons_succ, List.setIfInBounds_toArray, List.set_cons_zero, List.set_cons_succ]
         refine wpAnyB_free (fuel := 1) (i := 29) (v := ?_) rfl (by kernel_rfl) (by kernel_rfl) (by kernel_rfl) (by kernel_rfl) (fun _ _ _ h => h) (.inr HYA.out) ?_ (by rfl) ?_
         rotate_left
         ·intro w'; go_simp; (try with_reducible rfl)
         simp only [Act.put, List.getElem_toArray, List.getElem_cons_zero, List.getElem_cons_succ, List.setIfInBounds_toArray, List.set_cons_zero, List.set_cons_succ]
         refine wpAnyB_free (fuel := 0) (i := 30) (v := ?_) rfl (by kernel_rfl) (by kernel_rfl) (by kernel_rfl) (by kernel_rfl) (fun _ _ _ h => h) (.inr HYA.out) ?_ (by rfl) ?_
         rotate_left
         ·intro w'; go_simp; (try with_reducible rfl)
         simp only [Act.put, List.getElem_toArray, List.getElem_cons_zero, List.getElem_cons_succ, List.setIfInBounds_toArray, List.set_cons_zero, List.set_cons_succ]
         refine wpAnyB_done (by kernel_rfl) ?_
         have HOK := Lib.hid (HST.out.trans (if_neg HNB.out))
         have HPN2 := Lib.hid HPN.out
         go_wp2_with fail
         go_roundw
         case rel => exact ⟨k + 1, m + cn, by go_num, rfl, by omega, by omega, by omega, by rw [HPN2.out, ← hcnt]; exact HOK.out.symm, HBA.out⟩
         case measure => simp [intOf]; omega
        ·obtain ⟨j, hj⟩ : ∃ j, k = j + 1 := ⟨k - 1, by omega⟩
         have hjl : j < ps.length := by omega
         have hprev := H3.out j hjl
         have hatp := HAT.out ps[j] (List.getElem_mem hjl)
         have hpv : prevA (ps.map (·.1)) k = some ps[j].1.attrs := by
          unfold prevA
          rw [dif_pos ⟨by omega, by rw [List.length_map]; omega⟩]
          simp [hj]
         obtain ⟨b', off', eb, _, _, z1'⟩ := hprev
         simp only [Option.some.injEq, Addr.mk.injEq, and_true] at eb
         obtain ⟨rfl, rfl⟩ := eb
         generalize ps[j] = pq at hatp hpv z1'
         obtain ⟨pr, pv⟩ := pq
         obtain ⟨pa, pc, hpq⟩ := hatp.shape
         simp only at hpq hatp hpv z1'
         subst hpq
         have z1 : w1.cell? ⟨b, off + j * 2 + 1, none⟩ = some (.slice pa pr.attrs.length pc) := (HB1.out.cell (by exact hbl)).trans z1'
         have hb1' : b < w1.heap.size := Nat.lt_trans hbr hs1
         have t5 : decide ((0 : Int) < (k : Int)) = true := decide_eq_true (by omega)
         have t6 : decide (0 < k) = true := decide_eq_true (by omega)
         have k0 : (0 : Int) < (k : Int) := by omega
         have e5 : wrap64 ((k : Int) - 1) = (j : Int) := by rw [IntWalk.wrap64_in _ (by omega)]; omega
         have e5' : IntKind.i64.wrap ((k : Int) - 1) = (j : Int) := by rw [IntWalk.i64_in _ (by omega)]; omega
         have j0 : (0 : Int) ≤ (j : Int) := by omega
         have j1 : (j : Int) < (ps.length : Int) := by omega
         have HJ := Lib.hid hj
         clear hj
         have HSM := Lib.hid (fun W (h : Below w.heap.size w W) => same_any (.slice pa pr.attrs.length pc) (.slice ra r.attrs.length rc) pr.attrs r.attrs W (hatp.below h) (HRA.out W h))
         have HPV := Lib.hid hpv
         clear hatp hpv z1'
         by_cases hsm : pr.attrs = r.attrs
         ·have hsb : sameB pr.attrs r.attrs = true := decide_eq_true hsm
          have HSE := Lib.hid hsm
          clear hsm
          have HBAD := Lib.hid (HL.out.trans (HST.out.trans (if_pos (.inr (.inr (.inr (.inr (by rw [HPV.out, HSE.out]))))))))
          go_wp2_with fail
          refine wp_region_B (fun w' => w'.cell? ⟨wr.heap.size, 1, none⟩ = some (.slice ra r.attrs.length rc) ∧ w'.cell? ⟨b, off + j * 2 + 1, none⟩ = some (.slice pa pr.attrs.length pc)) [] (by kernel_rfl) (?_ : wpAnyB _ _ _ _ _ _ 31 (Array.replicate 31 false) _ _)
          refine wpAnyB_free (fuel := 30) (i := 0) (v := ?_) rfl (by kernel_rfl) (by kernel_rfl) (by kernel_rfl) (by kernel_rfl) (fun _ _ _ h => h) (.inr (show w1.drew.cell? ⟨wr.heap.size, 1, none⟩ = some (.slice ra r.attrs.length rc) ∧ w1.drew.cell? ⟨b, off + j * 2 + 1, none⟩ = some (.slice pa pr.attrs.length pc) from ⟨y1, z1⟩)) ?_ (by rfl) ?_
          rotate_left
          ·intro w'; go_simp; (try with_reducible rfl)
          simp only [Act.put, List.getElem_toArray, List.getElem_cons_zero, List.setIfInBounds_toArray, List.set_cons_zero, List.set_cons_succ]
          refine wpAnyB_free (fuel := 29) (i := 1) (v := ?_) rfl (by kernel_rfl) (by kernel_rfl) (by kernel_rfl) (by kernel_rfl) (fun _ _ _ h => h) (.inr (show w1.drew.cell? ⟨wr.heap.size, 1, none⟩ = some (.slice ra r.attrs.length rc) ∧ w1.drew.cell? ⟨b, off + j * 2 + 1, none⟩ = some (.slice pa pr.attrs.length pc) from ⟨y1, z1⟩)) ?_ (by rfl) ?_
          rotate_left
          ·intro w'; go_simp; (try with_reducible rfl)
          simp only [Act.put, List.getElem_toArray, List.getElem_cons_zero, List.getElem_cons_succ, List.setIfInBounds_toArray, List.set_cons_zero, List.set_cons_succ]
          refine wpAnyB_free (fuel := 28) (i := 2) (v := ?_) rfl (by kernel_rfl) (by kernel_rfl) (by kernel_rfl) (by kernel_rfl) (fun _ _ _ h => h) (.inr (show w1.drew.cell? ⟨wr.heap.size, 1, none⟩ = some (.slice ra r.attrs.length rc) ∧ w1.drew.cell? ⟨b, off + j * 2 + 1, none⟩ = some (.slice pa pr.attrs.length pc) from ⟨y1, z1⟩)) ?_ (by rfl) ?_
          rotate_left
          ·intro w'; go_simp; (try with_reducible rfl)
          simp only [Act.put, List.getElem_toArray, List.getElem_cons_zero, List.getElem_cons_succ, List.setIfInBounds_toArray, List.set_cons_zero, List.set_cons_succ]
          refine wpAnyB_free (fuel := 27) (i := 3) (v := ?_) rfl (by kernel_rfl) (by kernel_rfl) (by kernel_rfl) (by kernel_rfl) (fun _ _ _ h => h) (.inr (show w1.drew.cell? ⟨wr.heap.size, 1, none⟩ = some (.slice ra r.attrs.length rc) ∧ w1.drew.cell? ⟨b, off + j * 2 + 1, none⟩ = some (.slice pa pr.attrs.length pc) from ⟨y1, z1⟩)) ?_ (by rfl) ?_
          rotate_left
          ·intro w'; go_simp; (try with_reducible rfl)
          simp only [Act.put, List.getElem_toArray, List.getElem_cons_zero, List.getElem_cons_succ, List.setIfInBounds_toArray, List.set_cons_zero, List.set_cons_succ]
          refine wpAnyB_free (fuel := 26) (i := 4) (v := ?_) rfl (by kernel_rfl) (by kernel_rfl) (by kernel_rfl) (by kernel_rfl) (fun _ _ _ h => h) (.inr (show w1.drew.cell? ⟨wr.heap.size, 1, none⟩ = some (.slice ra r.attrs.length rc) ∧ w1.drew.cell? ⟨b, off + j * 2 + 1, none⟩ = some (.slice pa pr.attrs.length pc) from ⟨y1, z1⟩)) ?_ (by rfl) ?_
          rotate_left
          ·intro w'; go_simp; (try with_reducible rfl)
          simp only [Act.put, List.getElem_toArray, List.getElem_cons_zero, List.getElem_cons_succ, List.setIfInBounds_toArray, List.set_cons_zero, List.set_cons_succ]
          refine wpAnyB_free (fuel := 25) (i := 5) (v := ?_) rfl (by kernel_rfl) (by kernel_rfl) (by kernel_rfl) (by kernel_rfl) (fun _ _ _ h => h) (.inr (show w1.drew.cell? ⟨wr.heap.size, 1, none⟩ = some (.slice ra r.attrs.length rc) ∧ w1.drew.cell? ⟨b, off + j * 2 + 1, none⟩ = some (.slice pa pr.attrs.length pc) from ⟨y1, z1⟩)) ?_ (by rfl) ?_
          rotate_left
          ·intro w'; go_simp; (try with_reducible rfl)
          simp only [Act.put, List.getElem_toArray, List.getElem_cons_zero, List.getElem_cons_succ, List.setIfInBounds_toArray, List.set_cons_zero, List.set_cons_succ]
          refine wpAnyB_free (fuel := 24) (i := 6) (v := ?_) rfl (by kernel_rfl) (by kernel_rfl) (by kernel_rfl) (by kernel_rfl) (fun _ _ _ h => h) (.inr (show w1.drew.cell? ⟨wr.heap.size, 1, none⟩ = some (.slice ra r.attrs.length rc) ∧ w1.drew.cell? ⟨b, off + j * 2 + 1, none⟩ = some (.slice pa pr.attrs.length pc) from ⟨y1, z1⟩)) ?_ (by rfl) ?_
          rotate_left
          ·intro w'; go_simp; (try with_reducible rfl)
          simp only [Act.put, List.getElem_toArray, List.getElem_cons_zero, List.getElem_cons_succ, List.setIfInBounds_toArray, List.set_cons_zero, List.set_cons_succ]
          refine wpAnyB_free (fuel := 23) (i := 7) (v := ?_) rfl (by kernel_rfl) (by kernel_rfl) (by kernel_rfl) (by kernel_rfl) (fun _ _ _ h => h) (.inr (show w1.drew.cell? ⟨wr.heap.size, 1, none⟩ = some (.slice ra r.attrs.length rc) ∧ w1.drew.cell? ⟨b, off + j * 2 + 1, none⟩ = some (.slice pa pr.attrs.length pc) from ⟨y1, z1⟩)) ?_ (by rfl) ?_
          rotate_left
          ·intro w'; go_simp; (try with_reducible rfl)
          simp only [Act.put, List.getElem_toArray, List.getElem_cons_zero, List.getElem_cons_succ, List.setIfInBounds_toArray, List.set_cons_zero, List.set_cons_succ]
          refine wpAnyB_free (fuel := 22) (i := 8) (v := ?_) rfl (by kernel_rfl) (by kernel_rfl) (by kernel_rfl) (by kernel_rfl) (fun _ _ _ h => h) (.inr (show w1.drew.cell? ⟨wr.heap.size, 1, none⟩ = some (.slice ra r.attrs.length rc) ∧ w1.drew.cell? ⟨b, off + j * 2 + 1, none⟩ = some (.slice pa pr.attrs.length pc) from ⟨y1, z1⟩)) ?_ (by rfl) ?_
          rotate_left
          ·intro w'; go_simp; (try with_reducible rfl)
          simp only [Act.put, List.getElem_toArray, List.getElem_cons_zero, List.getElem_cons_succ, List.setIfInBounds_toArray, List.set_cons_zero, List.set_cons_succ]
          refine wpAnyB_free (fuel := 21) (i := 9) (v := ?_) rfl (by kernel_rfl) (by kernel_rfl) (by kernel_rfl) (by kernel_rfl) (fun _ _ _ h => h) (.inr (show w1.drew.cell? ⟨wr.heap.size, 1, none⟩ = some (.slice ra r.attrs.length rc) ∧ w1.drew.cell? ⟨b, off + j * 2 + 1, none⟩ = some (.slice pa pr.attrs.length pc) from ⟨y1, z1⟩)) ?_ (by rfl) ?_
          rotate_left
          ·intro w'; go_simp; (try with_reducible rfl)
          simp only [Act.put, List.getElem_toArray, List.getElem_cons_zero, List.getElem_cons_succ, List.setIfInBounds_toArray, List.set_cons_zero, List.set_cons_succ]
          refine wpAnyB_free (fuel := 20) (i := 10) (v := ?_) rfl (by kernel_rfl) (by kernel_rfl) (by kernel_rfl) (by kernel_rfl) (fun _ _ _ h => h) (.inr (show w1.drew.cell? ⟨wr.heap.size, 1, none⟩ = some (.slice ra r.attrs.length rc) ∧ w1.drew.cell? ⟨b, off + j * 2 + 1, none⟩ = some (.slice pa pr.attrs.length pc) from ⟨y1, z1⟩)) ?_ (by rfl) ?_
          rotate_left
          ·intro w'; go_simp; (try with_reducible rfl)
          simp only [Act.put, List.getElem_toArray, List.getElem_cons_zero, List.getElem_cons_succ, List.setIfInBounds_toArray, List.set_cons_zero, List.set_cons_succ]
          refine wpAnyB_free (fuel := 19) (i := 11) (v := ?_) rfl (by kernel_rfl) (by kernel_rfl) (by kernel_rfl) (by kernel_rfl) (fun _ _ _ h => h) (.inr (show w1.drew.cell? ⟨wr.heap.size, 1, none⟩ = some (.slice ra r.attrs.length rc) ∧ w1.drew.cell? ⟨b, off + j * 2 + 1, none⟩ = some (.slice pa pr.attrs.length pc) from ⟨y1, z1⟩)) ?_ (by rfl) ?_
          rotate_left
          ·intro w'; go_simp; (try with_reducible rfl)
          simp only [Act.put, List.getElem_toArray, List.getElem_cons_zero, List.getElem_cons_succ, List.setIfInBounds_toArray, List.set_cons_zero, List.set_cons_succ]
          refine wpAnyB_load [] (fuel := 18) (i := 12) (v := ?_) rfl (by kernel_rfl) (by kernel_rfl) (by kernel_rfl) (by kernel_rfl) (by kernel_rfl) (fun _ _ _ h => h) (.inr (show w1.drew.cell? ⟨wr.heap.size, 1, none⟩ = some (.slice ra r.attrs.length rc) ∧ w1.drew.cell? ⟨b, off + j * 2 + 1, none⟩ = some (.slice pa pr.attrs.length pc) from ⟨y1, z1⟩)) ?_ (by rfl) ?_
          rotate_left
          ·intro w' hw'; obtain ⟨hw1, hw2⟩ := hw'; go_simp; (try with_reducible rfl)
          simp only [Act.put, List.getElem_toArray, List.getElem_cons_zero, List.getElem_cons_succ, List.setIfInBounds_toArray, List.set_cons_zero, List.set_cons_succ]
          refine wpAnyB_one (fuel := 17) (i := 13) rfl (by kernel_rfl) ?_
          intro KB hKB
          go_simp
          refine HR1.out.mono ?_
          rintro e wA ⟨rfl, hbA⟩
          have BA : Below w1.heap.size w1 wA := of_drew hbA
          have SA : wA.cell? ⟨wr.heap.size, 1, none⟩ = some (.slice ra r.attrs.length rc) ∧ wA.cell? ⟨b, off + j * 2 + 1, none⟩ = some (.slice pa pr.attrs.length pc) := ⟨(BA.cell (by exact hs1)).trans y1, (BA.cell (by exact hb1')).trans z1⟩
          have HBA := Lib.hid (HB1.out.trans (BA.mono HB1.out.size))
          have HSA := Lib.hid SA
          clear hbA BA SA
          refine hKB _ _ (.inr HSA.out) ?_
          (try simp only [Act.put, List.getElem_toArray, List.getElem_cons_zero, List.getElem_cons_succ, List.setIfInBounds_toArray, List.set_cons_zero, List.set_cons_succ])
          refine wpAnyB_free (fuel := 16) (i := 14) (v := ?_) rfl (by kernel_rfl) (by kernel_rfl) (by kernel_rfl) (by kernel_rfl) (fun _ _ _ h => h) (.inr HSA.out) ?_ (by rfl) ?_
          rotate_left
          ·intro w'; go_simp; (try with_reducible rfl)
          simp only [Act.put, List.getElem_toArray, List.getElem_cons_zero, List.getElem_cons_succ, List.setIfInBounds_toArray, List.set_cons_zero, List.set_cons_succ]
          refine wpAnyB_free (fuel := 15) (i := 15) (v := ?_) rfl (by kernel_rfl) (by kernel_rfl) (by kernel_rfl) (by kernel_rfl) (fun _ _ _ h => h) (.inr HSA.out) ?_ (by rfl) ?_
          rotate_left
          ·intro w'; go_simp; (try with_reducible rfl)
          simp only [Act.put, List.getElem_toArray, List.getElem_cons_zero, List.getElem_cons_succ, List.setIfInBounds_toArray, List.set_cons_zero, List.set_cons_succ]
          refine wpAnyB_free (fuel := 14) (i := 16) (v := ?_) rfl (by kernel_rfl) (by kernel_rfl) (by kernel_rfl) (by kernel_rfl) (fun _ _ _ h => h) (.inr HSA.out) ?_ (by rfl) ?_
          rotate_left
          ·intro w'; go_simp; (try with_reducible rfl)
          simp only [Act.put, List.getElem_toArray, List.getElem_cons_zero, List.getElem_cons_succ, List.setIfInBounds_toArray, List.set_cons_zero, List.set_cons_succ]
          refine wpAnyB_free (fuel := 13) (i := 17) (v := ?_) rfl (by kernel_rfl) (by kernel_rfl) (by kernel_rfl) (by kernel_rfl) (fun _ _ _ h => h) (.inr HSA.out) ?_ (by rfl) ?_
          rotate_left
          ·intro w'; go_simp; (try with_reducible rfl)
          simp only [Act.put, List.getElem_toArray, List.getElem_cons_zero, List.getElem_cons_succ, List.setIfInBounds_toArray, List.set_cons_zero, List.set_cons_succ]
          refine wpAnyB_free (fuel := 12) (i := 18) (v := ?_) rfl (by kernel_rfl) (by kernel_rfl) (by kernel_rfl) (by kernel_rfl) (fun _ _ _ h => h) (.inr HSA.out) ?_ (by rfl) ?_
          rotate_left
          ·intro w'; go_simp; (try with_reducible rfl)
          simp only [Act.put, List.getElem_toArray, List.getElem_cons_zero, List.getElem_cons_succ, List.setIfInBounds_toArray, List.set_cons_zero, List.set_cons_succ]
          refine wpAnyB_free (fuel := 11) (i := 19) (v := ?_) rfl (by kernel_rfl) (by kernel_rfl) (by kernel_rfl) (by kernel_rfl) (fun _ _ _ h => h) (.inr HSA.out) ?_ (by rfl) ?_
          rotate_left
          ·intro w'; go_simp; (try with_reducible rfl)
          simp only [Act.put, List.getElem_toArray, List.getElem_cons_zero, List.getElem_cons_succ, List.setIfInBounds_toArray, List.set_cons_zero, List.set_cons_succ]
          refine wpAnyB_free (fuel := 10) (i := 20) (v := ?_) rfl (by kernel_rfl) (by kernel_rfl) (by kernel_rfl) (by kernel_rfl) (fun _ _ _ h => h) (.inr HSA.out) ?_ (by rfl) ?_
          rotate_left
          ·intro w'; go_simp; (try with_reducible rfl)
          simp only [Act.put, List.getElem_toArray, List.getElem_cons_zero, List.getElem_cons_succ, List.setIfInBounds_toArray, List.set_cons_zero, List.set_cons_succ]
          refine wpAnyB_free (fuel := 9) (i := 21) (v := ?_) rfl (by kernel_rfl) (by kernel_rfl) (by kernel_rfl) (by kernel_rfl) (fun _ _ _ h => h) (.inr HSA.out) ?_ (by rfl) ?_
          rotate_left
          ·intro w'; go_simp; (try with_reducible rfl)
          simp only [Act.put, List.getElem_toArray, List.getElem_cons_zero, List.getElem_cons_succ, List.setIfInBounds_toArray, List.set_cons_zero, List.set_cons_succ]
          refine wpAnyB_free (fuel := 8) (i := 22) (v := ?_) rfl (by kernel_rfl) (by kernel_rfl) (by kernel_rfl) (by kernel_rfl) (fun _ _ _ h => h) (.inr HSA.out) ?_ (by rfl) ?_
          rotate_left
          ·intro w'; go_simp; (try with_reducible rfl)
          simp only [Act.put, List.getElem_toArray, List.getElem_cons_zero, List.getElem_cons_succ, List.setIfInBounds_toArray, List.set_cons_zero, List.set_cons_succ]
          refine wpAnyB_free (fuel := 7) (i := 23) (v := ?_) rfl (by kernel_rfl) (by kernel_rfl) (by kernel_rfl) (by kernel_rfl) (fun _ _ _ h => h) (.inr HSA.out) ?_ (by rfl) ?_
          rotate_left
          ·intro w'; go_simp; (try with_reducible rfl)
          simp only [Act.put, List.getElem_toArray, List.getElem_cons_zero, List.getElem_cons_succ, List.setIfInBounds_toArray, List.set_cons_zero, List.set_cons_succ]
          refine wpAnyB_free (fuel := 6) (i := 24) (v := ?_) rfl (by kernel_rfl) (by kernel_rfl) (by kernel_rfl) (by kernel_rfl) (fun _ _ _ h => h) (.inr HSA.out) ?_ (by rfl) ?_
          rotate_left
          ·intro w'; go_simp; (try with_reducible rfl)
          simp only [Act.put, List.getElem_toArray, List.getElem_cons_zero, List.getElem_cons_succ, List.setIfInBounds_toArray, List.set_cons_zero, List.set_cons_succ]
          refine wpAnyB_load [] (fuel := 5) (i := 25) (v := ?_) rfl (by kernel_rfl) (by kernel_rfl) (by kernel_rfl) (by kernel_rfl) (by kernel_rfl) (fun _ _ _ h => h) (.inr HSA.out) ?_ (by rfl) ?_
          rotate_left
          ·intro w' hw'; obtain ⟨hw1, hw2⟩ := hw'; go_simp; (try with_reducible rfl)
          simp only [Act.put, List.getElem_toArray, List.getElem_cons_zero, List.getElem_cons_succ, List.setIfInBounds_toArray, List.set_cons_zero, List.set_cons_succ]
          refine wpAnyB_free (fuel := 4) (i := 26) (v := ?_) rfl (by kernel_rfl) (by kernel_rfl) (by kernel_rfl) (by kernel_rfl) (fun _ _ _ h => h) (.inr HSA.out) ?_ (by rfl) ?_
          rotate_left
          ·intro w'; go_simp; (try with_reducible rfl)
          simp only [Act.put, List.getElem_toArray, List.getElem_cons_zero, List.getElem_cons_succ, List.setIfInBounds_toArray, List.set_cons_zero, List.set_cons_succ]
          refine wpAnyB_load [] (fuel := 3) (i := 27) (v := ?_) rfl (by kernel_rfl) (by kernel_rfl) (by kernel_rfl) (by kernel_rfl) (by kernel_rfl) (fun _ _ _ h => h) (.inr HSA.out) ?_ (by rfl) ?_
          rotate_left
          ·intro w' hw'; obtain ⟨hw1, hw2⟩ := hw'; go_simp; (try with_reducible rfl)
          simp only [Act.put, List.getElem_toArray, List.getElem_cons_zero, List.getElem_cons_succ, List.setIfInBounds_toArray, List.set_cons_zero, List.set_cons_succ]
          refine wpAnyB_one (fuel := 2) (i := 28) rfl (by kernel_rfl) ?_
          intro KB hKB
          go_simp
          refine (HSM.out wA HBA.out).mono ?_
          rintro e wB ⟨rfl, kk, rfl⟩
          rw [hsb]
          have SB : (wA.drewN kk).cell? ⟨wr.heap.size, 1, none⟩ = some (.slice ra r.attrs.length rc) ∧ (wA.drewN kk).cell? ⟨b, off + j * 2 + 1, none⟩ = some (.slice pa pr.attrs.length pc) := by simpa using HSA.out
          have HSB := Lib.hid SB
          clear SB
          refine hKB _ _ (.inr HSB.out) ?_
          (try simp only [Act.put, List.getElem_toArray, List.getElem_cons_zero, List.getElem_cons_succ, List.setIfInBounds_toArray, List.set_cons_zero, List.set_cons_succ])
          refine wpAnyB_free (fuel := 1) (i := 29) (v := ?_) rfl (by kernel_rfl) (by kernel_rfl) (by kernel_rfl) (by kernel_rfl) (fun _ _ _ h => h) (.inr HSB.out) ?_ (by rfl) ?_
          rotate_left
          ·intro w'; go_simp; (try with_reducible rfl)
          simp only [Act.put, List.getElem_toArray, List.getElem_cons_zero, List.getElem_cons_succ, List.setIfInBounds_toArray, List.set_cons_zero, List.set_cons_succ]
          refine wpAnyB_free (fuel := 0) (i := 30) (v := ?_) rfl (by kernel_rfl) (by kernel_rfl) (by kernel_rfl) (by kernel_rfl) (fun _ _ _ h => h) (.inr HSB.out) ?_ (by rfl) ?_
          rotate_left
          ·intro w'; go_simp; (try with_reducible rfl)
          simp only [Act.put, List.getElem_toArray, List.getElem_cons_zero, List.getElem_cons_succ, List.setIfInBounds_toArray, List.set_cons_zero, List.set_cons_succ]
          refine wpAnyB_done (by kernel_rfl) ?_
          go_wp2_with fail
          go_ret2
          exact lenOut_bad HBAD.out (below_drewN HBA.out _)
         ·have hsb : sameB pr.attrs r.attrs = false := decide_eq_false hsm
          have HSE := Lib.hid hsm
          clear hsm
          have HNB := Lib.hid (show ¬ badR (prevA (ps.map (·.1)) k) m r from fun h => by
           rcases h with h | h | h | h | h
           ·exact h (her.trans he)
           ·exact hc (hcnt.symm.trans h)
           ·rw [hcnt] at h; exact hb h
           ·exact h hg
           ·rw [HPV.out] at h; exact HSE.out (Option.some.inj h))
          go_wp2_with fail
          refine wp_region_B (fun w' => w'.cell? ⟨wr.heap.size, 1, none⟩ = some (.slice ra r.attrs.length rc) ∧ w'.cell? ⟨b, off + j * 2 + 1, none⟩ = some (.slice pa pr.attrs.length pc)) [] (by kernel_rfl) (?_ : wpAnyB _ _ _ _ _ _ 31 (Array.replicate 31 false) _ _)
          refine wpAnyB_free (fuel := 30) (i := 0) (v := ?_) rfl (by kernel_rfl) (by kernel_rfl) (by kernel_rfl) (by kernel_rfl) (fun _ _ _ h => h) (.inr (show w1.drew.cell? ⟨wr.heap.size, 1, none⟩ = some (.slice ra r.attrs.length rc) ∧ w1.drew.cell? ⟨b, off + j * 2 + 1, none⟩ = some (.slice pa pr.attrs.length pc) from ⟨y1, z1⟩)) ?_ (by rfl) ?_
          rotate_left
          ·intro w'; go_simp; (try with_reducible rfl)
          simp only [Act.put, List.getElem_toArray, List.getElem_cons_zero, List.setIfInBounds_toArray, List.set_cons_zero, List.set_cons_succ]
          refine wpAnyB_free (fuel := 29) (i := 1) (v := ?_) rfl (by kernel_rfl) (by kernel_rfl) (by kernel_rfl) (by kernel_rfl) (fun _ _ _ h => h) (.inr (show w1.drew.cell? ⟨wr.heap.size, 1, none⟩ = some (.slice ra r.attrs.length rc) ∧ w1.drew.cell? ⟨b, off + j * 2 + 1, none⟩ = some (.slice pa pr.attrs.length pc) from ⟨y1, z1⟩)) ?_ (by rfl) ?_
          rotate_left
          ·intro w'; go_simp; (try with_reducible rfl)
          simp only [Act.put, List.getElem_toArray, List.getElem_cons_zero, List.getElem_cons_succ, List.setIfInBounds_toArray, List.set_cons_zero, List.set_cons_succ]
          refine wpAnyB_free (fuel := 28) (i := 2) (v := ?_) rfl (by kernel_rfl) (by kernel_rfl) (by kernel_rfl) (by kernel_rfl) (fun _ _ _ h => h) (.inr (show w1.drew.cell? ⟨wr.heap.size, 1, none⟩ = some (.slice ra r.attrs.length rc) ∧ w1.drew.cell? ⟨b, off + j * 2 + 1, none⟩ = some (.slice pa pr.attrs.length pc) from ⟨y1, z1⟩)) ?_ (by rfl) ?_
          rotate_left
          ·intro w'; go_simp; (try with_reducible rfl)
          simp only [Act.put, List.getElem_toArray, List.getElem_cons_zero, List.getElem_cons_succ, List.setIfInBounds_toArray, List.set_cons_zero, List.set_cons_succ]
          refine wpAnyB_free (fuel := 27) (i := 3) (v := ?_) rfl (by kernel_rfl) (by kernel_rfl) (by kernel_rfl) (by kernel_rfl) (fun _ _ _ h => h) (.inr (show w1.drew.cell? ⟨wr.heap.size, 1, none⟩ = some (.slice ra r.attrs.length rc) ∧ w1.drew.cell? ⟨b, off + j * 2 + 1, none⟩ = some (.slice pa pr.attrs.length pc) from ⟨y1, z1⟩)) ?_ (by rfl) ?_
          rotate_left
          ·intro w'; go_simp; (try with_reducible rfl)
          simp only [Act.put, List.getElem_toArray, List.getElem_cons_zero, List.getElem_cons_succ, List.setIfInBounds_toArray, List.set_cons_zero, List.set_cons_succ]
          refine wpAnyB_free (fuel := 26) (i := 4) (v := ?_) rfl (by kernel_rfl) (by kernel_rfl) (by kernel_rfl) (by kernel_rfl) (fun _ _ _ h => h) (.inr (show w1.drew.cell? ⟨wr.heap.size, 1, none⟩ = some (.slice ra r.attrs.length rc) ∧ w1.drew.cell? ⟨b, off + j * 2 + 1, none⟩ = some (.slice pa pr.attrs.length pc) from ⟨y1, z1⟩)) ?_ (by rfl) ?_
          rotate_left
          ·intro w'; go_simp; (try with_reducible rfl)
          simp only [Act.put, List.getElem_toArray, List.getElem_cons_zero, List.getElem_cons_succ, List.setIfInBounds_toArray, List.set_cons_zero, List.set_cons_succ]
          refine wpAnyB_free (fuel := 25) (i := 5) (v := ?_) rfl (by kernel_rfl) (by kernel_rfl) (by kernel_rfl) (by kernel_rfl) (fun _ _ _ h => h) (.inr (show w1.drew.cell? ⟨wr.heap.size, 1, none⟩ = some (.slice ra r.attrs.length rc) ∧ w1.drew.cell? ⟨b, off + j * 2 + 1, none⟩ = some (.slice pa pr.attrs.length pc) from ⟨y1, z1⟩)) ?_ (by rfl) ?_
          rotate_left
          ·intro w'; go_simp; (try with_reducible rfl)
          simp only [Act.put, List.getElem_toArray, List.getElem_cons_zero, List.getElem_cons_succ, List.setIfInBounds_toArray, List.set_cons_zero, List.set_cons_succ]
          refine wpAnyB_free (fuel := 24) (i := 6) (v := ?_) rfl (by kernel_rfl) (by kernel_rfl) (by kernel_rfl) (by kernel_rfl) (fun _ _ _ h => h) (.inr (show w1.drew.cell? ⟨wr.heap.size, 1, none⟩ = some (.slice ra r.attrs.length rc) ∧ w1.drew.cell? ⟨b, off + j * 2 + 1, none⟩ = some (.slice pa pr.attrs.length pc) from ⟨y1, z1⟩)) ?_ (by rfl) ?_
          rotate_left
          ·intro w'; go_simp; (try with_reducible rfl)
          simp only [Act.put, List.getElem_toArray, List.getElem_cons_zero, List.getElem_cons_succ, List.setIfInBounds_toArray, List.set_cons_zero, List.set_cons_succ]
          refine wpAnyB_free (fuel := 23) (i := 7) (v := ?_) rfl (by kernel_rfl) (by kernel_rfl) (by kernel_rfl) (by kernel_rfl) (fun _ _ _ h => h) (.inr (show w1.drew.cell? ⟨wr.heap.size, 1, none⟩ = some (.slice ra r.attrs.length rc) ∧ w1.drew.cell? ⟨b, off + j * 2 + 1, none⟩ = some (.slice pa pr.attrs.length pc) from ⟨y1, z1⟩)) ?_ (by rfl) ?_
          rotate_left
          ·intro w'; go_simp; (try with_reducible rfl)
          simp only [Act.put, List.getElem_toArray, List.getElem_cons_zero, List.getElem_cons_succ, List.setIfInBounds_toArray, List.set_cons_zero, List.set_cons_succ]
          refine wpAnyB_free (fuel := 22) (i := 8) (v := ?_) rfl (by kernel_rfl) (by kernel_rfl) (by kernel_rfl) (by kernel_rfl) (fun _ _ _ h => h) (.inr (show w1.drew.cell? ⟨wr.heap.size, 1, none⟩ = some (.slice ra r.attrs.length rc) ∧ w1.drew.cell? ⟨b, off + j * 2 + 1, none⟩ = some (.slice pa pr.attrs.length pc) from ⟨y1, z1⟩)) ?_ (by rfl) ?_
          rotate_left
          ·intro w'; go_simp; (try with_reducible rfl)
          simp only [Act.put, List.getElem_toArray, List.getElem_cons_zero, List.getElem_cons_succ, List.setIfInBounds_toArray, List.set_cons_zero, List.set_cons_succ]
          refine wpAnyB_free (fuel := 21) (i := 9) (v := ?_) rfl (by kernel_rfl) (by kernel_rfl) (by kernel_rfl) (by kernel_rfl) (fun _ _ _ h => h) (.inr (show w1.drew.cell? ⟨wr.heap.size, 1, none⟩ = some (.slice ra r.attrs.length rc) ∧ w1.drew.cell? ⟨b, off + j * 2 + 1, none⟩ = some (.slice pa pr.attrs.length pc) from ⟨y1, z1⟩)) ?_ (by rfl) ?_
          rotate_left
          ·intro w'; go_simp; (try with_reducible rfl)
          simp only [Act.put, List.getElem_toArray, List.getElem_cons_zero, List.getElem_cons_succ, List.setIfInBounds_toArray, List.set_cons_zero, List.set_cons_succ]
          refine wpAnyB_free (fuel := 20) (i := 10) (v := ?_) rfl (by kernel_rfl) (by kernel_rfl) (by kernel_rfl) (by kernel_rfl) (fun _ _ _ h => h) (.inr (show w1.drew.cell? ⟨wr.heap.size, 1, none⟩ = some (.slice ra r.attrs.length rc) ∧ w1.drew.cell? ⟨b, off + j * 2 + 1, none⟩ = some (.slice pa pr.attrs.length pc) from ⟨y1, z1⟩)) ?_ (by rfl) ?_
          rotate_left
          ·intro w'; go_simp; (try with_reducible rfl)
          simp only [Act.put, List.getElem_toArray, List.getElem_cons_zero, List.getElem_cons_succ, List.setIfInBounds_toArray, List.set_cons_zero, List.set_cons_succ]
          refine wpAnyB_free (fuel := 19) (i := 11) (v := ?_) rfl (by kernel_rfl) (by kernel_rfl) (by kernel_rfl) (by kernel_rfl) (fun _ _ _ h => h) (.inr (show w1.drew.cell? ⟨wr.heap.size, 1, none⟩ = some (.slice ra r.attrs.length rc) ∧ w1.drew.cell? ⟨b, off + j * 2 + 1, none⟩ = some (.slice pa pr.attrs.length pc) from ⟨y1, z1⟩)) ?_ (by rfl) ?_
          rotate_left
          ·intro w'; go_simp; (try with_reducible rfl)
          simp only [Act.put, List.getElem_toArray, List.getElem_cons_zero, List.getElem_cons_succ, List.setIfInBounds_toArray, List.set_cons_zero, List.set_cons_succ]
          refine wpAnyB_load [] (fuel := 18) (i := 12) (v := ?_) rfl (by kernel_rfl) (by kernel_rfl) (by kernel_rfl) (by kernel_rfl) (by kernel_rfl) (fun _ _ _ h => h) (.inr (show w1.drew.cell? ⟨wr.heap.size, 1, none⟩ = some (.slice ra r.attrs.length rc) ∧ w1.drew.cell? ⟨b, off + j * 2 + 1, none⟩ = some (.slice pa pr.attrs.length pc) from ⟨y1, z1⟩)) ?_ (by rfl) ?_
          rotate_left
          ·intro w' hw'; obtain ⟨hw1, hw2⟩ := hw'; go_simp; (try with_reducible rfl)
          simp only [Act.put, List.getElem_toArray, List.getElem_cons_zero, List.getElem_cons_succ, List.setIfInBounds_toArray, List.set_cons_zero, List.set_cons_succ]
          refine wpAnyB_one (fuel := 17) (i := 13) rfl (by kernel_rfl) ?_
          intro KB hKB
          go_simp
          refine HR1.out.mono ?_
          rintro e wA ⟨rfl, hbA⟩
          have BA : Below w1.heap.size w1 wA := of_drew hbA
          have SA : wA.cell? ⟨wr.heap.size, 1, none⟩ = some (.slice ra r.attrs.length rc) ∧ wA.cell? ⟨b, off + j * 2 + 1, none⟩ = some (.slice pa pr.attrs.length pc) := ⟨(BA.cell (by exact hs1)).trans y1, (BA.cell (by exact hb1')).trans z1⟩
          have HBA := Lib.hid (HB1.out.trans (BA.mono HB1.out.size))
          have HSA := Lib.hid SA
          clear hbA BA SA
          refine hKB _ _ (.inr HSA.out) ?_
          (try simp only [Act.put, List.getElem_toArray, List.getElem_cons_zero, List.getElem_cons_succ, List.setIfInBounds_toArray, List.set_cons_zero, List.set_cons_succ])
          refine wpAnyB_free (fuel := 16) (i := 14) (v := ?_) rfl (by kernel_rfl) (by kernel_rfl) (by kernel_rfl) (by kernel_rfl) (fun _ _ _ h => h) (.inr HSA.out) ?_ (by rfl) ?_
          rotate_left
          ·intro w'; go_simp; (try with_reducible rfl)
          simp only [Act.put, List.getElem_toArray, List.getElem_cons_zero, List.getElem_cons_succ, List.setIfInBounds_toArray, List.set_cons_zero, List.set_cons_succ]
          refine wpAnyB_free (fuel := 15) (i := 15) (v := ?_) rfl (by kernel_rfl) (by kernel_rfl) (by kernel_rfl) (by kernel_rfl) (fun _ _ _ h => h) (.inr HSA.out) ?_ (by rfl) ?_
          rotate_left
          ·intro w'; go_simp; (try with_reducible rfl)
          simp only [Act.put, List.getElem_toArray, List.getElem_cons_zero, List.getElem_cons_succ, List.setIfInBounds_toArray, List.set_cons_zero, List.set_cons_succ]
          refine wpAnyB_free (fuel := 14) (i := 16) (v := ?_) rfl (by kernel_rfl) (by kernel_rfl) (by kernel_rfl) (by kernel_rfl) (fun _ _ _ h => h) (.inr HSA.out) ?_ (by rfl) ?_
          rotate_left
          ·intro w'; go_simp; (try with_reducible rfl)
          simp only [Act.put, List.getElem_toArray, List.getElem_cons_zero, List.getElem_cons_succ, List.setIfInBounds_toArray, List.set_cons_zero, List.set_cons_succ]
          refine wpAnyB_free (fuel := 13) (i := 17) (v := ?_) rfl (by kernel_rfl) (by kernel_rfl) (by kernel_rfl) (by kernel_rfl) (fun _ _ _ h => h) (.inr HSA.out) ?_ (by rfl) ?_
          rotate_left
          ·intro w'; go_simp; (try with_reducible rfl)
          simp only [Act.put, List.getElem_toArray, List.getElem_cons_zero, List.getElem_cons_succ, List.setIfInBounds_toArray, List.set_cons_zero, List.set_cons_succ]
          refine wpAnyB_free (fuel := 12) (i := 18) (v := ?_) rfl (by kernel_rfl) (by kernel_rfl) (by kernel_rfl) (by kernel_rfl) (fun _ _ _ h => h) (.inr HSA.out) ?_ (by rfl) ?_
          rotate_left
          ·intro w'; go_simp; (try with_reducible rfl)
          simp only [Act.put, List.getElem_toArray, List.getElem_cons_zero, List.getElem_cons_succ, List.setIfInBounds_toArray, List.set_cons_zero, List.set_cons_succ]
          refine wpAnyB_free (fuel := 11) (i := 19) (v := ?_) rfl (by kernel_rfl) (by kernel_rfl) (by kernel_rfl) (by kernel_rfl) (fun _ _ _ h => h) (.inr HSA.out) ?_ (by rfl) ?_
          rotate_left
          ·intro w'; go_simp; (try with_reducible rfl)
          simp only [Act.put, List.getElem_toArray, List.getElem_cons_zero, List.getElem_cons_succ, List.setIfInBounds_toArray, List.set_cons_zero, List.set_cons_succ]
          refine wpAnyB_free (fuel := 10) (i := 20) (v := ?_) rfl (by kernel_rfl) (by kernel_rfl) (by kernel_rfl) (by kernel_rfl) (fun _ _ _ h => h) (.inr HSA.out) ?_ (by rfl) ?_
          rotate_left
          ·intro w'; go_simp; (try with_reducible rfl)
          simp only [Act.put, List.getElem_toArray, List.getElem_cons_zero, List.getElem_cons_succ, List.setIfInBounds_toArray, List.set_cons_zero, List.set_cons_succ]
          refine wpAnyB_free (fuel := 9) (i := 21) (v := ?_) rfl (by kernel_rfl) (by kernel_rfl) (by kernel_rfl) (by kernel_rfl) (fun _ _ _ h => h) (.inr HSA.out) ?_ (by rfl) ?_
          rotate_left
          ·intro w'; go_simp; (try with_reducible rfl)
          simp only [Act.put, List.getElem_toArray, List.getElem_cons_zero, List.getElem_cons_succ, List.setIfInBounds_toArray, List.set_cons_zero, List.set_cons_succ]
          refine wpAnyB_free (fuel := 8) (i := 22) (v := ?_) rfl (by kernel_rfl) (by kernel_rfl) (by kernel_rfl) (by kernel_rfl) (fun _ _ _ h => h) (.inr HSA.out) ?_ (by rfl) ?_
          rotate_left
          ·intro w'; go_simp; (try with_reducible rfl)
          simp only [Act.put, List.getElem_toArray, List.getElem_cons_zero, List.getElem_cons_succ, List.setIfInBounds_toArray, List.set_cons_zero, List.set_cons_succ]
          refine wpAnyB_free (fuel := 7) (i := 23) (v := ?_) rfl (by kernel_rfl) (by kernel_rfl) (by kernel_rfl) (by kernel_rfl) (fun _ _ _ h => h) (.inr HSA.out) ?_ (by rfl) ?_
          rotate_left
          ·intro w'; go_simp; (try with_reducible rfl)
          simp only [Act.put, List.getElem_toArray, List.getElem_cons_zero, List.getElem_cons_succ, List.setIfInBounds_toArray, List.set_cons_zero, List.set_cons_succ]
          refine wpAnyB_free (fuel := 6) (i := 24) (v := ?_) rfl (by kernel_rfl) (by kernel_rfl) (by kernel_rfl) (by kernel_rfl) (fun _ _ _ h => h) (.inr HSA.out) ?_ (by rfl) ?_
          rotate_left
          ·intro w'; go_simp; (try with_reducible rfl)
          simp only [Act.put, List.getElem_toArray, List.getElem_cons_zero, List.getElem_cons_succ, List.setIfInBounds_toArray, List.set_cons_zero, List.set_cons_succ]
          refine wpAnyB_load [] (fuel := 5) (i := 25) (v := ?_) rfl (by kernel_rfl) (by kernel_rfl) (by kernel_rfl) (by kernel_rfl) (by kernel_rfl) (fun _ _ _ h => h) (.inr HSA.out) ?_ (by rfl) ?_
          rotate_left
          ·intro w' hw'; obtain ⟨hw1, hw2⟩ := hw'; go_simp; (try with_reducible rfl)
          simp only [Act.put, List.getElem_toArray, List.getElem_cons_zero, List.getElem_cons_succ, List.setIfInBounds_toArray, List.set_cons_zero, List.set_cons_succ]
          refine wpAnyB_free (fuel := 4) (i := 26) (v := ?_) rfl (by kernel_rfl) (by kernel_rfl) (by kernel_rfl) (by kernel_rfl) (fun _ _ _ h => h) (.inr HSA.out) ?_ (by rfl) ?_
          rotate_left
          ·intro w'; go_simp; (try with_reducible rfl)
          simp only [Act.put, List.getElem_toArray, List.getElem_cons_zero, List.getElem_cons_succ, List.setIfInBounds_toArray, List.set_cons_zero, List.set_cons_succ]
          refine wpAnyB_load [] (fuel := 3) (i := 27) (v := ?_) rfl (by kernel_rfl) (by kernel_rfl) (by kernel_rfl) (by kernel_rfl) (by kernel_rfl) (fun _ _ _ h => h) (.inr HSA.out) ?_ (by rfl) ?_
          rotate_left
          ·intro w' hw'; obtain ⟨hw1, hw2⟩ := hw'; go_simp; (try with_reducible rfl)
          simp only [Act.put, List.getElem_toArray, List.getElem_cons_zero, List.getElem_cons_succ, List.setIfInBounds_toArray, List.set_cons_zero, List.set_cons_succ]
          refine wpAnyB_one (fuel := 2) (i := 28) rfl (by kernel_rfl) ?_
          intro KB hKB
          go_simp
          refine (HSM.out wA HBA.out).mono ?_
          rintro e wB ⟨rfl, kk, rfl⟩
          rw [hsb]
          have SB : (wA.drewN kk).cell? ⟨wr.heap.size, 1, none⟩ = some (.slice ra r.attrs.length rc) ∧ (wA.drewN kk).cell? ⟨b, off + j * 2 + 1, none⟩ = some (.slice pa pr.attrs.length pc) := by simpa using HSA.out
          have HSB := Lib.hid SB
          clear SB
          refine hKB _ _ (.inr HSB.out) ?_
          (try simp only [Act.put, List.getElem_toArray, List.getElem_cons_zero, List.getElem_cons_succ, List.setIfInBounds_toArray, List.set_cons_zero, List.set_cons_succ])
          refine wpAnyB_free (fuel := 1) (i := 29) (v := ?_) rfl (by kernel_rfl) (by kernel_rfl) (by kernel_rfl) (by kernel_rfl) (fun _ _ _ h => h) (.inr HSB.out) ?_ (by rfl) ?_
          rotate_left
          ·intro w'; go_simp; (try with_reducible rfl)
          simp only [Act.put, List.getElem_toArray, List.getElem_cons_zero, List.getElem_cons_succ, List.setIfInBounds_toArray, List.set_cons_zero, List.set_cons_succ]
          refine wpAnyB_free (fuel := 0) (i := 30) (v := ?_) rfl (by kernel_rfl) (by kernel_rfl) (by kernel_rfl) (by kernel_rfl) (fun _ _ _ h => h) (.inr HSB.out) ?_ (by rfl) ?_
          rotate_left
          ·intro w'; go_simp; (try with_reducible rfl)
          simp only [Act.put, List.getElem_toArray, List.getElem_cons_zero, List.getElem_cons_succ, List.setIfInBounds_toArray, List.set_cons_zero, List.set_cons_succ]
          refine wpAnyB_done (by kernel_rfl) ?_
          have HOK := Lib.hid (HST.out.trans (if_neg HNB.out))
          have HPN2 := Lib.hid HPN.out
          go_wp2_with fail
          go_roundw
          case rel => exact ⟨k + 1, m + cn, by go_num, rfl, by omega, by omega, by omega, by rw [HPN2.out, ← hcnt]; exact HOK.out.symm, (below_drewN HBA.out _)⟩
          case measure => simp [intOf]; omega
       ·have t4 : (rgtE r.attrs != 0) = true := by rw [bne_iff_ne]; exact hg
        have HBAD := Lib.hid (HL.out.trans (HST.out.trans (if_pos (.inr (.inr (.inr (.inl hg)))))))
        go_wp2_with fail
        refine wp_region_B (fun w' => w'.cell? ⟨wr.heap.size, 1, none⟩ = some (.slice ra r.attrs.length rc)) [] (by kernel_rfl) (?_ : wpAnyB _ _ _ _ _ _ 31 (Array.replicate 31 false) _ _)
        refine wpAnyB_free (fuel := 30) (i := 0) (v := ?_) rfl (by kernel_rfl) (by kernel_rfl) (by kernel_rfl) (by kernel_rfl) (fun _ _ _ h => h) (.inr (show w1.drew.cell? ⟨wr.heap.size, 1, none⟩ = some (.slice ra r.attrs.length rc) from y1)) ?_ (by rfl) ?_
        rotate_left
        ·intro w'; go_simp; (try with_reducible rfl)
        simp only [Act.put, List.getElem_toArray, List.getElem_cons_zero, List.setIfInBounds_toArray, List.set_cons_zero, List.set_cons_succ]
        refine wpAnyB_free (fuel := 29) (i := 1) (v := ?_) rfl (by kernel_rfl) (by kernel_rfl) (by kernel_rfl) (by kernel_rfl) (fun _ _ _ h => h) (.inr (show w1.drew.cell? ⟨wr.heap.size, 1, none⟩ = some (.slice ra r.attrs.length rc) from y1)) ?_ (by rfl) ?_
        rotate_left
        ·intro w'; go_simp; (try with_reducible rfl)
        simp only [Act.put, List.getElem_toArray, List.getElem_cons_zero, List.getElem_cons_succ, List.setIfInBounds_toArray, List.set_cons_zero, List.set_cons_succ]
        refine wpAnyB_free (fuel := 28) (i := 2) (v := ?_) rfl (by kernel_rfl) (by kernel_rfl) (by kernel_rfl) (by kernel_rfl) (fun _ _ _ h => h) (.inr (show w1.drew.cell? ⟨wr.heap.size, 1, none⟩ = some (.slice ra r.attrs.length rc) from y1)) ?_ (by rfl) ?_
        rotate_left
        ·intro w'; go_simp; (try with_reducible rfl)
        simp only [Act.put, List.getElem_toArray, List.getElem_cons_zero, List.getElem_cons_succ, List.setIfInBounds_toArray, List.set_cons_zero, List.set_cons_succ]
        refine wpAnyB_free (fuel := 27) (i := 3) (v := ?_) rfl (by kernel_rfl) (by kernel_rfl) (by kernel_rfl) (by kernel_rfl) (fun _ _ _ h => h) (.inr (show w1.drew.cell? ⟨wr.heap.size, 1, none⟩ = some (.slice ra r.attrs.length rc) from y1)) ?_ (by rfl) ?_
        rotate_left
        ·intro w'; go_simp; (try with_reducible rfl)
        simp only [Act.put, List.getElem_toArray, List.getElem_cons_zero, List.getElem_cons_succ, List.setIfInBounds_toArray, List.set_cons_zero, List.set_cons_succ]
        refine wpAnyB_free (fuel := 26) (i := 4) (v := ?_) rfl (by kernel_rfl) (by kernel_rfl) (by kernel_rfl) (by kernel_rfl) (fun _ _ _ h => h) (.inr (show w1.drew.cell? ⟨wr.heap.size, 1, none⟩ = some (.slice ra r.attrs.length rc) from y1)) ?_ (by rfl) ?_
        rotate_left
        ·intro w'; go_simp; (try with_reducible rfl)
        simp only [Act.put, List.getElem_toArray, List.getElem_cons_zero, List.getElem_cons_succ, List.setIfInBounds_toArray, List.set_cons_zero, List.set_cons_succ]
        refine wpAnyB_free (fuel := 25) (i := 5) (v := ?_) rfl (by kernel_rfl) (by kernel_rfl) (by kernel_rfl) (by kernel_rfl) (fun _ _ _ h => h) (.inr (show w1.drew.cell? ⟨wr.heap.size, 1, none⟩ = some (.slice ra r.attrs.length rc) from y1)) ?_ (by rfl) ?_
        rotate_left
        ·intro w'; go_simp; (try with_reducible rfl)
        simp only [Act.put, List.getElem_toArray, List.getElem_cons_zero, List.getElem_cons_succ, List.setIfInBounds_toArray, List.set_cons_zero, List.set_cons_succ]
        refine wpAnyB_free (fuel := 24) (i := 6) (v := ?_) rfl (by kernel_rfl) (by kernel_rfl) (by kernel_rfl) (by kernel_rfl) (fun _ _ _ h => h) (.inr (show w1.drew.cell? ⟨wr.heap.size, 1, none⟩ = some (.slice ra r.attrs.length rc) from y1)) ?_ (by rfl) ?_
        rotate_left
        ·intro w'; go_simp; (try with_reducible rfl)
        simp only [Act.put, List.getElem_toArray, List.getElem_cons_zero, List.getElem_cons_succ, List.setIfInBounds_toArray, List.set_cons_zero, List.set_cons_succ]
        refine wpAnyB_free (fuel := 23) (i := 7) (v := ?_) rfl (by kernel_rfl) (by kernel_rfl) (by kernel_rfl) (by kernel_rfl) (fun _ _ _ h => h) (.inr (show w1.drew.cell? ⟨wr.heap.size, 1, none⟩ = some (.slice ra r.attrs.length rc) from y1)) ?_ (by rfl) ?_
        rotate_left
        ·intro w'; go_simp; (try with_reducible rfl)
        simp only [Act.put, List.getElem_toArray, List.getElem_cons_zero, List.getElem_cons_succ, List.setIfInBounds_toArray, List.set_cons_zero, List.set_cons_succ]
        refine wpAnyB_free (fuel := 22) (i := 8) (v := ?_) rfl (by kernel_rfl) (by kernel_rfl) (by kernel_rfl) (by kernel_rfl) (fun _ _ _ h => h) (.inr (show w1.drew.cell? ⟨wr.heap.size, 1, none⟩ = some (.slice ra r.attrs.length rc) from y1)) ?_ (by rfl) ?_
        rotate_left
        ·intro w'; go_simp; (try with_reducible rfl)
        simp only [Act.put, List.getElem_toArray, List.getElem_cons_zero, List.getElem_cons_succ, List.setIfInBounds_toArray, List.set_cons_zero, List.set_cons_succ]
        refine wpAnyB_free (fuel := 21) (i := 9) (v := ?_) rfl (by kernel_rfl) (by kernel_rfl) (by kernel_rfl) (by kernel_rfl) (fun _ _ _ h => h) (.inr (show w1.drew.cell? ⟨wr.heap.size, 1, none⟩ = some (.slice ra r.attrs.length rc) from y1)) ?_ (by rfl) ?_
        rotate_left
        ·intro w'; go_simp; (try with_reducible rfl)
        simp only [Act.put, List.getElem_toArray, List.getElem_cons_zero, List.getElem_cons_succ, List.setIfInBounds_toArray, List.set_cons_zero, List.set_cons_succ]
        refine wpAnyB_free (fuel := 20) (i := 10) (v := ?_) rfl (by kernel_rfl) (by kernel_rfl) (by kernel_rfl) (by kernel_rfl) (fun _ _ _ h => h) (.inr (show w1.drew.cell? ⟨wr.heap.size, 1, none⟩ = some (.slice ra r.attrs.length rc) from y1)) ?_ (by rfl) ?_
        rotate_left
        ·intro w'; go_simp; (try with_reducible rfl)
        simp only [Act.put, List.getElem_toArray, List.getElem_cons_zero, List.getElem_cons_succ, List.setIfInBounds_toArray, List.set_cons_zero, List.set_cons_succ]
        refine wpAnyB_free (fuel := 19) (i := 11) (v := ?_) rfl (by kernel_rfl) (by kernel_rfl) (by kernel_rfl) (by kernel_rfl) (fun _ _ _ h => h) (.inr (show w1.drew.cell? ⟨wr.heap.size, 1, none⟩ = some (.slice ra r.attrs.length rc) from y1)) ?_ (by rfl) ?_
        rotate_left
        ·intro w'; go_simp; (try with_reducible rfl)
        simp only [Act.put, List.getElem_toArray, List.getElem_cons_zero, List.getElem_cons_succ, List.setIfInBounds_toArray, List.set_cons_zero, List.set_cons_succ]
        refine wpAnyB_load [] (fuel := 18) (i := 12) (v := ?_) rfl (by kernel_rfl) (by kernel_rfl) (by kernel_rfl) (by kernel_rfl) (by kernel_rfl) (fun _ _ _ h => h) (.inr (show w1.drew.cell? ⟨wr.heap.size, 1, none⟩ = some (.slice ra r.attrs.length rc) from y1)) ?_ (by rfl) ?_
        rotate_left
        ·intro w' hw'; obtain hw1 := hw'; go_simp; (try with_reducible rfl)
        simp only [Act.put, List.getElem_toArray, List.getElem_cons_zero, List.getElem_cons_succ, List.setIfInBounds_toArray, List.set_cons_zero, List.set_cons_succ]
        refine wpAnyB_one (fuel := 17) (i := 13) rfl (by kernel_rfl) ?_
        intro KB hKB
        go_simp
        refine HR1.out.mono ?_
        rintro e wA ⟨rfl, hbA⟩
        have BA : Below w1.heap.size w1 wA := of_drew hbA
        have yA : wA.cell? ⟨wr.heap.size, 1, none⟩ = some (.slice ra r.attrs.length rc) := (BA.cell (by exact hs1)).trans y1
        have HBA := Lib.hid (HB1.out.trans (BA.mono HB1.out.size))
        have HYA := Lib.hid yA
        clear hbA BA
        refine hKB _ _ (.inr HYA.out) ?_
        (try simp only [Act.put, List.getElem_toArray, List.getElem_cons_zero, List.getElem_cons_succ, List.setIfInBounds_toArray, List.set_cons_zero, List.set_cons_succ])
        refine wpAnyB_free (fuel := 16) (i := 14) (v := ?_) rfl (by kernel_rfl) (by kernel_rfl) (by kernel_rfl) (by kernel_rfl) (fun _ _ _ h => h) (.inr HYA.out) ?_ (by rfl) ?_
        rotate_left
        ·intro w'; go_simp; (try with_reducible rfl)
        simp only [Act.put, List.getElem_toArray, List.getElem_cons_zero, List.getElem_cons_succ, List.setIfInBounds_toArray, List.set_cons_zero, List.set_cons_succ]
        refine wpAnyB_free (fuel := 15) (i := 15) (v := ?_) rfl (by kernel_rfl) (by kernel_rfl) (by kernel_rfl) (by kernel_rfl) (fun _ _ _ h => h) (.inr HYA.out) ?_ (by rfl) ?_
        rotate_left
        ·intro w'; go_simp; (try with_reducible rfl)
        simp only [Act.put, List.getElem_toArray, List.getElem_cons_zero, List.getElem_cons_succ, List.setIfInBounds_toArray, List.set_cons_zero, List.set_cons_succ]
        refine wpAnyB_free (fuel := 14) (i := 16) (v := ?_) rfl (by kernel_rfl) (by kernel_rfl) (by kernel_rfl) (by kernel_rfl) (fun _ _ _ h => h) (.inr HYA.out) ?_ (by rfl) ?_
        rotate_left
        ·intro w'; go_simp; (try with_reducible rfl)
        simp only [Act.put, List.getElem_toArray, List.getElem_cons_zero, List.getElem_cons_succ, List.setIfInBounds_toArray, List.set_cons_zero, List.set_cons_succ]
        refine wpAnyB_skip (fuel := 13) (i := 17) rfl (by kernel_rfl) (by kernel_rfl) (by kernel_rfl) (by kernel_rfl) (fun _ _ _ h => h) (.inr HYA.out) (by rfl) ?_
        simp only [Act.put, List.getElem_toArray, List.getElem_cons_zero, List.getElem_cons_succ, List.setIfInBounds_toArray, List.set_cons_zero, List.set_cons_succ]
        refine wpAnyB_skip (fuel := 12) (i := 18) rfl (by kernel_rfl) (by kernel_rfl) (by kernel_rfl) (by kernel_rfl) (fun _ _ _ h => h) (.inr HYA.out) (by rfl) ?_
        simp only [Act.put, List.getElem_toArray, List.getElem_cons_zero, List.getElem_cons_succ, List.setIfInBounds_toArray, List.set_cons_zero, List.set_cons_succ]
        refine wpAnyB_skip (fuel := 11) (i := 19) rfl (by kernel_rfl) (by kernel_rfl) (by kernel_rfl) (by kernel_rfl) (fun _ _ _ h => h) (.inr HYA.out) (by rfl) ?_
        simp only [Act.put, List.getElem_toArray, List.getElem_cons_zero, List.getElem_cons_succ, List.setIfInBounds_toArray, List.set_cons_zero, List.set_cons_succ]
        refine wpAnyB_skip (fuel := 10) (i := 20) rfl (by kernel_rfl) (by kernel_rfl) (by kernel_rfl) (by kernel_rfl) (fun _ _ _ h => h) (.inr HYA.out) (by rfl) ?_
        simp only [Act.put, List.getElem_toArray, List.getElem_cons_zero, List.getElem_cons_succ, List.setIfInBounds_toArray, List.set_cons_zero, List.set_cons_succ]
        refine wpAnyB_skip (fuel := 9) (i := 21) rfl (by kernel_rfl) (by kernel_rfl) (by kernel_rfl) (by kernel_rfl) (fun _ _ _ h => h) (.inr HYA.out) (by rfl) ?_
        simp only [Act.put, List.getElem_toArray, List.getElem_cons_zero, List.getElem_cons_succ, List.setIfInBounds_toArray, List.set_cons_zero, List.set_cons_succ]
        refine wpAnyB_skip (fuel := 8) (i := 22) rfl (by kernel_rfl) (by kernel_rfl) (by kernel_rfl) (by kernel_rfl) (fun _ _ _ h => h) (.inr HYA.out) (by rfl) ?_
        simp only [Act.put, List.getElem_toArray, List.getElem_cons_zero, List.getElem_cons_succ, List.setIfInBounds_toArray, List.set_cons_zero, List.set_cons_succ]
        refine wpAnyB_skip (fuel := 7) (i := 23) rfl (by kernel_rfl) (by kernel_rfl) (by kernel_rfl) (by kernel_rfl) (fun _ _ _ h => h) (.inr HYA.out) (by rfl) ?_
        simp only [Act.put, List.getElem_toArray, List.getElem_cons_zero, List.getElem_cons_succ, List.setIfInBounds_toArray, List.set_cons_zero, List.set_cons_succ]
        refine wpAnyB_skip (fuel := 6) (i := 24) rfl (by kernel_rfl) (by kernel_rfl) (by kernel_rfl) (by kernel_rfl) (fun _ _ _ h => h) (.inr HYA.out) (by rfl) ?_
        simp only [Act.put, List.getElem_toArray, List.getElem_cons_zero, List.getElem_cons_succ, List.setIfInBounds_toArray, List.set_cons_zero, List.set_cons_succ]
        refine wpAnyB_skip (fuel := 5) (i := 25) rfl (by kernel_rfl) (by kernel_rfl) (by kernel_rfl) (by kernel_rfl) (fun _ _ _ h => h) (.inr HYA.out) (by rfl) ?_
        simp only [Act.put, List.getElem_toArray, List.getElem_cons_zero, List.getElem_cons_succ, List.setIfInBounds_toArray, List.set_cons_zero, List.set_cons_succ]
        refine wpAnyB_skip (fuel := 4) (i := 26) rfl (by kernel_rfl) (by kernel_rfl) (by kernel_rfl) (by kernel_rfl) (fun _ _ _ h => h) (.inr HYA.out) (by rfl) ?_
        simp only [Act.put, List.getElem_toArray, List.getElem_cons_zero, List.getElem_cons_succ, List.setIfInBounds_toArray, List.set_cons_zero, List.set_cons_succ]
        refine wpAnyB_skip (fuel := 3) (i := 27) rfl (by kernel_rfl) (by kernel_rfl) (by kernel_rfl) (by kernel_rfl) (fun _ _ _ h => h) (.inr HYA.out) (by rfl) ?_
        simp only [Act.put, List.getElem_toArray, List.getElem_cons_zero, List.getElem_cons_succ, List.setIfInBounds_toArray, List.set_cons_zero, List.set_cons_succ]
        refine wpAnyB_skip (fuel := 2) (i := 28) rfl (by kernel_rfl) (by kernel_rfl) (by kernel_rfl) (by kernel_rfl) (fun _ _ _ h => h) (.inr HYA.out) (by rfl) ?_
        simp only [Act.put, List.getElem_toArray, List.getElem_cons_zero, List.getElem_cons_succ, List.setIfInBounds_toArray, List.set_cons_zero, List.set_cons_succ]
        refine wpAnyB_skip (fuel := 1) (i := 29) rfl (by kernel_rfl) (by kernel_rfl) (by kernel_rfl) (by kernel_rfl) (fun _ _ _ h => h) (.inr HYA.out) (by rfl) ?_
        simp only [Act.put, List.getElem_toArray, List.getElem_cons_zero, List.getElem_cons_succ, List.setIfInBounds_toArray, List.set_cons_zero, List.set_cons_succ]
        refine wpAnyB_free (fuel := 0) (i := 30) (v := ?_) rfl (by kernel_rfl) (by kernel_rfl) (by kernel_rfl) (by kernel_rfl) (fun _ _ _ h => h) (.inr HYA.out) ?_ (by rfl) ?_
        rotate_left
        ·intro w'; go_simp; (try with_reducible rfl)
        simp only [Act.put, List.getElem_toArray, List.getElem_cons_zero, List.getElem_cons_succ, List.setIfInBounds_toArray, List.set_cons_zero, List.set_cons_succ]
        refine wpAnyB_done (by kernel_rfl) ?_
        go_wp2_with fail
        go_ret2
        exact lenOut_bad HBAD.out HBA.out
    ·have t1 : (en != 0) = true := by rw [bne_iff_ne]; exact he
     have HBAD := Lib.hid (HL.out.trans (HST.out.trans (if_pos (.inl (by rw [her]; exact he)))))
     go_wp2_with fail
     go_quiet (fail)
     go_wp2_with fail
     go_ret2
     exact lenOut_bad HBAD.out (below_drewN HB1.out _)
   ·have hkn : k = ps.length := by omega
    subst hkn
    have hF2 := HF.out
    rw [List.drop_of_length_le (by rw [List.length_map]; exact Nat.le_refl _)] at hF2
    have HR := Lib.hid (HL.out.trans hF2.symm)
    clear hF hb hF2
    go_wp2_with fail
    go_ret2
    exact lenOut_ok HR.out HB.out
 ·have hl' : (2000 : Int) < (ps.length : Int) := by omega
  have hl2 : decide ((2000 : Int) < (ps.length : Int)) = true := decide_eq_true (by omega)
  have HL := Lib.hid (lenD_long (l := ps.map (·.1)) (by rw [List.length_map]; exact hl))
  go_enter Tryz.func29, Tryz.ntmps29
  go_wp2_with fail
  go_ret2
  exact lenOut_bad HL.out (Below.refl _ _)
end Go.Proofs.YtlfodemmdfaeeaaGreatDoor
