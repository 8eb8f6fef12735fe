/- Texts of this seat, put together: AnZ, AnZz. -/
import Derived.Test.YtggjeiemofkfbaaGN2
import Derived.Test.YtggjeiemofkfbaaGK2
import Derived.Test.YtggjeiemofkfbaaGN3
import Derived.Test.YtggjeiemofkfbaaGC2
import Derived.Deep.DeepCutAuto
import Derived.Deep.CutBlock
/- The law AnchorApart, walked. -/
namespace Go.Proofs.Ytggjeiemofkfbaa
open Go.RowKit Rn Ch
open An (away aheadR stepA foldA)

/-- The law's operations, one by one. -/
def ap1 (a : Int) : List OpD := [] ++ (if 0 < a then [bareO 1 a] else [])
def ap2 (a : Int) (put : ByteArray) : List OpD := ap1 a ++ (if put.size ≠ 0 then [⟨2, 0, put, []⟩] else [])
def ap3 (a : Int) (put : ByteArray) (gone : Int) : List OpD := ap2 a put ++ (if 0 < gone then [bareO 3 gone] else [])
theorem flat_bare (o : OpD) (L : List OpD) {k n : Int} {t : ByteArray} (hk : o.kind = k) (hn : o.n = n) (ht : o.text = t) : flatO (bareP L) ++ [.int .i64 k, .int .i64 n, .string t, .slice none 0 0] = flatO (bareP (L ++ [o])) := by
  subst hk hn ht
  unfold bareP
  rw [List.map_append, List.map_singleton, flatO_snoc]; rfl
theorem contB_ba (b : UInt8) : contB b = decide (128 ≤ b.toNat ∧ b.toNat < 192) := rfl
/-- How many bytes begin a rune. -/
def kB (l : List UInt8) : Nat := (l.filter fun b => !contB b).length
theorem kB_snoc (l : List UInt8) (b : UInt8) : kB (l ++ [b]) = kB l + (if contB b = true then 0 else 1) := by
  unfold kB
  rw [List.filter_append, List.length_append]
  cases h : contB b <;> simp [h]
theorem kB_take {l : List UInt8} {k : Nat} (h : k < l.length) : kB (l.take (k + 1)) = kB (l.take k) + (if contB l[k] = true then 0 else 1) := by
  rw [List.take_succ_eq_append_getElem h, kB_snoc]
theorem kB_le (l : List UInt8) : kB l ≤ l.length := List.length_filter_le _ _
theorem kB_enc {c : Nat} (hc : ok c) : kB (enc c) = 1 := by
  obtain ⟨b, t, he, h1, h2⟩ := enc_head hc
  rw [he]
  unfold kB
  have e : t.filter (fun b => !contB b) = [] := by
    rw [List.filter_eq_nil_iff]
    intro x hx
    rw [h2 x hx]; simp
  rw [List.filter_cons, h1, e]; rfl
theorem kB_txt {cs : List Nat} (h : allOk cs) : kB (txt cs) = cs.length := by
  induction cs with
  | nil => rfl
  | cons c r ih =>
    have e : kB (txt (c :: r)) = kB (enc c) + kB (txt r) := by
      rw [txt_cons]
      unfold kB
      rw [List.filter_append, List.length_append]
    rw [e, kB_enc (h c (List.mem_cons_self ..)), ih fun x hx => h x (List.mem_cons_of_mem _ hx), List.length_cons]
    omega
theorem kB_cnt {l : List UInt8} (h : er l = 0) : (kB l : Int) = cnt l := by
  cases hr : rd l with
  | none => rw [er_none hr] at h; omega
  | some cs =>
    obtain ⟨h1, h2, _⟩ := rd_some hr
    rw [cnt_some hr, h2, kB_txt h1]
theorem rgtE_nil8 : rgtE [] = 0 := by decide +kernel
theorem er_nil8 : er [] = 0 ∧ cnt [] = 0 := by decide +kernel
theorem data_nil {s : ByteArray} (h : s.size = 0) : s.data.toList = [] := List.length_eq_zero_iff.1 (show s.data.toList.length = 0 from h)
theorem norm_ap (a : Int) (put : ByteArray) (gone : Int) : norm (ap3 a put gone) = if put.size = 0 ∧ ¬ 0 < gone then [] else ap3 a put gone := by
  unfold ap3 ap2 ap1
  by_cases h1 : 0 < a <;> by_cases h2 : put.size = 0 <;> by_cases h3 : 0 < gone <;> simp [h1, h2, h3, norm, fold, add, Ch.put, flush, trim, delO]
theorem ap_ahead (up : Bool) (x a : Int) (put : ByteArray) (gone : Int) (a0 : 0 ≤ a) : aheadR up x (norm (ap3 a put gone)) = x + (if put.size = 0 then 0 else if away up x a = true then 0 else cnt put.data.toList) - (if 0 < gone then min gone (max (x - a) 0) else 0) := by
  rw [norm_ap]
  by_cases h1 : 0 < a
  · by_cases h2 : put.size = 0 <;> by_cases h3 : 0 < gone <;> simp [h1, h2, h3, ap3, ap2, ap1, aheadR, foldA, stepA]
  · have e : a = 0 := by omega
    subst e
    by_cases h2 : put.size = 0 <;> by_cases h3 : 0 < gone <;> simp [h2, h3, ap3, ap2, ap1, aheadR, foldA, stepA]
theorem ap_ok {n a : Int} {put : ByteArray} {gone : Int} (hp : put.size = 0 ∨ er put.data.toList = 0) (hz : put.size ≤ 5000) (n0 : 0 ≤ n) (n1 : n ≤ 10000) (a0 : 0 ≤ a) (a1 : a ≤ n) (_g0 : 0 ≤ gone) (g1 : gone ≤ n - a) : OkC n (ap3 a put gone) := by
  have hc : cnt put.data.toList ≤ 5000 := by
    rcases hp with h | h
    · rw [data_nil h, er_nil8.2]; omega
    · rw [← kB_cnt h]
      have h1 := kB_le put.data.toList
      have h2 : put.data.toList.length = put.size := rfl
      omega
  have k1 : 0 < a → opE (bareO 1 a) = 0 := fun h => (opE_keep rfl).2 ⟨by show 1 ≤ a; omega, rfl, chgE_nil⟩
  have k2 : put.size ≠ 0 → opE ⟨2, 0, put, []⟩ = 0 := fun h => (opE_put rfl).2 ⟨rfl, h, hp.resolve_left h, rgtE_nil8⟩
  have k3 : 0 < gone → opE (bareO 3 gone) = 0 := fun h => (opE_cut rfl).2 ⟨by show 1 ≤ gone; omega, rfl, rfl⟩
  unfold ap3 ap2 ap1
  refine ⟨n0, by omega, ?_, ?_, ?_, ?_⟩
  · by_cases h1 : 0 < a <;> by_cases h2 : put.size = 0 <;> by_cases h3 : 0 < gone <;> simp [h1, h2, h3]
  · intro o ho
    simp only [List.mem_append, List.nil_append] at ho
    rcases ho with (ho | ho) | ho
    · split at ho
      · rename_i h; rw [List.mem_singleton.1 ho]; exact k1 h
      · cases ho
    · split at ho
      · rename_i h; rw [List.mem_singleton.1 ho]; exact k2 h
      · cases ho
    · split at ho
      · rename_i h; rw [List.mem_singleton.1 ho]; exact k3 h
      · cases ho
  · by_cases h1 : 0 < a <;> by_cases h2 : put.size = 0 <;> by_cases h3 : 0 < gone <;> simp [h1, h2, h3, kd] <;> omega
  · by_cases h1 : 0 < a <;> by_cases h2 : put.size = 0 <;> by_cases h3 : 0 < gone <;> simp [h1, h2, h3, dl, Ch.ins] <;> omega
theorem ap_bad {n a : Int} {put : ByteArray} {gone : Int} (h1 : put.size ≠ 0) (h2 : er put.data.toList ≠ 0) : toE n (ap3 a put gone) ≠ 0 := fun h => by
  have hk := ((toE_iff _ _).1 h).2.2.2.1 ⟨2, 0, put, []⟩ (by unfold ap3 ap2; rw [if_pos h1]; simp)
  exact h2 ((opE_put rfl).1 hk).2.2.1
/-- What Move answers of it. -/
theorem ap_move {n a : Int} {put : ByteArray} {gone rf rt : Int} (hp : put.size = 0 ∨ er put.data.toList = 0) (hz : put.size ≤ 5000) (n0 : 0 ≤ n) (n1 : n ≤ 10000) (a0 : 0 ≤ a) (a1 : a ≤ n) (g0 : 0 ≤ gone) (g1 : gone ≤ n - a) (hr : rgE ⟨rf, rt, false⟩ n = 0) :
    mvE n (ap3 a put gone) ⟨rf, rt, false⟩ = 0 ∧ ∃ x y : Int, mvR n (ap3 a put gone) ⟨rf, rt, false⟩ = ⟨x, y, decide (x = y)⟩ ∧
      (a + gone ≤ rf → x = rf + (kB put.data.toList : Int) - gone ∧ y = rt + (kB put.data.toList : Int) - gone) ∧ (rt ≤ a → x = rf ∧ y = rt) := by
  have ho := ap_ok hp hz n0 n1 a0 a1 g0 g1
  have he := (toE_iff _ _).2 ho
  have hm : mvE n (ap3 a put gone) ⟨rf, rt, false⟩ = 0 := by unfold mvE; rw [if_neg (by omega), hr]
  obtain ⟨r0, r1, r2, _, r4⟩ := rgE_ok hr
  have r4 := r4 rfl
  simp only at r0 r1 r2 r4
  have hk : (kB put.data.toList : Int) = if put.size = 0 then 0 else cnt put.data.toList := by
    rcases hp with h | h
    · rw [if_pos h, data_nil h]; rfl
    · rw [kB_cnt h]
      split
      · rename_i h0; rw [data_nil h0]; exact er_nil8.2
      · rfl
  refine ⟨hm, mvA (ap3 a put gone) ⟨rf, rt, false⟩, mvB (ap3 a put gone) ⟨rf, rt, false⟩, by unfold mvR; rw [if_pos hm], ?_, ?_⟩
  · intro h
    unfold mvB mvA
    rw [if_neg (by simp), ap_ahead true rf a put gone a0, ap_ahead false rt a put gone a0, hk]
    have e1 : away true rf a = false := decide_eq_false (by omega)
    have e2 : away false rt a = false := decide_eq_false (by omega)
    rw [e1, e2]
    simp only [Bool.false_eq_true, if_false]
    refine ⟨?_, ?_⟩ <;> (split <;> split <;> omega)
  · intro h
    unfold mvB mvA
    rw [if_neg (by simp), ap_ahead true rf a put gone a0, ap_ahead false rt a put gone a0]
    have e1 : away true rf a = true := decide_eq_true (by omega)
    have e2 : away false rt a = true := decide_eq_true (by omega)
    rw [e1, e2]
    simp only [if_true, ite_self]
    refine ⟨?_, ?_⟩ <;> (split <;> omega)
theorem ap1_len (a : Int) : (ap1 a).length ≤ 1 := by unfold ap1; split <;> simp
theorem ap2_len (a : Int) (put : ByteArray) : (ap2 a put).length ≤ 2 := by have := ap1_len a; unfold ap2; split <;> simp <;> omega
theorem ap3_len (a : Int) (put : ByteArray) (gone : Int) : (ap3 a put gone).length ≤ 3 := by have := ap2_len a put; unfold ap3; split <;> simp <;> omega
theorem ap3_bare (a : Int) (put : ByteArray) (gone : Int) : ∀ o ∈ ap3 a put gone, o.attrs = [] ∧ o.text.size ≤ put.size := by
  unfold ap3 ap2 ap1
  intro o ho
  simp only [List.mem_append, List.nil_append] at ho
  rcases ho with (ho | ho) | ho
  · split at ho
    · rw [List.mem_singleton.1 ho]; exact ⟨rfl, Nat.zero_le _⟩
    · cases ho
  · split at ho
    · rw [List.mem_singleton.1 ho]; exact ⟨rfl, Nat.le_refl _⟩
    · cases ho
  · split at ho
    · rw [List.mem_singleton.1 ho]; exact ⟨rfl, Nat.zero_le _⟩
    · cases ho
theorem ap3_sized (a : Int) {put : ByteArray} (gone : Int) (h : put.size ≤ 5000) : OSized (ap3 a put gone) := fun o ho => by
  obtain ⟨h1, h2⟩ := ap3_bare a put gone o ho
  refine ⟨by unfold maxLen; omega, ?_⟩
  rw [h1]
  intro x hx
  cases hx
set_option maxRecDepth 100000 in
set_option maxHeartbeats 16000000 in
theorem apart_main (n : Int) (rf rt : Int) (a : Int) (put : ByteArray) (gone : Int) (w : World) (hput : put.size ≤ 5000) (n0 : 0 ≤ n) (n1 : n ≤ 10000) (hr : rgE ⟨rf, rt, false⟩ n = 0) (a0 : 0 ≤ a) (a1 : a ≤ n) (g0 : 0 ≤ gone) (g1 : gone ≤ n - a) :
    Calls Try.prog 13 #[.int .i64 n, .agg #[.int .i64 rf, .int .i64 rt, .bool false], .int .i64 a, .string put, .int .i64 gone] w (OutB w true) := by
  obtain ⟨r0, r1, r2, _, r4⟩ := rgE_ok hr
  have r4 := r4 rfl
  simp only at r0 r1 r2 r4
  obtain ⟨W, hW, y, bW⟩ : ∃ W, W = w.alloc (.cells #[.int .i64 rf, .int .i64 rt, .bool false] 46) ∧ W.heap[w.heap.size]? = some (.cells #[.int .i64 rf, .int .i64 rt, .bool false] 46 (0, 0)) ∧ Below w.heap.size w W := ⟨_, rfl, heap_new _ _, below_box _ _⟩
  have HW := Lib.hid hW
  have HY := Lib.hid y
  have BW := Lib.hid bW
  have hsub : IntKind.i64.wrap (n - a) = n - a := IntWalk.i64_in _ (by omega)
  have hps : (put.size : Int) ≤ 5000 := by omega
  have HPUT := Lib.hid hput
  have HR := Lib.hid hr
  obtain ⟨i0, hi, hz0, hz1, hz2⟩ := info_parts infoOp
  have Hi := Lib.hid (And.intro hi (And.intro hz0 (And.intro hz1 hz2)))
  clear hW y bW hput hr hi hz0 hz1 hz2
  go_enter Try.func13, Try.ntmps13
  go_wp2_with fail
  rw [← HW.out]
  refine (awake8_any _).mono ?_
  rintro e w1 ⟨rfl, b1⟩
  have B1 := Lib.hid (BW.out.trans (b1.mono BW.out.size))
  have Y1 := Lib.hid (heap_up8 HY.out b1)
  obtain ⟨q0, q1, q2, _⟩ := cells3 Y1.out
  clear b1
  go_wp2_with fail
  have HRR := anRight_any ⟨rf, rt, false⟩ n w1
  rw [HR.out] at HRR
  refine HRR.mono ?_
  clear HRR q0 q1 q2
  rintro e w2 ⟨rfl, b1⟩
  have B2 := Lib.hid (B1.out.trans (b1.mono B1.out.size))
  have Y2 := Lib.hid (heap_up8 Y1.out b1)
  obtain ⟨q0, q1, q2, _⟩ := cells3 Y2.out
  have hs2 := B2.out.size
  clear b1

  go_upto_if 69 with (fail)
  obtain ⟨w3, hw3, x3, b3⟩ : ∃ w3, w3 = w2.alloc (.cells #[.int .i64 n, .slice none 0 0] 24) ∧ w3.heap[w2.heap.size]? = some (.cells #[.int .i64 n, .slice none 0 0] 24 (0, 0)) ∧ Below w2.heap.size w2 w3 := ⟨_, rfl, heap_new _ _, below_box _ _⟩
  rw [← hw3]
  obtain ⟨L, oa, oc, hL, hoa, hoc⟩ : ∃ (L : List OpD) (oa : Option Addr) (oc : Nat), L = [] ∧ oa = none ∧ oc = 0 := ⟨_, _, _, rfl, rfl, rfl⟩
  have HX := Lib.hid (show w3.heap[w2.heap.size]? = some (.cells #[.int .i64 n, .slice oa L.length oc] 24 (0, 0)) by rw [hL, hoa, hoc]; exact x3)
  have HO := Lib.hid (show w3.ownsRow w.heap.size 40 4 (.slice oa L.length oc) L.length (flatO (bareP L)) by rw [hL, hoa, hoc]; exact World.ownsRow_nil _ _ _ _)
  have HY := Lib.hid (heap_up8 Y2.out b3)
  have HB := Lib.hid (B2.out.trans (b3.mono B2.out.size))
  have hll := Lib.hid (show L.length ≤ 3 by rw [hL]; decide)
  obtain ⟨cb, hcb⟩ : ∃ cb, cb = w2.heap.size := ⟨_, rfl⟩
  rw [← hcb] at HX ⊢
  have HL := Lib.hid hL
  have hwcb : w.heap.size ≤ cb := by have := B2.out.size; omega
  clear hw3 x3 b3 hoa hoc q0 q1 q2 hcb hL
  go_upto_if 69 with (fail)
  go_cut [] (fun wx => ∃ oa oc, wx.heap[cb]? = some (.cells #[.int .i64 n, .slice oa ((ap1 a)).length oc] 24 (0, 0)) ∧ wx.ownsRow w.heap.size 40 4 (.slice oa ((ap1 a)).length oc) ((ap1 a)).length (flatO (bareP ((ap1 a)))) ∧ wx.heap[w.heap.size]? = some (.cells #[.int .i64 rf, .int .i64 rt, .bool false] 46 (0, 0)) ∧ Below w.heap.size w wx)
  case first =>
    by_cases hc : 0 < a
    · have h2 : (ap1 a) = L ++ [bareO 1 a] := by rw [HL.out]; unfold ap1; rw [if_pos hc]
      have S0 : w3.drew.cell? ⟨cb, 1, none⟩ = some (.slice oa L.length oc) := (cells2 HX.out).2.1
      have hcb := lt_of_heap HX.out
      have H2 := Lib.hid h2
      clear h2
      have cc : (0 : Int) < a := hc
      go_wp2_with fail
      refine wp_region_B (fun w' => w'.cell? ⟨cb, 1, none⟩ = some (.slice oa L.length oc)) [7] (by kernel_rfl) (?_ : wpAnyB _ _ _ _ _ _ 8 (Array.replicate 8 false) _ _)
      refine wpAnyB_free (fuel := 7) (i := 0) (v := ?_) rfl (by kernel_rfl) (by kernel_rfl) (by kernel_rfl) (by kernel_rfl) (fun _ _ _ h => h) (.inr S0) ?_ (by rfl) ?_
      rotate_left
      · intro w'; go_simp; (try with_reducible rfl)
      simp only [Act.put, List.getElem_toArray, List.getElem_cons_zero, List.setIfInBounds_toArray, List.set_cons_zero, List.set_cons_succ]
      refine wpAnyB_load [1,5,6,7] (fuel := 6) (i := 1) (v := ?_) rfl (by kernel_rfl) (by kernel_rfl) (by kernel_rfl) (by kernel_rfl) (by kernel_rfl) (fun _ _ _ h => h) (.inr S0) ?_ (by rfl) ?_
      rotate_left
      · intro w' hw'; go_simp; (try with_reducible rfl)
      simp only [Act.put, List.getElem_toArray, List.getElem_cons_zero, List.getElem_cons_succ, List.setIfInBounds_toArray, List.set_cons_zero, List.set_cons_succ]
      refine wpAnyB_free (fuel := 5) (i := 2) (v := ?_) rfl (by kernel_rfl) (by kernel_rfl) (by kernel_rfl) (by kernel_rfl) (fun _ _ _ h => h) (.inr S0) ?_ (by rfl) ?_
      rotate_left
      · intro w'; go_simp; (try with_reducible rfl)
      simp only [Act.put, List.getElem_toArray, List.getElem_cons_zero, List.getElem_cons_succ, List.setIfInBounds_toArray, List.set_cons_zero, List.set_cons_succ]
      refine wpAnyB_one (fuel := 4) (i := 3) rfl (by kernel_rfl) ?_
      intro KB hKB
      go_simp
      refine (lawKeep_any a _).mono ?_
      rintro e wA ⟨rfl, bA⟩
      have BA : Below w3.heap.size w3 wA := of_drew bA
      have XA := Lib.hid (heap_up8 HX.out BA)
      have YA := Lib.hid (heap_up8 HY.out BA)
      have OA := Lib.hid (row_below HO.out BA)
      have LA := Lib.hid (HB.out.trans (BA.mono HB.out.size))
      have SA : wA.cell? ⟨cb, 1, none⟩ = some (.slice oa L.length oc) := (cells2 XA.out).2.1
      have HSA := Lib.hid SA
      have SB : (wA.alloc (.cells #[.int .i64 1, .int .i64 a, .string ⟨#[]⟩, .slice none 0 0] 40)).cell? ⟨cb, 1, none⟩ = some (.slice oa L.length oc) := ((below_box wA (.cells #[.int .i64 1, .int .i64 a, .string ⟨#[]⟩, .slice none 0 0] 40)).cell (by exact lt_of_heap XA.out)).trans SA
      have HSB := Lib.hid SB
      have hla := lt_of_heap XA.out
      have hly := lt_of_heap YA.out
      have hsA := LA.out.size
      clear bA BA SA SB
      refine hKB _ _ (.inr HSA.out) ?_
      (try simp only [Act.put, List.getElem_toArray, List.getElem_cons_zero, List.getElem_cons_succ, List.setIfInBounds_toArray, List.set_cons_zero, List.set_cons_succ])
      refine wpAnyB_one (fuel := 3) (i := 4) rfl (by kernel_rfl) ?_
      intro KB hKB
      go_simp
      refine hKB _ _ (.inr HSB.out) ?_
      (try simp only [Act.put, List.getElem_toArray, List.getElem_cons_zero, List.getElem_cons_succ, List.setIfInBounds_toArray, List.set_cons_zero, List.set_cons_succ])
      refine wpAnyB_one (fuel := 2) (i := 5) rfl (by kernel_rfl) ?_
      intro KB hKB
      refine step_append_own rfl (.tmp 71) (.tmp 74) 22 rfl 40 i0 (.agg #[.int .i64 0, .int .i64 0, .string ⟨#[]⟩, .slice none 0 0]) 4 56 Try.underlying22 Hi.out.1 Hi.out.2.1 Hi.out.2.2.1 Hi.out.2.2.2 rfl (by decide) w.heap.size (.slice oa L.length oc) L.length (flatO (bareP L)) rfl (OA.out.alloc _) ⟨wA.heap.size, 0, none⟩ 1 1 [.int .i64 1, .int .i64 a, .string ⟨#[]⟩, .slice none 0 0] rfl rfl (new_at4 _ _ _ _ _ _) (fun u hu => by simp at hu; rcases hu with rfl | rfl | rfl | rfl <;> rfl) (by unfold maxLen; have := hll.out; omega) (by have := hll.out; omega) (by simp; omega) ?_
      intro v' wC oC gC
      obtain ⟨oa', oc', rfl⟩ := own_slice oC
      have hne : some cb ≠ (Value.slice oa L.length oc).ownBlock := fun e => own_ne OA.out XA.out (by decide) e.symm
      have hne2 : some w.heap.size ≠ (Value.slice oa L.length oc).ownBlock := fun e => own_ne OA.out YA.out (by decide) e.symm
      have XC := Lib.hid ((gC.block cb (by simp; omega) hne).trans ((Below.heap_alloc _ _ _ hla).trans XA.out))
      have YC := Lib.hid ((gC.block w.heap.size (by simp; omega) hne2).trans ((Below.heap_alloc _ _ _ hly).trans YA.out))
      have BC := Lib.hid ((LA.out.alloc hsA (.cells #[.int .i64 1, .int .i64 a, .string ⟨#[]⟩, .slice none 0 0] 40)).grown gC (by simp; omega) (fun k hk => (OA.out.lt k hk).1))
      have hO := oC
      rw [flat_bare (bareO 1 a) L (k := 1) (n := a) (t := ⟨#[]⟩) rfl rfl rfl] at hO
      have OC := Lib.hid hO
      have SC := (cells2 XC.out).2.1
      have fC := (cells2 XC.out).2.2.2
      have HSC := Lib.hid SC
      have hcC := lt_of_heap XC.out
      clear oC gC hO hne hne2 SC
      refine hKB _ _ (.inr HSC.out) ?_
      (try simp only [Act.put, List.getElem_toArray, List.getElem_cons_zero, List.getElem_cons_succ, List.setIfInBounds_toArray, List.set_cons_zero, List.set_cons_succ])
      refine wpAnyB_free (fuel := 1) (i := 6) (v := ?_) rfl (by kernel_rfl) (by kernel_rfl) (by kernel_rfl) (by kernel_rfl) (fun _ _ _ h => h) (.inr HSC.out) ?_ (by rfl) ?_
      rotate_left
      · intro w'; go_simp; (try with_reducible rfl)
      simp only [Act.put, List.getElem_toArray, List.getElem_cons_zero, List.getElem_cons_succ, List.setIfInBounds_toArray, List.set_cons_zero, List.set_cons_succ]
      refine wpAnyB_one (fuel := 0) (i := 7) rfl (by kernel_rfl) ?_
      intro KB hKB
      have SC := HSC.out
      go_simp
      refine hKB _ _ (.inl (by kernel_rfl)) ?_
      (try simp only [Act.put, List.getElem_toArray, List.getElem_cons_zero, List.getElem_cons_succ, List.setIfInBounds_toArray, List.set_cons_zero, List.set_cons_succ])
      refine wpAnyB_done (by kernel_rfl) ?_
      go_wp2_with fail
      go_meet
      case rel =>
        have q := nblk_set (j := 1) (u := .slice oa' (L.length + 1) oc') XC.out
        have KK := keep_set (B := w.heap.size) (ts := [24]) XC.out (by simp) (by omega) ⟨cb, 1, none⟩ rfl (.slice oa' (L.length + 1) oc')
        rw [H2.out]
        refine ⟨oa', oc', by rw [List.length_append]; exact q, by rw [List.length_append]; exact KK.own OC.out (by decide), KK.kept _ _ _ _ YC.out (by decide), BC.out.trans KK.below⟩
    · have h2 : (ap1 a) = L := by rw [HL.out]; unfold ap1; rw [if_neg hc, List.append_nil]
      have H2 := Lib.hid h2
      clear h2
      have cc : ¬ (0 : Int) < a := hc
      go_wp2_with fail
      go_meet
      case rel => rw [H2.out]; exact ⟨oa, oc, HX.out, HO.out, HY.out, HB.out⟩
  case rest =>
    clear HX HO HY HB HL hll
    obtain ⟨L, hL⟩ : ∃ L, L = ap1 a := ⟨_, rfl⟩
    rw [← hL] at hcut
    obtain ⟨oa, oc, hx, ho, hy, hb⟩ := hcut
    have HL := Lib.hid hL
    have HX := Lib.hid hx
    have HO := Lib.hid ho
    have HY := Lib.hid hy
    have HB := Lib.hid hb
    have hll := Lib.hid (show L.length ≤ 1 by rw [hL]; exact ap1_len _)
    clear hL hx ho hy hb
    go_upto_if 78 with (fail)
    obtain ⟨bb, hbb⟩ : ∃ bb, bb = !put.toList.isEmpty := ⟨_, rfl⟩
    rw [← hbb]
    have HBB := Lib.hid hbb
    clear hbb
    go_cut [] (fun wx => ∃ oa oc, wx.heap[cb]? = some (.cells #[.int .i64 n, .slice oa ((ap2 a put)).length oc] 24 (0, 0)) ∧ wx.ownsRow w.heap.size 40 4 (.slice oa ((ap2 a put)).length oc) ((ap2 a put)).length (flatO (bareP ((ap2 a put)))) ∧ wx.heap[w.heap.size]? = some (.cells #[.int .i64 rf, .int .i64 rt, .bool false] 46 (0, 0)) ∧ Below w.heap.size w wx)
    case first =>
      by_cases hc : put.size ≠ 0
      · have h2 : (ap2 a put) = L ++ [⟨2, 0, put, []⟩] := by rw [HL.out]; unfold ap2; rw [if_pos hc]
        have S0 : wc.drew.cell? ⟨cb, 1, none⟩ = some (.slice oa L.length oc) := (cells2 HX.out).2.1
        have hcb := lt_of_heap HX.out
        have H2 := Lib.hid h2
        clear h2
        have cc : bb = true := by rw [HBB.out, ByteArray.toList_eq]; cases h : put.data.toList with | nil => exact absurd (show put.data.toList.length = 0 by rw [h]; rfl) hc | cons _ _ => rfl
        subst cc
        go_wp2_with fail
        refine wp_region_B (fun w' => w'.cell? ⟨cb, 1, none⟩ = some (.slice oa L.length oc)) [7] (by kernel_rfl) (?_ : wpAnyB _ _ _ _ _ _ 8 (Array.replicate 8 false) _ _)
        refine wpAnyB_free (fuel := 7) (i := 0) (v := ?_) rfl (by kernel_rfl) (by kernel_rfl) (by kernel_rfl) (by kernel_rfl) (fun _ _ _ h => h) (.inr S0) ?_ (by rfl) ?_
        rotate_left
        · intro w'; go_simp; (try with_reducible rfl)
        simp only [Act.put, List.getElem_toArray, List.getElem_cons_zero, List.setIfInBounds_toArray, List.set_cons_zero, List.set_cons_succ]
        refine wpAnyB_load [1,5,6,7] (fuel := 6) (i := 1) (v := ?_) rfl (by kernel_rfl) (by kernel_rfl) (by kernel_rfl) (by kernel_rfl) (by kernel_rfl) (fun _ _ _ h => h) (.inr S0) ?_ (by rfl) ?_
        rotate_left
        · intro w' hw'; go_simp; (try with_reducible rfl)
        simp only [Act.put, List.getElem_toArray, List.getElem_cons_zero, List.getElem_cons_succ, List.setIfInBounds_toArray, List.set_cons_zero, List.set_cons_succ]
        refine wpAnyB_free (fuel := 5) (i := 2) (v := ?_) rfl (by kernel_rfl) (by kernel_rfl) (by kernel_rfl) (by kernel_rfl) (fun _ _ _ h => h) (.inr S0) ?_ (by rfl) ?_
        rotate_left
        · intro w'; go_simp; (try with_reducible rfl)
        simp only [Act.put, List.getElem_toArray, List.getElem_cons_zero, List.getElem_cons_succ, List.setIfInBounds_toArray, List.set_cons_zero, List.set_cons_succ]
        refine wpAnyB_one (fuel := 4) (i := 3) rfl (by kernel_rfl) ?_
        intro KB hKB
        go_simp
        refine (lawPut_any put _).mono ?_
        rintro e wA ⟨rfl, bA⟩
        have BA : Below wc.heap.size wc wA := of_drew bA
        have XA := Lib.hid (heap_up8 HX.out BA)
        have YA := Lib.hid (heap_up8 HY.out BA)
        have OA := Lib.hid (row_below HO.out BA)
        have LA := Lib.hid (HB.out.trans (BA.mono HB.out.size))
        have SA : wA.cell? ⟨cb, 1, none⟩ = some (.slice oa L.length oc) := (cells2 XA.out).2.1
        have HSA := Lib.hid SA
        have SB : (wA.alloc (.cells #[.int .i64 2, .int .i64 0, .string put, .slice none 0 0] 40)).cell? ⟨cb, 1, none⟩ = some (.slice oa L.length oc) := ((below_box wA (.cells #[.int .i64 2, .int .i64 0, .string put, .slice none 0 0] 40)).cell (by exact lt_of_heap XA.out)).trans SA
        have HSB := Lib.hid SB
        have hla := lt_of_heap XA.out
        have hly := lt_of_heap YA.out
        have hsA := LA.out.size
        clear bA BA SA SB
        refine hKB _ _ (.inr HSA.out) ?_
        (try simp only [Act.put, List.getElem_toArray, List.getElem_cons_zero, List.getElem_cons_succ, List.setIfInBounds_toArray, List.set_cons_zero, List.set_cons_succ])
        refine wpAnyB_one (fuel := 3) (i := 4) rfl (by kernel_rfl) ?_
        intro KB hKB
        go_simp
        refine hKB _ _ (.inr HSB.out) ?_
        (try simp only [Act.put, List.getElem_toArray, List.getElem_cons_zero, List.getElem_cons_succ, List.setIfInBounds_toArray, List.set_cons_zero, List.set_cons_succ])
        refine wpAnyB_one (fuel := 2) (i := 5) rfl (by kernel_rfl) ?_
        intro KB hKB
        refine step_append_own rfl (.tmp 80) (.tmp 83) 22 rfl 40 i0 (.agg #[.int .i64 0, .int .i64 0, .string ⟨#[]⟩, .slice none 0 0]) 4 56 Try.underlying22 Hi.out.1 Hi.out.2.1 Hi.out.2.2.1 Hi.out.2.2.2 rfl (by decide) w.heap.size (.slice oa L.length oc) L.length (flatO (bareP L)) rfl (OA.out.alloc _) ⟨wA.heap.size, 0, none⟩ 1 1 [.int .i64 2, .int .i64 0, .string put, .slice none 0 0] rfl rfl (new_at4 _ _ _ _ _ _) (fun u hu => by simp at hu; rcases hu with rfl | rfl | rfl | rfl <;> rfl) (by unfold maxLen; have := hll.out; omega) (by have := hll.out; omega) (by simp; omega) ?_
        intro v' wC oC gC
        obtain ⟨oa', oc', rfl⟩ := own_slice oC
        have hne : some cb ≠ (Value.slice oa L.length oc).ownBlock := fun e => own_ne OA.out XA.out (by decide) e.symm
        have hne2 : some w.heap.size ≠ (Value.slice oa L.length oc).ownBlock := fun e => own_ne OA.out YA.out (by decide) e.symm
        have XC := Lib.hid ((gC.block cb (by simp; omega) hne).trans ((Below.heap_alloc _ _ _ hla).trans XA.out))
        have YC := Lib.hid ((gC.block w.heap.size (by simp; omega) hne2).trans ((Below.heap_alloc _ _ _ hly).trans YA.out))
        have BC := Lib.hid ((LA.out.alloc hsA (.cells #[.int .i64 2, .int .i64 0, .string put, .slice none 0 0] 40)).grown gC (by simp; omega) (fun k hk => (OA.out.lt k hk).1))
        have hO := oC
        rw [flat_bare ⟨2, 0, put, []⟩ L (k := 2) (n := 0) (t := put) rfl rfl rfl] at hO
        have OC := Lib.hid hO
        have SC := (cells2 XC.out).2.1
        have fC := (cells2 XC.out).2.2.2
        have HSC := Lib.hid SC
        have hcC := lt_of_heap XC.out
        clear oC gC hO hne hne2 SC
        refine hKB _ _ (.inr HSC.out) ?_
        (try simp only [Act.put, List.getElem_toArray, List.getElem_cons_zero, List.getElem_cons_succ, List.setIfInBounds_toArray, List.set_cons_zero, List.set_cons_succ])
        refine wpAnyB_free (fuel := 1) (i := 6) (v := ?_) rfl (by kernel_rfl) (by kernel_rfl) (by kernel_rfl) (by kernel_rfl) (fun _ _ _ h => h) (.inr HSC.out) ?_ (by rfl) ?_
        rotate_left
        · intro w'; go_simp; (try with_reducible rfl)
        simp only [Act.put, List.getElem_toArray, List.getElem_cons_zero, List.getElem_cons_succ, List.setIfInBounds_toArray, List.set_cons_zero, List.set_cons_succ]
        refine wpAnyB_one (fuel := 0) (i := 7) rfl (by kernel_rfl) ?_
        intro KB hKB
        have SC := HSC.out
        go_simp
        refine hKB _ _ (.inl (by kernel_rfl)) ?_
        (try simp only [Act.put, List.getElem_toArray, List.getElem_cons_zero, List.getElem_cons_succ, List.setIfInBounds_toArray, List.set_cons_zero, List.set_cons_succ])
        refine wpAnyB_done (by kernel_rfl) ?_
        go_wp2_with fail
        go_meet
        case rel =>
          have q := nblk_set (j := 1) (u := .slice oa' (L.length + 1) oc') XC.out
          have KK := keep_set (B := w.heap.size) (ts := [24]) XC.out (by simp) (by omega) ⟨cb, 1, none⟩ rfl (.slice oa' (L.length + 1) oc')
          rw [H2.out]
          refine ⟨oa', oc', by rw [List.length_append]; exact q, by rw [List.length_append]; exact KK.own OC.out (by decide), KK.kept _ _ _ _ YC.out (by decide), BC.out.trans KK.below⟩
      · have h2 : (ap2 a put) = L := by rw [HL.out]; unfold ap2; rw [if_neg hc, List.append_nil]
        have H2 := Lib.hid h2
        clear h2
        have cc : bb = false := by rw [HBB.out, ByteArray.toList_eq, data_nil (by omega)]; rfl
        subst cc
        go_wp2_with fail
        go_meet
        case rel => rw [H2.out]; exact ⟨oa, oc, HX.out, HO.out, HY.out, HB.out⟩
    case rest =>
      clear HX HO HY HB HL hll
      obtain ⟨L, hL⟩ : ∃ L, L = ap2 a put := ⟨_, rfl⟩
      rw [← hL] at hcut
      obtain ⟨oa, oc, hx, ho, hy, hb⟩ := hcut
      have HL := Lib.hid hL
      have HX := Lib.hid hx
      have HO := Lib.hid ho
      have HY := Lib.hid hy
      have HB := Lib.hid hb
      have hll := Lib.hid (show L.length ≤ 2 by rw [hL]; exact ap2_len _ _)
      clear hL hx ho hy hb
      go_upto_if 87 with (fail)
      go_cut [] (fun wx => ∃ oa oc, wx.heap[cb]? = some (.cells #[.int .i64 n, .slice oa ((ap3 a put gone)).length oc] 24 (0, 0)) ∧ wx.ownsRow w.heap.size 40 4 (.slice oa ((ap3 a put gone)).length oc) ((ap3 a put gone)).length (flatO (bareP ((ap3 a put gone)))) ∧ wx.heap[w.heap.size]? = some (.cells #[.int .i64 rf, .int .i64 rt, .bool false] 46 (0, 0)) ∧ Below w.heap.size w wx)
      case first =>
        by_cases hc : 0 < gone
        · have h2 : (ap3 a put gone) = L ++ [bareO 3 gone] := by rw [HL.out]; unfold ap3; rw [if_pos hc]
          have S0 : wc.drew.cell? ⟨cb, 1, none⟩ = some (.slice oa L.length oc) := (cells2 HX.out).2.1
          have hcb := lt_of_heap HX.out
          have H2 := Lib.hid h2
          clear h2
          have cc : (0 : Int) < gone := hc
          go_wp2_with fail
          refine wp_region_B (fun w' => w'.cell? ⟨cb, 1, none⟩ = some (.slice oa L.length oc)) [7] (by kernel_rfl) (?_ : wpAnyB _ _ _ _ _ _ 8 (Array.replicate 8 false) _ _)
          refine wpAnyB_free (fuel := 7) (i := 0) (v := ?_) rfl (by kernel_rfl) (by kernel_rfl) (by kernel_rfl) (by kernel_rfl) (fun _ _ _ h => h) (.inr S0) ?_ (by rfl) ?_
          rotate_left
          · intro w'; go_simp; (try with_reducible rfl)
          simp only [Act.put, List.getElem_toArray, List.getElem_cons_zero, List.setIfInBounds_toArray, List.set_cons_zero, List.set_cons_succ]
          refine wpAnyB_load [1,5,6,7] (fuel := 6) (i := 1) (v := ?_) rfl (by kernel_rfl) (by kernel_rfl) (by kernel_rfl) (by kernel_rfl) (by kernel_rfl) (fun _ _ _ h => h) (.inr S0) ?_ (by rfl) ?_
          rotate_left
          · intro w' hw'; go_simp; (try with_reducible rfl)
          simp only [Act.put, List.getElem_toArray, List.getElem_cons_zero, List.getElem_cons_succ, List.setIfInBounds_toArray, List.set_cons_zero, List.set_cons_succ]
          refine wpAnyB_free (fuel := 5) (i := 2) (v := ?_) rfl (by kernel_rfl) (by kernel_rfl) (by kernel_rfl) (by kernel_rfl) (fun _ _ _ h => h) (.inr S0) ?_ (by rfl) ?_
          rotate_left
          · intro w'; go_simp; (try with_reducible rfl)
          simp only [Act.put, List.getElem_toArray, List.getElem_cons_zero, List.getElem_cons_succ, List.setIfInBounds_toArray, List.set_cons_zero, List.set_cons_succ]
          refine wpAnyB_one (fuel := 4) (i := 3) rfl (by kernel_rfl) ?_
          intro KB hKB
          go_simp
          refine (lawCut_any gone _).mono ?_
          rintro e wA ⟨rfl, bA⟩
          have BA : Below wc.heap.size wc wA := of_drew bA
          have XA := Lib.hid (heap_up8 HX.out BA)
          have YA := Lib.hid (heap_up8 HY.out BA)
          have OA := Lib.hid (row_below HO.out BA)
          have LA := Lib.hid (HB.out.trans (BA.mono HB.out.size))
          have SA : wA.cell? ⟨cb, 1, none⟩ = some (.slice oa L.length oc) := (cells2 XA.out).2.1
          have HSA := Lib.hid SA
          have SB : (wA.alloc (.cells #[.int .i64 3, .int .i64 gone, .string ⟨#[]⟩, .slice none 0 0] 40)).cell? ⟨cb, 1, none⟩ = some (.slice oa L.length oc) := ((below_box wA (.cells #[.int .i64 3, .int .i64 gone, .string ⟨#[]⟩, .slice none 0 0] 40)).cell (by exact lt_of_heap XA.out)).trans SA
          have HSB := Lib.hid SB
          have hla := lt_of_heap XA.out
          have hly := lt_of_heap YA.out
          have hsA := LA.out.size
          clear bA BA SA SB
          refine hKB _ _ (.inr HSA.out) ?_
          (try simp only [Act.put, List.getElem_toArray, List.getElem_cons_zero, List.getElem_cons_succ, List.setIfInBounds_toArray, List.set_cons_zero, List.set_cons_succ])
          refine wpAnyB_one (fuel := 3) (i := 4) rfl (by kernel_rfl) ?_
          intro KB hKB
          go_simp
          refine hKB _ _ (.inr HSB.out) ?_
          (try simp only [Act.put, List.getElem_toArray, List.getElem_cons_zero, List.getElem_cons_succ, List.setIfInBounds_toArray, List.set_cons_zero, List.set_cons_succ])
          refine wpAnyB_one (fuel := 2) (i := 5) rfl (by kernel_rfl) ?_
          intro KB hKB
          refine step_append_own rfl (.tmp 89) (.tmp 92) 22 rfl 40 i0 (.agg #[.int .i64 0, .int .i64 0, .string ⟨#[]⟩, .slice none 0 0]) 4 56 Try.underlying22 Hi.out.1 Hi.out.2.1 Hi.out.2.2.1 Hi.out.2.2.2 rfl (by decide) w.heap.size (.slice oa L.length oc) L.length (flatO (bareP L)) rfl (OA.out.alloc _) ⟨wA.heap.size, 0, none⟩ 1 1 [.int .i64 3, .int .i64 gone, .string ⟨#[]⟩, .slice none 0 0] rfl rfl (new_at4 _ _ _ _ _ _) (fun u hu => by simp at hu; rcases hu with rfl | rfl | rfl | rfl <;> rfl) (by unfold maxLen; have := hll.out; omega) (by have := hll.out; omega) (by simp; omega) ?_
          intro v' wC oC gC
          obtain ⟨oa', oc', rfl⟩ := own_slice oC
          have hne : some cb ≠ (Value.slice oa L.length oc).ownBlock := fun e => own_ne OA.out XA.out (by decide) e.symm
          have hne2 : some w.heap.size ≠ (Value.slice oa L.length oc).ownBlock := fun e => own_ne OA.out YA.out (by decide) e.symm
          have XC := Lib.hid ((gC.block cb (by simp; omega) hne).trans ((Below.heap_alloc _ _ _ hla).trans XA.out))
          have YC := Lib.hid ((gC.block w.heap.size (by simp; omega) hne2).trans ((Below.heap_alloc _ _ _ hly).trans YA.out))
          have BC := Lib.hid ((LA.out.alloc hsA (.cells #[.int .i64 3, .int .i64 gone, .string ⟨#[]⟩, .slice none 0 0] 40)).grown gC (by simp; omega) (fun k hk => (OA.out.lt k hk).1))
          have hO := oC
          rw [flat_bare (bareO 3 gone) L (k := 3) (n := gone) (t := ⟨#[]⟩) rfl rfl rfl] at hO
          have OC := Lib.hid hO
          have SC := (cells2 XC.out).2.1
          have fC := (cells2 XC.out).2.2.2
          have HSC := Lib.hid SC
          have hcC := lt_of_heap XC.out
          clear oC gC hO hne hne2 SC
          refine hKB _ _ (.inr HSC.out) ?_
          (try simp only [Act.put, List.getElem_toArray, List.getElem_cons_zero, List.getElem_cons_succ, List.setIfInBounds_toArray, List.set_cons_zero, List.set_cons_succ])
          refine wpAnyB_free (fuel := 1) (i := 6) (v := ?_) rfl (by kernel_rfl) (by kernel_rfl) (by kernel_rfl) (by kernel_rfl) (fun _ _ _ h => h) (.inr HSC.out) ?_ (by rfl) ?_
          rotate_left
          · intro w'; go_simp; (try with_reducible rfl)
          simp only [Act.put, List.getElem_toArray, List.getElem_cons_zero, List.getElem_cons_succ, List.setIfInBounds_toArray, List.set_cons_zero, List.set_cons_succ]
          refine wpAnyB_one (fuel := 0) (i := 7) rfl (by kernel_rfl) ?_
          intro KB hKB
          have SC := HSC.out
          go_simp
          refine hKB _ _ (.inl (by kernel_rfl)) ?_
          (try simp only [Act.put, List.getElem_toArray, List.getElem_cons_zero, List.getElem_cons_succ, List.setIfInBounds_toArray, List.set_cons_zero, List.set_cons_succ])
          refine wpAnyB_done (by kernel_rfl) ?_
          go_wp2_with fail
          go_meet
          case rel =>
            have q := nblk_set (j := 1) (u := .slice oa' (L.length + 1) oc') XC.out
            have KK := keep_set (B := w.heap.size) (ts := [24]) XC.out (by simp) (by omega) ⟨cb, 1, none⟩ rfl (.slice oa' (L.length + 1) oc')
            rw [H2.out]
            refine ⟨oa', oc', by rw [List.length_append]; exact q, by rw [List.length_append]; exact KK.own OC.out (by decide), KK.kept _ _ _ _ YC.out (by decide), BC.out.trans KK.below⟩
        · have h2 : (ap3 a put gone) = L := by rw [HL.out]; unfold ap3; rw [if_neg hc, List.append_nil]
          have H2 := Lib.hid h2
          clear h2
          have cc : ¬ (0 : Int) < gone := hc
          go_wp2_with fail
          go_meet
          case rel => rw [H2.out]; exact ⟨oa, oc, HX.out, HO.out, HY.out, HB.out⟩
      case rest =>
        clear HX HO HY HB HL hll
        obtain ⟨L, hL⟩ : ∃ L, L = ap3 a put gone := ⟨_, rfl⟩
        rw [← hL] at hcut
        obtain ⟨oa, oc, hx, ho, hy, hb⟩ := hcut
        have HL := Lib.hid hL
        have HX := Lib.hid hx
        have HO := Lib.hid ho
        have HY := Lib.hid hy
        have HB := Lib.hid hb
        have hll := Lib.hid (show L.length ≤ 3 by rw [hL]; exact ap3_len _ _ _)
        clear hL hx ho hy hb
        have RC := Lib.hid (show OpRow wc (.slice oa L.length oc) L from (bareP_own HO.out fun o ho => (ap3_bare a put gone o (by rw [← HL.out]; exact ho)).1).row)
        have ZC := Lib.hid (show OSized L by rw [HL.out]; exact ap3_sized a gone HPUT.out)
        obtain ⟨p0, p1, _, _⟩ := cells2 HX.out
        obtain ⟨q0, q1, q2, _⟩ := cells3 HY.out
        have hlx := lt_of_heap HX.out
        have hly := lt_of_heap HY.out
        by_cases hg : put.size = 0 ∨ er put.data.toList = 0
        · obtain ⟨m0, xx, yy, m1, m2, m3⟩ := ap_move (rf := rf) (rt := rt) hg HPUT.out n0 n1 a0 a1 g0 g1 HR.out
          rw [← HL.out] at m0 m1
          have M2 := Lib.hid m2
          have M3 := Lib.hid m3
          go_wp2_with fail
          refine (anMove_l (r := ⟨rf, rt, false⟩) m0 m1 RC.out ZC.out).mono ?_
          clear m0 m1 m2 m3 hg
          rintro e w5 ⟨rfl, b1⟩
          obtain ⟨xl, hxl⟩ : ∃ xl, xl = decide (xx = yy) := ⟨_, rfl⟩
          rw [← hxl]
          have HXL := Lib.hid hxl
          have B5 := Lib.hid (HB.out.trans (b1.mono HB.out.size))
          have Y5 := Lib.hid (heap_up8 HY.out b1)
          clear b1 p0 p1 q0 q1 q2 hxl hlx hly
          go_wp2_with fail
          obtain ⟨w6, hw6, x6, b6⟩ : ∃ w6, w6 = w5.alloc (.cells #[.int .i64 xx, .int .i64 yy, .bool xl] 46) ∧ w6.heap[w5.heap.size]? = some (.cells #[.int .i64 xx, .int .i64 yy, .bool xl] 46 (0, 0)) ∧ Below w5.heap.size w5 w6 := ⟨_, rfl, heap_new _ _, below_box _ _⟩
          rw [← hw6]
          have B6 := Lib.hid (B5.out.trans (b6.mono B5.out.size))
          have Y6 := heap_up8 Y5.out b6
          obtain ⟨q0, q1, q2, _⟩ := cells3 Y6
          obtain ⟨k0, k1, k2, _⟩ := cells3 x6
          clear hw6 b6 Y6 x6
          go_loopw [16, 17] (fun k i wr => ∃ j : Nat, k = .int .i64 (kB (put.data.toList.take j) : Int) ∧ i = .int .i64 (j : Int) ∧ j ≤ put.size ∧ w6 = wr) (fun _ i _ => put.size - (intOf i).toNat)
          case atStart => exact ⟨0, rfl, rfl, Nat.zero_le _, rfl⟩
          case round =>
            obtain ⟨j, rfl, rfl, hj, rfl⟩ := hrel
            have hpl := HPUT.out
            have hkl := kB_le (put.data.toList.take j)
            have hkl2 := List.length_take_le j put.data.toList
            by_cases hlt : j < put.size
            · have hlt' : (j : Int) < (put.size : Int) := by omega
              have hsl : put.data.toList.length = put.size := rfl
              have hbb : put[j].toNat < 256 := UInt8.toNat_lt _
              have HT := kB_take (l := put.data.toList) (k := j) (by rw [hsl]; exact hlt)
              have e : put.data.toList[j] = put[j] := rfl
              rw [e, contB_ba] at HT
              obtain ⟨m, hm⟩ : ∃ m, kB (put.data.toList.take j) = m := ⟨_, rfl⟩
              rw [hm] at HT hkl ⊢
              have hw1 : IntKind.i64.wrap ((m : Int) + 1) = (m : Int) + 1 := IntWalk.i64_in _ (by omega)
              by_cases hc1 : 128 ≤ put[j].toNat
              · have hc1' : (128 : Int) ≤ (put[j].toNat : Int) := by omega
                by_cases hc2 : put[j].toNat < 192
                · have hc2' : (put[j].toNat : Int) < 192 := by omega
                  rw [if_pos (decide_eq_true ⟨hc1, hc2⟩)] at HT
                  have HTT := Lib.hid HT
                  clear HT hm hkl hkl2
                  go_wp2_with fail
                  all_goals first
                    | (go_roundw
                       case rel => exact ⟨j + 1, by rw [HTT.out]; rfl, by go_num, by omega, by trivial⟩
                       case measure => simp [intOf]; omega)
                    | exact ⟨⟨j + 1, by rw [HTT.out]; rfl, by go_num, by omega, by trivial⟩, by simp [intOf]; omega⟩
                · have hc2' : ¬ (put[j].toNat : Int) < 192 := by omega
                  have hc3' : (192 : Int) ≤ (put[j].toNat : Int) := by omega
                  rw [if_neg (by rw [decide_eq_true_eq]; omega)] at HT
                  have HTT := Lib.hid HT
                  clear HT hm hkl hkl2
                  go_wp2_with fail
                  all_goals first
                    | (go_roundw
                       case rel => exact ⟨j + 1, by rw [HTT.out]; go_num, by go_num, by omega, by trivial⟩
                       case measure => simp [intOf]; omega)
                    | exact ⟨⟨j + 1, by rw [HTT.out]; go_num, by go_num, by omega, by trivial⟩, by simp [intOf]; omega⟩
              · have hc1' : ¬ (128 : Int) ≤ (put[j].toNat : Int) := by omega
                have hc3' : (put[j].toNat : Int) < 128 := by omega
                rw [if_neg (by rw [decide_eq_true_eq]; omega)] at HT
                have HTT := Lib.hid HT
                clear HT hm hkl hkl2
                go_wp2_with fail
                all_goals first
                  | (go_roundw
                     case rel => exact ⟨j + 1, by rw [HTT.out]; go_num, by go_num, by omega, by trivial⟩
                     case measure => simp [intOf]; omega)
                  | exact ⟨⟨j + 1, by rw [HTT.out]; go_num, by go_num, by omega, by trivial⟩, by simp [intOf]; omega⟩
            · have hjn : j = put.size := by omega
              have ht : put.data.toList.take j = put.data.toList := List.take_of_length_le (by show put.size ≤ j; omega)
              rw [ht] at hkl ⊢
              have hkl3 : kB put.data.toList ≤ 5000 := Nat.le_trans hkl (by rw [← ht]; omega)
              have hm2 := M2.out
              have hm3 := M3.out
              obtain ⟨m, hm⟩ : ∃ m, (kB put.data.toList : Int) = m := ⟨_, rfl⟩
              rw [hm] at hm2 ⊢
              have gm0 : 0 ≤ m := by omega
              have gm1 : m ≤ 5000 := by omega
              subst hjn
              clear ht hkl hkl2 hkl3 hm hpl
              have v1 : IntKind.i64.wrap (a + gone) = a + gone := IntWalk.i64_in _ (by omega)
              have v2 : IntKind.i64.wrap (rf + m) = rf + m := IntWalk.i64_in _ (by omega)
              have v3 : IntKind.i64.wrap (rf + m - gone) = rf + m - gone := IntWalk.i64_in _ (by omega)
              have v4 : IntKind.i64.wrap (rt + m) = rt + m := IntWalk.i64_in _ (by omega)
              have v5 : IntKind.i64.wrap (rt + m - gone) = rt + m - gone := IntWalk.i64_in _ (by omega)
              by_cases c1 : a + gone ≤ rf
              · obtain ⟨rfl, rfl⟩ := hm2 c1
                obtain rfl : xl = false := by rw [HXL.out]; exact decide_eq_false (by omega)
                clear hm2 hm3
                go_wp2_with fail
                all_goals (go_ret; exact ⟨by simp, B6.out⟩)
              · by_cases c2 : a < rt
                · clear hm2 hm3
                  go_wp2_with fail
                  all_goals (go_ret; exact ⟨rfl, B6.out⟩)
                · obtain ⟨rfl, rfl⟩ := hm3 (by omega)
                  obtain rfl : xl = false := by rw [HXL.out]; exact decide_eq_false (by omega)
                  clear hm2 hm3
                  go_wp2_with fail
                  all_goals (go_ret; exact ⟨by simp, B6.out⟩)
        · have h1 : put.size ≠ 0 := fun h => hg (.inl h)
          have h2 : er put.data.toList ≠ 0 := fun h => hg (.inr h)
          have hb := ap_bad (n := n) (a := a) (gone := gone) h1 h2
          rw [← HL.out] at hb
          have hmb : mvE n L ⟨rf, rt, false⟩ ≠ 0 := by unfold mvE; rw [if_pos hb]; exact hb
          obtain ⟨ee, hee⟩ : ∃ ee, mvE n L ⟨rf, rt, false⟩ = ee := ⟨_, rfl⟩
          have hne : (ee != 0) = true := by rw [bne_iff_ne, ← hee]; exact hmb
          have cc : put.toList.isEmpty = false := by rw [ByteArray.toList_eq]; cases h : put.data.toList with | nil => exact absurd (show put.data.toList.length = 0 by rw [h]; rfl) h1 | cons _ _ => rfl
          go_wp2_with fail
          refine (anMove_l (r := ⟨rf, rt, false⟩) hee (mvR_bad hmb) RC.out ZC.out).mono ?_
          clear hb hmb hee h1 h2 hg
          rintro e w5 ⟨rfl, b1⟩
          have B5 := Lib.hid (HB.out.trans (b1.mono HB.out.size))
          clear b1 p0 p1 q0 q1 q2
          go_wp2_with fail
          all_goals (go_ret; exact ⟨by simp, B5.out.alloc B5.out.size _⟩)
end Go.Proofs.Ytggjeiemofkfbaa

/- The law AnchorApart, of all inputs. -/
namespace Go.Proofs.Ytggjeiemofkfbaa
open Go.RowKit Rn Ch

set_option maxRecDepth 100000 in
set_option maxHeartbeats 8000000 in
theorem apart_out (n : Int) (rf rt : Int) (rl : Bool) (a : Int) (put : ByteArray) (gone : Int) (w : World) (_ : put.size ≤ 9223372036854775807) (h : ¬ (0 ≤ n ∧ n ≤ 10000 ∧ rgE ⟨rf, rt, rl⟩ n = 0 ∧ rl = false ∧ 0 ≤ a ∧ a ≤ n ∧ 0 ≤ gone ∧ gone ≤ n - a ∧ put.size ≤ 5000)) :
    Calls Try.prog 13 #[.int .i64 n, .agg #[.int .i64 rf, .int .i64 rt, .bool rl], .int .i64 a, .string put, .int .i64 gone] w (OutB w true) := by
  have HN := Lib.hid h
  obtain ⟨W, hW, y, bW⟩ : ∃ W, W = w.alloc (.cells #[.int .i64 rf, .int .i64 rt, .bool rl] 46) ∧ W.heap[w.heap.size]? = some (.cells #[.int .i64 rf, .int .i64 rt, .bool rl] 46 (0, 0)) ∧ Below w.heap.size w W := ⟨_, rfl, heap_new _ _, below_box _ _⟩
  have HW := Lib.hid hW
  have HY := Lib.hid y
  have BW := Lib.hid bW
  clear hW y bW h
  go_enter Try.func13, Try.ntmps13
  go_wp2_with fail
  rw [← HW.out]
  refine (awake8_any _).mono ?_
  rintro e w1 ⟨rfl, b1⟩
  have B1 := Lib.hid (BW.out.trans (b1.mono BW.out.size))
  have Y1 := Lib.hid (heap_up8 HY.out b1)
  obtain ⟨q0, q1, q2, _⟩ := cells3 Y1.out
  clear b1
  go_wp2_with fail
  refine (anRight_any ⟨rf, rt, rl⟩ n w1).mono ?_
  clear q0 q1 q2
  rintro e w2 ⟨rfl, b1⟩
  have B2 := Lib.hid (B1.out.trans (b1.mono B1.out.size))
  have Y2 := Lib.hid (heap_up8 Y1.out b1)
  obtain ⟨q0, q1, q2, _⟩ := cells3 Y2.out
  clear b1
  obtain ⟨e0, he0⟩ : ∃ e0, rgE ⟨rf, rt, rl⟩ n = e0 := ⟨_, rfl⟩
  rw [he0] at HN ⊢
  clear he0
  by_cases c1 : n < 0
  · go_wp2_with fail
    all_goals (go_ret; exact ⟨rfl, B2.out⟩)
  · by_cases c2 : 10000 < n
    · go_wp2_with fail
      all_goals (go_ret; exact ⟨rfl, B2.out⟩)
    · by_cases c3 : e0 = 0
      · have d3 : (e0 != 0) = false := by rw [c3]; rfl
        have C3 := Lib.hid c3
        clear c3
        cases rl with
        | true =>
          go_wp2_with fail
          all_goals (go_ret; exact ⟨rfl, B2.out⟩)
        | false =>
          by_cases c4 : a < 0
          · go_wp2_with fail
            all_goals (go_ret; exact ⟨rfl, B2.out⟩)
          · by_cases c5 : n < a
            · go_wp2_with fail
              all_goals (go_ret; exact ⟨rfl, B2.out⟩)
            · by_cases c6 : gone < 0
              · go_wp2_with fail
                all_goals (go_ret; exact ⟨rfl, B2.out⟩)
              · have hsub : IntKind.i64.wrap (n - a) = n - a := IntWalk.i64_in _ (by omega)
                by_cases c7 : n - a < gone
                · go_wp2_with fail
                  all_goals (go_ret; exact ⟨rfl, B2.out⟩)
                · have c8 : (5000 : Int) < (put.size : Int) := by
                    refine Classical.byContradiction fun h => HN.out ⟨by omega, by omega, C3.out, rfl, by omega, by omega, by omega, by omega, by omega⟩
                  go_wp2_with fail
                  all_goals (go_ret; exact ⟨rfl, B2.out⟩)
      · have d3 : (e0 != 0) = true := by rw [bne_iff_ne]; exact c3
        clear c3
        go_wp2_with fail
        all_goals (go_ret; exact ⟨rfl, B2.out⟩)
theorem apart_walk (n : Int) (rf rt : Int) (rl : Bool) (a : Int) (put : ByteArray) (gone : Int) (w : World) (_ : -9223372036854775808 ≤ n) (_ : n ≤ 9223372036854775807) (_ : -9223372036854775808 ≤ rf) (_ : rf ≤ 9223372036854775807) (_ : -9223372036854775808 ≤ rt) (_ : rt ≤ 9223372036854775807) (_ : -9223372036854775808 ≤ a) (_ : a ≤ 9223372036854775807) (hp : put.size ≤ maxLen) (_ : -9223372036854775808 ≤ gone) (_ : gone ≤ 9223372036854775807) :
    Calls Try.prog 13 #[.int .i64 n, .agg #[.int .i64 rf, .int .i64 rt, .bool rl], .int .i64 a, .string put, .int .i64 gone] w (OutB w true) := by
  by_cases h : 0 ≤ n ∧ n ≤ 10000 ∧ rgE ⟨rf, rt, rl⟩ n = 0 ∧ rl = false ∧ 0 ≤ a ∧ a ≤ n ∧ 0 ≤ gone ∧ gone ≤ n - a ∧ put.size ≤ 5000
  · obtain ⟨h1, h2, h3, rfl, h5, h6, h7, h8, h9⟩ := h
    exact apart_main n rf rt a put gone w h9 h1 h2 h3 h5 h6 h7 h8
  · exact apart_out n rf rt rl a put gone w (by unfold maxLen at hp; omega) h
end Go.Proofs.Ytggjeiemofkfbaa
